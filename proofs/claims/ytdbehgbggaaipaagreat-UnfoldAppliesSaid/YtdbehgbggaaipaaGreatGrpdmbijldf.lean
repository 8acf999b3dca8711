import Derived.Test.YtdbehgbggaaipaaGreatGrpjdolihil
import Derived.Test.YtdbehgbggaaipaaGreatGrpbifnacna
import Derived.Test.YtdbehgbggaaipaaGreatGrpiiicjbhn
import Derived.Test.YtdbehgbggaaipaaGreatGrpodlhbjnj
import Derived.Test.YtdbehgbggaaipaaGreatGrpjjcjfmdi
import Derived.Test.YtdbehgbggaaipaaGreatGrpfgdimdpf
import Derived.Test.YtdbehgbggaaipaaGreatGrpdnjdmbnk
import Derived.Test.YtdbehgbggaaipaaGreatGrpbcbmaeba
set_option linter.all false
namespace Go.Proofs.YtdbehgbggaaipaaGreat
open Go.RowKit Go.Deep
variable {J:World→Prop}
theorem Z0 (n t f:Int):∀ X∈cSz n t f,Plain X:=by
 intro X hX;simp only [cSz,List.mem_cons,List.not_mem_nil,or_false] at hX
 rcases hX with rfl | rfl | rfl<;>exact .v _
abbrev Kp (x0:Fm) (x1:Int) (x2:Int) (x3:Int):List (Nat × ABlk):=[(1,.box 27 (cFm x0)),(2,.box 29 (cSz x1 x2 x3))]
variable {q:Fm}
set_option maxRecDepth 100000 in
set_option maxHeartbeats 6400000 in
theorem ZaC (HQ:FmOk q) (n t f:Int):Ctr Tryz.prog J 52 [.agg (cFm q),.agg (cSz n t f)] (bv (admB q n t f)):=by
 have l5:=HQ.lres
 refine Zm Tryz.func52 rfl (pN (Zh (ZQ q)) (pN (Zh (Z0 n t f)) pZ)) (n:=63) rfl (by simp) (fun w0 => ?_)
 refine kW 63 [] [(0,.agg (cFm q)),(1,.agg (cSz n t f))] (jB (oX 1 (.agg (cFm q)) (oX 2 (.agg (cSz n t f)) (oS bF (kN 63 (Kp q n t f) [(2,bx 1),(3,bx 2),(4,bF)] (jC (Zl ?_)))))))
 refine Ym (True) (ofL [(1,.box 27 (cFm q)),(2,.box 29 (cSz n t f))]) (ofT 63 [(2,bx 1),(3,bx 2),(4,bF),(25,bv (radA n t f))]) ?_ (fun _ => ?_)
 by_cases hs1:(inB 1 1048576 n)=true
 by_cases hs2:(inB 0 n t)=true
 by_cases hs3:(inB 0 n f)=true
 refine Za (oW (oW (oK (Zr (Zu n 1 1048576) hs1) [iv n,iv 1,iv 1048576] rfl rfl (oF bF (oW (oW (oW (oW (oK (Zr (Zu t 0 n) hs2) [iv t,iv 0,iv n] rfl rfl (oW (oF bF (oW (oW (oW (oW (oK (Zr (Zu f 0 n) hs3) [iv f,iv 0,iv n] rfl rfl (oW (oS bF (kN 63 [(1,.box 27 (cFm q)),(2,.box 29 (cSz n t f))] [(2,bx 1),(3,bx 2),(4,bF),(25,bF)] ?_)))))))))))))))))))
 rw [show (radA n t f)=false by simp only [radA,Bool.or_true,Bool.true_or,Bool.or_false,Bool.false_or,Bool.and_true,Bool.true_and,Bool.and_false,Bool.false_and,Bool.not_true,Bool.not_false,hs1,hs2,hs3]]
 exact tM T0
 have hs3f:(inB 0 n f)=false:=by simpa using hs3
 refine Za (oW (oW (oK (Zr (Zu n 1 1048576) hs1) [iv n,iv 1,iv 1048576] rfl rfl (oF bF (oW (oW (oW (oW (oK (Zr (Zu t 0 n) hs2) [iv t,iv 0,iv n] rfl rfl (oW (oF bF (oW (oW (oW (oW (oK (Zr (Zu f 0 n) hs3f) [iv f,iv 0,iv n] rfl rfl (oW (oS bT (kN 63 [(1,.box 27 (cFm q)),(2,.box 29 (cSz n t f))] [(2,bx 1),(3,bx 2),(4,bF),(25,bT)] ?_)))))))))))))))))))
 rw [show (radA n t f)=true by simp only [radA,Bool.or_true,Bool.true_or,Bool.or_false,Bool.false_or,Bool.and_true,Bool.true_and,Bool.and_false,Bool.false_and,Bool.not_true,Bool.not_false,hs1,hs2,hs3f]]
 exact tM T0
 have hs2f:(inB 0 n t)=false:=by simpa using hs2
 refine Za (oW (oW (oK (Zr (Zu n 1 1048576) hs1) [iv n,iv 1,iv 1048576] rfl rfl (oF bF (oW (oW (oW (oW (oK (Zr (Zu t 0 n) hs2f) [iv t,iv 0,iv n] rfl rfl (oW (oF bT (qK (qK (qK (qK (qK (qK (oS bT (kN 63 [(1,.box 27 (cFm q)),(2,.box 29 (cSz n t f))] [(2,bx 1),(3,bx 2),(4,bF),(25,bT)] ?_)))))))))))))))))))
 rw [show (radA n t f)=true by simp only [radA,Bool.or_true,Bool.true_or,Bool.or_false,Bool.false_or,Bool.and_true,Bool.true_and,Bool.and_false,Bool.false_and,Bool.not_true,Bool.not_false,hs1,hs2f]]
 exact tM T0
 have hs1f:(inB 1 1048576 n)=false:=by simpa using hs1
 refine Za (oW (oW (oK (Zr (Zu n 1 1048576) hs1f) [iv n,iv 1,iv 1048576] rfl rfl (oF bT (qK (qK (qK (qK (qK (qK (oF bT (qK (qK (qK (qK (qK (qK (oS bT (kN 63 [(1,.box 27 (cFm q)),(2,.box 29 (cSz n t f))] [(2,bx 1),(3,bx 2),(4,bF),(25,bT)] ?_)))))))))))))))))))
 rw [show (radA n t f)=true by simp only [radA,Bool.or_true,Bool.true_or,Bool.or_false,Bool.false_or,Bool.and_true,Bool.true_and,Bool.and_false,Bool.false_and,Bool.not_true,Bool.not_false,hs1f]]
 exact tM T0
 refine Ze ?_
 by_cases hs4:(radA n t f)=true
 rw [hs4]
 refine kW 63 (Kp q n t f) [(2,bx 1),(3,bx 2),(4,bF),(25,bT)] (jK (oS bF (jE (Zd ?_))))
 refine Zg Tryz.results52 (.tmp rfl) ?_
 exact cB ((adm_a hs4).symm)
 have hs4f:(radA n t f)=false:=by simpa using hs4
 rw [hs4f]
 refine kW 63 (Kp q n t f) [(2,bx 1),(3,bx 2),(4,bF),(25,bF)] (jL (jM (Za (oS (iv 0) (kN 63 (Kp q n t f) [(2,bx 1),(3,bx 2),(4,bF),(5,iv 0)] (Ze ?_))))))
 refine Ym (resvK q n t f q.res.length=true) (ofL (Kp q n t f)) (ofT 63 [(2,bx 1),(3,bx 2)]) ?_ (fun RES => ?_)
 refine Zn ?_
 refine ZK (σ:={k:Nat // k≤q.res.length∧resvK q n t f k=true}) (fun s=>(ofL (Kp q n t f),ofT 63 [(2,bx 1),(3,bx 2),(5,iv s.1)])) (fun s=>q.res.length-s.1) ⟨0,Nat.zero_le _,rfl⟩ (Zp _ _) (fun s => ?_)
 obtain ⟨k,hk0,hs0⟩:=s
 show ETri J w0 (ofL (Kp q n t f)) (ofT 63 [(2,bx 1),(3,bx 2),(5,iv k)]) _
 refine jM ?_
 by_cases hs5:(k:Int)<(q.res.length:Int)
 refine Za (oW (oW (oW (oW (ol (dT hs5) (jH (Zq (jC (Zn (Zl ?_))))))))))
 by_cases hs6:linV q.res[k].c q.res[k].n q.res[k].t q.res[k].f n t f<0
 refine tD (dW (dS (slA 4 cLn q.res) (dS (iv k) (dC (xS (k*4) 34 35 U23) I0 I0 (dA (Zk (z:=4) (.tmp 36) rfl U109 rfl (by kernel_rfl) (Yu lenLn q.res k (by omega)) rfl) I0 (dW (dk (value_c q.res[k] n t f) [.agg (cLn q.res[k]),.agg (cSz n t f)] rfl rfl (dl (dT hs6) (eD ?_)))))))))
 refine kW 63 (Kp q n t f) [(2,bx 1),(3,bx 2),(5,iv k),(30,bT),(40,bT)] (Ze (jK (oS bF (jE (Zo (Zd (Zd (Zo (YU (Zd ?_))))))))))
 refine Zg Tryz.results52 (.tmp rfl) ?_
 exact cB ((adm_r (k:=k) (by omega) hs6).symm)
 refine tD (dW (dS (slA 4 cLn q.res) (dS (iv k) (dC (xS (k*4) 34 35 U23) I0 I0 (dA (Zk (z:=4) (.tmp 36) rfl U109 rfl (by kernel_rfl) (Yu lenLn q.res k (by omega)) rfl) I0 (dW (dk (value_c q.res[k] n t f) [.agg (cLn q.res[k]),.agg (cSz n t f)] rfl rfl (dl (dF hs6) (eD ?_)))))))))
 refine kW 63 (Kp q n t f) [(2,bx 1),(3,bx 2),(5,iv k),(30,bT),(40,bF)] (Ze (ZD rfl (Zq (Zv (Ze (Za (oS (iv k) (oV ((k+1:Nat):Int) (oS (iv (k+1:Nat)) (kN 63 (Kp q n t f) [(2,bx 1),(3,bx 2),(5,iv (k+1:Nat)),(30,bT),(40,bF)] (Ze ?_)))))))))))
 refine Zs ⟨k+1,by omega,resvK_succ (by omega) hs0 hs6⟩ (show q.res.length-(k+1)<q.res.length-k by omega) ?_
 exact Zp _ _
 refine Za (oW (oW (oW (oW (ol (dF hs5) (kN 63 (Kp q n t f) [(2,bx 1),(3,bx 2),(5,iv k),(30,bF)] (Ze (ZD rfl (jO ?_)))))))))
 exact Kx (by have:k=q.res.length:=(by omega);subst this;exact hs0) (Zp _ _)
 refine jC (Zl ?_)
 refine Ym (True) (ofL [(1,.box 27 (cFm q)),(2,.box 29 (cSz n t f))]) (ofT 63 [(2,bx 1),(3,bx 2),(53,bv (nofB q t f))]) ?_ (fun _ => ?_)
 by_cases hs7:q.fzz=0
 by_cases hs8:t=0
 by_cases hs9:f=0
 refine Za (oW (oW (oe (dT hs7) (oS bT (oW (oW (on (dT' hs8) (oS bF (oW (oW (on (dT' hs9) (oW (oS bF (kN 63 [(1,.box 27 (cFm q)),(2,.box 29 (cSz n t f))] [(2,bx 1),(3,bx 2),(53,bF)] ?_))))))))))))))
 rw [show (nofB q t f)=false by simp only [nofB,Bool.or_true,Bool.true_or,Bool.or_false,Bool.false_or,Bool.and_true,Bool.true_and,Bool.and_false,Bool.false_and,Bool.not_true,Bool.not_false,hs4f,decide_eq_true hs7,decide_eq_true hs8,decide_eq_true hs9]]
 exact tM T0
 refine Za (oW (oW (oe (dT hs7) (oS bT (oW (oW (on (dT' hs8) (oS bF (oW (oW (on (dF' hs9) (oW (oS bT (kN 63 [(1,.box 27 (cFm q)),(2,.box 29 (cSz n t f))] [(2,bx 1),(3,bx 2),(53,bT)] ?_))))))))))))))
 rw [show (nofB q t f)=true by simp only [nofB,Bool.or_true,Bool.true_or,Bool.or_false,Bool.false_or,Bool.and_true,Bool.true_and,Bool.and_false,Bool.false_and,Bool.not_true,Bool.not_false,hs4f,decide_eq_true hs7,decide_eq_true hs8,decide_eq_false hs9]]
 exact tM T0
 refine Za (oW (oW (oe (dT hs7) (oS bT (oW (oW (on (dF' hs8) (oS bT (qK (qK (qK (oW (oS bT (kN 63 [(1,.box 27 (cFm q)),(2,.box 29 (cSz n t f))] [(2,bx 1),(3,bx 2),(53,bT)] ?_))))))))))))))
 rw [show (nofB q t f)=true by simp only [nofB,Bool.or_true,Bool.true_or,Bool.or_false,Bool.false_or,Bool.and_true,Bool.true_and,Bool.and_false,Bool.false_and,Bool.not_true,Bool.not_false,hs4f,decide_eq_true hs7,decide_eq_false hs8]]
 exact tM T0
 refine Za (oW (oW (oe (dF hs7) (oS bF (qK (qK (qK (qK (qK (qK (qK (qK (oS bF (kN 63 [(1,.box 27 (cFm q)),(2,.box 29 (cSz n t f))] [(2,bx 1),(3,bx 2),(53,bF)] ?_))))))))))))))
 rw [show (nofB q t f)=false by simp only [nofB,Bool.or_true,Bool.true_or,Bool.or_false,Bool.false_or,Bool.and_true,Bool.true_and,Bool.and_false,Bool.false_and,Bool.not_true,Bool.not_false,hs4f,decide_eq_false hs7]]
 exact tM T0
 refine Ze ?_
 by_cases hs10:(nofB q t f)=true
 rw [hs10]
 refine kW 63 (Kp q n t f) [(2,bx 1),(3,bx 2),(53,bT)] (jK (oS bF (jE (Zd ?_))))
 refine Zg Tryz.results52 (.tmp rfl) ?_
 exact cB ((adm_f hs10).symm)
 have hs10f:(nofB q t f)=false:=by simpa using hs10
 rw [hs10f]
 refine kW 63 (Kp q n t f) [(2,bx 1),(3,bx 2),(53,bF)] (jL (Zl ?_))
 by_cases hs11:q.top=4
 refine Za (oW (oW (on (dT' hs11) (oS bF (oF (iv n) (gC (sp_rem rfl (by omega) (c:=n.tmod 2) rfl) I0 I0 (gC (ZF rfl rfl) I0 I0 (oF (bv (decide (n.tmod 2=1))) (jE ?_)))))))))
 refine Zg Tryz.results52 (.tmp rfl) ?_
 exact cB ((adm_1 hs4f RES hs10f hs11).symm)
 refine Za (oW (oW (on (dF' hs11) (oS bT (qK (qK (qK (qK (oF bT (jE ?_))))))))))
 refine Zg Tryz.results52 (.tmp rfl) ?_
 exact cB ((adm_0 hs4f RES hs10f hs11).symm)
namespace Ns
def lk3 (top c i:Int):List AV:=[iv (rowL top c i).1,iv (rowL top c i).2.1,iv (rowL top c i).2.2]
def lkZ (top:Int) (n k:Nat):List AV:=(List.range k).flatMap (fun i:Nat=>lk3 top n i)++(List.replicate (n-k) [iv 0,iv 0,iv 0]).flatten
theorem lkZ_zero (top:Int) (n:Nat):(List.range (n*3)).map (fun j=>AV.v ((#[Value.int .i64 0,Value.int .i64 0,Value.int .i64 0]:Array Value).getD (j % 3) undef))=lkZ top n 0:=by
 unfold lkZ
 rw [List.range_zero,List.flatMap_nil,List.nil_append,Nat.sub_zero]
 induction n with
 | zero=>rfl
 | succ m ih =>
   rw [show (m+1)*3=m*3+1+1+1 by omega,List.range_succ,List.range_succ,List.range_succ,List.map_append,List.map_append,List.map_append,ih,List.replicate_succ',List.flatten_append]
   have e1:(m*3) % 3=0:=by omega
   have e2:(m*3+1) % 3=1:=by omega
   have e3:(m*3+1+1) % 3=2:=by omega
   simp [e2,e3]
theorem ZeO (top:Int) (n:Nat):∀ k,((List.range k).flatMap (fun i:Nat=>lk3 top n i)).length=k*3
 | 0=>rfl
 | k+1=>by rw [List.range_succ,List.flatMap_append,List.length_append,ZeO top n k];simp [lk3];omega
variable {top:Int}
theorem lkZ_len {n k:Nat} (h:k≤n):(lkZ top n k).length=n*3:=by
 unfold lkZ
 rw [List.length_append,ZeO,List.length_flatten]
 simp
 omega
theorem lkZ_step {n k:Nat} (h:k<n):setAll (lkZ top n k) (k*3) (Yc true (lk3 top n k))=lkZ top n (k+1):=by
 unfold lkZ
 have e:n-k=(n-(k+1))+1:=by omega
 rw [e,List.replicate_succ,List.flatten_cons]
 have:=setAll_mid (Yc true (lk3 top n k)) ((List.range k).flatMap (fun i:Nat=>lk3 top n i)) [iv 0,iv 0,iv 0] (List.replicate (n-(k+1)) [iv 0,iv 0,iv 0]).flatten rfl
 rw [ZeO,List.append_assoc] at this
 rw [this,List.range_succ,List.flatMap_append]
 simp [Yc,AV.unfr,lk3]
theorem rowLink_c {top c i:Int} (h0:0≤i) (h1:i<c) (hc:c≤8):Ctr Tryz.prog J 34 [iv top,iv c,iv i] (.agg (lk3 top c i)):=ctr3 fun w v v' v'' _ h h' h''=>by
 rw [h.v_inv,h'.v_inv,h''.v_inv]
 exact (Zan top c i w h0 h1 (by omega)).mono fun _ _ hh=>⟨_,hh.1,.agg rfl fun j hj=>(match j,hj with
  | 0,_ => .v _
  | 1,_ => .v _
  | 2,_ => .v _),hh.2⟩
def lkT (xs:List Int):AV := .sl 3 xs.length ((List.range (xs.length*3)).map fun j=>iv (cf (trun xs xs.length) j))
def cLk (xs:List Int):List AV:=[lkT xs]
theorem newLk (xs:List Int):∀ d∈[AV.fr (lkT xs)],d.isNew=true:=fun d hd=>by
 simp only [List.mem_cons,List.not_mem_nil,or_false] at hd;subst hd;rfl
theorem cellLk (xs:List Int):∀ d∈[AV.fr (lkT xs)],d.cell=true:=fun d hd=>by
 simp only [List.mem_cons,List.not_mem_nil,or_false] at hd;subst hd;rfl
variable {k:Nat}
theorem snocLk {L:List (List Int)} (h:k<L.length):(L.take k).flatMap cLk++Yc true [.fr (lkT L[k])]=(L.take (k+1)).flatMap cLk:=by
 rw [List.take_succ_eq_append_getElem h,List.flatMap_append];simp [Yc,AV.unfr,cLk]
variable {xs:List Int}
theorem treeLinks_c (hI:InOk xs) (h0:0<xs.length) (h1:xs.length≤100):Ctr Tryz.prog J 36 [Zb xs] (lkT xs):=ctr1 fun w v _ h=>by
 have hi:=YC hI (fun _ _=>Nat.zero_le _) h
 obtain ⟨a,cap,rfl,_,_,_,hc⟩:=hi
 rcases hc with rfl | ⟨b,off,rfl,_,hb,hc⟩
 ·simp at h0
 refine (Zah b off xs.length cap w xs rfl h1 h0 hc).mono fun _ w' ⟨g,he,ho,hb⟩=>⟨_,he,?_,hb⟩
 obtain ⟨h2,cur,t,hg,hcur⟩:=ho
 refine .sl (b:=g) (off:=0) (f:=fun j => .int .i64 (cf (trun xs xs.length) j)) (by simp) (Nat.le_refl _) (by unfold maxLen;omega) ⟨h2,_,_,hg⟩ (Array.getElem?_eq_some_iff.1 hg).1 (fun j hj => ?_) fun j hj => ?_
 ·have hj':j<xs.length*3:=by simpa using hj
  rw [Nat.zero_add,ZI hg j (v := .int .i64 (cf (trun xs xs.length) j)) (hcur j hj')]
 simp only [List.getElem_map,List.getElem_range]
 exact .v _
variable {n t f:Int}
theorem Evaluate_c {l:Ln} :Ctr Tryz.prog J 48 [.agg (cLn l),.agg (cSz n t f)] (.tup [iv (evN l.c l.n l.t l.f n t f),iv (evE l.c l.n l.t l.f n t f)]):=ctr2 fun w v v' _ h h'=>by
 obtain ⟨vs,rfl,hl,hv⟩:=YZ h
 have e:vs=[.int .i64 l.c,.int .i64 l.n,.int .i64 l.t,.int .i64 l.f]:=by
  rw [cells4 hl,(hv 0 (by simp [cLn])).v_inv,(hv 1 (by simp [cLn])).v_inv,(hv 2 (by simp [cLn])).v_inv,(hv 3 (by simp [cLn])).v_inv]
 subst e
 rw [sz_of h']
 exact (Zeu l.c l.n l.t l.f n t f w).mono fun _ _ hh=>⟨_,hh.1,.tup rfl fun j hj=>(match j,hj with
  | 0,_ => .v _
  | 1,_ => .v _),by first | exact hh.2 | (rw [← hh.2];exact Below.refl _ _) | (rw [hh.2];exact Below.refl _ _)⟩
def sysE (p:Fm) (n t f:Int):Int:=if valE p=0 then (if admB p n t f=true then (if 8<n then 4 else 0) else 8) else valE p
def cntE (p:Fm) (n f:Int):Int:=if p.fzz=3 then n-f else n
variable {p:Fm}
theorem adm_in (h:admB p n t f=true):1≤n∧n≤1048576∧0≤f∧f≤n:=by
 unfold admB inB at h
 simp only [Bool.and_eq_true,decide_eq_true_eq] at h
 omega
theorem rulesE_all {q:Fm}:∀ (f i:Nat),rulesE q i f=0→∀ k,i≤k→k<i+f→ruleE q k (q.rz.getD k default)=0
 | 0,i,_,k,a,b=>absurd b (by omega)
 | f+1,i,e,k,a,b=>by
   unfold rulesE at e
   split at e
   ·rename_i e1
    by_cases x:i=k
    ·subst x;exact e1
    exact rulesE_all f (i+1) e k (by omega) (by omega)
   exact absurd e (by assumption)
theorem val_lims (h:valE p=0):p.rz.length≤8∧∀ r∈p.rz,r.gz.length≤2:=by
 unfold valE at h
 split at h
 ·cases h
 split at h
 ·cases h
 split at h
 ·cases h
 split at h
 ·cases h
 rename_i g
 split at h
 ·cases h
 split at h
 ·cases h
 split at h
 ·cases h
 refine ⟨(Zbo (by simpa using g)).1,fun r hr => ?_⟩
 have a1:=ZL h
 have a2:=ZL a1.2
 have a3:=ZL a2.2
 obtain ⟨j,hj,rfl⟩:=List.getElem_of_mem hr
 have:=rulesE_all _ _ a3.1 j (Nat.zero_le _) (by omega)
 rw [List.getD_eq_getElem?_getD,List.getElem?_eq_getElem hj,Option.getD_some] at this
 exact Ww this
theorem adm_c (HP:FmOk p) (hv:valE p=0):Ctr Tryz.prog J 47 [.agg (cFm p),.agg (cSz n t f)] (bv (admB p n t f)):=by
 have:=ZcU (J:=J) HP n t f
 rw [decide_eq_true hv,Bool.true_and] at this
 exact this
def shT (top n:Int):List (List Int):=if top=4 then Sh.shX n else []
theorem shT_tree (h:top=4):shT top n=Sh.shX n:=if_pos h
theorem shT_no (h:¬ top=4):shT top n=[]:=if_neg h
def sysC (p:Fm) (n t f:Int):List AV:=cFm p++[iv n,iv t,iv f,iv (cntE p n f),iv (n-f),.any,.any,.any,.any,.any,.any,.any,.any,.any,.any,.any,.any,.any,.any,.any,.any,slA 1 cLi (shT p.top (cntE p n f)),.any]
theorem sys_big (hv:valE p=0) (ha:admB p n t f=true) (h:¬ sysE p n t f=0):8<n:=by
 unfold sysE at h
 rw [if_pos hv,if_pos ha] at h
 by_cases h8:8<n
 ·exact h8
 rw [if_neg h8] at h;exact absurd rfl h
theorem sys_ok (h:sysE p n t f=0):valE p=0∧admB p n t f=true∧¬ 8<n:=by
 unfold sysE at h
 split at h
 ·split at h
  ·split at h
   ·cases h
   exact ⟨by assumption,by assumption,by assumption⟩
  cases h
 exact absurd h (by assumption)
theorem sys_e1 (h:¬ valE p=0):sysE p n t f=valE p:=by unfold sysE;rw [if_neg h]
theorem sys_e2 (h:valE p=0) (h2:admB p n t f=false):sysE p n t f=8:=by unfold sysE;rw [if_pos h,if_neg (by rw [h2];simp)]
theorem sys_e3 (h:valE p=0) (h2:admB p n t f=true) (h3:8<n):sysE p n t f=4:=by unfold sysE;rw [if_pos h,if_pos h2,if_pos h3]
theorem sys_e4 (h:valE p=0) (h2:admB p n t f=true) (h3:¬ 8<n):sysE p n t f=0:=by unfold sysE;rw [if_pos h,if_pos h2,if_neg h3]
end Ns
namespace Rd
def ixP {α:Type} (l:List α) (p:α→Bool):Int:=match l.findIdx? p with | some i=>(i:Int) | none => -1
def noP {α:Type} (l:List α) (p:α→Bool) (k:Nat):Prop:=∀ i (h:i<l.length),i<k→p l[i]=false
theorem noP_zero {α:Type} (l:List α) (p:α→Bool):noP l p 0:=fun _ _ h=>absurd h (by omega)
variable {k:Nat}
theorem noP_succ {α:Type} {l:List α} {p:α→Bool} (hk:k<l.length) (h:noP l p k) (e:p l[k]=false):noP l p (k+1):=fun i a b=>by
 by_cases hi:i<k
 ·exact h i a hi
 obtain rfl:i=k:=by omega
 exact e
theorem ixP_at {α:Type} {l:List α} {p:α→Bool} (hk:k<l.length) (h:noP l p k) (e:p l[k]=true):ixP l p=(k:Int):=by
 unfold ixP
 rw [List.findIdx?_eq_some_iff_getElem.2 ⟨hk,e,fun j hj=>by simp [h j (by omega) hj]⟩]
theorem ixP_none {α:Type} {l:List α} {p:α→Bool} (hk:¬ k<l.length) (h:noP l p k):ixP l p = -1:=by
 unfold ixP
 rw [List.findIdx?_eq_none_iff.2 fun x hx=>by
  obtain ⟨i,hi,rfl⟩:=List.mem_iff_getElem.1 hx
  exact h i hi (by omega)]
theorem anyP_ix {α:Type} (l:List α) (p:α→Bool):decide (0≤ixP l p)=l.any p:=by
 unfold ixP
 cases hf:l.findIdx? p with
 | none =>
   rw [List.findIdx?_eq_none_iff] at hf
   have:l.any p=false:=by simpa using hf
   simp [this]
 | some i =>
   obtain ⟨hi,h1,_⟩:=List.findIdx?_eq_some_iff_getElem.1 hf
   have:l.any p=true:=List.any_eq_true.2 ⟨_,List.getElem_mem hi,h1⟩
   simp [this]
def outB (m x:Int):Bool:=decide (x<0)||decide (m≤x)
variable {m x:Int}
theorem outB_lo (h:x<0):outB m x=true:=by unfold outB;simp [h]
theorem outB_hi (h:¬ x<0):outB m x=decide (m≤x):=by unfold outB;simp [h]
def belB (l:List Int) (m:Int):Bool := !l.any (outB m)
def shI (top:Int) (S:List (List Int)) (sh:List Int):Int:=if top=4 then max (ixP S fun x=>decide (sh=x)) 0 else 0
def shB (top:Int) (S:List (List Int)) (sh:List Int):Bool:=if top=4 then S.any (fun x=>decide (sh=x)) else decide (sh=[])
variable {top:Int}{sh:List Int}
theorem shI_tree {S:List (List Int)} (h:top=4):shI top S sh=max (ixP S fun x=>decide (sh=x)) 0:=if_pos h
theorem shI_no {S:List (List Int)} (h:¬ top=4):shI top S sh=0:=if_neg h
theorem shB_tree {S:List (List Int)} (h:top=4):shB top S sh=decide (0≤ixP S fun x=>decide (sh=x)):=by
 unfold shB;rw [if_pos h];exact (anyP_ix S _).symm
theorem shB_no {S:List (List Int)} (h:¬ top=4):shB top S sh=decide ((sh.length:Int)=0):=by
 unfold shB;rw [if_neg h]
 cases sh with
 | nil=>rfl
 | cons a l=>simp;omega
def cCg (c:Cf):List AV:=[Zb c.sh,Zb c.st,iv c.cor,Zb c.se,Zb c.fa,iv c.val]
structure CgOk (c:Cf):Prop where
 sh:InOk c.sh
 st:InOk c.st
 se:InOk c.se
 fa:InOk c.fa
 lsh:c.sh.length≤100
 lst:c.st.length≤100
 lse:c.se.length≤100
 lfa:c.fa.length≤100
theorem plain_cg (c:Cf):∀ X∈cCg c,Plain X:=by
 intro X hX
 simp only [cCg,List.mem_cons,List.not_mem_nil,or_false] at hX
 rcases hX with rfl | rfl | rfl | rfl | rfl | rfl<;>first | exact .v _ | exact ZM _
def mfE (p:Fm):Int:=if p.fzz=1∨p.fzz=2 then 1048577 else 1
def rdB (p:Fm) (cnt cor:Int) (c:Cf) (b:Bool):Bool :=
 b&&decide ((c.st.length:Int)=cnt)&&belB c.st (p.sz.length:Int)&&decide (c.cor=cor)&&decide ((c.se.length:Int)=(p.msgs.length:Int))&&belB c.se 1048577 &&
 decide ((c.fa.length:Int)=(p.msgs.length:Int))&&belB c.fa (mfE p) && !decide (c.val<0) && !decide (max (p.vals.length:Int) 1≤c.val)
def zz (b:Bool) (x:Int):Int:=if b=true then x else 0
def cfZ (b:Bool) (i:Int) (c:Cf):List AV :=
 [iv (zz b i),iv (zz b (c.st.getD 0 0)),iv (zz b (c.st.getD 1 0)),iv (zz b (c.st.getD 2 0)),iv (zz b (c.st.getD 3 0)),iv (zz b (c.st.getD 4 0)),iv (zz b (c.st.getD 5 0)),iv (zz b (c.st.getD 6 0)),iv (zz b (c.st.getD 7 0)),
  iv (zz b (c.se.getD 0 0)),iv (zz b (c.se.getD 1 0)),iv (zz b (c.se.getD 2 0)),iv (zz b (c.fa.getD 0 0)),iv (zz b (c.fa.getD 1 0)),iv (zz b (c.fa.getD 2 0)),iv (zz b c.val)]
def rdX (p:Fm) (n f:Int) (c:Cf):Bool:=rdB p (Ns.cntE p n f) (n-f) c (shB p.top (Ns.shT p.top (Ns.cntE p n f)) c.sh)
def rdY (p:Fm) (n f:Int) (c:Cf):Bool:=rdX p n f c
def vcE (p:Fm) (n t f:Int) (c:Cf):Int:=if Ns.sysE p n t f=0 then (if rdX p n f c=true then 0 else 1) else Ns.sysE p n t f
end Rd
set_option maxHeartbeats 12800000
def wideCf (q:Cf):Bool:=decide (100<q.sh.length)||decide (100<q.st.length)||decide (100<q.se.length)||decide (100<q.fa.length)
variable {lo:Nat}{w:World}{v:Value}
theorem Wide_any {q:Cf} (h:IsCf lo w v q) :
 Calls Tryz.prog 6 #[v] w fun e w'=>e = .returned (.bool (wideCf q))∧Below w.heap.size w w':=by
 obtain ⟨u0,u1,u3,u4,rfl,h0,h1,_,h3,h4,_⟩:=h
 have E:Hid (wideCf q=(decide (100<q.sh.length)||decide (100<q.st.length)||decide (100<q.se.length)||decide (100<q.fa.length))):=(rfl:wideCf q=_)
 have l0:q.sh.length≤9223372036854775807:=by obtain ⟨_,_,_,hh,hm,_⟩:=h0;unfold maxLen at hm;omega
 obtain ⟨a0,c0,rfl⟩:=h0.shape
 have l1:q.st.length≤9223372036854775807:=by obtain ⟨_,_,_,hh,hm,_⟩:=h1;unfold maxLen at hm;omega
 obtain ⟨a1,c1,rfl⟩:=h1.shape
 have l3:q.se.length≤9223372036854775807:=by obtain ⟨_,_,_,hh,hm,_⟩:=h3;unfold maxLen at hm;omega
 obtain ⟨a3,c3,rfl⟩:=h3.shape
 have l4:q.fa.length≤9223372036854775807:=by obtain ⟨_,_,_,hh,hm,_⟩:=h4;unfold maxLen at hm;omega
 obtain ⟨a4,c4,rfl⟩:=h4.shape
 clear h0 h1 h3 h4
 by_cases t0:100<q.sh.length
 ·have i0:(100:Int)<(q.sh.length:Int):=by omega
  go_enter Tryz.func6,Tryz.ntmps6
  go_wp2_with fail
  go_ret
  exact ⟨Zi (by rw [E.out,decide_eq_true t0];simp),Zc _ _⟩
 have i0:¬ (100:Int)<(q.sh.length:Int):=by omega
 by_cases t1:100<q.st.length
 ·have i1:(100:Int)<(q.st.length:Int):=by omega
  go_enter Tryz.func6,Tryz.ntmps6
  go_wp2_with fail
  go_ret
  exact ⟨Zi (by rw [E.out,decide_eq_true t1];simp),Zc _ _⟩
 have i1:¬ (100:Int)<(q.st.length:Int):=by omega
 by_cases t3:100<q.se.length
 ·have i3:(100:Int)<(q.se.length:Int):=by omega
  go_enter Tryz.func6,Tryz.ntmps6
  go_wp2_with fail
  go_ret
  exact ⟨Zi (by rw [E.out,decide_eq_true t3];simp),Zc _ _⟩
 have i3:¬ (100:Int)<(q.se.length:Int):=by omega
 by_cases t4:100<q.fa.length
 ·have i4:(100:Int)<(q.fa.length:Int):=by omega
  go_enter Tryz.func6,Tryz.ntmps6
  go_wp2_with fail
  go_ret
  exact ⟨Zi (by rw [E.out,decide_eq_true t4];simp),Zc _ _⟩
 have i4:¬ (100:Int)<(q.fa.length:Int):=by omega
 go_enter Tryz.func6,Tryz.ntmps6
 go_wp2_with fail
 go_ret
 exact ⟨Zi (by rw [E.out,decide_eq_false t0,decide_eq_false t1,decide_eq_false t3,decide_eq_false t4];simp),Zc _ _⟩
theorem cmpI_two (a d b x:Int):cmpI [a,d] [b,x]=orL [cmpN a b,cmpN d x]:=by
 unfold cmpN
 simp only [cmpI,orL]
 repeat' split
 all_goals first | rfl | omega | simp_all
theorem two_ints {b:Nat} {t:TypeId} {x y:Int} (hg:w.heap[b]? = some (.cells #[.int .i64 x,.int .i64 y] t (0,0))) (h:I64 x∧I64 y) :
 IsInts 0 w (.slice (some ⟨b,0,none⟩) 2 2) [x,y] :=
 Ki (xs:=[x,y]) hg (Nat.zero_le _) rfl (Nat.le_refl _) (by unfold maxLen;omega) (fun u hu=>by simp at hu;exact hu.elim (fun e=>e ▸ h.1) fun e=>e ▸ h.2) fun i hi=>by
  match i,hi with
  | 0,_=>rfl
  | 1,_=>rfl
theorem Zb4 {lo lo':Nat} {v v':Value} {p q:Cf} (h:IsCf lo w v p) (h':IsCf lo' w v' q) :
 Calls Tryz.prog 11 #[v,v'] w fun e w'=>e = .returned (.int .i64 (cmpCf p q))∧Below w.heap.size w w':=by
 obtain ⟨u0,u1,u3,u4,rfl,h0,h1,g2,h3,h4,g5⟩:=h
 obtain ⟨v0,v1,v3,v4,rfl,k0,k1,l2,k3,k4,l5⟩:=h'
 obtain ⟨a0,c0,rfl⟩:=h0.shape
 obtain ⟨b0,d0,rfl⟩:=k0.shape
 have H0:=Lib.hid h0
 have K0:=Lib.hid k0
 obtain ⟨a1,c1,rfl⟩:=h1.shape
 obtain ⟨b1,d1,rfl⟩:=k1.shape
 have H1:=Lib.hid h1
 have K1:=Lib.hid k1
 obtain ⟨a3,c3,rfl⟩:=h3.shape
 obtain ⟨b3,d3,rfl⟩:=k3.shape
 have H3:=Lib.hid h3
 have K3:=Lib.hid k3
 obtain ⟨a4,c4,rfl⟩:=h4.shape
 obtain ⟨b4,d4,rfl⟩:=k4.shape
 have H4:=Lib.hid h4
 have K4:=Lib.hid k4
 have G:=Lib.hid (And.intro g2 g5)
 have G':=Lib.hid (And.intro l2 l5)
 clear h0 h1 h3 h4 k0 k1 k3 k4 g2 g5 l2 l5
 have E:Hid (cmpCf p q=orL [cmpI p.sh q.sh,cmpI p.st q.st,cmpI p.se q.se,cmpI p.fa q.fa,cmpN p.cor q.cor,cmpN p.val q.val]):=(rfl:cmpCf p q=_)
 obtain ⟨e0,j0⟩:∃ e,e=cmpI p.sh q.sh:=⟨_,rfl⟩
 rw [← j0] at E
 have J0:=Lib.hid j0
 obtain ⟨e1,j1⟩:∃ e,e=cmpI p.st q.st:=⟨_,rfl⟩
 rw [← j1] at E
 have J1:=Lib.hid j1
 obtain ⟨e2,j2⟩:∃ e,e=cmpI p.se q.se:=⟨_,rfl⟩
 rw [← j2] at E
 have J2:=Lib.hid j2
 obtain ⟨e3,j3⟩:∃ e,e=cmpI p.fa q.fa:=⟨_,rfl⟩
 rw [← j3] at E
 have J3:=Lib.hid j3
 clear j0 j1 j2 j3
 have C0:Hid (∀ w':World,Below w.heap.size w w'→Calls Tryz.prog 28 #[.slice a0 p.sh.length c0,.slice b0 q.sh.length d0] w' fun e w''=>e = .returned (.int .i64 e0)∧Below w'.heap.size w' w''):=fun w' hb=>by
  have h:=Ko (H0.out.below hb) (K0.out.below hb)
  rw [← J0.out] at h
  exact h
 have C1:Hid (∀ w':World,Below w.heap.size w w'→Calls Tryz.prog 28 #[.slice a1 p.st.length c1,.slice b1 q.st.length d1] w' fun e w''=>e = .returned (.int .i64 e1)∧Below w'.heap.size w' w''):=fun w' hb=>by
  have h:=Ko (H1.out.below hb) (K1.out.below hb)
  rw [← J1.out] at h
  exact h
 have C2:Hid (∀ w':World,Below w.heap.size w w'→Calls Tryz.prog 28 #[.slice a3 p.se.length c3,.slice b3 q.se.length d3] w' fun e w''=>e = .returned (.int .i64 e2)∧Below w'.heap.size w' w''):=fun w' hb=>by
  have h:=Ko (H3.out.below hb) (K3.out.below hb)
  rw [← J2.out] at h
  exact h
 have C3:Hid (∀ w':World,Below w.heap.size w w'→Calls Tryz.prog 28 #[.slice a4 p.fa.length c4,.slice b4 q.fa.length d4] w' fun e w''=>e = .returned (.int .i64 e3)∧Below w'.heap.size w' w''):=fun w' hb=>by
  have h:=Ko (H4.out.below hb) (K4.out.below hb)
  rw [← J3.out] at h
  exact h
 by_cases z0:e0=0
 ·subst z0
  by_cases z1:e1=0
  ·subst z1
   by_cases z2:e2=0
   ·subst z2
    by_cases z3:e3=0
    ·subst z3
     go_enter Tryz.func11,Tryz.ntmps11
     go_wp2_with fail
     obtain ⟨W,hW⟩:∃ W,W=(w.alloc (.cells #[.slice a0 p.sh.length c0,.slice a1 p.st.length c1,.int .i64 p.cor,.slice a3 p.se.length c3,.slice a4 p.fa.length c4,.int .i64 p.val] 31)).alloc (.cells #[.slice b0 q.sh.length d0,.slice b1 q.st.length d1,.int .i64 q.cor,.slice b3 q.se.length d3,.slice b4 q.fa.length d4,.int .i64 q.val] 31):=⟨_,rfl⟩
     rw [← hW]
     have HB:=Lib.hid (show Below w.heap.size w W by rw [hW];show Below _ _ _;go_grown)
     have x0:W.cell? ⟨w.heap.size,0,none⟩=some (.slice a0 p.sh.length c0):=by rw [hW];exact keep1 ((Zj w _ _ 0 rfl).trans rfl) (Zc _ _)
     have y0:W.cell? ⟨w.heap.size+1,0,none⟩=some (.slice b0 q.sh.length d0):=by rw [hW];exact (Zj _ _ _ 0 (by simp)).trans rfl
     have x1:W.cell? ⟨w.heap.size,1,none⟩=some (.slice a1 p.st.length c1):=by rw [hW];exact keep1 ((Zj w _ _ 1 rfl).trans rfl) (Zc _ _)
     have y1:W.cell? ⟨w.heap.size+1,1,none⟩=some (.slice b1 q.st.length d1):=by rw [hW];exact (Zj _ _ _ 1 (by simp)).trans rfl
     have x2:W.cell? ⟨w.heap.size,2,none⟩=some (.int .i64 p.cor):=by rw [hW];exact keep1 ((Zj w _ _ 2 rfl).trans rfl) (Zc _ _)
     have y2:W.cell? ⟨w.heap.size+1,2,none⟩=some (.int .i64 q.cor):=by rw [hW];exact (Zj _ _ _ 2 (by simp)).trans rfl
     have x3:W.cell? ⟨w.heap.size,3,none⟩=some (.slice a3 p.se.length c3):=by rw [hW];exact keep1 ((Zj w _ _ 3 rfl).trans rfl) (Zc _ _)
     have y3:W.cell? ⟨w.heap.size+1,3,none⟩=some (.slice b3 q.se.length d3):=by rw [hW];exact (Zj _ _ _ 3 (by simp)).trans rfl
     have x4:W.cell? ⟨w.heap.size,4,none⟩=some (.slice a4 p.fa.length c4):=by rw [hW];exact keep1 ((Zj w _ _ 4 rfl).trans rfl) (Zc _ _)
     have y4:W.cell? ⟨w.heap.size+1,4,none⟩=some (.slice b4 q.fa.length d4):=by rw [hW];exact (Zj _ _ _ 4 (by simp)).trans rfl
     have x5:W.cell? ⟨w.heap.size,5,none⟩=some (.int .i64 p.val):=by rw [hW];exact keep1 ((Zj w _ _ 5 rfl).trans rfl) (Zc _ _)
     have y5:W.cell? ⟨w.heap.size+1,5,none⟩=some (.int .i64 q.val):=by rw [hW];exact (Zj _ _ _ 5 (by simp)).trans rfl
     clear hW
     refine (C0.out _ HB.out).mono ?_
     rintro e w0 ⟨rfl,hb0⟩
     have HB0:=Lib.hid (Zf HB.out hb0)
     replace x0:=keep1 x0 hb0
     replace y0:=keep1 y0 hb0
     replace x1:=keep1 x1 hb0
     replace y1:=keep1 y1 hb0
     replace x2:=keep1 x2 hb0
     replace y2:=keep1 y2 hb0
     replace x3:=keep1 x3 hb0
     replace y3:=keep1 y3 hb0
     replace x4:=keep1 x4 hb0
     replace y4:=keep1 y4 hb0
     replace x5:=keep1 x5 hb0
     replace y5:=keep1 y5 hb0
     clear hb0
     go_wp2_with fail
     refine (C1.out _ HB0.out).mono ?_
     rintro e w1 ⟨rfl,hb1⟩
     have HB1:=Lib.hid (Zf HB0.out hb1)
     replace x0:=keep1 x0 hb1
     replace y0:=keep1 y0 hb1
     replace x1:=keep1 x1 hb1
     replace y1:=keep1 y1 hb1
     replace x2:=keep1 x2 hb1
     replace y2:=keep1 y2 hb1
     replace x3:=keep1 x3 hb1
     replace y3:=keep1 y3 hb1
     replace x4:=keep1 x4 hb1
     replace y4:=keep1 y4 hb1
     replace x5:=keep1 x5 hb1
     replace y5:=keep1 y5 hb1
     clear hb1
     go_wp2_with fail
     refine (C2.out _ HB1.out).mono ?_
     rintro e w2 ⟨rfl,hb2⟩
     have HB2:=Lib.hid (Zf HB1.out hb2)
     replace x0:=keep1 x0 hb2
     replace y0:=keep1 y0 hb2
     replace x1:=keep1 x1 hb2
     replace y1:=keep1 y1 hb2
     replace x2:=keep1 x2 hb2
     replace y2:=keep1 y2 hb2
     replace x3:=keep1 x3 hb2
     replace y3:=keep1 y3 hb2
     replace x4:=keep1 x4 hb2
     replace y4:=keep1 y4 hb2
     replace x5:=keep1 x5 hb2
     replace y5:=keep1 y5 hb2
     clear hb2
     go_wp2_with fail
     refine (C3.out _ HB2.out).mono ?_
     rintro e w3 ⟨rfl,hb3⟩
     have HB3:=Lib.hid (Zf HB2.out hb3)
     replace x0:=keep1 x0 hb3
     replace y0:=keep1 y0 hb3
     replace x1:=keep1 x1 hb3
     replace y1:=keep1 y1 hb3
     replace x2:=keep1 x2 hb3
     replace y2:=keep1 y2 hb3
     replace x3:=keep1 x3 hb3
     replace y3:=keep1 y3 hb3
     replace x4:=keep1 x4 hb3
     replace y4:=keep1 y4 hb3
     replace x5:=keep1 x5 hb3
     replace y5:=keep1 y5 hb3
     clear hb3
     have hz3:w.heap.size+1<w3.heap.size:=W4 y2
     have hz4:w.heap.size<w3.heap.size:=W4 x2
     go_wp2_with (go_at_call 28;refine (Ko (two_ints ((ZaI _ _ (by go_size)).trans (Z4 _ _ (by go_size))) G.out) (two_ints (Z4 _ _ (by go_size)) G'.out)).mono ?_;rintro e w5 ⟨rfl,hb5⟩)
     go_ret
     exact ⟨Zt (by rw [E.out,cmpI_two];simp only [orL,if_pos]),Zf HB3.out (Below.trans (by go_grown) (hb5.mono (by go_size)))⟩
    have zz3:(e3 != 0)=true:=by simpa using z3
    have N:=Lib.hid z3
    clear z3
    go_enter Tryz.func11,Tryz.ntmps11
    go_wp2_with fail
    obtain ⟨W,hW⟩:∃ W,W=(w.alloc (.cells #[.slice a0 p.sh.length c0,.slice a1 p.st.length c1,.int .i64 p.cor,.slice a3 p.se.length c3,.slice a4 p.fa.length c4,.int .i64 p.val] 31)).alloc (.cells #[.slice b0 q.sh.length d0,.slice b1 q.st.length d1,.int .i64 q.cor,.slice b3 q.se.length d3,.slice b4 q.fa.length d4,.int .i64 q.val] 31):=⟨_,rfl⟩
    rw [← hW]
    have HB:=Lib.hid (show Below w.heap.size w W by rw [hW];show Below _ _ _;go_grown)
    have x0:W.cell? ⟨w.heap.size,0,none⟩=some (.slice a0 p.sh.length c0):=by rw [hW];exact keep1 ((Zj w _ _ 0 rfl).trans rfl) (Zc _ _)
    have y0:W.cell? ⟨w.heap.size+1,0,none⟩=some (.slice b0 q.sh.length d0):=by rw [hW];exact (Zj _ _ _ 0 (by simp)).trans rfl
    have x1:W.cell? ⟨w.heap.size,1,none⟩=some (.slice a1 p.st.length c1):=by rw [hW];exact keep1 ((Zj w _ _ 1 rfl).trans rfl) (Zc _ _)
    have y1:W.cell? ⟨w.heap.size+1,1,none⟩=some (.slice b1 q.st.length d1):=by rw [hW];exact (Zj _ _ _ 1 (by simp)).trans rfl
    have x2:W.cell? ⟨w.heap.size,2,none⟩=some (.int .i64 p.cor):=by rw [hW];exact keep1 ((Zj w _ _ 2 rfl).trans rfl) (Zc _ _)
    have y2:W.cell? ⟨w.heap.size+1,2,none⟩=some (.int .i64 q.cor):=by rw [hW];exact (Zj _ _ _ 2 (by simp)).trans rfl
    have x3:W.cell? ⟨w.heap.size,3,none⟩=some (.slice a3 p.se.length c3):=by rw [hW];exact keep1 ((Zj w _ _ 3 rfl).trans rfl) (Zc _ _)
    have y3:W.cell? ⟨w.heap.size+1,3,none⟩=some (.slice b3 q.se.length d3):=by rw [hW];exact (Zj _ _ _ 3 (by simp)).trans rfl
    have x4:W.cell? ⟨w.heap.size,4,none⟩=some (.slice a4 p.fa.length c4):=by rw [hW];exact keep1 ((Zj w _ _ 4 rfl).trans rfl) (Zc _ _)
    have y4:W.cell? ⟨w.heap.size+1,4,none⟩=some (.slice b4 q.fa.length d4):=by rw [hW];exact (Zj _ _ _ 4 (by simp)).trans rfl
    have x5:W.cell? ⟨w.heap.size,5,none⟩=some (.int .i64 p.val):=by rw [hW];exact keep1 ((Zj w _ _ 5 rfl).trans rfl) (Zc _ _)
    have y5:W.cell? ⟨w.heap.size+1,5,none⟩=some (.int .i64 q.val):=by rw [hW];exact (Zj _ _ _ 5 (by simp)).trans rfl
    clear hW
    refine (C0.out _ HB.out).mono ?_
    rintro e w0 ⟨rfl,hb0⟩
    have HB0:=Lib.hid (Zf HB.out hb0)
    replace x0:=keep1 x0 hb0
    replace y0:=keep1 y0 hb0
    replace x1:=keep1 x1 hb0
    replace y1:=keep1 y1 hb0
    replace x2:=keep1 x2 hb0
    replace y2:=keep1 y2 hb0
    replace x3:=keep1 x3 hb0
    replace y3:=keep1 y3 hb0
    replace x4:=keep1 x4 hb0
    replace y4:=keep1 y4 hb0
    replace x5:=keep1 x5 hb0
    replace y5:=keep1 y5 hb0
    clear hb0
    go_wp2_with fail
    refine (C1.out _ HB0.out).mono ?_
    rintro e w1 ⟨rfl,hb1⟩
    have HB1:=Lib.hid (Zf HB0.out hb1)
    replace x0:=keep1 x0 hb1
    replace y0:=keep1 y0 hb1
    replace x1:=keep1 x1 hb1
    replace y1:=keep1 y1 hb1
    replace x2:=keep1 x2 hb1
    replace y2:=keep1 y2 hb1
    replace x3:=keep1 x3 hb1
    replace y3:=keep1 y3 hb1
    replace x4:=keep1 x4 hb1
    replace y4:=keep1 y4 hb1
    replace x5:=keep1 x5 hb1
    replace y5:=keep1 y5 hb1
    clear hb1
    go_wp2_with fail
    refine (C2.out _ HB1.out).mono ?_
    rintro e w2 ⟨rfl,hb2⟩
    have HB2:=Lib.hid (Zf HB1.out hb2)
    replace x0:=keep1 x0 hb2
    replace y0:=keep1 y0 hb2
    replace x1:=keep1 x1 hb2
    replace y1:=keep1 y1 hb2
    replace x2:=keep1 x2 hb2
    replace y2:=keep1 y2 hb2
    replace x3:=keep1 x3 hb2
    replace y3:=keep1 y3 hb2
    replace x4:=keep1 x4 hb2
    replace y4:=keep1 y4 hb2
    replace x5:=keep1 x5 hb2
    replace y5:=keep1 y5 hb2
    clear hb2
    go_wp2_with fail
    refine (C3.out _ HB2.out).mono ?_
    rintro e w3 ⟨rfl,hb3⟩
    have HB3:=Lib.hid (Zf HB2.out hb3)
    replace x0:=keep1 x0 hb3
    replace y0:=keep1 y0 hb3
    replace x1:=keep1 x1 hb3
    replace y1:=keep1 y1 hb3
    replace x2:=keep1 x2 hb3
    replace y2:=keep1 y2 hb3
    replace x3:=keep1 x3 hb3
    replace y3:=keep1 y3 hb3
    replace x4:=keep1 x4 hb3
    replace y4:=keep1 y4 hb3
    replace x5:=keep1 x5 hb3
    replace y5:=keep1 y5 hb3
    clear hb3
    go_wp2_with fail
    go_ret
    exact ⟨Zt (by have n:=N.out;rw [E.out];simp [orL,n]),HB3.out⟩
   have zz2:(e2 != 0)=true:=by simpa using z2
   have N:=Lib.hid z2
   clear z2
   go_enter Tryz.func11,Tryz.ntmps11
   go_wp2_with fail
   obtain ⟨W,hW⟩:∃ W,W=(w.alloc (.cells #[.slice a0 p.sh.length c0,.slice a1 p.st.length c1,.int .i64 p.cor,.slice a3 p.se.length c3,.slice a4 p.fa.length c4,.int .i64 p.val] 31)).alloc (.cells #[.slice b0 q.sh.length d0,.slice b1 q.st.length d1,.int .i64 q.cor,.slice b3 q.se.length d3,.slice b4 q.fa.length d4,.int .i64 q.val] 31):=⟨_,rfl⟩
   rw [← hW]
   have HB:=Lib.hid (show Below w.heap.size w W by rw [hW];show Below _ _ _;go_grown)
   have x0:W.cell? ⟨w.heap.size,0,none⟩=some (.slice a0 p.sh.length c0):=by rw [hW];exact keep1 ((Zj w _ _ 0 rfl).trans rfl) (Zc _ _)
   have y0:W.cell? ⟨w.heap.size+1,0,none⟩=some (.slice b0 q.sh.length d0):=by rw [hW];exact (Zj _ _ _ 0 (by simp)).trans rfl
   have x1:W.cell? ⟨w.heap.size,1,none⟩=some (.slice a1 p.st.length c1):=by rw [hW];exact keep1 ((Zj w _ _ 1 rfl).trans rfl) (Zc _ _)
   have y1:W.cell? ⟨w.heap.size+1,1,none⟩=some (.slice b1 q.st.length d1):=by rw [hW];exact (Zj _ _ _ 1 (by simp)).trans rfl
   have x2:W.cell? ⟨w.heap.size,2,none⟩=some (.int .i64 p.cor):=by rw [hW];exact keep1 ((Zj w _ _ 2 rfl).trans rfl) (Zc _ _)
   have y2:W.cell? ⟨w.heap.size+1,2,none⟩=some (.int .i64 q.cor):=by rw [hW];exact (Zj _ _ _ 2 (by simp)).trans rfl
   have x3:W.cell? ⟨w.heap.size,3,none⟩=some (.slice a3 p.se.length c3):=by rw [hW];exact keep1 ((Zj w _ _ 3 rfl).trans rfl) (Zc _ _)
   have y3:W.cell? ⟨w.heap.size+1,3,none⟩=some (.slice b3 q.se.length d3):=by rw [hW];exact (Zj _ _ _ 3 (by simp)).trans rfl
   have x4:W.cell? ⟨w.heap.size,4,none⟩=some (.slice a4 p.fa.length c4):=by rw [hW];exact keep1 ((Zj w _ _ 4 rfl).trans rfl) (Zc _ _)
   have y4:W.cell? ⟨w.heap.size+1,4,none⟩=some (.slice b4 q.fa.length d4):=by rw [hW];exact (Zj _ _ _ 4 (by simp)).trans rfl
   have x5:W.cell? ⟨w.heap.size,5,none⟩=some (.int .i64 p.val):=by rw [hW];exact keep1 ((Zj w _ _ 5 rfl).trans rfl) (Zc _ _)
   have y5:W.cell? ⟨w.heap.size+1,5,none⟩=some (.int .i64 q.val):=by rw [hW];exact (Zj _ _ _ 5 (by simp)).trans rfl
   clear hW
   refine (C0.out _ HB.out).mono ?_
   rintro e w0 ⟨rfl,hb0⟩
   have HB0:=Lib.hid (Zf HB.out hb0)
   replace x0:=keep1 x0 hb0
   replace y0:=keep1 y0 hb0
   replace x1:=keep1 x1 hb0
   replace y1:=keep1 y1 hb0
   replace x2:=keep1 x2 hb0
   replace y2:=keep1 y2 hb0
   replace x3:=keep1 x3 hb0
   replace y3:=keep1 y3 hb0
   replace x4:=keep1 x4 hb0
   replace y4:=keep1 y4 hb0
   replace x5:=keep1 x5 hb0
   replace y5:=keep1 y5 hb0
   clear hb0
   go_wp2_with fail
   refine (C1.out _ HB0.out).mono ?_
   rintro e w1 ⟨rfl,hb1⟩
   have HB1:=Lib.hid (Zf HB0.out hb1)
   replace x0:=keep1 x0 hb1
   replace y0:=keep1 y0 hb1
   replace x1:=keep1 x1 hb1
   replace y1:=keep1 y1 hb1
   replace x2:=keep1 x2 hb1
   replace y2:=keep1 y2 hb1
   replace x3:=keep1 x3 hb1
   replace y3:=keep1 y3 hb1
   replace x4:=keep1 x4 hb1
   replace y4:=keep1 y4 hb1
   replace x5:=keep1 x5 hb1
   replace y5:=keep1 y5 hb1
   clear hb1
   go_wp2_with fail
   refine (C2.out _ HB1.out).mono ?_
   rintro e w2 ⟨rfl,hb2⟩
   have HB2:=Lib.hid (Zf HB1.out hb2)
   replace x0:=keep1 x0 hb2
   replace y0:=keep1 y0 hb2
   replace x1:=keep1 x1 hb2
   replace y1:=keep1 y1 hb2
   replace x2:=keep1 x2 hb2
   replace y2:=keep1 y2 hb2
   replace x3:=keep1 x3 hb2
   replace y3:=keep1 y3 hb2
   replace x4:=keep1 x4 hb2
   replace y4:=keep1 y4 hb2
   replace x5:=keep1 x5 hb2
   replace y5:=keep1 y5 hb2
   clear hb2
   go_wp2_with fail
   go_ret
   exact ⟨Zt (by have n:=N.out;rw [E.out];simp [orL,n]),HB2.out⟩
  have zz1:(e1 != 0)=true:=by simpa using z1
  have N:=Lib.hid z1
  clear z1
  go_enter Tryz.func11,Tryz.ntmps11
  go_wp2_with fail
  obtain ⟨W,hW⟩:∃ W,W=(w.alloc (.cells #[.slice a0 p.sh.length c0,.slice a1 p.st.length c1,.int .i64 p.cor,.slice a3 p.se.length c3,.slice a4 p.fa.length c4,.int .i64 p.val] 31)).alloc (.cells #[.slice b0 q.sh.length d0,.slice b1 q.st.length d1,.int .i64 q.cor,.slice b3 q.se.length d3,.slice b4 q.fa.length d4,.int .i64 q.val] 31):=⟨_,rfl⟩
  rw [← hW]
  have HB:=Lib.hid (show Below w.heap.size w W by rw [hW];show Below _ _ _;go_grown)
  have x0:W.cell? ⟨w.heap.size,0,none⟩=some (.slice a0 p.sh.length c0):=by rw [hW];exact keep1 ((Zj w _ _ 0 rfl).trans rfl) (Zc _ _)
  have y0:W.cell? ⟨w.heap.size+1,0,none⟩=some (.slice b0 q.sh.length d0):=by rw [hW];exact (Zj _ _ _ 0 (by simp)).trans rfl
  have x1:W.cell? ⟨w.heap.size,1,none⟩=some (.slice a1 p.st.length c1):=by rw [hW];exact keep1 ((Zj w _ _ 1 rfl).trans rfl) (Zc _ _)
  have y1:W.cell? ⟨w.heap.size+1,1,none⟩=some (.slice b1 q.st.length d1):=by rw [hW];exact (Zj _ _ _ 1 (by simp)).trans rfl
  have x2:W.cell? ⟨w.heap.size,2,none⟩=some (.int .i64 p.cor):=by rw [hW];exact keep1 ((Zj w _ _ 2 rfl).trans rfl) (Zc _ _)
  have y2:W.cell? ⟨w.heap.size+1,2,none⟩=some (.int .i64 q.cor):=by rw [hW];exact (Zj _ _ _ 2 (by simp)).trans rfl
  have x3:W.cell? ⟨w.heap.size,3,none⟩=some (.slice a3 p.se.length c3):=by rw [hW];exact keep1 ((Zj w _ _ 3 rfl).trans rfl) (Zc _ _)
  have y3:W.cell? ⟨w.heap.size+1,3,none⟩=some (.slice b3 q.se.length d3):=by rw [hW];exact (Zj _ _ _ 3 (by simp)).trans rfl
  have x4:W.cell? ⟨w.heap.size,4,none⟩=some (.slice a4 p.fa.length c4):=by rw [hW];exact keep1 ((Zj w _ _ 4 rfl).trans rfl) (Zc _ _)
  have y4:W.cell? ⟨w.heap.size+1,4,none⟩=some (.slice b4 q.fa.length d4):=by rw [hW];exact (Zj _ _ _ 4 (by simp)).trans rfl
  have x5:W.cell? ⟨w.heap.size,5,none⟩=some (.int .i64 p.val):=by rw [hW];exact keep1 ((Zj w _ _ 5 rfl).trans rfl) (Zc _ _)
  have y5:W.cell? ⟨w.heap.size+1,5,none⟩=some (.int .i64 q.val):=by rw [hW];exact (Zj _ _ _ 5 (by simp)).trans rfl
  clear hW
  refine (C0.out _ HB.out).mono ?_
  rintro e w0 ⟨rfl,hb0⟩
  have HB0:=Lib.hid (Zf HB.out hb0)
  replace x0:=keep1 x0 hb0
  replace y0:=keep1 y0 hb0
  replace x1:=keep1 x1 hb0
  replace y1:=keep1 y1 hb0
  replace x2:=keep1 x2 hb0
  replace y2:=keep1 y2 hb0
  replace x3:=keep1 x3 hb0
  replace y3:=keep1 y3 hb0
  replace x4:=keep1 x4 hb0
  replace y4:=keep1 y4 hb0
  replace x5:=keep1 x5 hb0
  replace y5:=keep1 y5 hb0
  clear hb0
  go_wp2_with fail
  refine (C1.out _ HB0.out).mono ?_
  rintro e w1 ⟨rfl,hb1⟩
  have HB1:=Lib.hid (Zf HB0.out hb1)
  replace x0:=keep1 x0 hb1
  replace y0:=keep1 y0 hb1
  replace x1:=keep1 x1 hb1
  replace y1:=keep1 y1 hb1
  replace x2:=keep1 x2 hb1
  replace y2:=keep1 y2 hb1
  replace x3:=keep1 x3 hb1
  replace y3:=keep1 y3 hb1
  replace x4:=keep1 x4 hb1
  replace y4:=keep1 y4 hb1
  replace x5:=keep1 x5 hb1
  replace y5:=keep1 y5 hb1
  clear hb1
  go_wp2_with fail
  go_ret
  exact ⟨Zt (by have n:=N.out;rw [E.out];simp [orL,n]),HB1.out⟩
 have zz0:(e0 != 0)=true:=by simpa using z0
 have N:=Lib.hid z0
 clear z0
 go_enter Tryz.func11,Tryz.ntmps11
 go_wp2_with fail
 obtain ⟨W,hW⟩:∃ W,W=(w.alloc (.cells #[.slice a0 p.sh.length c0,.slice a1 p.st.length c1,.int .i64 p.cor,.slice a3 p.se.length c3,.slice a4 p.fa.length c4,.int .i64 p.val] 31)).alloc (.cells #[.slice b0 q.sh.length d0,.slice b1 q.st.length d1,.int .i64 q.cor,.slice b3 q.se.length d3,.slice b4 q.fa.length d4,.int .i64 q.val] 31):=⟨_,rfl⟩
 rw [← hW]
 have HB:=Lib.hid (show Below w.heap.size w W by rw [hW];show Below _ _ _;go_grown)
 have x0:W.cell? ⟨w.heap.size,0,none⟩=some (.slice a0 p.sh.length c0):=by rw [hW];exact keep1 ((Zj w _ _ 0 rfl).trans rfl) (Zc _ _)
 have y0:W.cell? ⟨w.heap.size+1,0,none⟩=some (.slice b0 q.sh.length d0):=by rw [hW];exact (Zj _ _ _ 0 (by simp)).trans rfl
 have x1:W.cell? ⟨w.heap.size,1,none⟩=some (.slice a1 p.st.length c1):=by rw [hW];exact keep1 ((Zj w _ _ 1 rfl).trans rfl) (Zc _ _)
 have y1:W.cell? ⟨w.heap.size+1,1,none⟩=some (.slice b1 q.st.length d1):=by rw [hW];exact (Zj _ _ _ 1 (by simp)).trans rfl
 have x2:W.cell? ⟨w.heap.size,2,none⟩=some (.int .i64 p.cor):=by rw [hW];exact keep1 ((Zj w _ _ 2 rfl).trans rfl) (Zc _ _)
 have y2:W.cell? ⟨w.heap.size+1,2,none⟩=some (.int .i64 q.cor):=by rw [hW];exact (Zj _ _ _ 2 (by simp)).trans rfl
 have x3:W.cell? ⟨w.heap.size,3,none⟩=some (.slice a3 p.se.length c3):=by rw [hW];exact keep1 ((Zj w _ _ 3 rfl).trans rfl) (Zc _ _)
 have y3:W.cell? ⟨w.heap.size+1,3,none⟩=some (.slice b3 q.se.length d3):=by rw [hW];exact (Zj _ _ _ 3 (by simp)).trans rfl
 have x4:W.cell? ⟨w.heap.size,4,none⟩=some (.slice a4 p.fa.length c4):=by rw [hW];exact keep1 ((Zj w _ _ 4 rfl).trans rfl) (Zc _ _)
 have y4:W.cell? ⟨w.heap.size+1,4,none⟩=some (.slice b4 q.fa.length d4):=by rw [hW];exact (Zj _ _ _ 4 (by simp)).trans rfl
 have x5:W.cell? ⟨w.heap.size,5,none⟩=some (.int .i64 p.val):=by rw [hW];exact keep1 ((Zj w _ _ 5 rfl).trans rfl) (Zc _ _)
 have y5:W.cell? ⟨w.heap.size+1,5,none⟩=some (.int .i64 q.val):=by rw [hW];exact (Zj _ _ _ 5 (by simp)).trans rfl
 clear hW
 refine (C0.out _ HB.out).mono ?_
 rintro e w0 ⟨rfl,hb0⟩
 have HB0:=Lib.hid (Zf HB.out hb0)
 replace x0:=keep1 x0 hb0
 replace y0:=keep1 y0 hb0
 replace x1:=keep1 x1 hb0
 replace y1:=keep1 y1 hb0
 replace x2:=keep1 x2 hb0
 replace y2:=keep1 y2 hb0
 replace x3:=keep1 x3 hb0
 replace y3:=keep1 y3 hb0
 replace x4:=keep1 x4 hb0
 replace y4:=keep1 y4 hb0
 replace x5:=keep1 x5 hb0
 replace y5:=keep1 y5 hb0
 clear hb0
 go_wp2_with fail
 go_ret
 exact ⟨Zt (by have n:=N.out;rw [E.out];simp [orL,n]),HB0.out⟩
end Go.Proofs.YtdbehgbggaaipaaGreat
namespace Go.Proofs.YtdbehgbggaaipaaGreat
theorem W3:∀ (xs ys:List Int),cmpI ys xs = -cmpI xs ys
 | [],[]=>rfl
 | [],_::_=>rfl
 | _::_,[]=>rfl
 | x::xs,y::ys=>by
   simp only [cmpI]
   by_cases h1:x<y
   ·rw [if_neg (by omega),if_pos h1,if_pos h1];rfl
   by_cases h2:y<x
   ·rw [if_pos h2,if_neg h1,if_pos h2]
   rw [if_neg h2,if_neg h1,if_neg h1,if_neg h2];exact W3 xs ys
theorem Zee (x y:Int):(cmpN x y = -1∧x<y)∨(cmpN x y=0∧x=y)∨(cmpN x y=1∧y<x):=by
 unfold cmpN
 split
 ·exact .inl ⟨rfl,by assumption⟩
 split
 ·exact .inr (.inr ⟨rfl,by assumption⟩)
 exact .inr (.inl ⟨rfl,by omega⟩)
theorem Zef (x y:Int):cmpN y x = -cmpN x y:=by
 have:=Zee x y;have:=Zee y x;omega
theorem orL_neg:∀ xs:List Int,orL (xs.map (- ·)) = -orL xs
 | []=>rfl
 | x::xs=>by
   simp only [List.map_cons,orL,orL_neg xs]
   by_cases h:x=0
   ·rw [if_pos h,if_pos (by omega)]
   rw [if_neg h,if_neg (by omega)]
end Go.Proofs.YtdbehgbggaaipaaGreat
namespace Go.Proofs.YtdbehgbggaaipaaGreat
open Go.RowKit Go.Deep
namespace Rd
section
variable {J:World→Prop} {F ok:Nat→Prop} {w:World} {lo:Nat}
structure CgIn (c:Cf):Prop where
 sh:InOk c.sh
 st:InOk c.st
 se:InOk c.se
 fa:InOk c.fa
 cor:I64 c.cor
 val:I64 c.val
variable {v:Value}{c:Cf}
theorem cf_in (h:IsCf lo w v c):CgIn c:=by
 obtain ⟨_,_,_,_,_,h0,h1,h2,h3,h4,h5⟩:=h
 exact ⟨h0.ok,h1.ok,h3.ok,h4.ok,h2,h5⟩
theorem cf_pu (hok:∀ b,lo≤b→b<w.heap.size→ok b) (h:IsCf lo w v c):Pu F w ok (.agg (cCg c)) v:=by
 obtain ⟨u0,u1,u3,u4,rfl,h0,h1,_,h3,h4,_⟩:=h
 refine .agg rfl fun j hj => ?_
 match j,hj with
 | 0,_=>exact YD hok h0
 | 1,_=>exact YD hok h1
 | 2,_=>exact .v _
 | 3,_=>exact YD hok h3
 | 4,_=>exact YD hok h4
 | 5,_=>exact .v _
theorem cf_of (H:CgIn c) (h:Pu F w ok (.agg (cCg c)) v):IsCf 0 w v c:=by
 obtain ⟨vs,rfl,hl,hv⟩:=YZ h
 match vs,hl,hv with
 | [v0,v1,v2,v3,v4,v5],_,hv =>
   have e2:=(hv 2 (by simp [cCg])).v_inv
   have e5:=(hv 5 (by simp [cCg])).v_inv
   simp only [List.getD_cons_succ,List.getD_cons_zero] at e2 e5
   subst e2 e5
   exact ⟨v0,v1,v3,v4,rfl,YC H.sh (fun _ _=>Nat.zero_le _) (hv 0 (by simp [cCg])),YC H.st (fun _ _=>Nat.zero_le _) (hv 1 (by simp [cCg])),H.cor,YC H.se (fun _ _=>Nat.zero_le _) (hv 3 (by simp [cCg])),YC H.fa (fun _ _=>Nat.zero_le _) (hv 4 (by simp [cCg])),H.val⟩
theorem agg_app {cs ds:List AV} {us vs:List Value} (h1:Pu F w ok (.agg cs) (.agg us.toArray)) (h2:Pu F w ok (.agg ds) (.agg vs.toArray)):Pu F w ok (.agg (cs++ds)) (.agg (us++vs).toArray):=by
 obtain ⟨us',e1,l1,p1⟩:=YZ h1
 obtain ⟨vs',e2,l2,p2⟩:=YZ h2
 obtain rfl:us=us':=by simpa using e1
 obtain rfl:vs=vs':=by simpa using e2
 refine .agg (by simp [l1,l2]) fun j hj => ?_
 by_cases hj':j<cs.length
 ·rw [List.getElem_append_left hj']
  have:=p1 j hj'
  simpa [Array.getD_eq_getD_getElem?,List.getD_eq_getElem?_getD,List.getElem?_append_left (show j<us.length by omega)] using this
 rw [List.getElem_append_right (by omega)]
 have:=p2 (j-cs.length) (by simp at hj;omega)
 simpa [Array.getD_eq_getD_getElem?,List.getD_eq_getElem?_getD,List.getElem?_append_right (show us.length≤j by omega),l1] using this
variable {q:Fm}{n t f:Int}
theorem at_pu (h:IsAt w v q n t f c):Pu (fun _=>True) w (fun b=>b<w.heap.size) (.agg (cFm q++(cSz n t f++cCg c))) v:=by
 obtain ⟨fs,cs,rfl,hF,hC⟩:=h
 refine agg_app (famw hF) (agg_app (.agg rfl fun j hj => ?_) (cf_pu (fun _ _ h=>h) hC))
 match j,hj with
 | 0,_=>exact .v _
 | 1,_=>exact .v _
 | 2,_=>exact .v _
theorem Wide_c (H:CgIn c):Ctr Tryz.prog J 6 [.agg (cCg c)] (bv (wideCf c)):=ctr1 fun w v _ h=>(Wide_any (cf_of H h)).mono fun _ _=>ret_sc
theorem cmpCf_same (c:Cf):cmpCf c c=0:=by
 have h:cmpCf c c = -cmpCf c c:=by
  conv=>lhs;unfold cmpCf
  unfold cmpCf
  rw [← orL_neg]
  simp only [List.map_cons,List.map_nil]
  rw [← W3 c.sh c.sh,← W3 c.st c.st,← W3 c.se c.se,← W3 c.fa c.fa,← Zef c.cor c.cor,← Zef c.val c.val]
 omega
theorem rCompare_c (H:CgIn c):Ctr Tryz.prog J 11 [.agg (cCg c),.agg (cCg c)] (iv 0):=ctr2 fun w v v' _ h h'=>by
 have:=Zb4 (cf_of H h) (cf_of H h')
 rw [cmpCf_same] at this
 exact this.mono fun _ _=>ret_sc
theorem cg_ok (H:CgIn c) (h:wideCf c=false):CgOk c:=by
 unfold wideCf at h
 simp only [Bool.or_eq_false_iff,decide_eq_false_iff_not] at h
 exact ⟨H.sh,H.st,H.se,H.fa,by omega,by omega,by omega,by omega⟩
end
end Rd
set_option maxRecDepth 100000
set_option maxHeartbeats 6400000
variable {J:World→Prop}
variable {x m:Int}
theorem outB_c :Ctr Tryz.prog J 65 [iv x,.el ([iv m]) 0] (bv (Rd.outB m x)):=by
 refine Zm Tryz.func65 rfl (pN (.v _) (pN (.el (ZN (by intro X hX;rw [List.mem_singleton.1 hX];exact .v _))) pZ)) (n:=11) rfl (by simp) (fun w0 => ?_)
 refine kW 11 [] [(0,iv x),(1,.el ([iv m]) 0)] (jB (oS bF (jD ?_)))
 by_cases hs1:x<0
 refine Za (oW (ol (dT hs1) (oS bT (qK (qK (qK (oF bT (jE ?_))))))))
 refine Zg Tryz.results65 (.tmp rfl) ?_
 exact cB ((Rd.outB_lo hs1).symm)
 refine Za (oW (ol (dF hs1) (oS bF (oS (iv x) (oS (iv m) (gC (Zbs rfl rfl) I0 I0 (oF (bv (decide (m≤x))) (jE ?_))))))))
 refine Zg Tryz.results65 (.tmp rfl) ?_
 exact cB ((Rd.outB_hi hs1).symm)
theorem ixOut_c (xs:List Int) (lx:xs.length≤9223372036854775807):Ctr Tryz.prog J 99 [Zb xs,.clo 65 [.el ([iv m]) 0]] (iv (Rd.ixP xs (Rd.outB m))):=by
 refine Zm Tryz.func99 rfl (pN (ZM _) (pN (.clo (fun j hj=>match j,hj with | 0,_ => .el (ZN (by intro X hX;rw [List.mem_singleton.1 hX];exact .v _)))) pZ)) (n:=19) rfl (by simp) (fun w0 => ?_)
 refine kW 19 [] [(0,Zb xs),(1,.clo 65 [.el ([iv m]) 0])] (jB (oS (iv 0) (jD (jB (oF (iv xs.length) (oS (iv 0) (kN 19 [] [(0,Zb xs),(1,.clo 65 [.el ([iv m]) 0]),(4,iv 0),(7,iv xs.length),(8,iv 0)] (Ze (Zn ?_)))))))))
 refine ZK (σ:={k:Nat // k≤xs.length∧Rd.noP xs (Rd.outB m) k}) (fun s=>(ofL [],ofT 19 [(0,Zb xs),(1,.clo 65 [.el ([iv m]) 0]),(7,iv xs.length),(8,iv s.1)])) (fun s=>xs.length-s.1) ⟨0,Nat.zero_le _,Rd.noP_zero _ _⟩ (Zp [] _) (fun s => ?_)
 obtain ⟨k,hk0,hs0⟩:=s
 show ETri J w0 (ofL []) (ofT 19 [(0,Zb xs),(1,.clo 65 [.el ([iv m]) 0]),(7,iv xs.length),(8,iv k)]) _
 refine Zl ?_
 by_cases hs1:(k:Int)<(xs.length:Int)
 refine Za (ol (dT hs1) (jD (Ya rfl (Zq (jC (Zn (jB (oF (iv k) (jD ?_)))))))))
 by_cases hs2:(Rd.outB m xs[k])=true
 refine Za (oS (.clo 65 [.el ([iv m]) 0]) (oS (Zb xs) (oS (iv k) (oC (xS (k*1) 12 13 U24) I0 I0 (oL (iv xs[k]) (Zw xs (by omega)) (oC (Zab (c := .tmp 11) (xs := #[.tmp 15]) (Cs:=[.el ([iv m]) 0]) [] (Zr outB_c hs2) rfl (by kernel_rfl) rfl (Xs:=[iv xs[k]]) rfl rfl rfl rfl rfl) I0 I0 (jG (oF (iv k) (jE (Zo (Zd (Zd (Zo (Zd ?_))))))))))))))
 refine Zg Tryz.results99 (.tmp rfl) ?_
 exact congrArg (fun x:Int=>AV.v (.int .i64 x)) ((Rd.ixP_at (by omega) hs0 hs2).symm)
 have hs2f:(Rd.outB m xs[k])=false:=by simpa using hs2
 refine Za (oS (.clo 65 [.el ([iv m]) 0]) (oS (Zb xs) (oS (iv k) (oC (xS (k*1) 12 13 U24) I0 I0 (oL (iv xs[k]) (Zw xs (by omega)) (oC (Zab (c := .tmp 11) (xs := #[.tmp 15]) (Cs:=[.el ([iv m]) 0]) [] (Zr outB_c hs2f) rfl (by kernel_rfl) rfl (Xs:=[iv xs[k]]) rfl rfl rfl rfl rfl) I0 I0 (jI (Zq (Zv (Ze (Za (oV ((k+1:Nat):Int) (oS (iv (k+1:Nat)) (kN 19 [] [(0,Zb xs),(1,.clo 65 [.el ([iv m]) 0]),(5,iv k),(7,iv xs.length),(8,iv (k+1:Nat)),(9,bT),(16,bF)] (Ze ?_)))))))))))))))
 refine Zs ⟨k+1,by omega,Rd.noP_succ (by omega) hs0 hs2f⟩ (show xs.length-(k+1)<xs.length-k by omega) ?_
 exact Zp [] _
 refine Za (ol (dF hs1) (jD (ZD rfl (jO (jC (Za (oS (iv (-1)) (jE ?_))))))))
 refine Zg Tryz.results99 (.tmp rfl) ?_
 exact congrArg (fun x:Int=>AV.v (.int .i64 x)) ((Rd.ixP_none (k:=k) (by omega) hs0).symm)
theorem hasOut_c (xs:List Int) (lx:xs.length≤9223372036854775807):Ctr Tryz.prog J 64 [Zb xs,.clo 65 [.el ([iv m]) 0]] (bv (xs.any (Rd.outB m))):=by
 refine Zm Tryz.func64 rfl (pN (ZM _) (pN (.clo (fun j hj=>match j,hj with | 0,_ => .el (ZN (by intro X hX;rw [List.mem_singleton.1 hX];exact .v _)))) pZ)) (n:=9) rfl (by simp) (fun w0 => ?_)
 refine kW 9 [] [(0,Zb xs),(1,.clo 65 [.el ([iv m]) 0])] (jB (oS bF (jD (Za (oW (oW (oK (ixOut_c xs lx) [Zb xs,.clo 65 [.el ([iv m]) 0]] rfl rfl (oC (Zbs rfl rfl) I0 I0 (oS (bv (decide (0≤(Rd.ixP xs (Rd.outB m))))) (jE ?_))))))))))
 refine Zg Tryz.results64 (.tmp rfl) ?_
 exact cB (Rd.anyP_ix xs (Rd.outB m))
theorem Yh (xs:List Int) (lx:xs.length≤9223372036854775807):Ctr Tryz.prog J 41 [Zb xs,iv m] (bv (Rd.belB xs m)):=by
 refine Zm Tryz.func41 rfl (pN (ZM _) (pN (.v _) pZ)) (n:=9) rfl (by simp) (fun w0 => ?_)
 refine kW 9 [] [(0,Zb xs),(1,iv m)] (jB (oX 1 (iv m) (oS bF (jD (Za (oS (Zb xs) (oA (Zbq (xs := #[.tmp 3]) (Xs:=[bx 1]) rfl rfl) I0 (Yz rfl (sc #[.tmp 5,.tmp 6] [(1,.box 3 [iv m])] (hasOut_c xs lx) [Zb xs,.clo 65 [bx 1]] rfl rfl rfl) ⟨I0,I0,I0,T0⟩ ⟨rfl,T0⟩ T0 (oF (bv (!(xs.any (Rd.outB m)))) (jE ?_))))))))))
 refine Zg Tryz.results41 (.tmp rfl) ?_
 exact rfl
abbrev XNs1_h1 (x0:Int) (x1:Nat) (x2:Nat):List (Nat × AV):=[(0,iv x0),(2,iv x1),(6,nz),(7,.own 1),(8,iv x2),(16,iv x1),(17,iv (x2+1:Nat)),(18,bT)]
variable {top:Int}
theorem ZbK {c:Nat} (ht:top=2∨top=3) (hc:c≤8):Ctr Tryz.prog J 85 [iv top,nz,iv c] (.sl 3 c (Ns.lkZ top c c)):=by
 refine Zm Tryz.func85 rfl (pN (.v _) (pN (.v _) (pN (.v _) pZ))) (n:=33) rfl (by simp) (fun w0 => ?_)
 refine kW 33 [] [(0,iv top),(1,nz),(2,iv c)] (jB (oS (nz) (jD (jB (oS (iv top) (jA (Zn (jM ?_))))))))
 by_cases hs1:top=2
 refine Za (oe (dT hs1) (oS bT (jH (Zq (Ze (jK (oS (iv c) (Yz rfl (sp_makeZ (k:=1) (n:=c) (bytes:=24) (z:=3) (zv := .agg #[.int .i64 0,.int .i64 0,.int .i64 0]) true rfl U93 (by kernel_rfl) rfl (by decide) (by first | (show 24*c≤_;omega) | omega) (by unfold maxLen;omega) (cs:=(Ns.lkZ top c 0)) (Ns.lkZ_zero top c)) ⟨I0,I0,T0⟩ T0 rfl (oS (.own 1) (jD (jB (oS (.own 1) (oB (Y7 (.tmp 15) rfl U93) I0 rfl (oS (iv 0) (kN 33 [(1,.row true 90 3 c (Ns.lkZ top c 0))] [(0,iv top),(2,iv c),(6,nz),(7,.own 1),(16,iv c),(17,iv 0)] (Ze ?_))))))))))))))))
 refine Zn ?_
 refine ZK (σ:={j:Nat // j≤c}) (fun s=>(ofL [(1,.row true 90 3 c (Ns.lkZ top c s.1))],ofT 33 [(0,iv top),(2,iv c),(6,nz),(7,.own 1),(16,iv c),(17,iv s.1)])) (fun s=>c-s.1) ⟨0,Nat.zero_le _⟩ (Zp _ _) (fun s => ?_)
 obtain ⟨j,hj0⟩:=s
 show ETri J w0 (ofL [(1,.row true 90 3 c (Ns.lkZ top c j))]) (ofT 33 [(0,iv top),(2,iv c),(6,nz),(7,.own 1),(16,iv c),(17,iv j)]) _
 refine Zl ?_
 by_cases hs2:(j:Int)<(c:Int)
 refine Za (ol (dT hs2) (jD (Ya rfl (Zq (jC (Zn (jB (oF (iv j) (jA (Za (oS (.own 1) (oS (iv j) (oW (oW (oW (oK (Ns.rowLink_c (by omega) (by omega) (by omega)) [iv top,iv c,iv j] rfl rfl (Yz rfl (Z5 (off:=j*3) (.tmp 20) (.tmp 21) rfl U93 (by kernel_rfl) (by omega) (by omega) rfl) ⟨I0,I0,T0⟩ ⟨rfl,T0⟩ T0 (Yz rfl (Yj (X := .agg [iv ((rowL top (c:Int) (((j):Nat):Int)).1),iv ((rowL top (c:Int) (((j):Nat):Int)).2.1),iv ((rowL top (c:Int) (((j):Nat):Int)).2.2)]) (off:=j*3) (cs:=(Ns.lkZ top c j)) (ds:=(Ns.lkZ top c (j+1))) (zz:=3) (.tmp 26) (.tmp 25) rfl (by kernel_rfl) (by kernel_rfl) (fun _ d hd=>by simp only [AV.cellsOf,Ns.lk3,List.mem_cons,List.not_mem_nil,or_false] at hd;rcases hd with rfl | rfl | rfl<;>rfl) (by kernel_rfl) (by rw [Ns.lkZ_len (by omega)];omega) (Ns.lkZ_step (by omega))) ⟨I0,.inr (.inr (.inl ⟨_,rfl,rfl⟩)),T0⟩ ⟨rfl,T0⟩ rfl ?_))))))))))))))))))
 refine Yi (Zv (Ze (Za (oV ((j+1:Nat):Int) (oS (iv (j+1:Nat)) (kN 33 [(1,.row true 90 3 c (Ns.lkZ top c (j+1)))] (XNs1_h1 top c j) (Ze ?_)))))))
 refine Zs ⟨j+1,by omega⟩ (show c-(j+1)<c-j by omega) ?_
 exact Zp _ _
 refine Za (ol (dF hs2) (jD (ZD rfl (jO (jC (Za (oF (.own 1) (jE (Zo (Zd ?_))))))))))
 refine Zg Tryz.results85 (.tmp rfl) ?_
 obtain rfl:j=c:=by omega
 exact rfl
 refine Za (oe (dF hs1) (oS bF (jI (Za (oC (ZF rfl (dT (by omega))) I0 I0 (oS bT (jG (oS (iv c) (Yz rfl (sp_makeZ (k:=1) (n:=c) (bytes:=24) (z:=3) (zv := .agg #[.int .i64 0,.int .i64 0,.int .i64 0]) true rfl U93 (by kernel_rfl) rfl (by decide) (by first | (show 24*c≤_;omega) | omega) (by unfold maxLen;omega) (cs:=(Ns.lkZ top c 0)) (Ns.lkZ_zero top c)) ⟨I0,I0,T0⟩ T0 rfl (oS (.own 1) (jD (jB (oS (.own 1) (oB (Y7 (.tmp 15) rfl U93) I0 rfl ?_))))))))))))))
 refine oS (iv 0) (kN 33 [(1,.row true 90 3 c (Ns.lkZ top c 0))] [(0,iv top),(2,iv c),(6,nz),(7,.own 1),(16,iv c),(17,iv 0)] (Ze (Zn ?_)))
 refine ZK (σ:={j:Nat // j≤c}) (fun s=>(ofL [(1,.row true 90 3 c (Ns.lkZ top c s.1))],ofT 33 [(0,iv top),(2,iv c),(6,nz),(7,.own 1),(16,iv c),(17,iv s.1)])) (fun s=>c-s.1) ⟨0,Nat.zero_le _⟩ (Zp _ _) (fun s => ?_)
 obtain ⟨j,hj0⟩:=s
 show ETri J w0 (ofL [(1,.row true 90 3 c (Ns.lkZ top c j))]) (ofT 33 [(0,iv top),(2,iv c),(6,nz),(7,.own 1),(16,iv c),(17,iv j)]) _
 refine Zl ?_
 by_cases hs3:(j:Int)<(c:Int)
 refine Za (ol (dT hs3) (jD (Ya rfl (Zq (jC (Zn (jB (oF (iv j) (jA (Za (oS (.own 1) (oS (iv j) (oW (oW (oW (oK (Ns.rowLink_c (by omega) (by omega) (by omega)) [iv top,iv c,iv j] rfl rfl (Yz rfl (Z5 (off:=j*3) (.tmp 20) (.tmp 21) rfl U93 (by kernel_rfl) (by omega) (by omega) rfl) ⟨I0,I0,T0⟩ ⟨rfl,T0⟩ T0 (Yz rfl (Yj (X := .agg [iv ((rowL top (c:Int) (((j):Nat):Int)).1),iv ((rowL top (c:Int) (((j):Nat):Int)).2.1),iv ((rowL top (c:Int) (((j):Nat):Int)).2.2)]) (off:=j*3) (cs:=(Ns.lkZ top c j)) (ds:=(Ns.lkZ top c (j+1))) (zz:=3) (.tmp 26) (.tmp 25) rfl (by kernel_rfl) (by kernel_rfl) (fun _ d hd=>by simp only [AV.cellsOf,Ns.lk3,List.mem_cons,List.not_mem_nil,or_false] at hd;rcases hd with rfl | rfl | rfl<;>rfl) (by kernel_rfl) (by rw [Ns.lkZ_len (by omega)];omega) (Ns.lkZ_step (by omega))) ⟨I0,.inr (.inr (.inl ⟨_,rfl,rfl⟩)),T0⟩ ⟨rfl,T0⟩ rfl ?_))))))))))))))))))
 refine Yi (Zv (Ze (Za (oV ((j+1:Nat):Int) (oS (iv (j+1:Nat)) (kN 33 [(1,.row true 90 3 c (Ns.lkZ top c (j+1)))] (XNs1_h1 top c j) (Ze ?_)))))))
 refine Zs ⟨j+1,by omega⟩ (show c-(j+1)<c-j by omega) ?_
 exact Zp _ _
 refine Za (ol (dF hs3) (jD (ZD rfl (jO (jC (Za (oF (.own 1) (jE (Zo (Zd ?_))))))))))
 refine Zg Tryz.results85 (.tmp rfl) ?_
 obtain rfl:j=c:=by omega
 exact rfl
variable {xs:List Int}
theorem ZdW {c:Int} (hI:InOk xs) (h0:0<xs.length) (h1:xs.length≤100):Ctr Tryz.prog J 85 [iv 4,Zb xs,iv c] (Ns.lkT xs):=by
 refine Zm Tryz.func85 rfl (pN (.v _) (pN (ZM _) (pN (.v _) pZ))) (n:=33) rfl (by simp) (fun w0 => ?_)
 refine kW 33 [] [(0,iv 4),(1,Zb xs),(2,iv c)] (jB (oS (nz) (jD (jB (oS (iv 4) (jA (Zn (jM (Za (oC (ZF (r:=false) rfl (by decide)) I0 I0 (oS bF (jI (Za (oC (ZF (r:=false) rfl (by decide)) I0 I0 (oS bF ?_)))))))))))))))
 refine jI (jB (oC (ZF (r:=true) rfl (by decide)) I0 I0 (oS bT (jG (oW (oK (Ns.treeLinks_c hI h0 h1) [Zb xs] rfl rfl (oS (.fr (Ns.lkT xs)) (jE (Zo (Zd ?_))))))))))
 refine Zg Tryz.results85 (.tmp rfl) ?_
 exact rfl
theorem Sh_pos {c:Nat}:∀ xs∈Sh.shX (c:Int),0<xs.length:=by
 unfold Sh.shX
 split
 ·intro xs h;cases h
 split
 ·intro xs h;cases h
 rename_i h1 h2
 rw [Int.toNat_natCast]
 obtain rfl | rfl | rfl | rfl:c=1∨c=3∨c=5∨c=7:=by omega
 all_goals decide
set_option maxHeartbeats 12800000
namespace Ns
variable {p:Fm}{n f:Int}
theorem cnt_lo (h:1≤n∧n≤1048576∧0≤f∧f≤n):0≤cntE p n f:=by unfold cntE;split<;>omega
theorem cnt_hi (h:1≤n∧n≤1048576∧0≤f∧f≤n) (h8:¬ 8<n):cntE p n f≤8:=by unfold cntE;split<;>omega
theorem plain_sys (p:Fm) (n t f:Int):∀ X∈sysC p n t f,Plain X:=by
 intro X hX
 unfold sysC at hX
 rcases List.mem_append.1 hX with h | h
 ·exact ZQ p X h
 simp only [List.mem_cons,List.not_mem_nil,or_false] at h
 rcases h with rfl | rfl | rfl | rfl | rfl | rfl | rfl | rfl | rfl | rfl | rfl | rfl | rfl | rfl | rfl | rfl | rfl | rfl | rfl | rfl | rfl | rfl | rfl<;>first | exact .v _ | exact .any | exact .any _ | exact Wy ZcW _
theorem plain_mask {m:List Bool} {c0:List AV} (h:∀ xs,(maskC m xs c0).all AV.isV=true):∀ xs,∀ X∈maskC m xs c0,Plain X:=fun xs X hX=>by
 have:=List.all_eq_true.1 (h xs) X hX
 cases X<;>first | exact .v _ | cases this
theorem pw1 {k o:Nat}:∀ X∈[AV.box k o],PlainW X:=fun X hX=>by
 rw [List.mem_singleton] at hX;rw [hX];exact .box _ _
end Ns
variable {p:Fm}{n t f:Int}
set_option maxRecDepth 100000 in
theorem ZcY (HP:FmOk p) (hs:¬ Ns.sysE p n t f=0):CtrA Tryz.prog J 29 [.agg (cFm p),.agg (cSz n t f)] (.tup [.v (.pointer none),iv (Ns.sysE p n t f)]):=by
 refine WG Tryz.func29 rfl (pN (Zh (ZQ p)) (pN (Zh (Z0 n t f)) pZ)) (n:=80) rfl (by simp) (fun w0 => ?_)
 refine kW 80 [] [(0,.agg (cFm p)),(1,.agg (cSz n t f))] (jB (oX 1 (.agg (cFm p)) (oX 2 (.agg (cSz n t f)) (oS (.v (.pointer none)) (oS (iv 0) (jD (jB (oW (oK (ZbH HP) [.agg (cFm p)] rfl rfl (oS (iv (valE p)) (jD ?_)))))))))))
 by_cases hs1:valE p=0
 obtain ⟨hr8,hg2⟩:=Ns.val_lims hs1
 refine Za (oW (on (dT' hs1) (jF (jM ?_))))
 by_cases hs2:(admB p n t f)=true
 have hai:=Ns.adm_in hs2
 refine Za (oW (oW (oK (Zr (Ns.adm_c HP hs1) hs2) [.agg (cFm p),.agg (cSz n t f)] rfl rfl (oS bF (jF (jM (Za (oF (iv n) (oC (sp_gtr rfl (dT (Ns.sys_big hs1 hs2 hs))) I0 I0 (jG (oS (.v (.pointer none)) (oS (iv 4) (jA ?_)))))))))))))
 refine jN ?_
 refine Zax [(1,.box 27 (cFm p)),(2,.box 29 (cSz n t f))] Tryz.results29 (.tmp rfl) (.tmp rfl) (by kernel_rfl) rfl rfl rfl ?_ ?_ ?_
 ·exact .v _
 ·exact .v _
 ·rw [Ns.sys_e3 hs1 hs2 (Ns.sys_big hs1 hs2 hs)];rfl
 have hs2f:(admB p n t f)=false:=by simpa using hs2
 refine Za (oW (oW (oK (Zr (Ns.adm_c HP hs1) hs2f) [.agg (cFm p),.agg (cSz n t f)] rfl rfl (oS bT (jG (oS (.v (.pointer none)) (oS (iv 8) (jE (Zd ?_)))))))))
 refine Zax [(1,.box 27 (cFm p)),(2,.box 29 (cSz n t f))] Tryz.results29 (.tmp rfl) (.tmp rfl) (by kernel_rfl) rfl rfl rfl ?_ ?_ ?_
 ·exact .v _
 ·exact .v _
 ·rw [Ns.sys_e2 hs1 hs2f];rfl
 refine Za (oW (on (dF' hs1) (jG (oW (oS (.v (.pointer none)) (oS (iv (valE p)) (jE (Zd ?_))))))))
 refine Zax [(1,.box 27 (cFm p)),(2,.box 29 (cSz n t f))] Tryz.results29 (.tmp rfl) (.tmp rfl) (by kernel_rfl) rfl rfl rfl ?_ ?_ ?_
 ·exact .v _
 ·exact .v _
 rw [Ns.sys_e1 hs1];rfl
theorem Zcn {x sh:List Int} (HX:InOk x) (HS:InOk sh):Ctr Tryz.prog J 87 [Zb x,.el ([Zb sh]) 0] (bv (decide (sh=x))):=by
 refine Zm Tryz.func87 rfl (pN (ZM _) (pN (.el (ZN (by intro X hX;rw [List.mem_singleton.1 hX];exact ZM _))) pZ)) (n:=7) rfl (by simp) (fun w0 => ?_)
 refine kW 7 [] [(0,Zb x),(1,.el ([Zb sh]) 0)] (jB (oS bF (jD (Za (oW (oW (oK (eqIntsG sh x HS HX) [Zb sh,Zb x] rfl rfl (oS (bv (decide (sh=x))) (jE ?_)))))))))
 refine Zg Tryz.results87 (.tmp rfl) ?_
 exact rfl
variable {sh:List Int}
theorem ixShape_c {S:List (List Int)} (hS:∀ x∈S,InOk x) (lS:S.length≤5) (HS:InOk sh):Ctr Tryz.prog J 86 [slA 1 cLi S,.clo 87 [.el ([Zb sh]) 0]] (iv (Rd.ixP S fun x=>decide (sh=x))):=by
 refine Zm Tryz.func86 rfl (pN (Wy ZcW _) (pN (.clo (fun j hj=>match j,hj with | 0,_ => .el (ZN (by intro X hX;rw [List.mem_singleton.1 hX];exact ZM _)))) pZ)) (n:=19) rfl (by simp) (fun w0 => ?_)
 refine kW 19 [] [(0,slA 1 cLi S),(1,.clo 87 [.el ([Zb sh]) 0])] (jB (oS (iv 0) (jD (jB (oF (iv S.length) (oS (iv 0) (kN 19 [] [(0,slA 1 cLi S),(1,.clo 87 [.el ([Zb sh]) 0]),(4,iv 0),(7,iv S.length),(8,iv 0)] (Ze (Zn ?_)))))))))
 refine ZK (σ:={k:Nat // k≤S.length∧Rd.noP S (fun x=>decide (sh=x)) k}) (fun s=>(ofL [],ofT 19 [(0,slA 1 cLi S),(1,.clo 87 [.el ([Zb sh]) 0]),(7,iv S.length),(8,iv s.1)])) (fun s=>S.length-s.1) ⟨0,Nat.zero_le _,Rd.noP_zero _ _⟩ (Zp [] _) (fun s => ?_)
 obtain ⟨k,hk0,hs0⟩:=s
 show ETri J w0 (ofL []) (ofT 19 [(0,slA 1 cLi S),(1,.clo 87 [.el ([Zb sh]) 0]),(7,iv S.length),(8,iv k)]) _
 refine Zl ?_
 by_cases hs1:(k:Int)<(S.length:Int)
 refine Za (ol (dT hs1) (jD (Ya rfl (Zq (jC (Zn (jB (oF (iv k) (jD ?_)))))))))
 by_cases hs2:(decide (sh=S[k]))=true
 refine Za (oS (.clo 87 [.el ([Zb sh]) 0]) (oS (slA 1 cLi S) (oS (iv k) (oC (xS (k*1) 12 13 U61) I0 I0 (oL (Zb S[k]) (fT lenLi S k 0) (oC (Zab (c := .tmp 11) (xs := #[.tmp 15]) (Cs:=[.el ([Zb sh]) 0]) [] (Zr (Zcn (hS S[k] (List.getElem_mem (by omega))) HS) hs2) rfl (by kernel_rfl) rfl (Xs:=[Zb S[k]]) rfl rfl rfl rfl rfl) I0 I0 (jG (oF (iv k) (jE (Zo (Zd (Zd (Zo (Zd ?_))))))))))))))
 refine Zg Tryz.results86 (.tmp rfl) ?_
 exact congrArg (fun x:Int=>AV.v (.int .i64 x)) ((Rd.ixP_at (by omega) hs0 hs2).symm)
 have hs2f:(decide (sh=S[k]))=false:=by simpa using hs2
 refine Za (oS (.clo 87 [.el ([Zb sh]) 0]) (oS (slA 1 cLi S) (oS (iv k) (oC (xS (k*1) 12 13 U61) I0 I0 (oL (Zb S[k]) (fT lenLi S k 0) (oC (Zab (c := .tmp 11) (xs := #[.tmp 15]) (Cs:=[.el ([Zb sh]) 0]) [] (Zr (Zcn (hS S[k] (List.getElem_mem (by omega))) HS) hs2f) rfl (by kernel_rfl) rfl (Xs:=[Zb S[k]]) rfl rfl rfl rfl rfl) I0 I0 (jI (Zq (Zv (Ze (Za (oV ((k+1:Nat):Int) (oS (iv (k+1:Nat)) (kN 19 [] [(0,slA 1 cLi S),(1,.clo 87 [.el ([Zb sh]) 0]),(5,iv k),(7,iv S.length),(8,iv (k+1:Nat)),(9,bT),(16,bF)] (Ze ?_)))))))))))))))
 refine Zs ⟨k+1,by omega,Rd.noP_succ (by omega) hs0 hs2f⟩ (show S.length-(k+1)<S.length-k by omega) ?_
 exact Zp [] _
 refine Za (ol (dF hs1) (jD (ZD rfl (jO (jC (Za (oS (iv (-1)) (jE ?_))))))))
 refine Zg Tryz.results86 (.tmp rfl) ?_
 exact congrArg (fun x:Int=>AV.v (.int .i64 x)) ((Rd.ixP_none (k:=k) (by omega) hs0).symm)
theorem Rd.shT_ok (top n:Int):∀ x∈Ns.shT top n,InOk x:=by
 unfold Ns.shT
 split
 ·exact fun x hx=>(Sh.shX_mem n x hx).2
 intro x hx;cases hx
theorem Rd.shT_len (top n:Int):(Ns.shT top n).length≤5:=by
 unfold Ns.shT
 split
 ·exact Sh.shX_len n
 simp
theorem ZeG (HS:InOk sh) (lsh:sh.length≤100):Ctr Tryz.prog J 50 [.el (Ns.sysC p n t f) 0,Zb sh] (.tup [iv (Rd.shI p.top (Ns.shT p.top (Ns.cntE p n f)) sh),bv (Rd.shB p.top (Ns.shT p.top (Ns.cntE p n f)) sh)]):=by
 refine Zm Tryz.func50 rfl (pN (show Plain (.el (Ns.sysC p n t f) 0) from .el (ZN (Ns.plain_sys p n t f))) (pN (ZM _) pZ)) (n:=26) rfl (by simp) (fun w0 => ?_)
 refine kW 26 [] [(0,.el (Ns.sysC p n t f) 0),(1,Zb sh)] (jB (oX 1 (Zb sh) (oS (iv 0) (oS bF (jD (Zl ?_))))))
 by_cases hs1:p.top=4
 refine Za (oW (oW (oW (oW (oW (on (dT' hs1) (jF (jB (oW (oW (oF (slA 1 cLi (Ns.shT p.top (Ns.cntE p n f))) (oA (Zbq (xs := #[.tmp 3]) (Xs:=[bx 1]) rfl rfl) I0 (Yz rfl (sc #[.tmp 19,.tmp 20] [(1,.box 24 [Zb sh])] (ixShape_c (Rd.shT_ok _ _) (Rd.shT_len _ _) HS) [slA 1 cLi (Ns.shT p.top (Ns.cntE p n f)),.clo 87 [bx 1]] rfl rfl rfl) ⟨I0,I0,I0,T0⟩ ⟨rfl,T0⟩ T0 (oS (iv (Rd.ixP (Ns.shT p.top (Ns.cntE p n f)) fun x=>decide (sh=x))) (jD (Za ?_))))))))))))))))
 refine oS (iv (Rd.ixP (Ns.shT p.top (Ns.cntE p n f)) fun x=>decide (sh=x))) (oC (Zdv (.tmp 22) (.const (.int .i64 0)) rfl) I0 I0 (oS (iv (Rd.ixP (Ns.shT p.top (Ns.cntE p n f)) fun x=>decide (sh=x))) (oC (Zbs rfl rfl) I0 I0 (oS (iv (max (Rd.ixP (Ns.shT p.top (Ns.cntE p n f)) fun x=>decide (sh=x)) 0)) (oS (bv (decide (0≤(Rd.ixP (Ns.shT p.top (Ns.cntE p n f)) fun x=>decide (sh=x))))) (jE ?_))))))
 refine ZW Tryz.results50 (.tmp rfl) (.tmp rfl) ?_
 rw [Rd.shI_tree hs1,Rd.shB_tree hs1]
 exact rfl
 refine Za (oW (oW (oW (oW (oW (on (dF' hs1) (jH (Zl ?_))))))))
 refine tD (dW (dS (iv sh.length) (dC (ZF rfl rfl) I0 I0 (dS (iv 0) (dS (bv (decide ((sh.length:Int)=0))) (eD ?_))))))
 refine Ze (jN ?_)
 refine ZW Tryz.results50 (.tmp rfl) (.tmp rfl) ?_
 rw [Rd.shI_no hs1,Rd.shB_no hs1]
 exact rfl
namespace Rd
def inW (lo hi x:Int):Bool:=decide (lo≤x)&&decide (x≤hi)
theorem inW_in {m x lo hi:Int} (h:inW lo hi x=true) (e:lo=0∧hi+1=m):outB m x=false:=by
 unfold inW at h;unfold outB
 simp only [Bool.and_eq_true,decide_eq_true_eq] at h
 simp only [Bool.or_eq_false_iff,decide_eq_false_iff_not]
 omega
theorem inW_out {m x lo hi:Int} (h:inW lo hi x=false) (e:lo=0∧hi+1=m):outB m x=true:=by
 unfold inW at h;unfold outB
 simp only [Bool.and_eq_false_iff,decide_eq_false_iff_not] at h
 simp only [Bool.or_eq_true,decide_eq_true_eq]
 omega
variable {k:Nat}
theorem bel_bad (hk:k<xs.length) (h:outB m xs[k]=true):belB xs m=false:=by
 unfold belB
 rw [List.any_eq_true.2 ⟨_,List.getElem_mem hk,h⟩]
 rfl
theorem bel_all (hk:¬ k<xs.length) (h:noP xs (outB m) k):belB xs m=true:=by
 unfold belB
 rw [List.any_eq_false.2 fun x hx=>by
  obtain ⟨i,hi,rfl⟩:=List.mem_iff_getElem.1 hx
  simp [h i hi (by omega)]]
 rfl
def looseB (p:Fm):Bool:=decide (p.fzz=1)||decide (p.fzz=2)
theorem IsShape_c (hx:InOk xs) (hl:xs.length≤100):Ctr Tryz.prog J 57 [Zb xs] (bv (shp xs)):=ctr1 fun w v _ h =>
 (ZdR (YC hx (fun _ _=>Nat.zero_le _) h) (by omega)).mono fun e w' ⟨he,hw⟩=>ret_sc ⟨he,by rw [← hw];exact Below.refl _ _⟩
def badF (p:Fm) (x:Int):Bool := !decide (x=0) && !looseB p
theorem badF_z (h:x=0):badF p x=false:=by unfold badF;rw [decide_eq_true h];rfl
theorem badF_l (h:looseB p=true):badF p x=false:=by unfold badF;rw [h];simp
theorem badF_y (h:¬ x=0) (h':looseB p=false):badF p x=true:=by unfold badF;rw [decide_eq_false h,h'];rfl
theorem any_none {α:Type} {xs:List α} {q:α→Bool} (hk:¬ k<xs.length) (h:noP xs q k):xs.any q=false :=
 List.any_eq_false.2 fun x hx=>by
  obtain ⟨i,hi,rfl⟩:=List.mem_iff_getElem.1 hx
  simp [h i hi (by omega)]
theorem any_one {α:Type} {xs:List α} {q:α→Bool} (hk:k<xs.length) (h:q xs[k]=true):xs.any q=true:=List.any_eq_true.2 ⟨_,List.getElem_mem hk,h⟩
def rvB (p:Fm) (n f:Int) (c:Cf):Bool :=
 decide ((c.st.length:Int)=Ns.cntE p n f)&&belB c.st (p.sz.length:Int)&&decide (c.cor=n-f)&&(decide ((c.se.length:Int)=(p.msgs.length:Int))&&belB c.se 1048577) &&
 (decide ((c.fa.length:Int)=(p.msgs.length:Int))&&belB c.fa 1048577) && !c.fa.any (badF p)&&inW 0 (max 0 ((p.vals.length:Int)-1)) c.val &&
 (if p.top=4 then decide ((c.sh.length:Int)=n)&&shp c.sh else decide ((c.sh.length:Int)=0))
theorem val_tree (h:valE p=0) (ht:p.top=4):p.fzz=0:=by
 unfold valE at h
 split at h
 ·cases h
 split at h
 ·cases h
 split at h
 ·cases h
 split at h
 ·cases h
 split at h
 ·cases h
 split at h
 ·cases h
 rename_i g
 have h1:¬ cliB p=true:=fun e=>g (.inl ⟨by omega,e⟩)
 unfold cliB at h1
 simp at h1
 exact h1.2
theorem shp_any (h1:1≤n) (h8:n≤8) (sh:List Int):(Sh.shX n).any (fun x=>decide (sh=x))=(decide ((sh.length:Int)=n)&&shp sh):=by
 obtain ⟨m,rfl⟩:=Int.eq_ofNat_of_zero_le (show 0≤n by omega)
 rw [← Sh.shL_eq m (by omega) (by omega)]
 rw [Bool.eq_iff_iff]
 simp only [List.any_eq_true,decide_eq_true_eq,Bool.and_eq_true]
 constructor
 ·rintro ⟨x,hx,rfl⟩
  obtain ⟨e1,e2⟩:=shK_mem hx
  exact ⟨by omega,e2⟩
 rintro ⟨e1,e2⟩
 have e3:sh.length=m:=by omega
 have:=shL_count sh (by omega)
 rw [e3,if_pos e2] at this
 exact ⟨sh,List.count_pos_iff.1 (by omega),rfl⟩
theorem bel_split :belB xs (mfE p)=(belB xs 1048577 && !xs.any (badF p)):=by
 unfold mfE
 by_cases hl:looseB p=true
 ·have:p.fzz=1∨p.fzz=2:=by unfold looseB at hl;simpa using hl
  rw [if_pos this]
  have:xs.any (badF p)=false:=List.any_eq_false.2 fun x _=>by simp [badF_l hl]
  rw [this];simp
 have hl':looseB p=false:=by simpa using hl
 have:¬ (p.fzz=1∨p.fzz=2):=fun e=>hl (by unfold looseB;simpa using e)
 rw [if_neg this]
 unfold belB
 rw [Bool.eq_iff_iff]
 simp only [Bool.not_eq_true',List.any_eq_false,Bool.and_eq_true,outB,badF,hl',Bool.not_false,Bool.and_true,Bool.or_eq_true,decide_eq_true_eq,Bool.not_eq_true',decide_eq_false_iff_not,not_or,Decidable.not_not]
 constructor
 ·intro h
  exact ⟨fun x hx=>by have:=h x hx;omega,fun x hx=>by have:=h x hx;omega⟩
 rintro ⟨h1,h2⟩ x hx
 have:=h1 x hx;have:=h2 x hx;omega
variable {c:Cf}
theorem rv_rd (hs:Ns.sysE p n t f=0):rvB p n f c=rdX p n f c:=by
 obtain ⟨hv,ha,h8⟩:=Ns.sys_ok hs
 have hai:=Ns.adm_in ha
 have hval:inW 0 (max 0 ((p.vals.length:Int)-1)) c.val=(!decide (c.val<0) && !decide (max (p.vals.length:Int) 1≤c.val)):=by
  unfold inW
  rw [Bool.eq_iff_iff]
  simp only [Bool.and_eq_true,decide_eq_true_eq,Bool.not_eq_true',decide_eq_false_iff_not]
  omega
 have hsh:(if p.top=4 then decide ((c.sh.length:Int)=n)&&shp c.sh else decide ((c.sh.length:Int)=0))=shB p.top (Ns.shT p.top (Ns.cntE p n f)) c.sh:=by
  by_cases h4:p.top=4
  ·have hc:Ns.cntE p n f=n:=by unfold Ns.cntE;rw [if_neg (by have:=val_tree hv h4;omega)]
   rw [if_pos h4,Ns.shT_tree h4,hc]
   unfold shB
   rw [if_pos h4,shp_any hai.1 (by omega)]
  rw [if_neg h4,shB_no h4]
 unfold rvB rdX rdB
 rw [hsh,hval,bel_split]
 cases shB p.top (Ns.shT p.top (Ns.cntE p n f)) c.sh<;>simp [Bool.and_assoc]
 done
end Rd
theorem Rd.mf_t (h:Rd.looseB p=true):Rd.mfE p-1=1048576:=by
 unfold Rd.looseB at h
 rw [Bool.or_eq_true,decide_eq_true_iff,decide_eq_true_iff] at h
 unfold Rd.mfE;rw [if_pos h];rfl
theorem Rd.mf_in (p:Fm):1≤Rd.mfE p∧Rd.mfE p≤1048577:=by
 unfold Rd.mfE;split<;>omega
theorem Rd.mf_f (h:Rd.looseB p=false):Rd.mfE p-1=0:=by
 unfold Rd.looseB at h
 rw [Bool.or_eq_false_iff,decide_eq_false_iff_not,decide_eq_false_iff_not] at h
 unfold Rd.mfE;rw [if_neg (not_or.2 h)];rfl
abbrev YS (x0:Cf) (x1:Fm):List (Nat × ABlk):=[(1,.box 31 (Rd.cCg x0)),(2,.box 71 [iv 0,iv 0,iv 0,iv 0,iv 0,iv 0,iv 0,iv 0,iv 0,iv 0,iv 0,iv 0,iv 0,iv 0,iv 0,iv 0]),(3,.box 27 [sv x1.nm,iv x1.top,ZY x1.sz,ZY x1.msgs,ZY x1.vals,iv x1.fzz,slA 4 cLn x1.res,Zb x1.init,Zb x1.lz,slA 18 cRu x1.rz])]
abbrev XRd3_h2 (x0:Cf):List (Nat × ABlk):=[(1,.box 31 (Rd.cCg x0)),(2,.box 71 [iv 0,iv 0,iv 0,iv 0,iv 0,iv 0,iv 0,iv 0,iv 0,iv 0,iv 0,iv 0,iv 0,iv 0,iv 0,iv 0])]
abbrev XRd3_h3 (x0:Fm) (x1:Int) (x2:Int) (x3:Cf):List (Nat × AV):=[(3,bx 1),(4,bx 2),(5,bF),(7,iv (Rd.shI x0.top (Ns.shT x0.top (Ns.cntE x0 x1 x2)) x3.sh))]
abbrev Ze1:List (Nat × AV):=[(3,bx 1),(4,bx 2),(5,bF),(10,bx 4)]
abbrev W7 (x0:Fm) (x1:Int) (x2:Int) (x3:Cf):List (Nat × AV):=[(3,bx 1),(4,bx 2),(5,bF),(6,bx 3),(7,iv (Rd.shI x0.top (Ns.shT x0.top (Ns.cntE x0 x1 x2)) x3.sh))]
abbrev Zdb (x0:Fm) (x1:Int) (x2:Int) (x3:Cf):List (Nat × AV):=[(3,bx 1),(4,bx 2),(5,bF),(6,bx 3),(7,iv (Rd.shI x0.top (Ns.shT x0.top (Ns.cntE x0 x1 x2)) x3.sh)),(51,bT)]
variable {c:Cf}
set_option maxRecDepth 100000 in
set_option maxHeartbeats 6400000 in
theorem read_c (HC:Rd.CgOk c):Ctr Tryz.prog J 30 [.el (Ns.sysC p n t f) 0,.agg (Rd.cCg c)] (.tup [.agg (Rd.cfZ (Rd.rdY p n f c) (Rd.shI p.top (Ns.shT p.top (Ns.cntE p n f)) c.sh) c),bv (Rd.rdX p n f c)]):=by
 have hmf:=Rd.mf_in p
 refine Zm Tryz.func30 rfl (pN (show Plain (.el (Ns.sysC p n t f) 0) from .el (ZN (Ns.plain_sys p n t f))) (pN (Zh (Rd.plain_cg c)) pZ)) (n:=124) rfl (by simp) (fun w0 => ?_)
 refine kW 124 [] [(0,.el (Ns.sysC p n t f) 0),(1,.agg (Rd.cCg c))] (jB (oX 1 (.agg (Rd.cCg c)) (oZ 2 Z71 (oS bF (jD (Za (oW (oF (.el (Ns.sysC p n t f) 0) (oA (Zk (z:=10) (ds:=[sv p.nm,iv p.top,ZY p.sz,ZY p.msgs,ZY p.vals,iv p.fzz,slA 4 cLn p.res,Zb p.init,Zb p.lz,slA 18 cRu p.rz]) (.tmp 13) rfl U27 rfl (by kernel_rfl) (by kernel_rfl) rfl) I0 (oZ 3 Z27 (oY (kN 124 (YS c p) [(0,.el (Ns.sysC p n t f) 0),(3,bx 1),(4,bx 2),(5,bF),(6,bx 3)] (jC (Za (oW (oW (oW (oK (ZeG HC.sh HC.lsh) [.el (Ns.sysC p n t f) 0,Zb c.sh] rfl rfl (oS (.tup [iv (Rd.shI p.top (Ns.shT p.top (Ns.cntE p n f)) c.sh),bv (Rd.shB p.top (Ns.shT p.top (Ns.cntE p n f)) c.sh)]) ?_)))))))))))))))))))
 refine oW (oW (oS (iv (Rd.shI p.top (Ns.shT p.top (Ns.cntE p n f)) c.sh)) (oS (bv (Rd.shB p.top (Ns.shT p.top (Ns.cntE p n f)) c.sh)) (jD (Zl ?_)))))
 by_cases hs1:(Rd.shB p.top (Ns.shT p.top (Ns.cntE p n f)) c.sh)=true
 rw [hs1]
 refine kW 124 (YS c p) [(0,.el (Ns.sysC p n t f) 0),(3,bx 1),(4,bx 2),(5,bF),(6,bx 3),(7,iv (Rd.shI p.top (Ns.shT p.top (Ns.cntE p n f)) c.sh)),(8,bT)] ?_
 by_cases hs2:(c.st.length:Int)=(Ns.cntE p n f)
 by_cases hs3:(Rd.belB c.st (p.sz.length:Int))=true
 by_cases hs4:c.cor=(n-f)
 refine tD (dW (dW (dS bF (dW (dW (dW (dW (dW (dW (dW (dn (dT' hs2) (dW (dS bF (dW (dW (dW (dW (dW (dk (Zr (Yh c.st (Nat.le_trans HC.lst (by decide))) hs3) [Zb c.st,iv p.sz.length] rfl rfl (dW (dW (dS bF (dW (dW (dW (dW (dW (dW (dn (dT' hs4) (dS bF (eD ?_)))))))))))))))))))))))))))))))
 refine kW 124 (YS c p) [(3,bx 1),(4,bx 2),(5,bF),(6,bx 3),(7,iv (Rd.shI p.top (Ns.shT p.top (Ns.cntE p n f)) c.sh)),(51,bF)] (jJ (jM ?_))
 by_cases hs5:(c.se.length:Int)=(p.msgs.length:Int)
 by_cases hs6:(Rd.belB c.se 1048577)=true
 refine Za (oW (oW (oW (oW (oW (oW (on (dT' hs5) (oS bF (oW (oW (oK (Zr (Yh c.se (Nat.le_trans HC.lse (by decide))) hs6) [Zb c.se,iv 1048577] rfl rfl (oW (oS bF (jF (jB (oS (iv 0) (kN 124 (YS c p) [(3,bx 1),(4,bx 2),(5,bF),(6,bx 3),(7,iv (Rd.shI p.top (Ns.shT p.top (Ns.cntE p n f)) c.sh)),(9,iv 0)] (Ze ?_))))))))))))))))))
 refine jM ?_
 refine Ym (True) (ofL [(1,.box 31 (Rd.cCg c)),(2,.box 71 [iv 0,iv 0,iv 0,iv 0,iv 0,iv 0,iv 0,iv 0,iv 0,iv 0,iv 0,iv 0,iv 0,iv 0,iv 0,iv 0]),(3,.box 27 [sv p.nm,iv p.top,ZY p.sz,ZY p.msgs,ZY p.vals,iv p.fzz,slA 4 cLn p.res,Zb p.init,Zb p.lz,slA 18 cRu p.rz])]) (ofT 124 [(3,bx 1),(4,bx 2),(5,bF),(6,bx 3),(7,iv (Rd.shI p.top (Ns.shT p.top (Ns.cntE p n f)) c.sh)),(9,iv 0),(74,bv (Rd.looseB p))]) ?_ (fun _ => ?_)
 by_cases hs7:p.fzz=1
 refine Za (oW (oW (oe (dT hs7) (oS bT (qK (qK (qK (oS bT (kN 124 [(1,.box 31 (Rd.cCg c)),(2,.box 71 [iv 0,iv 0,iv 0,iv 0,iv 0,iv 0,iv 0,iv 0,iv 0,iv 0,iv 0,iv 0,iv 0,iv 0,iv 0,iv 0]),(3,.box 27 [sv p.nm,iv p.top,ZY p.sz,ZY p.msgs,ZY p.vals,iv p.fzz,slA 4 cLn p.res,Zb p.init,Zb p.lz,slA 18 cRu p.rz])] [(3,bx 1),(4,bx 2),(5,bF),(6,bx 3),(7,iv (Rd.shI p.top (Ns.shT p.top (Ns.cntE p n f)) c.sh)),(9,iv 0),(74,bT)] ?_)))))))))
 rw [show (Rd.looseB p)=true by simp only [Rd.looseB,hs7,decide_true,decide_false,Bool.true_or,Bool.false_or]]
 exact tM T0
 refine Za (oW (oW (oe (dF hs7) (oS bF (oF (iv p.fzz) (gC (ZF rfl rfl) I0 I0 (oS (bv (decide (p.fzz=2))) (kN 124 [(1,.box 31 (Rd.cCg c)),(2,.box 71 [iv 0,iv 0,iv 0,iv 0,iv 0,iv 0,iv 0,iv 0,iv 0,iv 0,iv 0,iv 0,iv 0,iv 0,iv 0,iv 0]),(3,.box 27 [sv p.nm,iv p.top,ZY p.sz,ZY p.msgs,ZY p.vals,iv p.fzz,slA 4 cLn p.res,Zb p.init,Zb p.lz,slA 18 cRu p.rz])] [(3,bx 1),(4,bx 2),(5,bF),(6,bx 3),(7,iv (Rd.shI p.top (Ns.shT p.top (Ns.cntE p n f)) c.sh)),(9,iv 0),(74,bv (decide (p.fzz=2)))] ?_))))))))
 rw [show (Rd.looseB p)=(decide (p.fzz=2)) by simp only [Rd.looseB,hs7,decide_true,decide_false,Bool.true_or,Bool.false_or]]
 exact tM T0
 refine Ze ?_
 refine Ym (True) (ofL (YS c p)) (ofT 124 [(3,bx 1),(4,bx 2),(5,bF),(6,bx 3),(7,iv (Rd.shI p.top (Ns.shT p.top (Ns.cntE p n f)) c.sh)),(9,iv (Rd.mfE p-1))]) ?_ (fun _ => ?_)
 by_cases hs8:(Rd.looseB p)=true
 rw [hs8]
 refine kW 124 [(1,.box 31 (Rd.cCg c)),(2,.box 71 [iv 0,iv 0,iv 0,iv 0,iv 0,iv 0,iv 0,iv 0,iv 0,iv 0,iv 0,iv 0,iv 0,iv 0,iv 0,iv 0]),(3,.box 27 [sv p.nm,iv p.top,ZY p.sz,ZY p.msgs,ZY p.vals,iv p.fzz,slA 4 cLn p.res,Zb p.init,Zb p.lz,slA 18 cRu p.rz])] [(3,bx 1),(4,bx 2),(5,bF),(6,bx 3),(7,iv (Rd.shI p.top (Ns.shT p.top (Ns.cntE p n f)) c.sh)),(9,iv 0),(74,bT)] (Ya rfl (Za (oS (iv 1048576) (kN 124 [(1,.box 31 (Rd.cCg c)),(2,.box 71 [iv 0,iv 0,iv 0,iv 0,iv 0,iv 0,iv 0,iv 0,iv 0,iv 0,iv 0,iv 0,iv 0,iv 0,iv 0,iv 0]),(3,.box 27 [sv p.nm,iv p.top,ZY p.sz,ZY p.msgs,ZY p.vals,iv p.fzz,slA 4 cLn p.res,Zb p.init,Zb p.lz,slA 18 cRu p.rz])] [(3,bx 1),(4,bx 2),(5,bF),(6,bx 3),(7,iv (Rd.shI p.top (Ns.shT p.top (Ns.cntE p n f)) c.sh)),(9,iv 1048576)] ?_))))
 rw [Rd.mf_t hs8]
 exact tM T0
 have hs8f:(Rd.looseB p)=false:=by simpa using hs8
 rw [hs8f]
 refine kW 124 [(1,.box 31 (Rd.cCg c)),(2,.box 71 [iv 0,iv 0,iv 0,iv 0,iv 0,iv 0,iv 0,iv 0,iv 0,iv 0,iv 0,iv 0,iv 0,iv 0,iv 0,iv 0]),(3,.box 27 [sv p.nm,iv p.top,ZY p.sz,ZY p.msgs,ZY p.vals,iv p.fzz,slA 4 cLn p.res,Zb p.init,Zb p.lz,slA 18 cRu p.rz])] [(3,bx 1),(4,bx 2),(5,bF),(6,bx 3),(7,iv (Rd.shI p.top (Ns.shT p.top (Ns.cntE p n f)) c.sh)),(9,iv 0),(74,bF)] (ZD rfl (Zq ?_))
 rw [Rd.mf_f hs8f]
 exact tM T0
 refine jC (Zl ?_)
 by_cases hs9:(c.fa.length:Int)=(p.msgs.length:Int)
 by_cases hs10:(Rd.belB c.fa ((Rd.mfE p-1)+1))=true
 refine Za (oW (oW (oW (oW (oW (oW (on (dT' hs9) (oS bF (oW (oW (oS (iv (Rd.mfE p-1)) (oV ((Rd.mfE p-1)+1) (oK (Zr (Yh c.fa (Nat.le_trans HC.lfa (by decide))) hs10) [Zb c.fa,iv ((Rd.mfE p-1)+1)] rfl rfl (oW (oS bF (jF (jM ?_)))))))))))))))))
 by_cases hs11:c.val<0
 refine Za (oW (oW (ol (dT hs11) (oS bT (qK (qK (qK (qK (qK (qK (qK (oS bT (jG (Yz rfl (YV [] #[.int .i64 0,.int .i64 0,.int .i64 0,.int .i64 0,.int .i64 0,.int .i64 0,.int .i64 0,.int .i64 0,.int .i64 0,.int .i64 0,.int .i64 0,.int .i64 0,.int .i64 0,.int .i64 0,.int .i64 0,.int .i64 0] rfl rfl (by kernel_rfl) rfl) T0 T0 T0 (oY (oS bF (kN 124 (XRd3_h2 c) (XRd3_h3 p n f c) (Ze (ZV ?_)))))))))))))))))))
 refine Zd ?_
 refine ZW Tryz.results30 (.cellS rfl rfl U71 rfl (z:=16) (by kernel_rfl) rfl (by decide)) (.tmp rfl) ?_
 rw [Int.sub_add_cancel] at hs10
 have hr:(Rd.rdX p n f c)=false:=by simp only [Rd.rdX,Rd.rdB,hs1,hs2,hs3,hs4,hs5,hs6,hs9,hs10,hs11,decide_true,decide_false,Bool.and_true,Bool.true_and,Bool.false_and,Bool.and_false,Bool.not_true,Bool.not_false,if_true,if_false,true_or,or_true,or_self,not_true_eq_false,not_false_eq_true,ite_true,ite_false,or_false,false_or]
 rw [show (Rd.rdY p n f c)=false from hr,hr]
 exact rfl
 by_cases hs12:(max (p.vals.length:Int) 1)≤c.val
 refine Za (oW (oW (ol (dF hs11) (oS bF (oW (oW (oW (oF (iv p.vals.length) (gC (Zdv (.tmp 99) (.const (.int .i64 1)) rfl) I0 I0 (oh (dT hs12) (oS bT (jG (Yz rfl (YV [] #[.int .i64 0,.int .i64 0,.int .i64 0,.int .i64 0,.int .i64 0,.int .i64 0,.int .i64 0,.int .i64 0,.int .i64 0,.int .i64 0,.int .i64 0,.int .i64 0,.int .i64 0,.int .i64 0,.int .i64 0,.int .i64 0] rfl rfl (by kernel_rfl) rfl) T0 T0 T0 (oY (oS bF (kN 124 (XRd3_h2 c) (XRd3_h3 p n f c) (Ze (jN ?_))))))))))))))))))
 refine ZW Tryz.results30 (.cellS rfl rfl U71 rfl (z:=16) (by kernel_rfl) rfl (by decide)) (.tmp rfl) ?_
 rw [Int.sub_add_cancel] at hs10
 have hr:(Rd.rdX p n f c)=false:=by simp only [Rd.rdX,Rd.rdB,hs1,hs2,hs3,hs4,hs5,hs6,hs9,hs10,hs11,hs12,decide_true,decide_false,Bool.and_true,Bool.true_and,Bool.false_and,Bool.and_false,Bool.not_true,Bool.not_false,if_true,if_false,true_or,or_true,or_self,not_true_eq_false,not_false_eq_true,ite_true,ite_false,or_false,false_or]
 rw [show (Rd.rdY p n f c)=false from hr,hr]
 exact rfl
 refine Za (oW (oW (ol (dF hs11) (oS bF (oW (oW (oW (oF (iv p.vals.length) (gC (Zdv (.tmp 99) (.const (.int .i64 1)) rfl) I0 I0 (oh (dF hs12) (oS bF (jF (jB (oS (iv (Rd.shI p.top (Ns.shT p.top (Ns.cntE p n f)) c.sh)) (oF (iv c.val) (oC (YV [(.tmp 104,.int .i64 (Rd.shI p.top (Ns.shT p.top (Ns.cntE p n f)) c.sh)),(.tmp 106,.int .i64 c.val)] #[.int .i64 (Rd.shI p.top (Ns.shT p.top (Ns.cntE p n f)) c.sh),.int .i64 0,.int .i64 0,.int .i64 0,.int .i64 0,.int .i64 0,.int .i64 0,.int .i64 0,.int .i64 0,.int .i64 0,.int .i64 0,.int .i64 0,.int .i64 0,.int .i64 0,.int .i64 0,.int .i64 c.val] rfl rfl (by kernel_rfl) rfl) I0 I0 (oZ 4 Z71 (oY ?_))))))))))))))))))
 refine kN 124 [(1,.box 31 (Rd.cCg c)),(2,.box 71 [iv 0,iv 0,iv 0,iv 0,iv 0,iv 0,iv 0,iv 0,iv 0,iv 0,iv 0,iv 0,iv 0,iv 0,iv 0,iv 0]),(4,.box 71 [iv (Rd.shI p.top (Ns.shT p.top (Ns.cntE p n f)) c.sh),iv 0,iv 0,iv 0,iv 0,iv 0,iv 0,iv 0,iv 0,iv 0,iv 0,iv 0,iv 0,iv 0,iv 0,iv c.val])] Ze1 (jC ?_)
 refine tD (dS (.box 4 1) (dA (Zak (z:=1) (.tmp 108) rfl U67 (by kernel_rfl)) I0 (dW (dS (Zb c.st) (dR (Zal (old:=[iv (Rd.shI p.top (Ns.shT p.top (Ns.cntE p n f)) c.sh),iv 0,iv 0,iv 0,iv 0,iv 0,iv 0,iv 0,iv 0,iv 0,iv 0,iv 0,iv 0,iv 0,iv 0,iv c.val]) (new:=[iv (Rd.shI p.top (Ns.shT p.top (Ns.cntE p n f)) c.sh),iv (c.st.getD 0 0),iv (c.st.getD 1 0),iv (c.st.getD 2 0),iv (c.st.getD 3 0),iv (c.st.getD 4 0),iv (c.st.getD 5 0),iv (c.st.getD 6 0),iv (c.st.getD 7 0),iv 0,iv 0,iv 0,iv 0,iv 0,iv 0,iv c.val]) c.st (.tmp 109) (.tmp 111) rfl U24 (by kernel_rfl) (by kernel_rfl) (by kernel_rfl) (by kernel_rfl)) ⟨I0,I0,T0⟩ ⟨rfl,T0⟩ rfl (eD ?_))))))
 refine kW 124 [(1,.box 31 (Rd.cCg c)),(2,.box 71 [iv 0,iv 0,iv 0,iv 0,iv 0,iv 0,iv 0,iv 0,iv 0,iv 0,iv 0,iv 0,iv 0,iv 0,iv 0,iv 0]),(4,.box 71 [iv (Rd.shI p.top (Ns.shT p.top (Ns.cntE p n f)) c.sh),iv (c.st.getD 0 0),iv (c.st.getD 1 0),iv (c.st.getD 2 0),iv (c.st.getD 3 0),iv (c.st.getD 4 0),iv (c.st.getD 5 0),iv (c.st.getD 6 0),iv (c.st.getD 7 0),iv 0,iv 0,iv 0,iv 0,iv 0,iv 0,iv c.val])] Ze1 (jC ?_)
 refine tD (dS (.box 4 9) (dA (Zak (z:=1) (.tmp 113) rfl U69 (by kernel_rfl)) I0 (dW (dS (Zb c.se) (dR (Zal (old:=[iv (Rd.shI p.top (Ns.shT p.top (Ns.cntE p n f)) c.sh),iv (c.st.getD 0 0),iv (c.st.getD 1 0),iv (c.st.getD 2 0),iv (c.st.getD 3 0),iv (c.st.getD 4 0),iv (c.st.getD 5 0),iv (c.st.getD 6 0),iv (c.st.getD 7 0),iv 0,iv 0,iv 0,iv 0,iv 0,iv 0,iv c.val]) (new:=[iv (Rd.shI p.top (Ns.shT p.top (Ns.cntE p n f)) c.sh),iv (c.st.getD 0 0),iv (c.st.getD 1 0),iv (c.st.getD 2 0),iv (c.st.getD 3 0),iv (c.st.getD 4 0),iv (c.st.getD 5 0),iv (c.st.getD 6 0),iv (c.st.getD 7 0),iv (c.se.getD 0 0),iv (c.se.getD 1 0),iv (c.se.getD 2 0),iv 0,iv 0,iv 0,iv c.val]) c.se (.tmp 114) (.tmp 116) rfl U24 (by kernel_rfl) (by kernel_rfl) (by kernel_rfl) (by kernel_rfl)) ⟨I0,I0,T0⟩ ⟨rfl,T0⟩ rfl (eD ?_))))))
 refine kW 124 [(1,.box 31 (Rd.cCg c)),(2,.box 71 [iv 0,iv 0,iv 0,iv 0,iv 0,iv 0,iv 0,iv 0,iv 0,iv 0,iv 0,iv 0,iv 0,iv 0,iv 0,iv 0]),(4,.box 71 [iv (Rd.shI p.top (Ns.shT p.top (Ns.cntE p n f)) c.sh),iv (c.st.getD 0 0),iv (c.st.getD 1 0),iv (c.st.getD 2 0),iv (c.st.getD 3 0),iv (c.st.getD 4 0),iv (c.st.getD 5 0),iv (c.st.getD 6 0),iv (c.st.getD 7 0),iv (c.se.getD 0 0),iv (c.se.getD 1 0),iv (c.se.getD 2 0),iv 0,iv 0,iv 0,iv c.val])] Ze1 (jC ?_)
 refine tD (dS (.box 4 12) (dA (Zak (z:=1) (.tmp 118) rfl U69 (by kernel_rfl)) I0 (dW (dS (Zb c.fa) (dR (Zal (old:=[iv (Rd.shI p.top (Ns.shT p.top (Ns.cntE p n f)) c.sh),iv (c.st.getD 0 0),iv (c.st.getD 1 0),iv (c.st.getD 2 0),iv (c.st.getD 3 0),iv (c.st.getD 4 0),iv (c.st.getD 5 0),iv (c.st.getD 6 0),iv (c.st.getD 7 0),iv (c.se.getD 0 0),iv (c.se.getD 1 0),iv (c.se.getD 2 0),iv 0,iv 0,iv 0,iv c.val]) (new:=[iv (Rd.shI p.top (Ns.shT p.top (Ns.cntE p n f)) c.sh),iv (c.st.getD 0 0),iv (c.st.getD 1 0),iv (c.st.getD 2 0),iv (c.st.getD 3 0),iv (c.st.getD 4 0),iv (c.st.getD 5 0),iv (c.st.getD 6 0),iv (c.st.getD 7 0),iv (c.se.getD 0 0),iv (c.se.getD 1 0),iv (c.se.getD 2 0),iv (c.fa.getD 0 0),iv (c.fa.getD 1 0),iv (c.fa.getD 2 0),iv c.val]) c.fa (.tmp 119) (.tmp 121) rfl U24 (by kernel_rfl) (by kernel_rfl) (by kernel_rfl) (by kernel_rfl)) ⟨I0,I0,T0⟩ ⟨rfl,T0⟩ rfl (eD ?_))))))
 refine kW 124 [(2,.box 71 [iv 0,iv 0,iv 0,iv 0,iv 0,iv 0,iv 0,iv 0,iv 0,iv 0,iv 0,iv 0,iv 0,iv 0,iv 0,iv 0]),(4,.box 71 [iv (Rd.shI p.top (Ns.shT p.top (Ns.cntE p n f)) c.sh),iv (c.st.getD 0 0),iv (c.st.getD 1 0),iv (c.st.getD 2 0),iv (c.st.getD 3 0),iv (c.st.getD 4 0),iv (c.st.getD 5 0),iv (c.st.getD 6 0),iv (c.st.getD 7 0),iv (c.se.getD 0 0),iv (c.se.getD 1 0),iv (c.se.getD 2 0),iv (c.fa.getD 0 0),iv (c.fa.getD 1 0),iv (c.fa.getD 2 0),iv c.val])] [(4,bx 2),(5,bF),(10,bx 4)] (jC (Za (oW (oY (oS bT (kN 124 [(2,.box 71 [iv (Rd.shI p.top (Ns.shT p.top (Ns.cntE p n f)) c.sh),iv (c.st.getD 0 0),iv (c.st.getD 1 0),iv (c.st.getD 2 0),iv (c.st.getD 3 0),iv (c.st.getD 4 0),iv (c.st.getD 5 0),iv (c.st.getD 6 0),iv (c.st.getD 7 0),iv (c.se.getD 0 0),iv (c.se.getD 1 0),iv (c.se.getD 2 0),iv (c.fa.getD 0 0),iv (c.fa.getD 1 0),iv (c.fa.getD 2 0),iv c.val])] [(4,bx 2),(5,bT)] (Ze (ZV ?_))))))))
 refine ZW Tryz.results30 (.cellS rfl rfl U71 rfl (z:=16) (by kernel_rfl) rfl (by decide)) (.tmp rfl) ?_
 rw [Int.sub_add_cancel] at hs10
 have hr:(Rd.rdX p n f c)=true:=by simp only [Rd.rdX,Rd.rdB,hs1,hs2,hs3,hs4,hs5,hs6,hs9,hs10,hs11,hs12,decide_true,decide_false,Bool.and_true,Bool.true_and,Bool.false_and,Bool.and_false,Bool.not_true,Bool.not_false,if_true,if_false,true_or,or_true,or_self,not_true_eq_false,not_false_eq_true,ite_true,ite_false,or_false,false_or]
 rw [show (Rd.rdY p n f c)=true from hr,hr]
 exact rfl
 have hs10f:(Rd.belB c.fa ((Rd.mfE p-1)+1))=false:=by simpa using hs10
 refine Za (oW (oW (oW (oW (oW (oW (on (dT' hs9) (oS bF (oW (oW (oS (iv (Rd.mfE p-1)) (oV ((Rd.mfE p-1)+1) (oK (Zr (Yh c.fa (Nat.le_trans HC.lfa (by decide))) hs10f) [Zb c.fa,iv ((Rd.mfE p-1)+1)] rfl rfl (oW (oS bT (jG (Yz rfl (YV [] #[.int .i64 0,.int .i64 0,.int .i64 0,.int .i64 0,.int .i64 0,.int .i64 0,.int .i64 0,.int .i64 0,.int .i64 0,.int .i64 0,.int .i64 0,.int .i64 0,.int .i64 0,.int .i64 0,.int .i64 0,.int .i64 0] rfl rfl (by kernel_rfl) rfl) T0 T0 T0 (oY (oS bF ?_)))))))))))))))))))
 refine kN 124 (YS c p) (W7 p n f c) (Ze (jN ?_))
 refine ZW Tryz.results30 (.cellS rfl rfl U71 rfl (z:=16) (by kernel_rfl) rfl (by decide)) (.tmp rfl) ?_
 rw [Int.sub_add_cancel] at hs10f
 have hr:(Rd.rdX p n f c)=false:=by simp only [Rd.rdX,Rd.rdB,hs1,hs2,hs3,hs4,hs5,hs6,hs9,hs10f,decide_true,decide_false,Bool.and_true,Bool.true_and,Bool.false_and,Bool.and_false,Bool.not_true,Bool.not_false,if_true,if_false,true_or,or_true,or_self,not_true_eq_false,not_false_eq_true,ite_true,ite_false,or_false,false_or]
 rw [show (Rd.rdY p n f c)=false from hr,hr]
 exact rfl
 refine Za (oW (oW (oW (oW (oW (oW (on (dF' hs9) (oS bT (qK (qK (qK (qK (qK (qK (oS bT (jG (Yz rfl (YV [] #[.int .i64 0,.int .i64 0,.int .i64 0,.int .i64 0,.int .i64 0,.int .i64 0,.int .i64 0,.int .i64 0,.int .i64 0,.int .i64 0,.int .i64 0,.int .i64 0,.int .i64 0,.int .i64 0,.int .i64 0,.int .i64 0] rfl rfl (by kernel_rfl) rfl) T0 T0 T0 (oY (oS bF ?_)))))))))))))))))))
 refine kN 124 (YS c p) (W7 p n f c) (Ze (jN ?_))
 refine ZW Tryz.results30 (.cellS rfl rfl U71 rfl (z:=16) (by kernel_rfl) rfl (by decide)) (.tmp rfl) ?_
 have hr:(Rd.rdX p n f c)=false:=by simp only [Rd.rdX,Rd.rdB,hs1,hs2,hs3,hs4,hs5,hs6,hs9,decide_true,decide_false,Bool.and_true,Bool.true_and,Bool.false_and,Bool.and_false,Bool.not_true,Bool.not_false,if_true,if_false,true_or,or_true,or_self,not_true_eq_false,not_false_eq_true,ite_true,ite_false,or_false,false_or]
 rw [show (Rd.rdY p n f c)=false from hr,hr]
 exact rfl
 have hs6f:(Rd.belB c.se 1048577)=false:=by simpa using hs6
 refine Za (oW (oW (oW (oW (oW (oW (on (dT' hs5) (oS bF (oW (oW (oK (Zr (Yh c.se (Nat.le_trans HC.lse (by decide))) hs6f) [Zb c.se,iv 1048577] rfl rfl (oW (oS bT (jG (Yz rfl (YV [] #[.int .i64 0,.int .i64 0,.int .i64 0,.int .i64 0,.int .i64 0,.int .i64 0,.int .i64 0,.int .i64 0,.int .i64 0,.int .i64 0,.int .i64 0,.int .i64 0,.int .i64 0,.int .i64 0,.int .i64 0,.int .i64 0] rfl rfl (by kernel_rfl) rfl) T0 T0 T0 (oY (oS bF (kN 124 (YS c p) (W7 p n f c) (Ze ?_)))))))))))))))))))
 refine jN ?_
 refine ZW Tryz.results30 (.cellS rfl rfl U71 rfl (z:=16) (by kernel_rfl) rfl (by decide)) (.tmp rfl) ?_
 have hr:(Rd.rdX p n f c)=false:=by simp only [Rd.rdX,Rd.rdB,hs1,hs2,hs3,hs4,hs5,hs6f,decide_true,decide_false,Bool.and_true,Bool.true_and,Bool.false_and,Bool.and_false,Bool.not_true,Bool.not_false,if_true,if_false,true_or,or_true,or_self,not_true_eq_false,not_false_eq_true,ite_true,ite_false,or_false,false_or]
 rw [show (Rd.rdY p n f c)=false from hr,hr]
 exact rfl
 refine Za (oW (oW (oW (oW (oW (oW (on (dF' hs5) (oS bT (qK (qK (qK (qK (oS bT (jG (Yz rfl (YV [] #[.int .i64 0,.int .i64 0,.int .i64 0,.int .i64 0,.int .i64 0,.int .i64 0,.int .i64 0,.int .i64 0,.int .i64 0,.int .i64 0,.int .i64 0,.int .i64 0,.int .i64 0,.int .i64 0,.int .i64 0,.int .i64 0] rfl rfl (by kernel_rfl) rfl) T0 T0 T0 (oY (oS bF (kN 124 (YS c p) (W7 p n f c) (Ze ?_)))))))))))))))))))
 refine jN ?_
 refine ZW Tryz.results30 (.cellS rfl rfl U71 rfl (z:=16) (by kernel_rfl) rfl (by decide)) (.tmp rfl) ?_
 have hr:(Rd.rdX p n f c)=false:=by simp only [Rd.rdX,Rd.rdB,hs1,hs2,hs3,hs4,hs5,decide_true,decide_false,Bool.and_true,Bool.true_and,Bool.false_and,Bool.and_false,Bool.not_true,Bool.not_false,if_true,if_false,true_or,or_true,or_self,not_true_eq_false,not_false_eq_true,ite_true,ite_false,or_false,false_or]
 rw [show (Rd.rdY p n f c)=false from hr,hr]
 exact rfl
 refine tD (dW (dW (dS bF (dW (dW (dW (dW (dW (dW (dW (dn (dT' hs2) (dW (dS bF (dW (dW (dW (dW (dW (dk (Zr (Yh c.st (Nat.le_trans HC.lst (by decide))) hs3) [Zb c.st,iv p.sz.length] rfl rfl (dW (dW (dS bF (dW (dW (dW (dW (dW (dW (dn (dF' hs4) (dS bT (eD ?_)))))))))))))))))))))))))))))))
 refine kW 124 (YS c p) (Zdb p n f c) (Ze (jK (Yz rfl (YV [] #[.int .i64 0,.int .i64 0,.int .i64 0,.int .i64 0,.int .i64 0,.int .i64 0,.int .i64 0,.int .i64 0,.int .i64 0,.int .i64 0,.int .i64 0,.int .i64 0,.int .i64 0,.int .i64 0,.int .i64 0,.int .i64 0] rfl rfl (by kernel_rfl) rfl) T0 T0 T0 (oY (oS bF (kN 124 (YS c p) (W7 p n f c) (Ze (jN ?_))))))))
 refine ZW Tryz.results30 (.cellS rfl rfl U71 rfl (z:=16) (by kernel_rfl) rfl (by decide)) (.tmp rfl) ?_
 have hr:(Rd.rdX p n f c)=false:=by simp only [Rd.rdX,Rd.rdB,hs1,hs2,hs3,hs4,decide_true,decide_false,Bool.and_true,Bool.true_and,Bool.false_and,Bool.and_false,Bool.not_true,Bool.not_false,if_true,if_false,true_or,or_true,or_self,not_true_eq_false,not_false_eq_true,ite_true,ite_false,or_false,false_or]
 rw [show (Rd.rdY p n f c)=false from hr,hr]
 exact rfl
 have hs3f:(Rd.belB c.st (p.sz.length:Int))=false:=by simpa using hs3
 refine tD (dW (dW (dS bF (dW (dW (dW (dW (dW (dW (dW (dn (dT' hs2) (dW (dS bF (dW (dW (dW (dW (dW (dk (Zr (Yh c.st (Nat.le_trans HC.lst (by decide))) hs3f) [Zb c.st,iv p.sz.length] rfl rfl (dW (dW (dS bT (dK (dK (dK (dK (dK (dK (dK (dS bT (eD ?_)))))))))))))))))))))))))))))))
 refine kW 124 (YS c p) (Zdb p n f c) (Ze (jK (Yz rfl (YV [] #[.int .i64 0,.int .i64 0,.int .i64 0,.int .i64 0,.int .i64 0,.int .i64 0,.int .i64 0,.int .i64 0,.int .i64 0,.int .i64 0,.int .i64 0,.int .i64 0,.int .i64 0,.int .i64 0,.int .i64 0,.int .i64 0] rfl rfl (by kernel_rfl) rfl) T0 T0 T0 (oY (oS bF (kN 124 (YS c p) (W7 p n f c) (Ze (jN ?_))))))))
 refine ZW Tryz.results30 (.cellS rfl rfl U71 rfl (z:=16) (by kernel_rfl) rfl (by decide)) (.tmp rfl) ?_
 have hr:(Rd.rdX p n f c)=false:=by simp only [Rd.rdX,Rd.rdB,hs1,hs2,hs3f,decide_true,decide_false,Bool.and_true,Bool.true_and,Bool.false_and,Bool.and_false,Bool.not_true,Bool.not_false,if_true,if_false,true_or,or_true,or_self,not_true_eq_false,not_false_eq_true,ite_true,ite_false,or_false,false_or]
 rw [show (Rd.rdY p n f c)=false from hr,hr]
 exact rfl
 refine tD (dW (dW (dS bF (dW (dW (dW (dW (dW (dW (dW (dn (dF' hs2) (dW (dS bT (dK (dK (dK (dK (dK (dK (dK (dW (dS bT (dK (dK (dK (dK (dK (dK (dK (dS bT (eD ?_)))))))))))))))))))))))))))))))
 refine kW 124 (YS c p) (Zdb p n f c) (Ze (jK (Yz rfl (YV [] #[.int .i64 0,.int .i64 0,.int .i64 0,.int .i64 0,.int .i64 0,.int .i64 0,.int .i64 0,.int .i64 0,.int .i64 0,.int .i64 0,.int .i64 0,.int .i64 0,.int .i64 0,.int .i64 0,.int .i64 0,.int .i64 0] rfl rfl (by kernel_rfl) rfl) T0 T0 T0 (oY (oS bF (kN 124 (YS c p) (W7 p n f c) (Ze (jN ?_))))))))
 refine ZW Tryz.results30 (.cellS rfl rfl U71 rfl (z:=16) (by kernel_rfl) rfl (by decide)) (.tmp rfl) ?_
 have hr:(Rd.rdX p n f c)=false:=by simp only [Rd.rdX,Rd.rdB,hs1,hs2,decide_true,decide_false,Bool.and_true,Bool.true_and,Bool.false_and,Bool.and_false,Bool.not_true,Bool.not_false,if_true,if_false,true_or,or_true,or_self,not_true_eq_false,not_false_eq_true,ite_true,ite_false,or_false,false_or]
 rw [show (Rd.rdY p n f c)=false from hr,hr]
 exact rfl
 have hs1f:(Rd.shB p.top (Ns.shT p.top (Ns.cntE p n f)) c.sh)=false:=by simpa using hs1
 rw [hs1f]
 refine kW 124 (YS c p) [(0,.el (Ns.sysC p n t f) 0),(3,bx 1),(4,bx 2),(5,bF),(6,bx 3),(7,iv (Rd.shI p.top (Ns.shT p.top (Ns.cntE p n f)) c.sh)),(8,bF)] ?_
 refine tD (dW (dW (dS bT (dK (dK (dK (dK (dK (dK (dK (dK (dW (dS bT (dK (dK (dK (dK (dK (dK (dK (dW (dS bT (dK (dK (dK (dK (dK (dK (dK (dS bT (eD ?_)))))))))))))))))))))))))))))))
 refine kW 124 (YS c p) (Zdb p n f c) (Ze (jK (Yz rfl (YV [] #[.int .i64 0,.int .i64 0,.int .i64 0,.int .i64 0,.int .i64 0,.int .i64 0,.int .i64 0,.int .i64 0,.int .i64 0,.int .i64 0,.int .i64 0,.int .i64 0,.int .i64 0,.int .i64 0,.int .i64 0,.int .i64 0] rfl rfl (by kernel_rfl) rfl) T0 T0 T0 (oY (oS bF (kN 124 (YS c p) (W7 p n f c) (Ze (jN ?_))))))))
 refine ZW Tryz.results30 (.cellS rfl rfl U71 rfl (z:=16) (by kernel_rfl) rfl (by decide)) (.tmp rfl) ?_
 have hr:(Rd.rdX p n f c)=false:=by simp only [Rd.rdX,Rd.rdB,hs1f,decide_true,decide_false,Bool.and_true,Bool.true_and,Bool.false_and,Bool.and_false,Bool.not_true,Bool.not_false,if_true,if_false,true_or,or_true,or_self,not_true_eq_false,not_false_eq_true,ite_true,ite_false,or_false,false_or]
 rw [show (Rd.rdY p n f c)=false from hr,hr]
 exact rfl
section
variable {P:Program} {w0:Wb} {h:AHeap} {t:ATm}
theorem Ky {fn:Func} {r r' r'':ResultVar} {X X' X'' u:AV} (hr:fn.results = #[r,r',r'']) (h1:ResV P h t r X) (h2:ResV P h t r' X') (h3:ResV P h t r'' X'') (hu:(AV.tup [X,X',X'']).out3 h=u):ETri J w0 h t (bodyPost P fn (RetP w0 u) .ret):=fun ρ a w s=>by
 subst hu
 obtain ⟨v,g1,g2⟩:=Y5 s h1
 obtain ⟨v',g1',g2'⟩:=Y5 s h2
 obtain ⟨v'',g1'',g2''⟩:=Y5 s h3
 refine ⟨s.df,.tuple #[v,v',v''],?_,_,rfl,s.out3 (.tup rfl fun j hj => ?_),s.bel⟩
 ·unfold results
  rw [hr,Sem.run_bind,Zcm (v:=v) (v':=v') (v'':=v'') (by cases r<;>exact g1) (by cases r'<;>exact g1') (by cases r''<;>exact g1'')]
  rfl
 simp only [List.length_cons,List.length_nil] at hj
 match j,hj with
 | 0,_=>exact g2
 | 1,_=>exact g2'
 | 2,_=>exact g2''
end
end Go.Proofs.YtdbehgbggaaipaaGreat
