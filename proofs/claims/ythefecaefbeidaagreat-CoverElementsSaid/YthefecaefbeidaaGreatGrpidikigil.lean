import Derived.Test.YthefecaefbeidaaGreatProg
import Derived.ChangeArms
import Derived.Test.YthefecaefbeidaaGreatGrpjkgmfpnm
import Derived.Test.YthefecaefbeidaaGreatGrpleephdgi
import Derived.Test.YthefecaefbeidaaGreatGrpklfkjebk
import Derived.Test.YthefecaefbeidaaGreatGrpgojjocei
import Derived.Test.YthefecaefbeidaaGreatGrpacmcpece
import Derived.Test.YthefecaefbeidaaGreatGrpkapnohjd
set_option linter.all false
namespace Go.Proofs.YthefecaefbeidaaGreat
open Go.RowKit Go.Deep
def hasKn (H:HM) (k:Nat):Bool:=(H.get k).isSome
def nmKn (H:HM):CV→Bool
 | .v _=>true
 | .p k _=>hasKn H k
 | .s k _ _ _=>hasKn H k
 | .g k _ _=>hasKn H k
 | .mp k=>hasKn H k
 | .e=>true
 | .any=>true
 | _=>false
def nmOk2 (H:HM):CV→Bool
 | .agg cs=>cs.all (nmKn H)
 | X=>nmKn H X
def blkOk (H:HM):CB→Bool
 | .cells _ _ _ _ cs=>cs.all (nmKn H)
 | .sit _ _=>true
 | .map _ _=>false
def Agree (H:HM) (ρ ρ':Nms):Prop:=∀ k X,H.get k=some X→ρ' k=ρ k
variable {x:Value}
theorem ZbE {H:HM} {ρ ρ':Nms} (h:Agree H ρ ρ') {X:CV} (hX:nmKn H X=true) (hx:Rv ρ X x):Rv ρ' X x:=by
 have key:∀ k,hasKn H k=true→ρ' k=ρ k:=fun k hk=>by
  obtain ⟨Y,hY⟩:=Option.isSome_iff_exists.1 hk
  exact h k Y hY
 cases hx with
 | v x=>exact .v x
 | p hq=>exact .p ((key _ hX).trans hq)
 | s hq=>exact .s ((key _ hX).trans hq)
 | g hq=>exact .g ((key _ hX).trans hq)
 | e ha=>exact .e ha
 | mp hq=>exact .mp ((key _ hX).trans hq)
 | any x=>exact .any x
 | agg=>cases hX
 | tup=>cases hX
 | clo=>cases hX
 | ifc=>cases hX
theorem agree_nm2 {H:HM} {ρ ρ':Nms} (h:Agree H ρ ρ') {X:CV} (hX:nmOk2 H X=true) (hx:Rv ρ X x):Rv ρ' X x:=by
 cases X with
 | agg cs =>
   obtain ⟨vs,rfl,h1,h2⟩:=hx.agg_inv
   exact .agg h1 fun j hj=>ZbE h (List.all_eq_true.1 hX _ (List.getElem_mem hj)) (h2 j hj)
 | _=>refine ZbE h ?_ hx;exact hX
variable {w:World}
theorem Zcw {H:HM} {ρ ρ':Nms} (h:Agree H ρ ρ') {X:CB} (hX:blkOk H X=true) {q:Pl} (hx:BlkC ρ w q X):BlkC ρ' w q X:=by
 cases X with
 | cells T z n ex cs =>
   obtain ⟨cur,h1,h2⟩:=hx
   exact ⟨cur,h1,h2.len,h2.size,h2.le,h2.max,h2.ex,h2.zz,h2.z0,fun j hj=>ZbE h (List.all_eq_true.1 hX _ (List.getElem_mem hj)) (h2.h j hj)⟩
 | sit s pos=>exact hx
 | map es clock=>cases hX
structure Kn where
 g:FuncId
 args:List CV
 H:HM
 L:List Nat
 u:Value
def KnS (P:Program) (kn:Kn):Prop:=∀ (c:Ctx) (ρ:Nms) (H:HM) (w:World) (vs:Array Value),HSat c ρ H w→(∀ k X,kn.H.get k=some X→H.get k=some X)→vs.size=kn.args.length→(∀ j (hj:j<kn.args.length),Rv ρ kn.args[j] (vs.getD j undef)) →
 Calls P kn.g vs w fun e w'=>e = .returned kn.u∧HSat c ρ H w'
def goodKn (kn:Kn) (r:Res):Bool:=match r with
 | some (.v x,H1,_)=>sameV x kn.u&&(kn.L.all (fun k=>match kn.H.get k,H1.get k with | some X,some Y=>sameB X Y&&blkOk kn.H X | none,_=>true | _,none=>false)&&kn.args.all (nmOk2 kn.H))
 | _=>false
variable {P:Program}{nx:Nat}
theorem kn_sp {call:CallF} (hC:CallS P call) {kn:Kn} (hL:∀ k X,kn.H.get k=some X→k∈kn.L) (hn:∀ k X,kn.H.get k=some X→k<nx) (h:goodKn kn (call kn.g kn.args kn.H nx)=true):KnS P kn:=by
 intro c ρ H w vs hh hsub hl hv
 cases hr:call kn.g kn.args kn.H nx with
 | none=>rw [hr] at h;cases h
 | some r =>
   obtain ⟨u,H1,nx1⟩:=r
   rw [hr] at h
   cases u with
   | v x =>
     simp only [goodKn,Bool.and_eq_true] at h
     obtain ⟨h1,h2,h3⟩:=h
     have h1:=sameV_sp h1
     subst h1
     have hkeep:∀ k X,kn.H.get k=some X→H1.get k=some X∧blkOk kn.H X=true:=fun k X hk=>by
      have:=List.all_eq_true.1 h2 k (hL k X hk)
      rw [hk] at this
      split at this
      ·rename_i a b e1 e2
       cases e1
       rw [Bool.and_eq_true] at this
       rw [Zbk this.1]
       exact ⟨e2,by rw [← Zbk this.1];exact this.2⟩
      ·rename_i e;cases e
      cases this
     -- only the names that are there
     let ρr:Nms:=fun k=>if hasKn kn.H k=true then ρ k else none
     have hag:Agree kn.H ρ ρr:=fun k X hk=>if_pos (show (kn.H.get k).isSome=true by rw [hk];rfl)
     have hre:∀ k q,ρr k=some q→hasKn kn.H k=true∧ρ k=some q:=fun k q hk=>by
      by_cases e:hasKn kn.H k=true
      ·exact ⟨e,by have:ρr k=ρ k:=if_pos e;rw [← this];exact hk⟩
      have:ρr k=none:=if_neg e
      rw [this] at hk;cases hk
     have hs:HSatF (ctxOf w ρ kn.H.get) ρr kn.H.get w:=by
      have hp:=hh.part hsub
      exact ⟨fun j k X Y p q hj hk hp' hq' e=>hh.inj j k X Y p q (hsub _ _ hj) (hsub _ _ hk) (hre _ _ hp').2 (hre _ _ hq').2 e,fun k q hk=>hh.lo k q (hre k q hk).2,fun k X hk=>by
       obtain ⟨q,g1,g2,g3⟩:=hp.hp k X hk
       exact ⟨q,(hag k X hk).trans g1,g2,Zcw hag (hkeep k X hk).2 g3⟩,rfl,rfl,rfl,Nat.le_refl _,fun _ _ _=>rfl⟩
     refine (hC kn.g kn.args kn.H nx _ _ _ hr (ctxOf w ρ kn.H.get) ρr w vs hs hl (fun j hj=>agree_nm2 hag (List.all_eq_true.1 h3 _ (List.getElem_mem hj)) (hv j hj)) fun k k1 _ => ?_).mono fun e w' ⟨ρ',v,he,p⟩=>⟨by rw [he,p.re.v_inv],?_⟩
     ·refine if_neg fun e => ?_
      obtain ⟨X,hX⟩:=Option.isSome_iff_exists.1 e
      have:=hn k X hX
      omega
     have hag':Agree kn.H ρ' ρ:=fun k X hk=>by
      obtain ⟨q,g1,_,_⟩:=hs.hp k X hk
      rw [p.ext k q g1,← hag k X hk,g1]
     refine ⟨hh.inj,fun k q hk=>Nat.lt_of_lt_of_le (hh.lo k q hk) p.hs.size,fun k X hk => ?_,p.hs.os.trans hh.os,p.hs.tape.trans hh.tape,p.hs.output.trans hh.output,Nat.le_trans hh.size p.hs.size,fun b hb hO => ?_⟩
     ·obtain ⟨q,g1,g2,g3⟩:=hh.hp k X hk
      refine ⟨q,g1,g2,?_⟩
      cases hkk:kn.H.get k with
      | some Y =>
        have:=hsub k Y hkk
        rw [hk] at this;cases this
        obtain ⟨q',f1,_,f3⟩:=p.hs.hp k X (hkeep k X hkk).1
        have e2:ρ k=ρ' k:=hag' k X hkk
        rw [f1,g1] at e2;cases e2
        exact Zcw hag' (hkeep k X hkk).2 f3
      | none =>
        refine g3.ext (.refl ρ) (p.hs.keep q.b (hh.lo k q g1) ?_)
        rintro ⟨k0,X0,q0,a1,a2,a3⟩
        have:=hh.inj k0 k X0 X q0 q (hsub _ _ a1) hk a2 g1 a3
        subst this
        rw [a1] at hkk;cases hkk
     have hlt:b<w.heap.size:=Nat.lt_of_lt_of_le hb hh.size
     rw [p.hs.keep b hlt ?_]
     ·exact hh.keep b hb hO
     rintro ⟨k0,X0,q0,a1,a2,a3⟩
     obtain ⟨q',f1,f2,_⟩:=hh.hp k0 X0 (hsub _ _ a1)
     rw [a2] at f1;cases f1
     rcases f2 with f2 | f2
     ·omega
     exact hO (by rw [← a3];exact f2)
   | _=>cases h
def fitsKn (kn:Kn) (g:FuncId) (args:List CV) (H:HM):Bool:=Nat.beq kn.g g&&(sameDs kn.args args&&kn.L.all fun k=>keptK kn.H H k)
def tabK:List Kn→CallF→CallF
 | [],call=>call
 | kn::l,call=>fun g args H nx=>match fitsKn kn g args H with
   | true=>some (.v kn.u,H,nx)
   | false=>tabK l call g args H nx
theorem tabK_sp {P:Program}:∀ (l:List Kn),(∀ kn∈l,KnS P kn∧∀ k X,kn.H.get k=some X→k∈kn.L)→∀ call,CallS P call→CallS P (tabK l call)
 | [],_,call,hC=>hC
 | kn::l,hl,call,hC=>by
   have ih:=tabK_sp l (fun k hk=>hl k (List.mem_cons_of_mem _ hk)) call hC
   intro g args H nx u H' nx' h c ρ w vs hh hs hv hf
   have e:tabK (kn::l) call g args H nx=match fitsKn kn g args H with
    | true=>some (.v kn.u,H,nx)
    | false=>tabK l call g args H nx:=rfl
   rw [e] at h
   cases hb:fitsKn kn g args H with
   | true =>
     rw [hb] at h
     cases h
     obtain ⟨k1,k2⟩:=hl kn List.mem_cons_self
     unfold fitsKn at hb
     rw [Bool.and_eq_true,Bool.and_eq_true] at hb
     obtain ⟨b1,b2,b3⟩:=hb
     have b1:=Nat.eq_of_beq_eq_true b1
     have b2:=ZbV b2
     subst b1;subst b2
     refine (k1 c ρ H w vs hh (fun k X hk=>keptK_sp (List.all_eq_true.1 b3 k (k2 k X hk)) hk) hs hv).mono fun e w' ⟨he,hs'⟩=>⟨ρ,kn.u,he,.refl ρ,fun k h h'=>absurd h h',hs',.v _⟩
   | false =>
     rw [hb] at h
     exact ih g args H nx u H' nx' h c ρ w vs hh hs hv hf
def uOf:Res→CV
 | some (u,_,_)=>u
 | none => .any
def hOf:Res→HM
 | some (_,H,_)=>H
 | none => .lf
def isTrueR:Res→Bool
 | some (.v (.bool true),_,_)=>true
 | _=>false
theorem isTrueR_sp {r:Res} (h:isTrueR r=true):∃ H nx,r=some (.v (.bool true),H,nx):=by
 unfold isTrueR at h
 split at h
 ·exact ⟨_,_,rfl⟩
 cases h
def lineK (g:FuncId) (args:List CV) (H:HM) (L:List Nat) (u:Value):Kn:=⟨g,args,subK H L .lf,L,u⟩
def KnOk (P:Program) (kn:Kn):Prop:=KnS P kn∧∀ k X,kn.H.get k=some X→k∈kn.L
variable {u:Value}
theorem Zc2 {call:CallF} (hC:CallS P call) {g:FuncId} {args:List CV} {H:HM} {L:List Nat} (h1:L.all (fun k=>Nat.blt k nx)=true) (h:goodKn (lineK g args H L u) (call g args (subK H L .lf) nx)=true):KnOk P (lineK g args H L u):=by
 have hL:∀ k X,(lineK g args H L u).H.get k=some X→k∈L:=fun k X hk=>(ZaM hk).1
 exact ⟨kn_sp hC hL (fun k X hk=>Nat.le_of_ble_eq_true (List.all_eq_true.1 h1 k (hL k X hk))) h,hL⟩
theorem tab_ok {l:List Kn} (h:∀ kn∈l,KnOk P kn):∀ call,CallS P call→CallS P (tabK l call):=tabK_sp l h
theorem id_ok :∀ call,CallS P call→CallS P (id call):=fun _ h=>h
namespace Cv
def mtx (P:Program) (N:Nat) (H:HM):Res:=kallK P id 100 42 [] H N
def exc (P:Program) (N:Nat) (H:HM):Res:=kallK P id 100 43 [] H N
def lineV (P:Program) (N:Nat):Kn:=lineK 115 [uOf (mtx P N .lf)] (hOf (mtx P N .lf)) [N+1,N+2,N+3,N+4] (.int .i64 0)
def ints (l:List Int):CB := .cells 3 1 l.length false (l.map fun n => .v (.int .i64 n))
def vi (n:Int):CV := .v (.int .i64 n)
def hBas (P:Program) (N b:Nat):HM:=((((((hOf (exc P (N+5) (hOf (mtx P N .lf)))).set b (some (.cells 29 2 4 true [vi 0,.g (b+3) 0 3,vi 0,.g (b+6) 0 3,vi 0,.g (b+9) 0 3,vi 1,.g (b+12) 0 3]))).set (b+3) (some (ints [0,0,2]))).set (b+6) (some (ints [0,1,1]))).set (b+9) (some (ints [1,0,1]))).set (b+12) (some (ints [0,0,2])))
def lineB (P:Program) (N b:Nat):Kn:=lineK 44 [uOf (mtx P N .lf),uOf (exc P (N+5) .lf),.s b 0 4 4] (hBas P N b) [N+1,N+2,N+3,N+4,N+6,N+7,b,b+3,b+6,b+9,b+12] (.bool true)
theorem mixed:Tryz.prog.follows .mixedOrders=true:=by kernel_rfl
set_option maxRecDepth 1000000 in
theorem v0:KnOk Tryz.prog (lineV Tryz.prog 0):=Zc2 (WX mixed id_ok 2000) (nx:=5) (by kernel_rfl) (by kernel_rfl)
set_option maxRecDepth 1000000 in
theorem v1:KnOk Tryz.prog (lineV Tryz.prog 956):=Zc2 (WX mixed id_ok 2000) (nx:=961) (by kernel_rfl) (by kernel_rfl)
theorem tab1:∀ call,CallS Tryz.prog call→CallS Tryz.prog (tabK [lineV Tryz.prog 956] call):=tab_ok fun kn h=>by simp at h;subst h;exact v1
set_option maxRecDepth 1000000 in
theorem bas:KnOk Tryz.prog (lineB Tryz.prog 956 909):=Zc2 (WX mixed tab1 2000) (nx:=964) (by kernel_rfl) (by kernel_rfl)
theorem tab2:∀ call,CallS Tryz.prog call→CallS Tryz.prog (tabK [lineV Tryz.prog 0,lineB Tryz.prog 956 909] call):=tab_ok fun kn h=>by
 simp at h
 rcases h with rfl | rfl
 ·exact v0
 exact bas
set_option maxRecDepth 1000000 in
theorem sane_run:isTrueR (kallK Tryz.prog (tabK [lineV Tryz.prog 0,lineB Tryz.prog 956 909]) 2000 8 [] .lf 0)=true:=by kernel_rfl
theorem sane_c {J:World→Prop}:Ctr Tryz.prog J 8 [] (.v (.bool true)):=by
 obtain ⟨H,nx,h⟩:=isTrueR_sp sane_run
 exact ctr_closed (WX mixed tab2 2000) h
end Cv
variable {J:World→Prop}
variable {q:Fm}
set_option maxRecDepth 100000 in
set_option maxHeartbeats 6400000 in
theorem lawCvEl_c (HQ:FmOk q) {a b:Em} (HA:EmIn a) (HB:EmIn b):Ctr Tryz.prog J 3 [.agg (cFm q),.agg (cEm a),.agg (cEm b)] bT:=by
 refine Zn Tryz.func3 rfl (pN (Zm (Z0 q)) (pN (Zm (ZV a)) (pN (Zm (ZV b)) pZ))) (n:=47) rfl (by simp) (fun w0 => ?_)
 refine kW 47 [] [(0,.agg (cFm q)),(1,.agg (cEm a)),(2,.agg (cEm b))] (jB (oX 1 (.agg (cFm q)) (oX 2 (.agg (cEm a)) (oX 3 (.agg (cEm b)) (oS bF (jD (Zk ?_)))))))
 by_cases hs1:(Cv.wideE [a,b])=true
 refine Za (oS (.agg (cEm a)) (oS (.agg (cEm b)) (Zaz rfl (Wc (z:=2) (k:=4) (fr:=false) (cs:=[iv a.v,Zc a.c,iv b.v,Zc b.c]) [.tmp 7,.tmp 8] [.agg (cEm a),.agg (cEm b)] rfl U31 (by kernel_rfl) (by decide) (by decide) rfl rfl rfl (by kernel_rfl) (by decide) (fun h=>Bool.noConfusion h) (by kernel_rfl)) ⟨I0,I0,T0⟩ T0 rfl (Zaz rfl (sc #[.tmp 9] [(4,.row false 29 2 2 ([iv a.v,Zc a.c,iv b.v,Zc b.c]))] (Zj (wide_c [a,b] (by simp) (fun e he=>by simp at he;rcases he with rfl | rfl;exact HA.l;exact HB.l)) hs1) [.own 4] rfl rfl rfl) ⟨I0,I0,T0⟩ ⟨rfl,T0⟩ T0 (jG (oK (Cv.sane_c) [] rfl rfl (oS bT (jE (Zb ?_)))))))))
 refine Zd Tryz.results3 (.tmp rfl) ?_
 exact rfl
 have hs1f:(Cv.wideE [a,b])=false:=by simpa using hs1
 refine Za (oS (.agg (cEm a)) (oS (.agg (cEm b)) (Zaz rfl (Wc (z:=2) (k:=4) (fr:=false) (cs:=[iv a.v,Zc a.c,iv b.v,Zc b.c]) [.tmp 7,.tmp 8] [.agg (cEm a),.agg (cEm b)] rfl U31 (by kernel_rfl) (by decide) (by decide) rfl rfl rfl (by kernel_rfl) (by decide) (fun h=>Bool.noConfusion h) (by kernel_rfl)) ⟨I0,I0,T0⟩ T0 rfl (Zaz rfl (sc #[.tmp 9] [(4,.row false 29 2 2 ([iv a.v,Zc a.c,iv b.v,Zc b.c]))] (Zj (wide_c [a,b] (by simp) (fun e he=>by simp at he;rcases he with rfl | rfl;exact HA.l;exact HB.l)) hs1f) [.own 4] rfl rfl rfl) ⟨I0,I0,T0⟩ ⟨rfl,T0⟩ T0 (jF (Zk ?_))))))
 refine tD (dW (dW (dk (ZaE HQ (WQ HA hs1f)) [.agg (cFm q),.agg (cEm a)] rfl rfl (dW (dW (dk (Zak HQ (WQ HA hs1f)) [.agg (cFm q),.agg (cEm a)] rfl rfl (dC (ZM rfl (dT rfl)) I0 I0 (dS bT (dW (dW (dk (Leq_c (WQ HA hs1f) (em_okB HB hs1f)) [.agg (cEm a),.agg (cEm b)] rfl rfl (dW (dW (dk (rLeq_c (WQ HA hs1f) (em_okB HB hs1f)) [.agg (cEm a),.agg (cEm b)] rfl rfl (dC (sp_beql rfl U4 (beq_self_eq_true _)) I0 I0 (dW (dS bT (dW (dW (dk (Compare_c (WQ HA hs1f) (em_okB HB hs1f)) [.agg (cEm a),.agg (cEm b)] rfl rfl (dW (dW (dk (ZcT (WQ HA hs1f) (em_okB HB hs1f)) [.agg (cEm a),.agg (cEm b)] rfl rfl (dC (ZM rfl (dT rfl)) I0 I0 (dW (dS bT (dW (dk (Total_c (WQ HA hs1f)) [.agg (cEm a)] rfl rfl (dW (dk (rTotal_c (WQ HA hs1f)) [.agg (cEm a)] rfl rfl (dC (ZM rfl (dT rfl)) I0 I0 (dW (dS bT (dk (Cv.sane_c) [] rfl rfl (dW (dS bT (eD ?_)))))))))))))))))))))))))))))))))))))
 refine Zi (YG ?_)
 refine Zd Tryz.results3 (.tmp rfl) ?_
 exact rfl
theorem em_pu {xs:List Int} {c:Int} (H:IsInts 0 w u xs):Pu (fun _=>True) w (fun b=>b<w.heap.size) (.agg (cEm ⟨c,xs⟩)) (.agg #[.int .i64 c,u]) :=
 .agg rfl fun j hj=>match j,hj with
  | 0,_ => .v _
  | 1,_=>Y2 (fun _ _ h=>h) H
variable {v:Value}
theorem K8 {c1 c2:Int} {u1 u2:Value} {xs1 xs2:List Int} (w:World) (hq:IsFam 0 w v q) (b1:I64 c1) (h1:IsInts 0 w u1 xs1) (b2:I64 c2) (h2:IsInts 0 w u2 xs2) :
 Calls Tryz.prog 3 #[v,.agg #[.int .i64 c1,u1],.agg #[.int .i64 c2,u2]] w fun e w'=>e = .returned (.bool true)∧Below w.heap.size w w' :=
 (lawCvEl_c (J:=fun _=>True) hq.ok (a:=⟨c1,xs1⟩) (b:=⟨c2,xs2⟩) ⟨b1,h1.ok,h1.len⟩ ⟨b2,h2.ok,h2.len⟩ w #[v,.agg #[.int .i64 c1,u1],.agg #[.int .i64 c2,u2]] (fun _ _=>T0) rfl fun j hj=>(match j,hj with
  | 0,_=>famw hq
  | 1,_=>em_pu h1
  | 2,_=>em_pu h2)).mono fun _ _ ⟨_,he,hp,hb⟩=>⟨by rw [he,hp.v_inv],hb⟩
end Go.Proofs.YthefecaefbeidaaGreat
namespace Go.Proofs.YthefecaefbeidaaGreat
open Go.RowKit Go.Deep Go.ChangeShapes Go.WideShapes Go.ChangeAt Go.Joins
theorem ZaI:Tryz.prog.cellsOf 3=1:=by kernel_rfl
theorem ZcF:Tryz.prog.cellsOf 24=1:=by kernel_rfl
variable {w:World}{base n:Nat}{held:Bool}{v:Value}
set_option maxRecDepth 100000 in
theorem ZbJ {H:Type} {enc:TypeId × Value→H} {sp:Nat→Bool} {x:DataW H × List MemPlace} (h:DataW.trod enc Tryz.prog w base sp held n 3 [v]=some x):∃ c,v = .int .i64 c∧I64 c:=by
 obtain ⟨c,e1,_,e3⟩:=DataW.trod_int Tryz.underlying3 h
 simp at e1
 exact ⟨c,e1,I64.of_wf e3⟩
theorem cells_elem:Tryz.prog.cellsOf 29=2:=by kernel_rfl
set_option maxRecDepth 100000 in
theorem Zcl {H:Type} {enc:TypeId × Value→H} {sp:Nat→Bool} {cs:List Value} {x:DataW H × List MemPlace} (h:DataW.trod enc Tryz.prog w base sp held n 29 cs=some x) :
 ∃ c0 u1 xs1,cs=[.int .i64 c0,u1]∧I64 c0∧IsInts 0 w u1 xs1:=by
 obtain ⟨ys,m,_,_,hlen,_,hf⟩:=DataW.trod_struct Tryz.underlying29 h
 rw [cells_elem] at hlen
 match cs,hlen with
 | [v0,v1],_ =>
   have h0:DataW.trod enc Tryz.prog w base sp held m 3 (([v0,v1].drop 0).take (Tryz.prog.cellsOf 3))=ys[0]? := hf 0 _ rfl
   rw [ZaI] at h0
   simp only [List.drop_zero,List.take_succ_cons,List.take_zero] at h0
   have h1:DataW.trod enc Tryz.prog w base sp held m 24 (([v0,v1].drop 1).take (Tryz.prog.cellsOf 24))=ys[1]? := hf 1 _ rfl
   rw [ZcF] at h1
   simp only [List.drop_succ_cons,List.drop_zero,List.take_succ_cons,List.take_zero] at h1
   have hx:∀ i,i<2→∃ y,ys[i]? = some y:=fun i hi=>⟨ys[i]'(by simp at *;omega),List.getElem?_eq_getElem _⟩
   obtain ⟨y0,e0⟩:=hx 0 (by omega)
   rw [e0] at h0
   obtain ⟨c0,rfl,q0⟩:=ZbJ h0
   obtain ⟨y1,e1⟩:=hx 1 (by omega)
   rw [e1] at h1
   obtain ⟨xs1,q1⟩:=ZN Tryz.underlying24 Tryz.underlying3 ZaI h1
   exact ⟨c0,v1,xs1,rfl,q0,q1⟩
set_option maxRecDepth 100000 in
theorem arg_elem {H:Type} {enc:TypeId × Value→H} {r:Reach} {b0:Nat} {d:DataW H} {p:List MemPlace} (hv:Value.okWide Tryz.prog w r b0 29 v) (h:DataW.Trod enc Tryz.prog w 0 (fun _=>true) true 29 v d p) :
 ∃ c0 u1 xs1,v = .agg #[.int .i64 c0,u1]∧I64 c0∧IsInts 0 w u1 xs1:=by
 obtain ⟨cs,rfl,_⟩:=okWide_struct Tryz.underlying29 hv
 obtain ⟨fuel,hf⟩:=h
 obtain ⟨c0,u1,xs1,e,q⟩:=Zcl hf
 have e2:cs = #[.int .i64 c0,u1]:=by obtain ⟨l⟩:=cs;simp [Value.cells] at e;simpa using e
 exact ⟨c0,u1,xs1,by rw [e2],q⟩
end Go.Proofs.YthefecaefbeidaaGreat
