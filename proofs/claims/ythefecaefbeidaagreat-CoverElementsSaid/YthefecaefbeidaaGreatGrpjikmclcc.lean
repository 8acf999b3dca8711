import Derived.Test.YthefecaefbeidaaGreatProg
import Derived.Shelf.Strconv.Itoa3
import Derived.Lib.AppendIntMem
import Derived.Lib.ItoaLen
import Derived.Lib.Hide
import Derived.WalkSpells
import Derived.StillTailTactics
import Derived.Deep.RegionHeld3
import Derived.Laws.IdiomCopy
import Derived.Test.YthefecaefbeidaaGreatGrpkapnohjd
import Derived.Test.YthefecaefbeidaaGreatGrpcdkhhigo
import Derived.Test.YthefecaefbeidaaGreatGrpgojjocei
import Derived.Test.YthefecaefbeidaaGreatGrpacmcpece
import Derived.Test.YthefecaefbeidaaGreatGrphfkbjlgf
import Derived.Test.YthefecaefbeidaaGreatGrpahggjllk
set_option linter.all false
namespace Go.Proofs.YthefecaefbeidaaGreat
open Go.RowKit Go.Shelf
def TabW (w : World) : Prop := Go.Lib.TabIs Tryz.prog w "internal/strconv.uint64pow10" .u64 Go.Lib.pow10Tab
theorem TabW.below {w w':World} (h:TabW w) (hb:Below w.heap.size w w'):TabW w':=by
 have:=Go.Lib.tabBelow_of_tabIs h
 exact this w' hb
end Go.Proofs.YthefecaefbeidaaGreat
namespace Go.Proofs.YthefecaefbeidaaGreat
open Go.RowKit Go.Deep
section
variable {F ok:Nat→Prop} {lo:Nat} {w:World}
theorem ln_pu (l:Ln) (vs:List Value) (h:LnEl lo w vs l):∀ j (hj:j<(cLn l).length),Pu F w ok (cLn l)[j] (vs.getD j undef):=by
 obtain ⟨rfl,_⟩:=h
 intro j hj
 match j,hj with
 | 0,_=>exact .v _
 | 1,_=>exact .v _
 | 2,_=>exact .v _
 | 3,_=>exact .v _
theorem str_pu (s:ByteArray) (vs:List Value) (h:StrEl lo w vs s):∀ j (hj:j<[sv s].length),Pu F w ok [sv s][j] (vs.getD j undef):=by
 obtain ⟨rfl,_⟩:=h
 intro j hj
 match j,hj with
 | 0,_=>exact .v _
variable {v:Value}
theorem ZcH (hok:∀ b,lo≤b→b<w.heap.size→ok b) {xs:List ByteArray} (h:IsSl 1 StrEl lo w v xs):Pu F w ok (KV xs) v:=by
 rw [fst1];exact sl_pu lenStr hok str_pu h
variable {q:Fm}
theorem fam_pu (hok:∀ b,lo≤b→b<w.heap.size→ok b) (h:IsFam lo w v q):Pu F w ok (.agg (cFm q)) v:=by
 obtain ⟨v2,v3,v4,v6,v7,v8,v9,rfl,h0,h1,h2,h3,h4,h5,h6,h7,h8,h9⟩:=h
 refine .agg rfl fun j hj => ?_
 match j,hj with
 | 0,_=>exact .v _
 | 1,_=>exact .v _
 | 2,_=>exact ZcH hok h2
 | 3,_=>exact ZcH hok h3
 | 4,_=>exact ZcH hok h4
 | 5,_=>exact .v _
 | 6,_=>exact sl_pu lenLn hok ln_pu h6
 | 7,_=>exact Y2 hok h7
 | 8,_=>exact Y2 hok h8
 | 9,_=>exact sl_pu lenRu hok (ru_puo hok) h9
end
variable {q:Fm}{i:Nat}{r:Ru}
theorem ruleE_nm (h:nameB r.nm.toList=false∨hasR (q.rz.take i) r.nm=true):ruleE q i r=2:=if_pos h
theorem ZaS (h:nameB r.nm.toList=true) (h':hasR (q.rz.take i) r.nm=false) (hf:fitB r.kind q.top=false∨othB r q.top=false):ruleE q i r=6:=by
 unfold ruleE;rw [if_neg (by rw [h,h'];simp),if_pos hf]
theorem ZcO (h:nameB r.nm.toList=true) (h':hasR (q.rz.take i) r.nm=false) (hf:fitB r.kind q.top=true) (ho:othB r q.top=true) (hs:stB r q.sz.length=false):ruleE q i r=5:=by
 unfold ruleE;rw [if_neg (by rw [h,h'];simp),if_neg (by rw [hf,ho];simp),if_pos hs]
theorem ruleE_part (h:nameB r.nm.toList=true) (h':hasR (q.rz.take i) r.nm=false) (hf:fitB r.kind q.top=true) (ho:othB r q.top=true) (hs:stB r q.sz.length=true):ruleE q i r=partE q r:=by
 unfold ruleE;rw [if_neg (by rw [h,h'];simp),if_neg (by rw [hf,ho];simp),if_neg (by rw [hs];simp)]
variable {J:World→Prop}
section
variable {P:Program} {o:Oper}
end
section
variable {P:Program} {w0:Wb} {h:AHeap} {t:ATm}
end
section
variable {P:Program} {o:Oper}
theorem ZbS {t e:TypeId} {z n l h q:Nat} {cs ds:List AV} (x:Operand) (lo hi:Option Operand) (ho:o.op = .slice t x lo hi none) (hu:P.underlying t=some (.slice e)) (hz:(P.info? e).map (·.size)=some z)
 (Lo Hi:List (Operand × AV)) (hlo:(lo=none∧l=0∧Lo=[])∨∃ y ik,lo=some y∧Lo=[(y,.v (.int ik (l:Int)))]) (hhi:(hi=none∧h=n∧Hi=[])∨∃ y ik,hi=some y∧Hi=[(y,.v (.int ik (h:Int)))]) (h1:l≤h) (h2:h≤n) (hd:(cs.drop (l*z)).take ((h-l)*z)=ds) (hq:h-l=q) :
 ASpec P J o ((x,.sl z n cs)::(Lo++Hi)) [] (.sl z q ds) .no:=by
 subst hq
 exact Wv x lo hi ho hu hz Lo Hi hlo hhi h1 h2 hd
end
set_option maxRecDepth 100000
set_option maxHeartbeats 6400000
variable {k:Nat}
theorem WW {l:List Int} (hk:k<l.length):orL (l.drop k)=if l[k]=0 then orL (l.drop (k+1)) else l[k]:=by
 rw [List.drop_eq_getElem_cons hk];rfl
theorem orL_one (a:Int):orL [a]=a:=by unfold orL orL;split<;>omega
theorem K0 (a:Int) (l:List Int):orL (a::l)=orE a (orL l):=rfl
theorem respE_c (n:Nat) (hn:n≤9223372036854775807) (xs:List Int) (hx:InOk xs):Ctr Tryz.prog J 229 [Zc xs,iv n] (iv (reE n xs)):=ctr2 fun w v v' _ h h'=>by
 rw [h'.v_inv];exact (Wz n hn (Yt hx (lo:=0) (fun _ _=>Nat.zero_le _) h)).mono fun _ _=>ZaU
theorem ZaP (n:Nat) (hn:n≤9223372036854775807) (xs:List Int) (hx:InOk xs):Ctr Tryz.prog J 117 [Zc xs,iv n] (iv (setE n xs)):=ctr2 fun w v v' _ h h'=>by
 rw [h'.v_inv];exact (YX n hn (Yt hx (lo:=0) (fun _ _=>Nat.zero_le _) h)).mono fun _ _=>KR
theorem guardsE_c (n:Nat) (hn:n≤9223372036854775807) (gs:List Th) (hg:∀ g∈gs,ThOk g):Ctr Tryz.prog J 231 [slA 6 cTh gs,iv n] (iv (guardE n gs)):=ctr2 fun w v v' _ h h'=>by
 rw [h'.v_inv];exact (Zap n hn (ZaW lenTh (lo:=0) (fun _ _=>Nat.zero_le _) ThOk hg (fun _ _ hr hl hp=>th_of hr hl hp) h)).mono fun _ _=>KR
theorem posE_c (a b:Int):Ctr Tryz.prog J 232 [iv a,iv b] (iv (posE a b)):=ctr2 fun w v v' _ h h'=>by
 rw [h.v_inv,h'.v_inv];exact (WA a b w).mono fun _ _=>ZaU
theorem dirE_c (a b:Int):Ctr Tryz.prog J 233 [iv a,iv b] (iv (dirE a b)):=ctr2 fun w v v' _ h h'=>by
 rw [h.v_inv,h'.v_inv];exact (Wr a b w).mono fun _ _=>ZaU
theorem WD (a b:Int):Ctr Tryz.prog J 198 [iv a,iv b] (bv (fitB a b)):=ctr2 fun w v v' _ h h'=>by
 rw [h.v_inv,h'.v_inv];exact (Zcb a b w).mono fun _ _=>ZaU
theorem Zbc (s:ByteArray) (hs:s.size≤maxLen):Ctr Tryz.prog J 116 [sv s] (bv (nameB s.toList)):=ctr1 fun w v _ h=>by
 rw [h.v_inv];exact (Yh s w hs).mono fun _ _=>KR
theorem Zad (hr:RuOk r) (n:Nat) (hn:n≤9223372036854775807):Ctr Tryz.prog J 230 [.agg (cRu r),iv n] (iv (shE n r.rd r.wr)):=ctr2 fun w v v' _ h h'=>by
 obtain ⟨vs,rfl,hl,hv⟩:=KE h
 rw [h'.v_inv];exact (Zac n hn (ru_of (lo:=0) hr (fun _ _=>Nat.zero_le _) hl hv)).mono fun _ _=>KR
theorem ZbR (hr:RuOk r) (n:Nat) (hn:n≤9223372036854775807):Ctr Tryz.prog J 200 [.agg (cRu r),iv n] (bv (stB r n)):=ctr2 fun w v v' _ h h'=>by
 obtain ⟨vs,rfl,hl,hv⟩:=KE h
 rw [h'.v_inv];exact (W8 n hn (ru_of (lo:=0) hr (fun _ _=>Nat.zero_le _) hl hv)).mono fun _ _=>KR
theorem Zcf (rs:List Ru) (hr:∀ r∈rs,RuOk r) (s:ByteArray):Ctr Tryz.prog J 197 [slA 18 cRu rs,sv s] (bv (hasR rs s)):=ctr2 fun w v v' _ h h'=>by
 rw [h'.v_inv];exact (Zc5 s (ZaW lenRu (lo:=0) (fun _ _=>Nat.zero_le _) RuOk hr (fun _ _ hr hl hp=>ru_of hr (fun _ _=>Nat.zero_le _) hl hp) h)).mono fun _ _=>KR
theorem orSl_c (l:List Int) (hl:l.length≤9223372036854775807):Ctr Tryz.prog J 66 [Zc l] (iv (orL l)):=by
 refine Zn Tryz.func66 rfl (pN (ZU _) pZ) (n:=18) rfl (by simp) (fun w0 => ?_)
 refine kW 18 [] [(0,Zc l)] (jB (oS (iv 0) (kN 18 [] [(0,Zc l),(2,iv 0)] (jC (Za (oS (iv 0) (kN 18 [] [(0,Zc l),(2,iv 0),(3,iv 0)] (jC (jB (oS (Zc l) (oS (iv l.length) (oS (iv 0) (kN 18 [] [(2,iv 0),(3,iv 0),(6,Zc l),(7,iv l.length),(8,iv 0)] (Zi (Zl ?_)))))))))))))))
 refine ZL (σ:={k:Nat // k≤l.length∧orL l=orL (l.drop k)}) (fun s=>(ofL [],ofT 18 [(3,iv 0),(6,Zc l),(7,iv l.length),(8,iv s.1)])) (fun s=>l.length-s.1) ⟨0,Nat.zero_le _,rfl⟩ (Zs [] _) (fun s => ?_)
 obtain ⟨k,hk0,hs0⟩:=s
 show ETri J w0 (ofL []) (ofT 18 [(3,iv 0),(6,Zc l),(7,iv l.length),(8,iv k)]) _
 refine Zk ?_
 by_cases hs1:(k:Int)<(l.length:Int)
 refine Za (ol (dT hs1) (jD (Yy rfl (Zq (jC (Zl (jB (oC (xS (k*1) 6 8 U139) I0 I0 (oL (iv l[k]) (Zy l (by omega)) (oS (iv l[k]) (jD ?_)))))))))))
 by_cases hs2:l[k]=0
 refine Za (oW (oW (on (dT' hs2) (jI (Zq (ZG (Zi (Za (oV ((k+1:Nat):Int) (oS (iv (k+1:Nat)) (kN 18 [] [(3,iv 0),(5,iv l[k]),(6,Zc l),(7,iv l.length),(8,iv (k+1:Nat)),(9,bT),(14,bF)] (Zi ?_))))))))))))
 refine ZD ⟨k+1,by omega,hs0.trans ((WW (by omega)).trans (if_pos hs2))⟩ (show l.length-(k+1)<l.length-k by omega) ?_
 exact Zs [] _
 refine Za (oW (oW (on (dF' hs2) (jG (oF (iv l[k]) (jE (Zg (Zb (Zb (Zg (Zb ?_)))))))))))
 refine Zd Tryz.results66 (.tmp rfl) ?_
 exact congrArg (fun x:Int=>AV.v (.int .i64 x)) (hs0.trans ((WW (by omega)).trans (if_neg hs2))).symm
 refine Za (ol (dF hs1) (jD (ZK rfl (jO (jC (Za (oF (iv 0) (jE ?_))))))))
 refine Zd Tryz.results66 (.tmp rfl) ?_
 obtain rfl:k=l.length:=by omega
 exact congrArg (fun x:Int=>AV.v (.int .i64 x)) (show 0=orL l from by rw [hs0,List.drop_length];rfl)
abbrev Zcz (x0:Fm) (x1:Ru):List (Nat × ABlk):=[(1,.box 27 (cFm x0)),(2,.box 98 (cRu x1))]
theorem Zb5 (HQ:FmOk q) (HR:RuOk r):Ctr Tryz.prog J 201 [.agg (cFm q),.agg (cRu r)] (iv (partE q r)):=by
 refine Zn Tryz.func201 rfl (pN (Zm (Z0 q)) (pN (Zm (Yg r)) pZ)) (n:=83) rfl (by simp) (fun w0 => ?_)
 refine kW 83 [] [(0,.agg (cFm q)),(1,.agg (cRu r))] (jB (oX 1 (.agg (cFm q)) (oX 2 (.agg (cRu r)) (oS (iv 0) (jD (Za (oW (oW (oF (iv q.sz.length) (jD (jB (oF (iv r.kind) (jA (Zl (Zk (Zl ?_))))))))))))))))
 refine Zk (Zl (Zk (Zl (Zk (Zl (jM (Zk ?_)))))))
 by_cases hs1:r.kind=3
 refine Za (oe (dT hs1) (oS bT (jH (jO (jC (Za (oW (oW (oW (oK (respE_c q.sz.length HQ.lstates r.resp HR.resp) [Zc r.resp,iv q.sz.length] rfl rfl (oS (iv (reE q.sz.length r.resp)) (jD ?_))))))))))))
 by_cases hs2:(reE q.sz.length r.resp)=0
 refine Za (oW (on (dT' hs2) (jI (Zq (ZG (jC (jB (oW (oW (oW (oW (oK (Zad HR q.vals.length HQ.lvals) [.agg (cRu r),iv q.vals.length] rfl rfl (oS (iv (shE q.vals.length r.rd r.wr)) (jE (Zb (Zg (Zb ?_)))))))))))))))))
 refine Zg (Zb (Zg (Zb ?_)))
 refine Zd Tryz.results201 (.tmp rfl) ?_
 exact congrArg (fun x:Int=>AV.v (.int .i64 x)) (by unfold partE;rw [if_pos hs1];unfold orE;rw [if_pos hs2])
 refine Za (oW (on (dF' hs2) (jG (oF (iv (reE q.sz.length r.resp)) (jE (Zg (Zb (Zg (Zb (Zg (Zb (Zg (Zb ?_)))))))))))))
 refine Zd Tryz.results201 (.tmp rfl) ?_
 exact congrArg (fun x:Int=>AV.v (.int .i64 x)) (by unfold partE;rw [if_pos hs1];unfold orE;rw [if_neg hs2])
 refine Za (oe (dF hs1) (oS bF (jF (jM ?_))))
 by_cases hs3:r.kind=2
 refine Za (oe (dT hs3) (oS bT (kN 83 (Zcz q r) [(2,bx 1),(3,bx 2),(4,iv 0),(5,iv q.sz.length),(11,iv r.kind),(14,bT)] (Zi (Yy rfl (K9 (Zz (Zz (KP (by decide) (Zz (t_hit (jC (jB (oW (oW (oW (oW (oK (Zad HR q.vals.length HQ.lvals) [.agg (cRu r),iv q.vals.length] rfl rfl (oS (iv (shE q.vals.length r.rd r.wr)) (jA ?_))))))))))))))))))))
 refine jN (Zg (Zb (Zg (Zb (Zg (Zb ?_))))))
 refine Zd Tryz.results201 (.tmp rfl) ?_
 exact congrArg (fun x:Int=>AV.v (.int .i64 x)) (by unfold partE;rw [if_neg hs1];rw [if_pos hs3])
 refine Za (oe (dF hs3) (oS bF (jF (jM ?_))))
 by_cases hs4:r.kind=1
 refine Za (oe (dT hs4) (oS bT (jH (K9 (Zz (Zz (KP (by decide) (Zz (KP (by decide) (Zz (t_hit (jC (Zk ?_)))))))))))))
 refine tD (dW (dW (dW (dW (dW (dk (guardsE_c q.msgs.length HQ.lmsgs r.gz HR.gz) [slA 6 cTh r.gz,iv q.msgs.length] rfl rfl (dW (dW (dW (dk (ZaP q.sz.length HQ.lstates r.ex HR.ex) [Zc r.ex,iv q.sz.length] rfl rfl (dW (dW (dW (dk (ZaP q.sz.length HQ.lstates r.fa HR.fa) [Zc r.fa,iv q.sz.length] rfl rfl (dW (dW (dW (dW (dk (Zad HR q.vals.length HQ.lvals) [.agg (cRu r),iv q.vals.length] rfl rfl (dW (dW (dW (dW (dW (dk (ZaP q.msgs.length HQ.lmsgs r.send HR.send) [Zc r.send,iv q.msgs.length] rfl rfl (dR (Wc (z:=1) (k:=3) (fr:=true) (cs:=[iv (guardE q.msgs.length r.gz),iv (setE q.sz.length r.ex),iv (setE q.sz.length r.fa),iv (shE q.vals.length r.rd r.wr),iv (setE q.msgs.length r.send)]) [.tmp 37,.tmp 41,.tmp 45,.tmp 50,.tmp 56] [iv (guardE q.msgs.length r.gz),iv (setE q.sz.length r.ex),iv (setE q.sz.length r.fa),iv (shE q.vals.length r.rd r.wr),iv (setE q.msgs.length r.send)] rfl U139 (by kernel_rfl) (by decide) (by decide) rfl rfl rfl (by kernel_rfl) (by decide) (fun _=>by simp [AV.cellsOf,AV.isNew,cLn,cTh]) (by kernel_rfl)) ⟨I0,I0,I0,I0,I0,T0⟩ T0 rfl (dR (sc #[.tmp 57] [(3,.row true 33 1 5 ([iv (guardE q.msgs.length r.gz),iv (setE q.sz.length r.ex),iv (setE q.sz.length r.fa),iv (shE q.vals.length r.rd r.wr),iv (setE q.msgs.length r.send)]))] (orSl_c [(guardE q.msgs.length r.gz),(setE q.sz.length r.ex),(setE q.sz.length r.fa),(shE q.vals.length r.rd r.wr),(setE q.msgs.length r.send)] (by simp)) [.own 3] rfl rfl rfl) ⟨I0,I0,T0⟩ ⟨rfl,T0⟩ T0 (dS (iv (orL [(guardE q.msgs.length r.gz),(setE q.sz.length r.ex),(setE q.sz.length r.fa),(shE q.vals.length r.rd r.wr),(setE q.msgs.length r.send)])) (eD ?_)))))))))))))))))))))))))))))
 refine Zi (jN (Zg (Zb (Zg (Zb ?_)))))
 refine Zd Tryz.results201 (.tmp rfl) ?_
 exact congrArg (fun x:Int=>AV.v (.int .i64 x)) (by unfold partE;rw [if_neg hs1];rw [if_neg hs3];rw [if_pos hs4];rw [K0,K0,K0,K0,orL_one])
 refine Za (oe (dF hs4) (oS bF (jF (Zk ?_))))
 by_cases hs5:r.kind=4
 refine Za (oe (dT hs5) (oS bT (jH (K9 (Zz (KP (by decide) (Zz (KP (by decide) (Zz (KP (by decide) (Zz (t_hit (jC (Zk ?_))))))))))))))
 refine tD (dW (dW (dW (dk (ZaP q.sz.length HQ.lstates r.left HR.left) [Zc r.left,iv q.sz.length] rfl rfl (dW (dW (dW (dk (ZaP q.sz.length HQ.lstates r.right HR.right) [Zc r.right,iv q.sz.length] rfl rfl (dW (dW (dW (dk (ZaP q.sz.length HQ.lstates r.pz HR.pz) [Zc r.pz,iv q.sz.length] rfl rfl (dW (dW (dW (dW (dk (posE_c r.pos q.top) [iv r.pos,iv q.top] rfl rfl (dR (Wc (z:=1) (k:=3) (fr:=true) (cs:=[iv (setE q.sz.length r.left),iv (setE q.sz.length r.right),iv (setE q.sz.length r.pz),iv (posE r.pos q.top)]) [.tmp 62,.tmp 66,.tmp 70,.tmp 75] [iv (setE q.sz.length r.left),iv (setE q.sz.length r.right),iv (setE q.sz.length r.pz),iv (posE r.pos q.top)] rfl U139 (by kernel_rfl) (by decide) (by decide) rfl rfl rfl (by kernel_rfl) (by decide) (fun _=>by simp [AV.cellsOf,AV.isNew,cLn,cTh]) (by kernel_rfl)) ⟨I0,I0,I0,I0,T0⟩ T0 rfl (dR (sc #[.tmp 76] [(3,.row true 33 1 4 ([iv (setE q.sz.length r.left),iv (setE q.sz.length r.right),iv (setE q.sz.length r.pz),iv (posE r.pos q.top)]))] (orSl_c [(setE q.sz.length r.left),(setE q.sz.length r.right),(setE q.sz.length r.pz),(posE r.pos q.top)] (by simp)) [.own 3] rfl rfl rfl) ⟨I0,I0,T0⟩ ⟨rfl,T0⟩ T0 (dS (iv (orL [(setE q.sz.length r.left),(setE q.sz.length r.right),(setE q.sz.length r.pz),(posE r.pos q.top)])) (eD ?_)))))))))))))))))))))
 refine Zi (jN (Zg (Zb ?_)))
 refine Zd Tryz.results201 (.tmp rfl) ?_
 exact congrArg (fun x:Int=>AV.v (.int .i64 x)) (by unfold partE;rw [if_neg hs1];rw [if_neg hs3];rw [if_neg hs4];rw [if_pos hs5];rw [K0,K0,K0,orL_one])
 refine Za (oe (dF hs5) (oS bF (jF (K9 (KP (by decide) (Zz (KP (by decide) (Zz (KP (by decide) (Zz (KP (by decide) (Zz (t_hit (jC (Za (oW (oW (oW ?_))))))))))))))))))
 refine oW (oK (dirE_c r.dir q.top) [iv r.dir,iv q.top] rfl rfl (oS (iv (dirE r.dir q.top)) (jE ?_)))
 refine Zd Tryz.results201 (.tmp rfl) ?_
 exact congrArg (fun x:Int=>AV.v (.int .i64 x)) (by unfold partE;rw [if_neg hs1];rw [if_neg hs3];rw [if_neg hs4];rw [if_neg hs5])
theorem K3 {α:Type} {g:α→List AV} {z:Nat} (hz:∀ x,(g x).length=z):∀ (l:List α) (k:Nat),k≤l.length→((l.flatMap g).drop (0*z)).take (k*z)=(l.take k).flatMap g
 | _,0,_=>by simp
 | [],k+1,h=>absurd h (by simp)
 | a::l,k+1,h=>by
   have ih:=K3 hz l k (by simpa using h)
   rw [Nat.zero_mul,List.drop_zero] at ih ⊢
   rw [List.flatMap_cons,List.take_succ_cons,List.flatMap_cons,← ih,List.take_append,hz,show (k+1)*z-z=k*z by rw [Nat.succ_mul];omega,List.take_of_length_le (by rw [hz,Nat.succ_mul];omega)]
theorem ZcN (HQ:FmOk q) (hi:i<q.rz.length):Ctr Tryz.prog J 161 [.agg (cFm q),iv i] (iv (ruleE q i q.rz[i])):=by
 have HR:=HQ.rz q.rz[i] (List.getElem_mem hi)
 have lr:=HQ.lrules
 refine Zn Tryz.func161 rfl (pN (Zm (Z0 q)) (pN (.v _) pZ)) (n:=49) rfl (by simp) (fun w0 => ?_)
 refine kW 49 [] [(0,.agg (cFm q)),(1,iv i)] (jB (oX 1 (.agg (cFm q)) (oS (iv 0) (jD (Za (oF (slA 18 cRu q.rz) (oS (iv i) (oC (xS (i*18) 7 8 U25) I0 I0 (oA (ZW (z:=18) (.tmp 9) rfl U98 rfl (by kernel_rfl) (Ym lenRu q.rz i (by omega)) rfl) I0 (oZ 2 Z98 (oY (kN 49 (Zcz q q.rz[i]) [(1,iv i),(2,bx 1),(4,iv 0),(5,bx 2)] (jC (Zl (Zk ?_)))))))))))))))
 by_cases hs1:(nameB q.rz[i].nm.toList)=true
 by_cases hs2:(hasR (q.rz.take i) q.rz[i].nm)=true
 refine tD (dW (dW (dk (Zj (Zbc q.rz[i].nm HR.nm) hs1) [sv q.rz[i].nm] rfl rfl (dW (dS bF (dW (dS (slA 18 cRu q.rz) (dS (iv i) (dC (ZbS (q:=(q.rz.take i).length) (l:=0) (h:=i) (ds:=((q.rz.take i).flatMap cRu)) (.tmp 18) none (some (.tmp 19)) rfl U25 (by kernel_rfl) [] [(.tmp 19,iv i)] (.inl ⟨rfl,rfl,rfl⟩) (.inr ⟨_,_,rfl,rfl⟩) (Nat.zero_le _) (by omega) (K3 lenRu q.rz i (by omega)) (by rw [List.length_take];omega)) I0 I0 (dW (dW (dk (Zj (Zcf (q.rz.take i) (fun x hx=>HQ.rz x (List.mem_of_mem_take hx)) q.rz[i].nm) hs2) [slA 18 cRu (q.rz.take i),sv q.rz[i].nm] rfl rfl (dW (dS bT (eD ?_)))))))))))))))
 refine kW 49 (Zcz q q.rz[i]) [(2,bx 1),(4,iv 0),(5,bx 2),(11,bT)] (Zi (jK (oS (iv 2) (jE (Zg (Zb ?_))))))
 refine Zd Tryz.results161 (.tmp rfl) ?_
 exact congrArg (fun x:Int=>AV.v (.int .i64 x)) ((ruleE_nm (.inr hs2)).symm)
 have hs2f:(hasR (q.rz.take i) q.rz[i].nm)=false:=by simpa using hs2
 refine tD (dW (dW (dk (Zj (Zbc q.rz[i].nm HR.nm) hs1) [sv q.rz[i].nm] rfl rfl (dW (dS bF (dW (dS (slA 18 cRu q.rz) (dS (iv i) (dC (ZbS (q:=(q.rz.take i).length) (l:=0) (h:=i) (ds:=((q.rz.take i).flatMap cRu)) (.tmp 18) none (some (.tmp 19)) rfl U25 (by kernel_rfl) [] [(.tmp 19,iv i)] (.inl ⟨rfl,rfl,rfl⟩) (.inr ⟨_,_,rfl,rfl⟩) (Nat.zero_le _) (by omega) (K3 lenRu q.rz i (by omega)) (by rw [List.length_take];omega)) I0 I0 (dW (dW (dk (Zj (Zcf (q.rz.take i) (fun x hx=>HQ.rz x (List.mem_of_mem_take hx)) q.rz[i].nm) hs2f) [slA 18 cRu (q.rz.take i),sv q.rz[i].nm] rfl rfl (dW (dS bF (eD ?_)))))))))))))))
 refine kW 49 (Zcz q q.rz[i]) [(2,bx 1),(4,iv 0),(5,bx 2),(11,bF)] (Zi (ZK rfl (Zk ?_)))
 by_cases hs3:(fitB q.rz[i].kind q.top)=true
 by_cases hs4:(othB q.rz[i] q.top)=true
 refine Za (oW (oW (oW (oW (oK (Zj (WD q.rz[i].kind q.top) hs3) [iv q.rz[i].kind,iv q.top] rfl rfl (oF bF (oW (oW (oW (oK (Zj (Wi (Kf hs3) HR) hs4) [.agg (cRu q.rz[i]),iv q.top] rfl rfl (oW (oF bF (jI (Zk ?_))))))))))))))
 by_cases hs5:(stB q.rz[i] q.sz.length)=true
 refine Za (oW (oW (oW (oW (oK (Zj (ZbR HR q.sz.length HQ.lstates) hs5) [.agg (cRu q.rz[i]),iv q.sz.length] rfl rfl (oF bF (jI (Zq (ZG (jC (Za (oW (oW (oK (Zb5 HQ HR) [.agg (cFm q),.agg (cRu q.rz[i])] rfl rfl (oS (iv (partE q q.rz[i])) (jE ?_))))))))))))))))
 refine Zd Tryz.results161 (.tmp rfl) ?_
 exact congrArg (fun x:Int=>AV.v (.int .i64 x)) ((ruleE_part hs1 hs2f hs3 hs4 hs5).symm)
 have hs5f:(stB q.rz[i] q.sz.length)=false:=by simpa using hs5
 refine Za (oW (oW (oW (oW (oK (Zj (ZbR HR q.sz.length HQ.lstates) hs5f) [.agg (cRu q.rz[i]),iv q.sz.length] rfl rfl (oF bT (jG (oS (iv 5) (jE (Zg (Zb ?_)))))))))))
 refine Zd Tryz.results161 (.tmp rfl) ?_
 exact congrArg (fun x:Int=>AV.v (.int .i64 x)) ((ZcO hs1 hs2f hs3 hs4 hs5f).symm)
 have hs4f:(othB q.rz[i] q.top)=false:=by simpa using hs4
 refine Za (oW (oW (oW (oW (oK (Zj (WD q.rz[i].kind q.top) hs3) [iv q.rz[i].kind,iv q.top] rfl rfl (oF bF (oW (oW (oW (oK (Zj (Wi (Kf hs3) HR) hs4f) [.agg (cRu q.rz[i]),iv q.top] rfl rfl (oW (oF bT (jG (oS (iv 6) (jE (Zg (Zb ?_)))))))))))))))))
 refine Zd Tryz.results161 (.tmp rfl) ?_
 exact congrArg (fun x:Int=>AV.v (.int .i64 x)) ((ZaS hs1 hs2f (.inr hs4f)).symm)
 have hs3f:(fitB q.rz[i].kind q.top)=false:=by simpa using hs3
 refine Za (oW (oW (oW (oW (oK (Zj (WD q.rz[i].kind q.top) hs3f) [iv q.rz[i].kind,iv q.top] rfl rfl (oF bT (qK (qK (qK (qK (qK (oF bT (jG (oS (iv 6) (jE (Zg (Zb ?_)))))))))))))))))
 refine Zd Tryz.results161 (.tmp rfl) ?_
 exact congrArg (fun x:Int=>AV.v (.int .i64 x)) ((ZaS hs1 hs2f (.inl hs3f)).symm)
 have hs1f:(nameB q.rz[i].nm.toList)=false:=by simpa using hs1
 refine tD (dW (dW (dk (Zj (Zbc q.rz[i].nm HR.nm) hs1f) [sv q.rz[i].nm] rfl rfl (dW (dS bT (dK (dK (dK (dK (dK (dK (dK (dW (dS bT (eD ?_)))))))))))))))
 refine kW 49 (Zcz q q.rz[i]) [(2,bx 1),(4,iv 0),(5,bx 2),(11,bT)] (Zi (jK (oS (iv 2) (jE (Zg (Zb ?_))))))
 refine Zd Tryz.results161 (.tmp rfl) ?_
 exact congrArg (fun x:Int=>AV.v (.int .i64 x)) ((ruleE_nm (.inl hs1f)).symm)
variable {lo:Nat}{w:World}{v:Value}
theorem ruleErrorP (i:Nat) (hi:i<q.rz.length) (hq:IsFam lo w v q) :
 Calls Tryz.prog 161 #[v,.int .i64 i] w fun e w'=>e = .returned (.int .i64 (ruleE q i q.rz[i]))∧Below w.heap.size w w' :=
 (ZcN (J:=fun _=>True) hq.ok hi w #[v,.int .i64 i] (fun _ _=>T0) rfl fun j hj=>(match j,hj with
  | 0,_=>fam_pu (fun _ _ hb=>hb) hq
  | 1,_ => .v _)).mono fun _ _ ⟨_,he,hp,hb⟩=>⟨by rw [he,hp.v_inv],hb⟩
theorem IsSl.take {α:Type} {size:Nat} {P:Nat→World→List Value→α→Prop} {lo:Nat} {w:World} {a:Option Addr} {n cap:Nat} {xs:List α} (h:IsSl size P lo w (.slice a n cap) xs) (k:Nat) (hk:k≤xs.length):IsSl size P lo w (.slice a k cap) (xs.take k):=by
 obtain ⟨a',cap',hv,h1,hm,hn,hc⟩:=h
 simp only [Value.slice.injEq] at hv
 obtain ⟨rfl,rfl,rfl⟩:=hv
 have e:(xs.take k).length=k:=by simp;omega
 refine ⟨a,cap,by rw [e],by omega,hm,hn,?_⟩
 rcases hc with rfl | ⟨b,off,ha,hlo,hb,hc⟩
 ·exact .inl (by simp)
 refine .inr ⟨b,off,ha,hlo,hb,fun i hi => ?_⟩
 obtain ⟨cs,g1,g2,g3⟩:=hc i (by omega)
 exact ⟨cs,g1,g2,by simpa using g3⟩
theorem Yl:(Tryz.prog.info? 27).map (·.size)=some 10:=by kernel_rfl
theorem YM (i:Nat) (hi:i<q.rz.length) (hq:IsFam lo w v q) :
 Calls Tryz.prog 161 #[v,.int .i64 i] w fun e w'=>e = .returned (.int .i64 (ruleE q i q.rz[i]))∧Below w.heap.size w w':=ruleErrorP i hi hq
set_option maxHeartbeats 12800000
def lrgL (l:Ln):Bool := !smL l.c l.n l.t l.f
theorem ZbD {α:Type} {p:α→Bool} {xs:List α} (h:k<xs.length) (hk:(xs.take k).any p=false) (e:p xs[k]=false):(xs.take (k+1)).any p=false:=by
 rw [List.take_succ_eq_append_getElem h,List.any_append,hk];simpa using e
theorem Zdd {α:Type} {p:α→Bool} {xs:List α} (h:k<xs.length) (e:p xs[k]=true):xs.any p=true:=by
 rw [List.any_eq_true];exact ⟨xs[k],List.getElem_mem h,e⟩
theorem Zde {α:Type} {p:α→Bool} {xs:List α} (h:k=xs.length) (hk:(xs.take k).any p=false):xs.any p=false:=by
 rwa [List.take_of_length_le (by omega)] at hk
theorem lin_cells {b off n cap:Nat} {xs:List Ln} (h:IsSl 4 LnEl lo w (.slice (some ⟨b,off,none⟩) n cap) xs) (k:Nat) (hk:k<xs.length):w.cell? ⟨b,off+k*4,none⟩=some (.int .i64 xs[k].c)∧w.cell? ⟨b,off+k*4+1,none⟩=some (.int .i64 xs[k].n)∧w.cell? ⟨b,off+k*4+2,none⟩=some (.int .i64 xs[k].t)∧w.cell? ⟨b,off+k*4+3,none⟩=some (.int .i64 xs[k].f):=by
 obtain ⟨b',off',cs,ha,_,_,_,hc,hel⟩:=h.at k hk
 cases ha
 have h0:=hc 0 (by omega)
 have h1:=hc 1 (by omega)
 have h2:=hc 2 (by omega)
 have h3:=hc 3 (by omega)
 rw [hel.1] at h0 h1 h2 h3
 exact ⟨h0.trans rfl,h1.trans rfl,h2.trans rfl,h3.trans rfl⟩
theorem ZaG {xs:List Ln} (h:IsSl 4 LnEl lo w v xs) :
 Calls Tryz.prog 195 #[v,.func (.func 160) #[] #[]] w fun e w'=>∃ i:Int,e = .returned (.int .i64 i)∧(decide (0≤i))=xs.any lrgL∧Below w.heap.size w w':=by
 have hn:=h.bound
 have H:=Lib.hid h
 rcases YL h with ⟨rfl,a,c,rfl⟩ | ⟨b,off,c,rfl,hbw,_⟩
 ·clear h
  go_enter Tryz.func195,Tryz.ntmps195
  go_wp2_with fail
  refine wp_loop_rounds 1 ?_
  rw [rounds_succ]
  go_wp2_with fail
  go_ret
  exact ⟨-1,rfl,rfl,Below.refl _ _⟩
 generalize hN:xs.length=n at hn
 have HN:=Lib.hid hN
 rw [hN] at H
 clear h hN
 go_enter Tryz.func195,Tryz.ntmps195
 go_wp2_with fail
 go_loopw [8] (fun u wr=>∃ k:Nat,k≤n∧u = .int .i64 k∧(xs.take k).any lrgL=false∧Below w.heap.size w wr) (fun u _=>n-(intOf u).toNat)
 case atStart=>exact ⟨0,Nat.zero_le _,rfl,rfl,Below.refl _ _⟩
 case round =>
  obtain ⟨k,hk,rfl,hs,hB⟩:=hrel
  have HS:=Lib.hid hs
  have HB:=Lib.hid hB
  clear hs hB
  by_cases h1:k<n
  ·have hkx:k<xs.length:=by rw [HN.out];exact h1
   obtain ⟨g1,g2,g3,g4⟩:=lin_cells H.out k hkx
   have k1:=(HB.out.cell (p:=⟨b,off+k*4,none⟩) hbw).trans g1
   have k2:=(HB.out.cell (p:=⟨b,off+k*4+1,none⟩) hbw).trans g2
   have k3:=(HB.out.cell (p:=⟨b,off+k*4+2,none⟩) hbw).trans g3
   have k4:=(HB.out.cell (p:=⟨b,off+k*4+3,none⟩) hbw).trans g4
   have HYES:=Lib.hid (fun h=>Zdd (p:=lrgL) hkx h)
   have HNO:=Lib.hid (fun h=>ZbD (p:=lrgL) hkx HS.out h)
   generalize xs[k]=x at k1 k2 k3 k4 HYES HNO
   clear g1 g2 g3 g4
   cases he:smL x.c x.n x.t x.f with
   | false =>
     have HE:=Lib.hid he
     clear he
     go_wp2_with (go_at_call 160;(with_reducible refine (Kh _ _ _ _ _).mono ?_);rw [HE.out];rintro e w1 ⟨rfl,hb1⟩;have HB1:=Lib.hid hb1;clear hb1)
     go_ret
     exact ⟨k,rfl,by rw [HYES.out (by unfold lrgL;rw [HE.out];rfl)];simp,Zf HB.out HB1.out⟩
   | true =>
     have HE:=Lib.hid he
     clear he
     go_wp2_with (go_at_call 160;(with_reducible refine (Kh _ _ _ _ _).mono ?_);rw [HE.out];rintro e w1 ⟨rfl,hb1⟩;have HB1:=Lib.hid hb1;clear hb1)
     go_roundw
     case rel=>exact ⟨k+1,by omega,by go_num,HNO.out (by unfold lrgL;rw [HE.out];rfl),Zf HB.out HB1.out⟩
     case measure=>simp [intOf];omega
  have HE:=Lib.hid (Zde (by rw [HN.out];omega) HS.out)
  go_wp2_with fail
  go_ret
  exact ⟨-1,rfl,by rw [HE.out];rfl,HB.out⟩
theorem Yi {xs:List Ln} (h:IsSl 4 LnEl lo w v xs) :
 Calls Tryz.prog 159 #[v,.func (.func 160) #[] #[]] w fun e w'=>e = .returned (.bool (xs.any fun l => !smL l.c l.n l.t l.f))∧Below w.heap.size w w':=by
 have HI:=Lib.hid (ZaG h)
 clear h
 go_enter Tryz.func159,Tryz.ntmps159
 go_wp2_with (go_at_call 195;refine Calls.mono (show Calls _ _ _ _ _ from HI.out) ?_;rintro e w1 ⟨i,rfl,hi,hb⟩;have HI2:=Lib.hid hi;have HB:=Lib.hid hb;clear hi hb)
 go_ret
 exact ⟨Zh HI2.out,HB.out⟩
end Go.Proofs.YthefecaefbeidaaGreat
