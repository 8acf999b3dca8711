import Derived.Test.YtdbehgbggaaipaaGreatGrpkgiojkhf
import Derived.Test.YtdbehgbggaaipaaGreatGrphefekjfc
import Derived.Test.YtdbehgbggaaipaaGreatGrpjljjncbf
import Derived.Test.YtdbehgbggaaipaaGreatGrppclnemjd
import Derived.Test.YtdbehgbggaaipaaGreatGrpblgjngcl
import Derived.Test.YtdbehgbggaaipaaGreatGrpmknfboop
import Derived.Test.YtdbehgbggaaipaaGreatGrppibiedhl
import Derived.Test.YtdbehgbggaaipaaGreatGrpinmkkjpe
import Derived.Test.YtdbehgbggaaipaaGreatGrpghglnpgc
set_option linter.all false
namespace Go.Proofs.YtdbehgbggaaipaaGreat
open Go.RowKit Go.Deep
set_option maxRecDepth 100000
set_option maxHeartbeats 6400000
variable {J:World→Prop}
abbrev XRa2_h1 (x0:Cf) (x1:Ru):List (Nat × ABlk):=[(1,.box 31 [nz,nz,iv 0,nz,nz,iv 0]),(2,.row true 3 1 (0+x0.st.length) (x0.st.map iv)),(3,.row true 3 1 (0+x0.se.length) (x0.se.map iv)),(4,.box 57 (cRu x1)),(5,.box 31 [.fr (Zb x0.sh),.own 2,iv x0.cor,.own 3,.fr (Zb x0.fa),iv x0.val])]
abbrev Zda (x0:Cf) (x1:Nat) (x2:Nat) (x3:Int):List (Nat × AV):=[(4,.el (Rd.cCg x0) 0),(5,.el ([iv x1,iv x2,iv x3]) 0),(6,bx 1),(7,bF),(8,bx 4),(9,bx 5)]
abbrev XRa2_h3 (x0:Cf):List (Nat × ABlk):=[(1,.box 31 [nz,nz,iv 0,nz,nz,iv 0]),(2,.row true 3 1 (0+x0.st.length) (x0.st.map iv)),(3,.row true 3 1 (0+x0.se.length) (x0.se.map iv)),(5,.box 31 [.fr (Zb x0.sh),.own 2,iv x0.cor,.own 3,.fr (Zb x0.fa),iv x0.val])]
abbrev XRa2_h4 (x0:Cf) (x1:Nat) (x2:Nat) (x3:Int) (x4:Ru):List (Nat × AV):=[(4,.el (Rd.cCg x0) 0),(5,.el ([iv x1,iv x2,iv x3]) 0),(6,bx 1),(7,bF),(8,.el (cRu x4) 0),(9,bx 5)]
abbrev XRa2_h5 (x0:Cf) (x1:Nat) (x2:Nat) (x3:Int) (x4:Ru) (x5:Nat):List (Nat × AV):=[(4,.el (Rd.cCg x0) 0),(5,.el ([iv x1,iv x2,iv x3]) 0),(6,bx 1),(7,bF),(8,.el (cRu x4) 0),(9,bx 5),(10,iv x5)]
abbrev Ze8 (x0:Cf) (x1:Ru) (x2:Nat):List (Nat × ABlk):=[(1,.box 31 [nz,nz,iv 0,nz,nz,iv 0]),(2,.row true 3 1 (0+x0.st.length) ((Ap.brL x1 x0.st (x2+1)).map iv)),(3,.row true 3 1 (0+x0.se.length) (x0.se.map iv)),(5,.box 31 [.fr (Zb x0.sh),.own 2,iv x0.cor,.own 3,.fr (Zb x0.fa),iv x0.val])]
abbrev XRa2_h7 (x0:Cf) (x1:Nat) (x2:Nat) (x3:Int) (x4:Ru) (x5:Nat):List (Nat × AV):=[(4,.el (Rd.cCg x0) 0),(5,.el ([iv x1,iv x2,iv x3]) 0),(6,bx 1),(7,bF),(8,.el (cRu x4) 0),(9,bx 5),(10,iv x5),(28,bT)]
abbrev XRa2_h8 (x0:Cf) (x1:Nat) (x2:Nat) (x3:Int) (x4:Ru) (x5:Nat):List (Nat × AV):=[(4,.el (Rd.cCg x0) 0),(5,.el ([iv x1,iv x2,iv x3]) 0),(6,bx 1),(7,bF),(8,.el (cRu x4) 0),(9,bx 5),(10,iv (x5+1:Nat)),(28,bT)]
abbrev XRa2_h9 (x0:Cf) (x1:Nat) (x2:Nat) (x3:Int) (x4:Ru) (x5:Nat):List (Nat × AV):=[(4,.el (Rd.cCg x0) 0),(5,.el ([iv x1,iv x2,iv x3]) 0),(6,bx 1),(7,bF),(8,.el (cRu x4) 0),(9,bx 5),(10,iv ((x5+1):Nat))]
abbrev KG (x0:Cf) (x1:Ru) (x2:Nat) (x3:Int) (x4:Nat):List (Nat × ABlk):=[(1,.box 31 [nz,nz,iv 0,nz,nz,iv 0]),(2,.row true 3 1 (0+x0.st.length) ((Ap.stA x0 x1 x2 x3).map iv)),(3,.row true 3 1 (0+x0.se.length) ((Ap.seA x0.cor x0 x1 x2 (x4+1)).map iv)),(5,.box 31 [.fr (Zb x0.sh),.own 2,iv x0.cor,.own 3,.fr (Zb x0.fa),iv (Ra.wv x0 x1)])]
abbrev XRa2_h11 (x0:Cf) (x1:Nat) (x2:Nat) (x3:Int) (x4:Ru) (x5:Nat):List (Nat × AV):=[(4,.el (Rd.cCg x0) 0),(5,.el ([iv x1,iv x2,iv x3]) 0),(6,bx 1),(7,bF),(8,.el (cRu x4) 0),(9,bx 5),(11,bF),(12,iv x5),(76,bT),(83,bT)]
abbrev XRa2_h12 (x0:Cf) (x1:Nat) (x2:Nat) (x3:Int) (x4:Ru) (x5:Nat):List (Nat × AV):=[(4,.el (Rd.cCg x0) 0),(5,.el ([iv x1,iv x2,iv x3]) 0),(6,bx 1),(7,bF),(8,.el (cRu x4) 0),(9,bx 5),(11,bF),(12,iv ((x5+1):Nat))]
variable {p:Fm}{n f kp:Int}{c:Cf}{r i:Nat}
theorem rapply_se (HL:FamLen p) (HC:Rd.CgOk c) (hc:En.CfV p n f c) (hv:valE p=0) (hr:r<p.rz.length) (hi:i<c.st.length) (hpt:p.rz[r].kind=2∨p.rz[r].kind=5→0≤kp∧kp<(c.st.length:Int)) (hpt2:p.rz[r].kind=2∨p.rz[r].kind=5→kp.toNat≠i) (hic:(i:Int)<c.cor):Ctr Tryz.prog J 27 [.agg (cFm p),.agg (Rd.cCg c),.agg [iv r,iv i,iv kp]] (.tup [.agg (Rd.cCg (Ap.af c.cor c p.rz[r] i kp)),bv (Ap.lgB (Ap.af c.cor c p.rz[r] i kp))]):=by
 have R:=En.val_in hv (List.getElem_mem hr)
 have hz:=En.val_sizes hv
 have hls:=hc.ls
 have hlf:=hc.lf
 have hsl:=(HL.rz _ (List.getElem_mem hr)).send
 have hlst:=HC.lst
 refine Zm Tryz.func27 rfl (pN (Zh (ZS p)) (pN (Zh (Rd.plain_cg c)) (pN (Zh (pN (.v _) (pN (.v _) (pN (.v _) pZ)))) pZ))) (n:=134) rfl (by simp) (fun w0 => ?_)
 refine kW 134 [] [(0,.agg (cFm p)),(1,.agg (Rd.cCg c)),(2,.agg [iv r,iv i,iv kp])] (jB (oA (ZD (X := .agg (cFm p)) (.tmp 0) rfl rfl rfl) I0 (oA (ZD (X := .agg (Rd.cCg c)) (.tmp 1) rfl rfl rfl) I0 (oA (ZD (X := .agg [iv r,iv i,iv kp]) (.tmp 2) rfl rfl rfl) I0 (oZ 1 Z31 (oS bF (jD ?_)))))))
 refine tD (dW (dS (slA 18 cRu p.rz) (dW (dS (iv r) (dC (xS (r*18) 14 16 U25) I0 I0 (dA (Zj (z:=18) (.tmp 17) rfl U57 rfl (by kernel_rfl) (Z9 lenRu p.rz r (by omega)) rfl) I0 (dA (Zj (z:=6) (.tmp 4) rfl U31 rfl (by kernel_rfl) rfl rfl) I0 (dR (Zdx (c := .func 8) (xs := #[.tmp 19]) [] (CopyCf_se HC 2 3 (by decide)) rfl (by kernel_rfl) rfl (Xs:=[.agg (Rd.cCg c)]) rfl rfl rfl) ⟨I0,I0,T0⟩ T0 rfl (dz 4 Z57 (dz 5 Z31 (dY (dY (eD ?_)))))))))))))
 refine kW 134 (XRa2_h1 c p.rz[r]) (Zda c r i kp) (jC (Zl (kW 134 (XRa2_h1 c p.rz[r]) (Zda c r i kp) ?_)))
 refine Yk (Zav 8 4 0 rfl rfl rfl rfl) ?_
 refine kW 134 (XRa2_h3 c) (XRa2_h4 c r i kp p.rz[r]) (Za (oF (iv p.rz[r].kind) (oC (ZM rfl rfl) I0 I0 (kN 134 (XRa2_h3 c) [(4,.el (Rd.cCg c) 0),(5,.el ([iv r,iv i,iv kp]) 0),(6,bx 1),(7,bF),(8,.el (cRu p.rz[r]) 0),(9,bx 5),(23,bv (decide (p.rz[r].kind=3)))] (Zf ?_)))))
 refine Ym (True) (ofL [(1,.box 31 [nz,nz,iv 0,nz,nz,iv 0]),(2,.row true 3 1 (0+c.st.length) ((Ap.st0 c p.rz[r]).map iv)),(3,.row true 3 1 (0+c.se.length) (c.se.map iv)),(5,.box 31 [.fr (Zb c.sh),.own 2,iv c.cor,.own 3,.fr (Zb c.fa),iv c.val])]) (ofT 134 [(4,.el (Rd.cCg c) 0),(5,.el ([iv r,iv i,iv kp]) 0),(6,bx 1),(7,bF),(8,.el (cRu p.rz[r]) 0),(9,bx 5)]) ?_ (fun _ => ?_)
 by_cases hs1:p.rz[r].kind=3
 rw [dT hs1]
 refine kW 134 [(1,.box 31 [nz,nz,iv 0,nz,nz,iv 0]),(2,.row true 3 1 (0+c.st.length) (c.st.map iv)),(3,.row true 3 1 (0+c.se.length) (c.se.map iv)),(5,.box 31 [.fr (Zb c.sh),.own 2,iv c.cor,.own 3,.fr (Zb c.fa),iv c.val])] [(4,.el (Rd.cCg c) 0),(5,.el ([iv r,iv i,iv kp]) 0),(6,bx 1),(7,bF),(8,.el (cRu p.rz[r]) 0),(9,bx 5),(23,bT)] (jK (oS (iv 0) (kN 134 [(1,.box 31 [nz,nz,iv 0,nz,nz,iv 0]),(2,.row true 3 1 (0+c.st.length) (c.st.map iv)),(3,.row true 3 1 (0+c.se.length) (c.se.map iv)),(5,.box 31 [.fr (Zb c.sh),.own 2,iv c.cor,.own 3,.fr (Zb c.fa),iv c.val])] [(4,.el (Rd.cCg c) 0),(5,.el ([iv r,iv i,iv kp]) 0),(6,bx 1),(7,bF),(8,.el (cRu p.rz[r]) 0),(9,bx 5),(10,iv 0)] (Zf (Zo ?_)))))
 rw [show (c.st.map iv)=((Ap.brL p.rz[r] c.st 0).map iv) by rw [Ap.brL_zero]]
 refine ZL (σ:={j:Nat // j≤c.st.length}) (fun s=>(ofL [(1,.box 31 [nz,nz,iv 0,nz,nz,iv 0]),(2,.row true 3 1 (0+c.st.length) ((Ap.brL p.rz[r] c.st s.1).map iv)),(3,.row true 3 1 (0+c.se.length) (c.se.map iv)),(5,.box 31 [.fr (Zb c.sh),.own 2,iv c.cor,.own 3,.fr (Zb c.fa),iv c.val])],ofT 134 [(4,.el (Rd.cCg c) 0),(5,.el ([iv r,iv i,iv kp]) 0),(6,bx 1),(7,bF),(8,.el (cRu p.rz[r]) 0),(9,bx 5),(10,iv s.1)])) (fun s=>c.st.length-s.1) ⟨0,Nat.zero_le _⟩ (Zp _ _) (fun s => ?_)
 obtain ⟨j,hj0⟩:=s
 show ETri J w0 (ofL [(1,.box 31 [nz,nz,iv 0,nz,nz,iv 0]),(2,.row true 3 1 (0+c.st.length) ((Ap.brL p.rz[r] c.st j).map iv)),(3,.row true 3 1 (0+c.se.length) (c.se.map iv)),(5,.box 31 [.fr (Zb c.sh),.own 2,iv c.cor,.own 3,.fr (Zb c.fa),iv c.val])]) (ofT 134 (XRa2_h5 c r i kp p.rz[r] j)) _
 refine jM ?_
 by_cases hs2:(j:Int)<(((0+c.st.length):Nat):Int)
 have hj1:j<c.st.length:=by omega
 have hst:=Ap.cst_el hc hj1
 have hre:=R.re (by assumption)
 have hrs:c.st[j].toNat<p.rz[r].resp.length:=by omega
 refine Za (oW (oF (.own 2) (oB (Kr (.tmp 26) rfl U24) I0 rfl (ol (dT hs2) (jH (Zq (jC (Zo ?_))))))))
 refine tD (dW (dS (.own 2) (dS (iv j) (dW (dS (Zb p.rz[r].resp) (dW (dS (Zb c.st) (dS (iv j) (dC (xS (j*1) 37 38 U24) I0 I0 (dL (iv c.st[j]) (Zw c.st (by omega)) (dC (xS (c.st[j].toNat*1) 35 40 U24) I0 I0 (dL (iv p.rz[r].resp[c.st[j].toNat]) (Zw p.rz[r].resp (by omega)) (dR (ZZ (off:=j*1) (.tmp 32) (.tmp 33) rfl U24 (by kernel_rfl) (by omega) (by omega) rfl) ⟨I0,I0,T0⟩ ⟨rfl,T0⟩ T0 (dR (Yv (X:=iv p.rz[r].resp[c.st[j].toNat]) (off:=j*1) (cs:=((Ap.brL p.rz[r] c.st j).map iv)) (ds:=((Ap.brL p.rz[r] c.st (j+1)).map iv)) (zz:=1) (.tmp 43) (.tmp 42) rfl (by kernel_rfl) (by kernel_rfl) (fun _ d hd=>by simp only [AV.cellsOf,List.mem_cons,List.not_mem_nil,or_false] at hd;subst hd;rfl) (by kernel_rfl) (by simp [Ap.seA_len,Ap.faA_len,Ap.brL_len,Ap.st0_len,Ra.stP_len];omega) (by exact (Ra.br_row (Ap.brd_el hrs)))) ⟨I0,I0,T0⟩ ⟨rfl,T0⟩ rfl (eD ?_)))))))))))))))
 refine kW 134 (Ze8 c p.rz[r] j) (XRa2_h7 c r i kp p.rz[r] j) (Zv (Zf (Za (oS (iv j) (oV ((j+1:Nat):Int) (oS (iv (j+1:Nat)) (kN 134 (Ze8 c p.rz[r] j) (XRa2_h8 c r i kp p.rz[r] j) (Zf ?_))))))))
 refine Zs ⟨j+1,by omega⟩ (show c.st.length-(j+1)<c.st.length-j by omega) ?_
 show Wk _ _ (ofL (Ze8 c p.rz[r] j)) (ofT 134 (XRa2_h9 c r i kp p.rz[r] j))
 exact Zp _ _
 refine Za (oW (oF (.own 2) (oB (Kr (.tmp 26) rfl U24) I0 rfl (ol (dF hs2) (kN 134 [(1,.box 31 [nz,nz,iv 0,nz,nz,iv 0]),(2,.row true 3 1 (0+c.st.length) ((Ap.brL p.rz[r] c.st j).map iv)),(3,.row true 3 1 (0+c.se.length) (c.se.map iv)),(5,.box 31 [.fr (Zb c.sh),.own 2,iv c.cor,.own 3,.fr (Zb c.fa),iv c.val])] [(4,.el (Rd.cCg c) 0),(5,.el ([iv r,iv i,iv kp]) 0),(6,bx 1),(7,bF),(8,.el (cRu p.rz[r]) 0),(9,bx 5),(10,iv j),(28,bF)] (Zf (ZA rfl (jO ?_))))))))
 rw [show ((Ap.st0 c p.rz[r]).map iv)=((Ap.brL p.rz[r] c.st j).map iv) by rw [Ap.brL_all _ _ (by omega)];unfold Ap.st0;rw [if_pos hs1]]
 exact tM T0
 rw [dF hs1]
 refine kW 134 [(1,.box 31 [nz,nz,iv 0,nz,nz,iv 0]),(2,.row true 3 1 (0+c.st.length) (c.st.map iv)),(3,.row true 3 1 (0+c.se.length) (c.se.map iv)),(5,.box 31 [.fr (Zb c.sh),.own 2,iv c.cor,.own 3,.fr (Zb c.fa),iv c.val])] [(4,.el (Rd.cCg c) 0),(5,.el ([iv r,iv i,iv kp]) 0),(6,bx 1),(7,bF),(8,.el (cRu p.rz[r]) 0),(9,bx 5),(23,bF)] (ZA rfl (Zq ?_))
 rw [show ((Ap.st0 c p.rz[r]).map iv)=(c.st.map iv) by unfold Ap.st0;rw [if_neg hs1]]
 exact tM T0
 refine jC (Zl ?_)
 refine Ym (True) (ofL [(1,.box 31 [nz,nz,iv 0,nz,nz,iv 0]),(2,.row true 3 1 (0+c.st.length) ((Ap.st0 c p.rz[r]).map iv)),(3,.row true 3 1 (0+c.se.length) (c.se.map iv)),(5,.box 31 [.fr (Zb c.sh),.own 2,iv c.cor,.own 3,.fr (Zb c.fa),iv c.val])]) (ofT 134 [(4,.el (Rd.cCg c) 0),(5,.el ([iv r,iv i,iv kp]) 0),(6,bx 1),(7,bF),(8,.el (cRu p.rz[r]) 0),(9,bx 5),(51,bv (decide (p.rz[r].kind=2)||decide (p.rz[r].kind=5)))]) ?_ (fun _ => ?_)
 by_cases hs3:p.rz[r].kind=2
 refine Za (oW (oW (oe (dT hs3) (oS bT (qK (qK (qK (oS bT (kN 134 [(1,.box 31 [nz,nz,iv 0,nz,nz,iv 0]),(2,.row true 3 1 (0+c.st.length) ((Ap.st0 c p.rz[r]).map iv)),(3,.row true 3 1 (0+c.se.length) (c.se.map iv)),(5,.box 31 [.fr (Zb c.sh),.own 2,iv c.cor,.own 3,.fr (Zb c.fa),iv c.val])] [(4,.el (Rd.cCg c) 0),(5,.el ([iv r,iv i,iv kp]) 0),(6,bx 1),(7,bF),(8,.el (cRu p.rz[r]) 0),(9,bx 5),(51,bT)] ?_)))))))))
 rw [show ((decide (p.rz[r].kind=2)||decide (p.rz[r].kind=5)))=true by simp only [dT hs3,decide_true,decide_false,Bool.and_true,Bool.true_and,Bool.false_and,Bool.and_false,Bool.true_or,Bool.false_or,Bool.or_true,Bool.or_false,Bool.not_true,Bool.not_false]]
 exact tM T0
 refine Za (oW (oW (oe (dF hs3) (oS bF (oF (iv p.rz[r].kind) (gC (ZM rfl rfl) I0 I0 (oS (bv (decide (p.rz[r].kind=5))) (kN 134 [(1,.box 31 [nz,nz,iv 0,nz,nz,iv 0]),(2,.row true 3 1 (0+c.st.length) ((Ap.st0 c p.rz[r]).map iv)),(3,.row true 3 1 (0+c.se.length) (c.se.map iv)),(5,.box 31 [.fr (Zb c.sh),.own 2,iv c.cor,.own 3,.fr (Zb c.fa),iv c.val])] [(4,.el (Rd.cCg c) 0),(5,.el ([iv r,iv i,iv kp]) 0),(6,bx 1),(7,bF),(8,.el (cRu p.rz[r]) 0),(9,bx 5),(51,bv (decide (p.rz[r].kind=5)))] ?_))))))))
 rw [show ((decide (p.rz[r].kind=2)||decide (p.rz[r].kind=5)))=(decide (p.rz[r].kind=5)) by simp only [dF hs3,decide_true,decide_false,Bool.and_true,Bool.true_and,Bool.false_and,Bool.and_false,Bool.true_or,Bool.false_or,Bool.or_true,Bool.or_false,Bool.not_true,Bool.not_false]]
 exact tM T0
 refine Zf ?_
 refine Ym (True) (ofL [(1,.box 31 [nz,nz,iv 0,nz,nz,iv 0]),(2,.row true 3 1 (0+c.st.length) ((Ra.stP c p.rz[r] kp).map iv)),(3,.row true 3 1 (0+c.se.length) (c.se.map iv)),(5,.box 31 [.fr (Zb c.sh),.own 2,iv c.cor,.own 3,.fr (Zb c.fa),iv c.val])]) (ofT 134 [(4,.el (Rd.cCg c) 0),(5,.el ([iv r,iv i,iv kp]) 0),(6,bx 1),(7,bF),(8,.el (cRu p.rz[r]) 0),(9,bx 5)]) ?_ (fun _ => ?_)
 by_cases hs4:(decide (p.rz[r].kind=2)||decide (p.rz[r].kind=5))=true
 have hkp:=hpt (En.or_t hs4)
 rw [hs4]
 refine kW 134 [(1,.box 31 [nz,nz,iv 0,nz,nz,iv 0]),(2,.row true 3 1 (0+c.st.length) ((Ap.st0 c p.rz[r]).map iv)),(3,.row true 3 1 (0+c.se.length) (c.se.map iv)),(5,.box 31 [.fr (Zb c.sh),.own 2,iv c.cor,.own 3,.fr (Zb c.fa),iv c.val])] [(4,.el (Rd.cCg c) 0),(5,.el ([iv r,iv i,iv kp]) 0),(6,bx 1),(7,bF),(8,.el (cRu p.rz[r]) 0),(9,bx 5),(51,bT)] (Yb rfl (Za (oF (.own 2) (oF (iv kp) (oF (iv p.rz[r].pt) (Y6 rfl (ZZ (off:=kp.toNat*1) (.tmp 53) (.tmp 55) rfl U24 (by kernel_rfl) (by omega) (by omega) rfl) ⟨I0,I0,T0⟩ ⟨rfl,T0⟩ T0 (Y6 rfl (Yv (X:=iv p.rz[r].pt) (off:=kp.toNat*1) (cs:=((Ap.st0 c p.rz[r]).map iv)) (ds:=(((Ap.st0 c p.rz[r]).set kp.toNat p.rz[r].pt).map iv)) (zz:=1) (.tmp 58) (.tmp 57) rfl (by kernel_rfl) (by kernel_rfl) (fun _ d hd=>by simp only [AV.cellsOf,List.mem_cons,List.not_mem_nil,or_false] at hd;subst hd;rfl) (by kernel_rfl) (by simp [Ap.seA_len,Ap.faA_len,Ap.brL_len,Ap.st0_len,Ra.stP_len];omega) Ra.set_row) ⟨I0,I0,T0⟩ ⟨rfl,T0⟩ rfl (kN 134 [(1,.box 31 [nz,nz,iv 0,nz,nz,iv 0]),(2,.row true 3 1 (0+c.st.length) (((Ap.st0 c p.rz[r]).set kp.toNat p.rz[r].pt).map iv)),(3,.row true 3 1 (0+c.se.length) (c.se.map iv)),(5,.box 31 [.fr (Zb c.sh),.own 2,iv c.cor,.own 3,.fr (Zb c.fa),iv c.val])] [(4,.el (Rd.cCg c) 0),(5,.el ([iv r,iv i,iv kp]) 0),(6,bx 1),(7,bF),(8,.el (cRu p.rz[r]) 0),(9,bx 5)] ?_))))))))
 rw [show ((Ra.stP c p.rz[r] kp).map iv)=(((Ap.st0 c p.rz[r]).set kp.toNat p.rz[r].pt).map iv) by unfold Ra.stP;rw [if_pos (En.or_t hs4)]]
 exact tM T0
 have hs4f:(decide (p.rz[r].kind=2)||decide (p.rz[r].kind=5))=false:=by simpa using hs4
 rw [hs4f]
 refine kW 134 [(1,.box 31 [nz,nz,iv 0,nz,nz,iv 0]),(2,.row true 3 1 (0+c.st.length) ((Ap.st0 c p.rz[r]).map iv)),(3,.row true 3 1 (0+c.se.length) (c.se.map iv)),(5,.box 31 [.fr (Zb c.sh),.own 2,iv c.cor,.own 3,.fr (Zb c.fa),iv c.val])] [(4,.el (Rd.cCg c) 0),(5,.el ([iv r,iv i,iv kp]) 0),(6,bx 1),(7,bF),(8,.el (cRu p.rz[r]) 0),(9,bx 5),(51,bF)] (ZA rfl (Zq ?_))
 rw [show ((Ra.stP c p.rz[r] kp).map iv)=((Ap.st0 c p.rz[r]).map iv) by unfold Ra.stP;rw [if_neg (En.or_f hs4f)]]
 exact tM T0
 refine jC (Za (oF (.own 2) (oF (iv i) (oF (iv p.rz[r].to) (Y6 rfl (ZZ (off:=i*1) (.tmp 60) (.tmp 62) rfl U24 (by kernel_rfl) (by omega) (by omega) rfl) ⟨I0,I0,T0⟩ ⟨rfl,T0⟩ T0 (Y6 rfl (Yv (X:=iv p.rz[r].to) (off:=i*1) (cs:=((Ra.stP c p.rz[r] kp).map iv)) (ds:=((Ap.stA c p.rz[r] i kp).map iv)) (zz:=1) (.tmp 65) (.tmp 64) rfl (by kernel_rfl) (by kernel_rfl) (fun _ d hd=>by simp only [AV.cellsOf,List.mem_cons,List.not_mem_nil,or_false] at hd;subst hd;rfl) (by kernel_rfl) (by simp [Ap.seA_len,Ap.faA_len,Ap.brL_len,Ap.st0_len,Ra.stP_len];omega) (Ra.fin_row hpt2)) ⟨I0,I0,T0⟩ ⟨rfl,T0⟩ rfl (jD (jB (oF (iv p.rz[r].wr) (oC (YJ (r := !decide (p.rz[r].wr=(-1))) rfl (Bool.not_not _).symm) I0 I0 (kN 134 [(1,.box 31 [nz,nz,iv 0,nz,nz,iv 0]),(2,.row true 3 1 (0+c.st.length) ((Ap.stA c p.rz[r] i kp).map iv)),(3,.row true 3 1 (0+c.se.length) (c.se.map iv)),(5,.box 31 [.fr (Zb c.sh),.own 2,iv c.cor,.own 3,.fr (Zb c.fa),iv c.val])] [(4,.el (Rd.cCg c) 0),(5,.el ([iv r,iv i,iv kp]) 0),(6,bx 1),(7,bF),(8,.el (cRu p.rz[r]) 0),(9,bx 5),(68,bv (!decide (p.rz[r].wr=(-1))))] (Zf ?_))))))))))))
 refine Ym (True) (ofL [(1,.box 31 [nz,nz,iv 0,nz,nz,iv 0]),(2,.row true 3 1 (0+c.st.length) ((Ap.stA c p.rz[r] i kp).map iv)),(3,.row true 3 1 (0+c.se.length) (c.se.map iv)),(5,.box 31 [.fr (Zb c.sh),.own 2,iv c.cor,.own 3,.fr (Zb c.fa),iv (Ra.wv c p.rz[r])])]) (ofT 134 [(4,.el (Rd.cCg c) 0),(5,.el ([iv r,iv i,iv kp]) 0),(6,bx 1),(7,bF),(8,.el (cRu p.rz[r]) 0),(9,bx 5)]) ?_ (fun _ => ?_)
 by_cases hs5:p.rz[r].wr=(-1)
 rw [dT hs5]
 refine kW 134 [(1,.box 31 [nz,nz,iv 0,nz,nz,iv 0]),(2,.row true 3 1 (0+c.st.length) ((Ap.stA c p.rz[r] i kp).map iv)),(3,.row true 3 1 (0+c.se.length) (c.se.map iv)),(5,.box 31 [.fr (Zb c.sh),.own 2,iv c.cor,.own 3,.fr (Zb c.fa),iv c.val])] [(4,.el (Rd.cCg c) 0),(5,.el ([iv r,iv i,iv kp]) 0),(6,bx 1),(7,bF),(8,.el (cRu p.rz[r]) 0),(9,bx 5),(68,bF)] (ZA rfl (Zq ?_))
 rw [show Ra.wv c p.rz[r]=c.val by unfold Ra.wv;have:=R.wr;rw [if_neg (by omega)]]
 exact tM T0
 rw [dF hs5]
 refine kW 134 [(1,.box 31 [nz,nz,iv 0,nz,nz,iv 0]),(2,.row true 3 1 (0+c.st.length) ((Ap.stA c p.rz[r] i kp).map iv)),(3,.row true 3 1 (0+c.se.length) (c.se.map iv)),(5,.box 31 [.fr (Zb c.sh),.own 2,iv c.cor,.own 3,.fr (Zb c.fa),iv c.val])] [(4,.el (Rd.cCg c) 0),(5,.el ([iv r,iv i,iv kp]) 0),(6,bx 1),(7,bF),(8,.el (cRu p.rz[r]) 0),(9,bx 5),(68,bT)] (Yb rfl (Za (oW (oW (oW (oY (kN 134 [(1,.box 31 [nz,nz,iv 0,nz,nz,iv 0]),(2,.row true 3 1 (0+c.st.length) ((Ap.stA c p.rz[r] i kp).map iv)),(3,.row true 3 1 (0+c.se.length) (c.se.map iv)),(5,.box 31 [.fr (Zb c.sh),.own 2,iv c.cor,.own 3,.fr (Zb c.fa),iv p.rz[r].wr])] [(4,.el (Rd.cCg c) 0),(5,.el ([iv r,iv i,iv kp]) 0),(6,bx 1),(7,bF),(8,.el (cRu p.rz[r]) 0),(9,bx 5)] ?_)))))))
 rw [show Ra.wv c p.rz[r]=p.rz[r].wr by unfold Ra.wv;have:=R.wr;rw [if_pos (by omega)]]
 exact tM T0
 refine jC (Za (oS bT (jD (jB (oS (iv 0) (kN 134 [(1,.box 31 [nz,nz,iv 0,nz,nz,iv 0]),(2,.row true 3 1 (0+c.st.length) ((Ap.stA c p.rz[r] i kp).map iv)),(3,.row true 3 1 (0+c.se.length) (c.se.map iv)),(5,.box 31 [.fr (Zb c.sh),.own 2,iv c.cor,.own 3,.fr (Zb c.fa),iv (Ra.wv c p.rz[r])])] [(4,.el (Rd.cCg c) 0),(5,.el ([iv r,iv i,iv kp]) 0),(6,bx 1),(7,bF),(8,.el (cRu p.rz[r]) 0),(9,bx 5),(11,bT),(12,iv 0)] (Zf (Zo ?_))))))))
 rw [show (c.se.map iv)=((Ap.seA c.cor c p.rz[r] i 0).map iv) by rw [Ra.se_zero]]
 refine ZL (σ:={s:Nat × Bool // s.1≤p.rz[r].send.length∧s.2=Rd.belB (Ap.seA c.cor c p.rz[r] i s.1) 1048577}) (fun s=>(ofL [(1,.box 31 [nz,nz,iv 0,nz,nz,iv 0]),(2,.row true 3 1 (0+c.st.length) ((Ap.stA c p.rz[r] i kp).map iv)),(3,.row true 3 1 (0+c.se.length) ((Ap.seA c.cor c p.rz[r] i s.1.1).map iv)),(5,.box 31 [.fr (Zb c.sh),.own 2,iv c.cor,.own 3,.fr (Zb c.fa),iv (Ra.wv c p.rz[r])])],ofT 134 [(4,.el (Rd.cCg c) 0),(5,.el ([iv r,iv i,iv kp]) 0),(6,bx 1),(7,bF),(8,.el (cRu p.rz[r]) 0),(9,bx 5),(11,bv s.1.2),(12,iv s.1.1)])) (fun s=>p.rz[r].send.length-s.1.1) ⟨(0,true),Nat.zero_le _,Ra.se_start hc⟩ (Zp _ _) (fun s => ?_)
 obtain ⟨⟨k,b⟩,hk0,hb⟩:=s
 show ETri J w0 (ofL [(1,.box 31 [nz,nz,iv 0,nz,nz,iv 0]),(2,.row true 3 1 (0+c.st.length) ((Ap.stA c p.rz[r] i kp).map iv)),(3,.row true 3 1 (0+c.se.length) ((Ap.seA c.cor c p.rz[r] i k).map iv)),(5,.box 31 [.fr (Zb c.sh),.own 2,iv c.cor,.own 3,.fr (Zb c.fa),iv (Ra.wv c p.rz[r])])]) (ofT 134 [(4,.el (Rd.cCg c) 0),(5,.el ([iv r,iv i,iv kp]) 0),(6,bx 1),(7,bF),(8,.el (cRu p.rz[r]) 0),(9,bx 5),(11,bv b),(12,iv k)]) _
 dsimp only at hk0 hb
 refine jM ?_
 by_cases hs6:(k:Int)<((p.rz[r].send.length:Nat):Int)
 have hk1:k<p.rz[r].send.length:=by omega
 have hsm:=R.se _ (List.getElem_mem hk1)
 have hbv:=Ap.getD_in (Ap.seA_in (cor:=c.cor) (r:=p.rz[r]) (i:=i) (k:=k) hc.se) (by omega) p.rz[r].send[k].toNat
 refine Za (oW (oW (oW (oW (ol (dT hs6) (jH (Zq (jC (Zo (jB (oF (iv i) (oF (iv c.cor) (oC (Zcc rfl (dT hic)) I0 I0 (jH (Zl ?_)))))))))))))))
 refine tD (dW (dS (.own 3) (dW (dS (Zb p.rz[r].send) (dS (iv k) (dC (xS (k*1) 87 88 U24) I0 I0 (dL (iv p.rz[r].send[k]) (Zw p.rz[r].send (by omega)) (dR (ZZ (off:=p.rz[r].send[k].toNat*1) (.tmp 85) (.tmp 90) rfl U24 (by kernel_rfl) (by omega) (by omega) rfl) ⟨I0,I0,T0⟩ ⟨rfl,T0⟩ T0 (dB (Kj (Y := .row true 3 1 (0+c.se.length) ((Ap.seA c.cor c p.rz[r] i k).map iv)) (.tmp 91) rfl U3 rfl (Ct.row_at (by rw [Ap.seA_len];omega))) I0 rfl (dC (WW (c:=((Ap.seA c.cor c p.rz[r] i k).getD p.rz[r].send[k].toNat 0)+1) rfl (w64 (by omega) (by omega) (by omega))) I0 I0 (dR (ZZ (off:=p.rz[r].send[k].toNat*1) (.tmp 85) (.tmp 90) rfl U24 (by kernel_rfl) (by omega) (by omega) rfl) ⟨I0,I0,T0⟩ ⟨rfl,T0⟩ T0 (dR (Yv (X:=iv (((Ap.seA c.cor c p.rz[r] i k).getD p.rz[r].send[k].toNat 0)+1)) (off:=p.rz[r].send[k].toNat*1) (cs:=((Ap.seA c.cor c p.rz[r] i k).map iv)) (ds:=((Ap.seA c.cor c p.rz[r] i (k+1)).map iv)) (zz:=1) (.tmp 94) (.tmp 93) rfl (by kernel_rfl) (by kernel_rfl) (fun _ d hd=>by simp only [AV.cellsOf,List.mem_cons,List.not_mem_nil,or_false] at hd;subst hd;rfl) (by kernel_rfl) (by simp [Ap.seA_len,Ap.faA_len,Ap.brL_len,Ap.st0_len,Ra.stP_len];omega) (Ra.se_row hic hk1)) ⟨I0,I0,T0⟩ ⟨rfl,T0⟩ rfl (eD ?_)))))))))))))
 refine kW 134 (KG c p.rz[r] i kp k) [(4,.el (Rd.cCg c) 0),(5,.el ([iv r,iv i,iv kp]) 0),(6,bx 1),(7,bF),(8,.el (cRu p.rz[r]) 0),(9,bx 5),(11,bv b),(12,iv k),(76,bT),(83,bT)] (Zf ?_)
 by_cases hs7:b=true
 simp only [hs7]
 refine kW 134 (KG c p.rz[r] i kp k) [(4,.el (Rd.cCg c) 0),(5,.el ([iv r,iv i,iv kp]) 0),(6,bx 1),(7,bF),(8,.el (cRu p.rz[r]) 0),(9,bx 5),(11,bT),(12,iv k),(76,bT),(83,bT)] ?_
 refine tD (dW (dS bT (dW (dS (.own 3) (dW (dS (Zb p.rz[r].send) (dS (iv k) (dC (xS (k*1) 100 101 U24) I0 I0 (dL (iv p.rz[r].send[k]) (Zw p.rz[r].send (by omega)) (dR (ZZ (off:=p.rz[r].send[k].toNat*1) (.tmp 98) (.tmp 103) rfl U24 (by kernel_rfl) (by omega) (by omega) rfl) ⟨I0,I0,T0⟩ ⟨rfl,T0⟩ T0 (dB (Kj (Y := .row true 3 1 (0+c.se.length) ((Ap.seA c.cor c p.rz[r] i (k+1)).map iv)) (.tmp 104) rfl U3 rfl (Ct.row_at (by rw [Ap.seA_len];omega))) I0 rfl (dC (sp_leq rfl rfl) I0 I0 (dW (dS (bv (decide (((Ap.seA c.cor c p.rz[r] i (k+1)).getD p.rz[r].send[k].toNat 0)≤1048576))) (eD ?_)))))))))))))))
 refine kW 134 (KG c p.rz[r] i kp k) [(4,.el (Rd.cCg c) 0),(5,.el ([iv r,iv i,iv kp]) 0),(6,bx 1),(7,bF),(8,.el (cRu p.rz[r]) 0),(9,bx 5),(11,bv (decide (((Ap.seA c.cor c p.rz[r] i (k+1)).getD p.rz[r].send[k].toNat 0)≤1048576))),(12,iv k),(76,bT),(83,bT)] (Zv (Zf (Za (oS (iv k) (oV ((k+1:Nat):Int) (oS (iv (k+1:Nat)) (kN 134 (KG c p.rz[r] i kp k) [(4,.el (Rd.cCg c) 0),(5,.el ([iv r,iv i,iv kp]) 0),(6,bx 1),(7,bF),(8,.el (cRu p.rz[r]) 0),(9,bx 5),(11,bv (decide (((Ap.seA c.cor c p.rz[r] i (k+1)).getD p.rz[r].send[k].toNat 0)≤1048576))),(12,iv (k+1:Nat)),(76,bT),(83,bT)] (Zf ?_))))))))
 refine Zs ⟨(k+1,(decide (((Ap.seA c.cor c p.rz[r] i (k+1)).getD p.rz[r].send[k].toNat 0)≤1048576))),by dsimp only;omega,(Ra.se_yes hc hic hk1 (by omega) hb hs7)⟩ (show p.rz[r].send.length-(k+1)<p.rz[r].send.length-k by omega) ?_
 show Wk _ _ (ofL (KG c p.rz[r] i kp k)) (ofT 134 [(4,.el (Rd.cCg c) 0),(5,.el ([iv r,iv i,iv kp]) 0),(6,bx 1),(7,bF),(8,.el (cRu p.rz[r]) 0),(9,bx 5),(11,bv (decide (((Ap.seA c.cor c p.rz[r] i (k+1)).getD p.rz[r].send[k].toNat 0)≤1048576))),(12,iv ((k+1):Nat))])
 exact Zp _ _
 have hs7f:b=false:=by simpa using hs7
 simp only [hs7f]
 refine kW 134 (KG c p.rz[r] i kp k) (XRa2_h11 c r i kp p.rz[r] k) ?_
 refine tD (dW (dS bF (dK (dK (dK (dK (dK (dK (dK (dK (dK (dK (dW (dS bF (eD ?_)))))))))))))))
 refine kW 134 (KG c p.rz[r] i kp k) (XRa2_h11 c r i kp p.rz[r] k) (Zv (Zf (Za (oS (iv k) (oV ((k+1:Nat):Int) (oS (iv (k+1:Nat)) (kN 134 (KG c p.rz[r] i kp k) [(4,.el (Rd.cCg c) 0),(5,.el ([iv r,iv i,iv kp]) 0),(6,bx 1),(7,bF),(8,.el (cRu p.rz[r]) 0),(9,bx 5),(11,bF),(12,iv (k+1:Nat)),(76,bT),(83,bT)] (Zf ?_))))))))
 refine Zs ⟨(k+1,false),by dsimp only;omega,(Ra.se_nope hc hic hk1 hb hs7f)⟩ (show p.rz[r].send.length-(k+1)<p.rz[r].send.length-k by omega) ?_
 show Wk _ _ (ofL (KG c p.rz[r] i kp k)) (ofT 134 (XRa2_h12 c r i kp p.rz[r] k))
 exact Zp _ _
 refine Za (oW (oW (oW (oW (ol (dF hs6) (jI (jO (jC (Za (oW (oW (oY (oS (bv b) (kN 134 [(1,.box 31 [.fr (Zb c.sh),.own 2,iv c.cor,.own 3,.fr (Zb c.fa),iv (Ra.wv c p.rz[r])]),(2,.row true 3 1 (0+c.st.length) ((Ap.stA c p.rz[r] i kp).map iv)),(3,.row true 3 1 (0+c.se.length) ((Ap.seA c.cor c p.rz[r] i k).map iv))] [(6,bx 1),(7,bv b)] (Zf (Z4 ?_))))))))))))))))
 refine ZQ Tryz.results27 (.cellS rfl rfl U31 rfl (z:=6) (by kernel_rfl) rfl (by decide)) (.tmp rfl) ?_
 obtain rfl:k=p.rz[r].send.length:=by omega
 rw [hb,← Ra.lg_se (k':=kp) hc hic]
 exact congr (congrArg (fun a b=>AV.tup [.agg a,b]) (Ra.res_se hic)) rfl
abbrev XRa2_h13 (x0:Cf) (x1:Ru):List (Nat × ABlk):=[(1,.box 31 [nz,nz,iv 0,nz,nz,iv 0]),(2,.row true 3 1 (0+x0.st.length) (x0.st.map iv)),(3,.row true 3 1 (0+x0.fa.length) (x0.fa.map iv)),(4,.box 57 (cRu x1)),(5,.box 31 [.fr (Zb x0.sh),.own 2,iv x0.cor,.fr (Zb x0.se),.own 3,iv x0.val])]
abbrev XRa2_h14 (x0:Cf):List (Nat × ABlk):=[(1,.box 31 [nz,nz,iv 0,nz,nz,iv 0]),(2,.row true 3 1 (0+x0.st.length) (x0.st.map iv)),(3,.row true 3 1 (0+x0.fa.length) (x0.fa.map iv)),(5,.box 31 [.fr (Zb x0.sh),.own 2,iv x0.cor,.fr (Zb x0.se),.own 3,iv x0.val])]
abbrev Zdb (x0:Cf) (x1:Ru) (x2:Nat):List (Nat × ABlk):=[(1,.box 31 [nz,nz,iv 0,nz,nz,iv 0]),(2,.row true 3 1 (0+x0.st.length) ((Ap.brL x1 x0.st (x2+1)).map iv)),(3,.row true 3 1 (0+x0.fa.length) (x0.fa.map iv)),(5,.box 31 [.fr (Zb x0.sh),.own 2,iv x0.cor,.fr (Zb x0.se),.own 3,iv x0.val])]
abbrev KF (x0:Cf) (x1:Ru) (x2:Nat) (x3:Int) (x4:Nat):List (Nat × ABlk):=[(1,.box 31 [nz,nz,iv 0,nz,nz,iv 0]),(2,.row true 3 1 (0+x0.st.length) ((Ap.stA x0 x1 x2 x3).map iv)),(3,.row true 3 1 (0+x0.fa.length) ((Ap.faA x0.cor x0 x1 x2 (x4+1)).map iv)),(5,.box 31 [.fr (Zb x0.sh),.own 2,iv x0.cor,.fr (Zb x0.se),.own 3,iv (Ra.wv x0 x1)])]
abbrev XRa2_h17 (x0:Cf) (x1:Nat) (x2:Nat) (x3:Int) (x4:Ru) (x5:Nat):List (Nat × AV):=[(4,.el (Rd.cCg x0) 0),(5,.el ([iv x1,iv x2,iv x3]) 0),(6,bx 1),(7,bF),(8,.el (cRu x4) 0),(9,bx 5),(11,bF),(12,iv x5),(76,bT),(83,bF)]
theorem rapply_fa (HL:FamLen p) (HC:Rd.CgOk c) (hc:En.CfV p n f c) (hv:valE p=0) (hr:r<p.rz.length) (hi:i<c.st.length) (hpt:p.rz[r].kind=2∨p.rz[r].kind=5→0≤kp∧kp<(c.st.length:Int)) (hpt2:p.rz[r].kind=2∨p.rz[r].kind=5→kp.toNat≠i) (hic:¬ (i:Int)<c.cor):Ctr Tryz.prog J 27 [.agg (cFm p),.agg (Rd.cCg c),.agg [iv r,iv i,iv kp]] (.tup [.agg (Rd.cCg (Ap.af c.cor c p.rz[r] i kp)),bv (Ap.lgB (Ap.af c.cor c p.rz[r] i kp))]):=by
 have R:=En.val_in hv (List.getElem_mem hr)
 have hz:=En.val_sizes hv
 have hls:=hc.ls
 have hlf:=hc.lf
 have hsl:=(HL.rz _ (List.getElem_mem hr)).send
 have hlst:=HC.lst
 refine Zm Tryz.func27 rfl (pN (Zh (ZS p)) (pN (Zh (Rd.plain_cg c)) (pN (Zh (pN (.v _) (pN (.v _) (pN (.v _) pZ)))) pZ))) (n:=134) rfl (by simp) (fun w0 => ?_)
 refine kW 134 [] [(0,.agg (cFm p)),(1,.agg (Rd.cCg c)),(2,.agg [iv r,iv i,iv kp])] (jB (oA (ZD (X := .agg (cFm p)) (.tmp 0) rfl rfl rfl) I0 (oA (ZD (X := .agg (Rd.cCg c)) (.tmp 1) rfl rfl rfl) I0 (oA (ZD (X := .agg [iv r,iv i,iv kp]) (.tmp 2) rfl rfl rfl) I0 (oZ 1 Z31 (oS bF (jD ?_)))))))
 refine tD (dW (dS (slA 18 cRu p.rz) (dW (dS (iv r) (dC (xS (r*18) 14 16 U25) I0 I0 (dA (Zj (z:=18) (.tmp 17) rfl U57 rfl (by kernel_rfl) (Z9 lenRu p.rz r (by omega)) rfl) I0 (dA (Zj (z:=6) (.tmp 4) rfl U31 rfl (by kernel_rfl) rfl rfl) I0 (dR (Zdx (c := .func 8) (xs := #[.tmp 19]) [] (CopyCf_fa HC 2 3 (by decide)) rfl (by kernel_rfl) rfl (Xs:=[.agg (Rd.cCg c)]) rfl rfl rfl) ⟨I0,I0,T0⟩ T0 rfl (dz 4 Z57 (dz 5 Z31 (dY (dY (eD ?_)))))))))))))
 refine kW 134 (XRa2_h13 c p.rz[r]) (Zda c r i kp) (jC (Zl (kW 134 (XRa2_h13 c p.rz[r]) (Zda c r i kp) ?_)))
 refine Yk (Zav 8 4 0 rfl rfl rfl rfl) ?_
 refine kW 134 (XRa2_h14 c) (XRa2_h4 c r i kp p.rz[r]) (Za (oF (iv p.rz[r].kind) (oC (ZM rfl rfl) I0 I0 (kN 134 (XRa2_h14 c) [(4,.el (Rd.cCg c) 0),(5,.el ([iv r,iv i,iv kp]) 0),(6,bx 1),(7,bF),(8,.el (cRu p.rz[r]) 0),(9,bx 5),(23,bv (decide (p.rz[r].kind=3)))] (Zf ?_)))))
 refine Ym (True) (ofL [(1,.box 31 [nz,nz,iv 0,nz,nz,iv 0]),(2,.row true 3 1 (0+c.st.length) ((Ap.st0 c p.rz[r]).map iv)),(3,.row true 3 1 (0+c.fa.length) (c.fa.map iv)),(5,.box 31 [.fr (Zb c.sh),.own 2,iv c.cor,.fr (Zb c.se),.own 3,iv c.val])]) (ofT 134 [(4,.el (Rd.cCg c) 0),(5,.el ([iv r,iv i,iv kp]) 0),(6,bx 1),(7,bF),(8,.el (cRu p.rz[r]) 0),(9,bx 5)]) ?_ (fun _ => ?_)
 by_cases hs1:p.rz[r].kind=3
 rw [dT hs1]
 refine kW 134 [(1,.box 31 [nz,nz,iv 0,nz,nz,iv 0]),(2,.row true 3 1 (0+c.st.length) (c.st.map iv)),(3,.row true 3 1 (0+c.fa.length) (c.fa.map iv)),(5,.box 31 [.fr (Zb c.sh),.own 2,iv c.cor,.fr (Zb c.se),.own 3,iv c.val])] [(4,.el (Rd.cCg c) 0),(5,.el ([iv r,iv i,iv kp]) 0),(6,bx 1),(7,bF),(8,.el (cRu p.rz[r]) 0),(9,bx 5),(23,bT)] (jK (oS (iv 0) (kN 134 [(1,.box 31 [nz,nz,iv 0,nz,nz,iv 0]),(2,.row true 3 1 (0+c.st.length) (c.st.map iv)),(3,.row true 3 1 (0+c.fa.length) (c.fa.map iv)),(5,.box 31 [.fr (Zb c.sh),.own 2,iv c.cor,.fr (Zb c.se),.own 3,iv c.val])] [(4,.el (Rd.cCg c) 0),(5,.el ([iv r,iv i,iv kp]) 0),(6,bx 1),(7,bF),(8,.el (cRu p.rz[r]) 0),(9,bx 5),(10,iv 0)] (Zf (Zo ?_)))))
 rw [show (c.st.map iv)=((Ap.brL p.rz[r] c.st 0).map iv) by rw [Ap.brL_zero]]
 refine ZL (σ:={j:Nat // j≤c.st.length}) (fun s=>(ofL [(1,.box 31 [nz,nz,iv 0,nz,nz,iv 0]),(2,.row true 3 1 (0+c.st.length) ((Ap.brL p.rz[r] c.st s.1).map iv)),(3,.row true 3 1 (0+c.fa.length) (c.fa.map iv)),(5,.box 31 [.fr (Zb c.sh),.own 2,iv c.cor,.fr (Zb c.se),.own 3,iv c.val])],ofT 134 [(4,.el (Rd.cCg c) 0),(5,.el ([iv r,iv i,iv kp]) 0),(6,bx 1),(7,bF),(8,.el (cRu p.rz[r]) 0),(9,bx 5),(10,iv s.1)])) (fun s=>c.st.length-s.1) ⟨0,Nat.zero_le _⟩ (Zp _ _) (fun s => ?_)
 obtain ⟨j,hj0⟩:=s
 show ETri J w0 (ofL [(1,.box 31 [nz,nz,iv 0,nz,nz,iv 0]),(2,.row true 3 1 (0+c.st.length) ((Ap.brL p.rz[r] c.st j).map iv)),(3,.row true 3 1 (0+c.fa.length) (c.fa.map iv)),(5,.box 31 [.fr (Zb c.sh),.own 2,iv c.cor,.fr (Zb c.se),.own 3,iv c.val])]) (ofT 134 (XRa2_h5 c r i kp p.rz[r] j)) _
 refine jM ?_
 by_cases hs2:(j:Int)<(((0+c.st.length):Nat):Int)
 have hj1:j<c.st.length:=by omega
 have hst:=Ap.cst_el hc hj1
 have hre:=R.re (by assumption)
 have hrs:c.st[j].toNat<p.rz[r].resp.length:=by omega
 refine Za (oW (oF (.own 2) (oB (Kr (.tmp 26) rfl U24) I0 rfl (ol (dT hs2) (jH (Zq (jC (Zo ?_))))))))
 refine tD (dW (dS (.own 2) (dS (iv j) (dW (dS (Zb p.rz[r].resp) (dW (dS (Zb c.st) (dS (iv j) (dC (xS (j*1) 37 38 U24) I0 I0 (dL (iv c.st[j]) (Zw c.st (by omega)) (dC (xS (c.st[j].toNat*1) 35 40 U24) I0 I0 (dL (iv p.rz[r].resp[c.st[j].toNat]) (Zw p.rz[r].resp (by omega)) (dR (ZZ (off:=j*1) (.tmp 32) (.tmp 33) rfl U24 (by kernel_rfl) (by omega) (by omega) rfl) ⟨I0,I0,T0⟩ ⟨rfl,T0⟩ T0 (dR (Yv (X:=iv p.rz[r].resp[c.st[j].toNat]) (off:=j*1) (cs:=((Ap.brL p.rz[r] c.st j).map iv)) (ds:=((Ap.brL p.rz[r] c.st (j+1)).map iv)) (zz:=1) (.tmp 43) (.tmp 42) rfl (by kernel_rfl) (by kernel_rfl) (fun _ d hd=>by simp only [AV.cellsOf,List.mem_cons,List.not_mem_nil,or_false] at hd;subst hd;rfl) (by kernel_rfl) (by simp [Ap.seA_len,Ap.faA_len,Ap.brL_len,Ap.st0_len,Ra.stP_len];omega) (by exact (Ra.br_row (Ap.brd_el hrs)))) ⟨I0,I0,T0⟩ ⟨rfl,T0⟩ rfl (eD ?_)))))))))))))))
 refine kW 134 (Zdb c p.rz[r] j) (XRa2_h7 c r i kp p.rz[r] j) (Zv (Zf (Za (oS (iv j) (oV ((j+1:Nat):Int) (oS (iv (j+1:Nat)) (kN 134 (Zdb c p.rz[r] j) (XRa2_h8 c r i kp p.rz[r] j) (Zf ?_))))))))
 refine Zs ⟨j+1,by omega⟩ (show c.st.length-(j+1)<c.st.length-j by omega) ?_
 show Wk _ _ (ofL (Zdb c p.rz[r] j)) (ofT 134 (XRa2_h9 c r i kp p.rz[r] j))
 exact Zp _ _
 refine Za (oW (oF (.own 2) (oB (Kr (.tmp 26) rfl U24) I0 rfl (ol (dF hs2) (kN 134 [(1,.box 31 [nz,nz,iv 0,nz,nz,iv 0]),(2,.row true 3 1 (0+c.st.length) ((Ap.brL p.rz[r] c.st j).map iv)),(3,.row true 3 1 (0+c.fa.length) (c.fa.map iv)),(5,.box 31 [.fr (Zb c.sh),.own 2,iv c.cor,.fr (Zb c.se),.own 3,iv c.val])] [(4,.el (Rd.cCg c) 0),(5,.el ([iv r,iv i,iv kp]) 0),(6,bx 1),(7,bF),(8,.el (cRu p.rz[r]) 0),(9,bx 5),(10,iv j),(28,bF)] (Zf (ZA rfl (jO ?_))))))))
 rw [show ((Ap.st0 c p.rz[r]).map iv)=((Ap.brL p.rz[r] c.st j).map iv) by rw [Ap.brL_all _ _ (by omega)];unfold Ap.st0;rw [if_pos hs1]]
 exact tM T0
 rw [dF hs1]
 refine kW 134 [(1,.box 31 [nz,nz,iv 0,nz,nz,iv 0]),(2,.row true 3 1 (0+c.st.length) (c.st.map iv)),(3,.row true 3 1 (0+c.fa.length) (c.fa.map iv)),(5,.box 31 [.fr (Zb c.sh),.own 2,iv c.cor,.fr (Zb c.se),.own 3,iv c.val])] [(4,.el (Rd.cCg c) 0),(5,.el ([iv r,iv i,iv kp]) 0),(6,bx 1),(7,bF),(8,.el (cRu p.rz[r]) 0),(9,bx 5),(23,bF)] (ZA rfl (Zq ?_))
 rw [show ((Ap.st0 c p.rz[r]).map iv)=(c.st.map iv) by unfold Ap.st0;rw [if_neg hs1]]
 exact tM T0
 refine jC (Zl ?_)
 refine Ym (True) (ofL [(1,.box 31 [nz,nz,iv 0,nz,nz,iv 0]),(2,.row true 3 1 (0+c.st.length) ((Ap.st0 c p.rz[r]).map iv)),(3,.row true 3 1 (0+c.fa.length) (c.fa.map iv)),(5,.box 31 [.fr (Zb c.sh),.own 2,iv c.cor,.fr (Zb c.se),.own 3,iv c.val])]) (ofT 134 [(4,.el (Rd.cCg c) 0),(5,.el ([iv r,iv i,iv kp]) 0),(6,bx 1),(7,bF),(8,.el (cRu p.rz[r]) 0),(9,bx 5),(51,bv (decide (p.rz[r].kind=2)||decide (p.rz[r].kind=5)))]) ?_ (fun _ => ?_)
 by_cases hs3:p.rz[r].kind=2
 refine Za (oW (oW (oe (dT hs3) (oS bT (qK (qK (qK (oS bT (kN 134 [(1,.box 31 [nz,nz,iv 0,nz,nz,iv 0]),(2,.row true 3 1 (0+c.st.length) ((Ap.st0 c p.rz[r]).map iv)),(3,.row true 3 1 (0+c.fa.length) (c.fa.map iv)),(5,.box 31 [.fr (Zb c.sh),.own 2,iv c.cor,.fr (Zb c.se),.own 3,iv c.val])] [(4,.el (Rd.cCg c) 0),(5,.el ([iv r,iv i,iv kp]) 0),(6,bx 1),(7,bF),(8,.el (cRu p.rz[r]) 0),(9,bx 5),(51,bT)] ?_)))))))))
 rw [show ((decide (p.rz[r].kind=2)||decide (p.rz[r].kind=5)))=true by simp only [dT hs3,decide_true,decide_false,Bool.and_true,Bool.true_and,Bool.false_and,Bool.and_false,Bool.true_or,Bool.false_or,Bool.or_true,Bool.or_false,Bool.not_true,Bool.not_false]]
 exact tM T0
 refine Za (oW (oW (oe (dF hs3) (oS bF (oF (iv p.rz[r].kind) (gC (ZM rfl rfl) I0 I0 (oS (bv (decide (p.rz[r].kind=5))) (kN 134 [(1,.box 31 [nz,nz,iv 0,nz,nz,iv 0]),(2,.row true 3 1 (0+c.st.length) ((Ap.st0 c p.rz[r]).map iv)),(3,.row true 3 1 (0+c.fa.length) (c.fa.map iv)),(5,.box 31 [.fr (Zb c.sh),.own 2,iv c.cor,.fr (Zb c.se),.own 3,iv c.val])] [(4,.el (Rd.cCg c) 0),(5,.el ([iv r,iv i,iv kp]) 0),(6,bx 1),(7,bF),(8,.el (cRu p.rz[r]) 0),(9,bx 5),(51,bv (decide (p.rz[r].kind=5)))] ?_))))))))
 rw [show ((decide (p.rz[r].kind=2)||decide (p.rz[r].kind=5)))=(decide (p.rz[r].kind=5)) by simp only [dF hs3,decide_true,decide_false,Bool.and_true,Bool.true_and,Bool.false_and,Bool.and_false,Bool.true_or,Bool.false_or,Bool.or_true,Bool.or_false,Bool.not_true,Bool.not_false]]
 exact tM T0
 refine Zf ?_
 refine Ym (True) (ofL [(1,.box 31 [nz,nz,iv 0,nz,nz,iv 0]),(2,.row true 3 1 (0+c.st.length) ((Ra.stP c p.rz[r] kp).map iv)),(3,.row true 3 1 (0+c.fa.length) (c.fa.map iv)),(5,.box 31 [.fr (Zb c.sh),.own 2,iv c.cor,.fr (Zb c.se),.own 3,iv c.val])]) (ofT 134 [(4,.el (Rd.cCg c) 0),(5,.el ([iv r,iv i,iv kp]) 0),(6,bx 1),(7,bF),(8,.el (cRu p.rz[r]) 0),(9,bx 5)]) ?_ (fun _ => ?_)
 by_cases hs4:(decide (p.rz[r].kind=2)||decide (p.rz[r].kind=5))=true
 have hkp:=hpt (En.or_t hs4)
 rw [hs4]
 refine kW 134 [(1,.box 31 [nz,nz,iv 0,nz,nz,iv 0]),(2,.row true 3 1 (0+c.st.length) ((Ap.st0 c p.rz[r]).map iv)),(3,.row true 3 1 (0+c.fa.length) (c.fa.map iv)),(5,.box 31 [.fr (Zb c.sh),.own 2,iv c.cor,.fr (Zb c.se),.own 3,iv c.val])] [(4,.el (Rd.cCg c) 0),(5,.el ([iv r,iv i,iv kp]) 0),(6,bx 1),(7,bF),(8,.el (cRu p.rz[r]) 0),(9,bx 5),(51,bT)] (Yb rfl (Za (oF (.own 2) (oF (iv kp) (oF (iv p.rz[r].pt) (Y6 rfl (ZZ (off:=kp.toNat*1) (.tmp 53) (.tmp 55) rfl U24 (by kernel_rfl) (by omega) (by omega) rfl) ⟨I0,I0,T0⟩ ⟨rfl,T0⟩ T0 (Y6 rfl (Yv (X:=iv p.rz[r].pt) (off:=kp.toNat*1) (cs:=((Ap.st0 c p.rz[r]).map iv)) (ds:=(((Ap.st0 c p.rz[r]).set kp.toNat p.rz[r].pt).map iv)) (zz:=1) (.tmp 58) (.tmp 57) rfl (by kernel_rfl) (by kernel_rfl) (fun _ d hd=>by simp only [AV.cellsOf,List.mem_cons,List.not_mem_nil,or_false] at hd;subst hd;rfl) (by kernel_rfl) (by simp [Ap.seA_len,Ap.faA_len,Ap.brL_len,Ap.st0_len,Ra.stP_len];omega) Ra.set_row) ⟨I0,I0,T0⟩ ⟨rfl,T0⟩ rfl (kN 134 [(1,.box 31 [nz,nz,iv 0,nz,nz,iv 0]),(2,.row true 3 1 (0+c.st.length) (((Ap.st0 c p.rz[r]).set kp.toNat p.rz[r].pt).map iv)),(3,.row true 3 1 (0+c.fa.length) (c.fa.map iv)),(5,.box 31 [.fr (Zb c.sh),.own 2,iv c.cor,.fr (Zb c.se),.own 3,iv c.val])] [(4,.el (Rd.cCg c) 0),(5,.el ([iv r,iv i,iv kp]) 0),(6,bx 1),(7,bF),(8,.el (cRu p.rz[r]) 0),(9,bx 5)] ?_))))))))
 rw [show ((Ra.stP c p.rz[r] kp).map iv)=(((Ap.st0 c p.rz[r]).set kp.toNat p.rz[r].pt).map iv) by unfold Ra.stP;rw [if_pos (En.or_t hs4)]]
 exact tM T0
 have hs4f:(decide (p.rz[r].kind=2)||decide (p.rz[r].kind=5))=false:=by simpa using hs4
 rw [hs4f]
 refine kW 134 [(1,.box 31 [nz,nz,iv 0,nz,nz,iv 0]),(2,.row true 3 1 (0+c.st.length) ((Ap.st0 c p.rz[r]).map iv)),(3,.row true 3 1 (0+c.fa.length) (c.fa.map iv)),(5,.box 31 [.fr (Zb c.sh),.own 2,iv c.cor,.fr (Zb c.se),.own 3,iv c.val])] [(4,.el (Rd.cCg c) 0),(5,.el ([iv r,iv i,iv kp]) 0),(6,bx 1),(7,bF),(8,.el (cRu p.rz[r]) 0),(9,bx 5),(51,bF)] (ZA rfl (Zq ?_))
 rw [show ((Ra.stP c p.rz[r] kp).map iv)=((Ap.st0 c p.rz[r]).map iv) by unfold Ra.stP;rw [if_neg (En.or_f hs4f)]]
 exact tM T0
 refine jC (Za (oF (.own 2) (oF (iv i) (oF (iv p.rz[r].to) (Y6 rfl (ZZ (off:=i*1) (.tmp 60) (.tmp 62) rfl U24 (by kernel_rfl) (by omega) (by omega) rfl) ⟨I0,I0,T0⟩ ⟨rfl,T0⟩ T0 (Y6 rfl (Yv (X:=iv p.rz[r].to) (off:=i*1) (cs:=((Ra.stP c p.rz[r] kp).map iv)) (ds:=((Ap.stA c p.rz[r] i kp).map iv)) (zz:=1) (.tmp 65) (.tmp 64) rfl (by kernel_rfl) (by kernel_rfl) (fun _ d hd=>by simp only [AV.cellsOf,List.mem_cons,List.not_mem_nil,or_false] at hd;subst hd;rfl) (by kernel_rfl) (by simp [Ap.seA_len,Ap.faA_len,Ap.brL_len,Ap.st0_len,Ra.stP_len];omega) (Ra.fin_row hpt2)) ⟨I0,I0,T0⟩ ⟨rfl,T0⟩ rfl (jD (jB (oF (iv p.rz[r].wr) (oC (YJ (r := !decide (p.rz[r].wr=(-1))) rfl (Bool.not_not _).symm) I0 I0 (kN 134 [(1,.box 31 [nz,nz,iv 0,nz,nz,iv 0]),(2,.row true 3 1 (0+c.st.length) ((Ap.stA c p.rz[r] i kp).map iv)),(3,.row true 3 1 (0+c.fa.length) (c.fa.map iv)),(5,.box 31 [.fr (Zb c.sh),.own 2,iv c.cor,.fr (Zb c.se),.own 3,iv c.val])] [(4,.el (Rd.cCg c) 0),(5,.el ([iv r,iv i,iv kp]) 0),(6,bx 1),(7,bF),(8,.el (cRu p.rz[r]) 0),(9,bx 5),(68,bv (!decide (p.rz[r].wr=(-1))))] (Zf ?_))))))))))))
 refine Ym (True) (ofL [(1,.box 31 [nz,nz,iv 0,nz,nz,iv 0]),(2,.row true 3 1 (0+c.st.length) ((Ap.stA c p.rz[r] i kp).map iv)),(3,.row true 3 1 (0+c.fa.length) (c.fa.map iv)),(5,.box 31 [.fr (Zb c.sh),.own 2,iv c.cor,.fr (Zb c.se),.own 3,iv (Ra.wv c p.rz[r])])]) (ofT 134 [(4,.el (Rd.cCg c) 0),(5,.el ([iv r,iv i,iv kp]) 0),(6,bx 1),(7,bF),(8,.el (cRu p.rz[r]) 0),(9,bx 5)]) ?_ (fun _ => ?_)
 by_cases hs5:p.rz[r].wr=(-1)
 rw [dT hs5]
 refine kW 134 [(1,.box 31 [nz,nz,iv 0,nz,nz,iv 0]),(2,.row true 3 1 (0+c.st.length) ((Ap.stA c p.rz[r] i kp).map iv)),(3,.row true 3 1 (0+c.fa.length) (c.fa.map iv)),(5,.box 31 [.fr (Zb c.sh),.own 2,iv c.cor,.fr (Zb c.se),.own 3,iv c.val])] [(4,.el (Rd.cCg c) 0),(5,.el ([iv r,iv i,iv kp]) 0),(6,bx 1),(7,bF),(8,.el (cRu p.rz[r]) 0),(9,bx 5),(68,bF)] (ZA rfl (Zq ?_))
 rw [show Ra.wv c p.rz[r]=c.val by unfold Ra.wv;have:=R.wr;rw [if_neg (by omega)]]
 exact tM T0
 rw [dF hs5]
 refine kW 134 [(1,.box 31 [nz,nz,iv 0,nz,nz,iv 0]),(2,.row true 3 1 (0+c.st.length) ((Ap.stA c p.rz[r] i kp).map iv)),(3,.row true 3 1 (0+c.fa.length) (c.fa.map iv)),(5,.box 31 [.fr (Zb c.sh),.own 2,iv c.cor,.fr (Zb c.se),.own 3,iv c.val])] [(4,.el (Rd.cCg c) 0),(5,.el ([iv r,iv i,iv kp]) 0),(6,bx 1),(7,bF),(8,.el (cRu p.rz[r]) 0),(9,bx 5),(68,bT)] (Yb rfl (Za (oW (oW (oW (oY (kN 134 [(1,.box 31 [nz,nz,iv 0,nz,nz,iv 0]),(2,.row true 3 1 (0+c.st.length) ((Ap.stA c p.rz[r] i kp).map iv)),(3,.row true 3 1 (0+c.fa.length) (c.fa.map iv)),(5,.box 31 [.fr (Zb c.sh),.own 2,iv c.cor,.fr (Zb c.se),.own 3,iv p.rz[r].wr])] [(4,.el (Rd.cCg c) 0),(5,.el ([iv r,iv i,iv kp]) 0),(6,bx 1),(7,bF),(8,.el (cRu p.rz[r]) 0),(9,bx 5)] ?_)))))))
 rw [show Ra.wv c p.rz[r]=p.rz[r].wr by unfold Ra.wv;have:=R.wr;rw [if_pos (by omega)]]
 exact tM T0
 refine jC (Za (oS bT (jD (jB (oS (iv 0) (kN 134 [(1,.box 31 [nz,nz,iv 0,nz,nz,iv 0]),(2,.row true 3 1 (0+c.st.length) ((Ap.stA c p.rz[r] i kp).map iv)),(3,.row true 3 1 (0+c.fa.length) (c.fa.map iv)),(5,.box 31 [.fr (Zb c.sh),.own 2,iv c.cor,.fr (Zb c.se),.own 3,iv (Ra.wv c p.rz[r])])] [(4,.el (Rd.cCg c) 0),(5,.el ([iv r,iv i,iv kp]) 0),(6,bx 1),(7,bF),(8,.el (cRu p.rz[r]) 0),(9,bx 5),(11,bT),(12,iv 0)] (Zf (Zo ?_))))))))
 rw [show (c.fa.map iv)=((Ap.faA c.cor c p.rz[r] i 0).map iv) by rw [Ra.fa_zero]]
 refine ZL (σ:={s:Nat × Bool // s.1≤p.rz[r].send.length∧s.2=Rd.belB (Ap.faA c.cor c p.rz[r] i s.1) 1048577}) (fun s=>(ofL [(1,.box 31 [nz,nz,iv 0,nz,nz,iv 0]),(2,.row true 3 1 (0+c.st.length) ((Ap.stA c p.rz[r] i kp).map iv)),(3,.row true 3 1 (0+c.fa.length) ((Ap.faA c.cor c p.rz[r] i s.1.1).map iv)),(5,.box 31 [.fr (Zb c.sh),.own 2,iv c.cor,.fr (Zb c.se),.own 3,iv (Ra.wv c p.rz[r])])],ofT 134 [(4,.el (Rd.cCg c) 0),(5,.el ([iv r,iv i,iv kp]) 0),(6,bx 1),(7,bF),(8,.el (cRu p.rz[r]) 0),(9,bx 5),(11,bv s.1.2),(12,iv s.1.1)])) (fun s=>p.rz[r].send.length-s.1.1) ⟨(0,true),Nat.zero_le _,Ra.fa_start hc⟩ (Zp _ _) (fun s => ?_)
 obtain ⟨⟨k,b⟩,hk0,hb⟩:=s
 show ETri J w0 (ofL [(1,.box 31 [nz,nz,iv 0,nz,nz,iv 0]),(2,.row true 3 1 (0+c.st.length) ((Ap.stA c p.rz[r] i kp).map iv)),(3,.row true 3 1 (0+c.fa.length) ((Ap.faA c.cor c p.rz[r] i k).map iv)),(5,.box 31 [.fr (Zb c.sh),.own 2,iv c.cor,.fr (Zb c.se),.own 3,iv (Ra.wv c p.rz[r])])]) (ofT 134 [(4,.el (Rd.cCg c) 0),(5,.el ([iv r,iv i,iv kp]) 0),(6,bx 1),(7,bF),(8,.el (cRu p.rz[r]) 0),(9,bx 5),(11,bv b),(12,iv k)]) _
 dsimp only at hk0 hb
 refine jM ?_
 by_cases hs6:(k:Int)<((p.rz[r].send.length:Nat):Int)
 have hk1:k<p.rz[r].send.length:=by omega
 have hsm:=R.se _ (List.getElem_mem hk1)
 have hbv:=Ap.getD_in (Ap.faA_in (cor:=c.cor) (r:=p.rz[r]) (i:=i) (k:=k) hc.fa) (by omega) p.rz[r].send[k].toNat
 refine Za (oW (oW (oW (oW (ol (dT hs6) (jH (Zq (jC (Zo (jB (oF (iv i) (oF (iv c.cor) (oC (Zcc rfl (dF hic)) I0 I0 (jI (Zl ?_)))))))))))))))
 refine tD (dW (dS (.own 3) (dW (dS (Zb p.rz[r].send) (dS (iv k) (dC (xS (k*1) 111 112 U24) I0 I0 (dL (iv p.rz[r].send[k]) (Zw p.rz[r].send (by omega)) (dR (ZZ (off:=p.rz[r].send[k].toNat*1) (.tmp 109) (.tmp 114) rfl U24 (by kernel_rfl) (by omega) (by omega) rfl) ⟨I0,I0,T0⟩ ⟨rfl,T0⟩ T0 (dB (Kj (Y := .row true 3 1 (0+c.fa.length) ((Ap.faA c.cor c p.rz[r] i k).map iv)) (.tmp 115) rfl U3 rfl (Ct.row_at (by rw [Ap.faA_len];omega))) I0 rfl (dC (WW (c:=((Ap.faA c.cor c p.rz[r] i k).getD p.rz[r].send[k].toNat 0)+1) rfl (w64 (by omega) (by omega) (by omega))) I0 I0 (dR (ZZ (off:=p.rz[r].send[k].toNat*1) (.tmp 109) (.tmp 114) rfl U24 (by kernel_rfl) (by omega) (by omega) rfl) ⟨I0,I0,T0⟩ ⟨rfl,T0⟩ T0 (dR (Yv (X:=iv (((Ap.faA c.cor c p.rz[r] i k).getD p.rz[r].send[k].toNat 0)+1)) (off:=p.rz[r].send[k].toNat*1) (cs:=((Ap.faA c.cor c p.rz[r] i k).map iv)) (ds:=((Ap.faA c.cor c p.rz[r] i (k+1)).map iv)) (zz:=1) (.tmp 118) (.tmp 117) rfl (by kernel_rfl) (by kernel_rfl) (fun _ d hd=>by simp only [AV.cellsOf,List.mem_cons,List.not_mem_nil,or_false] at hd;subst hd;rfl) (by kernel_rfl) (by simp [Ap.seA_len,Ap.faA_len,Ap.brL_len,Ap.st0_len,Ra.stP_len];omega) (Ra.fa_row hic hk1)) ⟨I0,I0,T0⟩ ⟨rfl,T0⟩ rfl (eD ?_)))))))))))))
 refine kW 134 (KF c p.rz[r] i kp k) [(4,.el (Rd.cCg c) 0),(5,.el ([iv r,iv i,iv kp]) 0),(6,bx 1),(7,bF),(8,.el (cRu p.rz[r]) 0),(9,bx 5),(11,bv b),(12,iv k),(76,bT),(83,bF)] (Zf ?_)
 by_cases hs7:b=true
 simp only [hs7]
 refine kW 134 (KF c p.rz[r] i kp k) [(4,.el (Rd.cCg c) 0),(5,.el ([iv r,iv i,iv kp]) 0),(6,bx 1),(7,bF),(8,.el (cRu p.rz[r]) 0),(9,bx 5),(11,bT),(12,iv k),(76,bT),(83,bF)] ?_
 refine tD (dW (dS bT (dW (dS (.own 3) (dW (dS (Zb p.rz[r].send) (dS (iv k) (dC (xS (k*1) 124 125 U24) I0 I0 (dL (iv p.rz[r].send[k]) (Zw p.rz[r].send (by omega)) (dR (ZZ (off:=p.rz[r].send[k].toNat*1) (.tmp 122) (.tmp 127) rfl U24 (by kernel_rfl) (by omega) (by omega) rfl) ⟨I0,I0,T0⟩ ⟨rfl,T0⟩ T0 (dB (Kj (Y := .row true 3 1 (0+c.fa.length) ((Ap.faA c.cor c p.rz[r] i (k+1)).map iv)) (.tmp 128) rfl U3 rfl (Ct.row_at (by rw [Ap.faA_len];omega))) I0 rfl (dC (sp_leq rfl rfl) I0 I0 (dW (dS (bv (decide (((Ap.faA c.cor c p.rz[r] i (k+1)).getD p.rz[r].send[k].toNat 0)≤1048576))) (eD ?_)))))))))))))))
 refine kW 134 (KF c p.rz[r] i kp k) [(4,.el (Rd.cCg c) 0),(5,.el ([iv r,iv i,iv kp]) 0),(6,bx 1),(7,bF),(8,.el (cRu p.rz[r]) 0),(9,bx 5),(11,bv (decide (((Ap.faA c.cor c p.rz[r] i (k+1)).getD p.rz[r].send[k].toNat 0)≤1048576))),(12,iv k),(76,bT),(83,bF)] (Zv (Zf (Za (oS (iv k) (oV ((k+1:Nat):Int) (oS (iv (k+1:Nat)) (kN 134 (KF c p.rz[r] i kp k) [(4,.el (Rd.cCg c) 0),(5,.el ([iv r,iv i,iv kp]) 0),(6,bx 1),(7,bF),(8,.el (cRu p.rz[r]) 0),(9,bx 5),(11,bv (decide (((Ap.faA c.cor c p.rz[r] i (k+1)).getD p.rz[r].send[k].toNat 0)≤1048576))),(12,iv (k+1:Nat)),(76,bT),(83,bF)] (Zf ?_))))))))
 refine Zs ⟨(k+1,(decide (((Ap.faA c.cor c p.rz[r] i (k+1)).getD p.rz[r].send[k].toNat 0)≤1048576))),by dsimp only;omega,(Ra.fa_yes hc hic hk1 (by omega) hb hs7)⟩ (show p.rz[r].send.length-(k+1)<p.rz[r].send.length-k by omega) ?_
 show Wk _ _ (ofL (KF c p.rz[r] i kp k)) (ofT 134 [(4,.el (Rd.cCg c) 0),(5,.el ([iv r,iv i,iv kp]) 0),(6,bx 1),(7,bF),(8,.el (cRu p.rz[r]) 0),(9,bx 5),(11,bv (decide (((Ap.faA c.cor c p.rz[r] i (k+1)).getD p.rz[r].send[k].toNat 0)≤1048576))),(12,iv ((k+1):Nat))])
 exact Zp _ _
 have hs7f:b=false:=by simpa using hs7
 simp only [hs7f]
 refine kW 134 (KF c p.rz[r] i kp k) (XRa2_h17 c r i kp p.rz[r] k) ?_
 refine tD (dW (dS bF (dK (dK (dK (dK (dK (dK (dK (dK (dK (dK (dW (dS bF (eD ?_)))))))))))))))
 refine kW 134 (KF c p.rz[r] i kp k) (XRa2_h17 c r i kp p.rz[r] k) (Zv (Zf (Za (oS (iv k) (oV ((k+1:Nat):Int) (oS (iv (k+1:Nat)) (kN 134 (KF c p.rz[r] i kp k) [(4,.el (Rd.cCg c) 0),(5,.el ([iv r,iv i,iv kp]) 0),(6,bx 1),(7,bF),(8,.el (cRu p.rz[r]) 0),(9,bx 5),(11,bF),(12,iv (k+1:Nat)),(76,bT),(83,bF)] (Zf ?_))))))))
 refine Zs ⟨(k+1,false),by dsimp only;omega,(Ra.fa_nope hc hic hk1 hb hs7f)⟩ (show p.rz[r].send.length-(k+1)<p.rz[r].send.length-k by omega) ?_
 show Wk _ _ (ofL (KF c p.rz[r] i kp k)) (ofT 134 (XRa2_h12 c r i kp p.rz[r] k))
 exact Zp _ _
 refine Za (oW (oW (oW (oW (ol (dF hs6) (jI (jO (jC (Za (oW (oW (oY (oS (bv b) (kN 134 [(1,.box 31 [.fr (Zb c.sh),.own 2,iv c.cor,.fr (Zb c.se),.own 3,iv (Ra.wv c p.rz[r])]),(2,.row true 3 1 (0+c.st.length) ((Ap.stA c p.rz[r] i kp).map iv)),(3,.row true 3 1 (0+c.fa.length) ((Ap.faA c.cor c p.rz[r] i k).map iv))] [(6,bx 1),(7,bv b)] (Zf (Z4 ?_))))))))))))))))
 refine ZQ Tryz.results27 (.cellS rfl rfl U31 rfl (z:=6) (by kernel_rfl) rfl (by decide)) (.tmp rfl) ?_
 obtain rfl:k=p.rz[r].send.length:=by omega
 rw [hb,← Ra.lg_fa (k':=kp) hc hic]
 exact congr (congrArg (fun a b=>AV.tup [.agg a,b]) (Ra.res_fa hic)) rfl
variable {t x y:Int}
theorem rapply_g (HL:FamLen p) (HC:Rd.CgOk c) (hc:En.CfV p n f c) (hv:valE p=0) {g:Nat→Int} (he:En.enB p n t f c g x y kp=true):Ctr Tryz.prog J 27 [.agg (cFm p),.agg (Rd.cCg c),.agg [iv x,iv y,iv kp]] (.tup [.agg (Rd.cCg (Ap.afX p n f c x y kp)),bv (Ap.lgB (Ap.afX p n f c x y kp))]):=by
 obtain ⟨r,i,hr,hi,rfl,rfl⟩:=Ap.en_at he
 have hp:=Ap.hpt_of (hr:=hr) he
 have hp2:p.rz[r].kind=2∨p.rz[r].kind=5→kp.toNat≠i:=fun h25=>Ra.pt_ne (Ap.pt_of (hr:=hr) he) h25
 rw [Ap.afX_at hr,← hc.co]
 by_cases hic:(i:Int)<c.cor
 ·exact rapply_se HL HC hc hv hr hi hp hp2 hic
 exact rapply_fa HL HC hc hv hr hi hp hp2 hic
abbrev Ze7 (x0:Fm) (x1:Int) (x2:Int) (x3:Cf) (x4:Int) (x5:Int) (x6:Int):List (Nat × ABlk):=[(1,.box 31 [nz,nz,iv 0,nz,nz,iv 0]),(2,.box 31 [.fr (Zb ((Ap.afX x0 x1 x2 x3 x4 x5 x6).sh)),.fr (Zb ((Ap.afX x0 x1 x2 x3 x4 x5 x6).st)),iv ((Ap.afX x0 x1 x2 x3 x4 x5 x6).cor),.fr (Zb ((Ap.afX x0 x1 x2 x3 x4 x5 x6).se)),.fr (Zb ((Ap.afX x0 x1 x2 x3 x4 x5 x6).fa)),iv ((Ap.afX x0 x1 x2 x3 x4 x5 x6).val)])]
set_option maxRecDepth 100000 in
set_option maxHeartbeats 6400000 in
theorem rApply_c (HP:FmOk p) (HL:FamLen p) (HC:Rd.CgOk c) :Ctr Tryz.prog J 10 [.agg (cFm p),.agg (cSz n t f),.agg (Rd.cCg c),.agg [iv x,iv y,iv kp]] (.tup [.agg (Rd.cCg (Ap.apC p n t f c x y kp)),iv (Ap.apE p n t f c x y kp)]):=by
 refine Zm Tryz.func10 rfl (pN (Zh (ZS p)) (pN (Zh (Ya n t f)) (pN (Zh (Rd.plain_cg c)) (pN (Zh (pN (.v _) (pN (.v _) (pN (.v _) pZ)))) pZ)))) (n:=39) rfl (by simp) (fun w0 => ?_)
 refine kW 39 [] [(0,.agg (cFm p)),(1,.agg (cSz n t f)),(2,.agg (Rd.cCg c)),(3,.agg [iv x,iv y,iv kp])] (jB (oA (ZD (X := .agg (cFm p)) (.tmp 0) rfl rfl rfl) I0 (oA (ZD (X := .agg (cSz n t f)) (.tmp 1) rfl rfl rfl) I0 (oA (ZD (X := .agg (Rd.cCg c)) (.tmp 2) rfl rfl rfl) I0 (oA (ZD (X := .agg [iv x,iv y,iv kp]) (.tmp 3) rfl rfl rfl) I0 (oZ 1 Z31 (oS (iv 0) (jD (jB (oA (Zj (z:=10) (.tmp 4) rfl U27 rfl (by kernel_rfl) rfl rfl) I0 (oA (Zj (z:=3) (.tmp 5) rfl U29 rfl (by kernel_rfl) rfl rfl) I0 (oA (Zj (z:=6) (.tmp 6) rfl U31 rfl (by kernel_rfl) rfl rfl) I0 (oK (Zb4 HP HC) [.agg (cFm p),.agg (cSz n t f),.agg (Rd.cCg c)] rfl rfl (oS (iv (Rd.vcE p n t f c)) (jD ?_)))))))))))))))
 by_cases hs1:(Rd.vcE p n t f c)=0
 obtain ⟨hs,hx⟩:=En.vc_ok hs1
 have hc:=En.cf_in hx
 obtain ⟨hv,ha,h8⟩:=Ns.sys_ok hs
 have hai:=Ns.adm_in ha
 have l8:=En.cf_len hc hai h8
 have hsz:=En.val_sizes hv
 have hf:0≤f∧f≤1048576:=by omega
 refine Za (oW (on (dT' hs1) (jF (jM ?_))))
 by_cases hs2:(En.enB p n t f c (En.hdG p f c false) x y kp)=true
 refine Za (oA (Zj (z:=10) (.tmp 4) rfl U27 rfl (by kernel_rfl) rfl rfl) I0 (oA (Zj (z:=3) (.tmp 5) rfl U29 rfl (by kernel_rfl) rfl rfl) I0 (oA (Zj (z:=6) (.tmp 6) rfl U31 rfl (by kernel_rfl) rfl rfl) I0 (oA (Zj (z:=3) (.tmp 7) rfl U35 rfl (by kernel_rfl) rfl rfl) I0 (oK (Zr (Zci HL HC hc hv hf) hs2) [.agg (cFm p),.agg (cSz n t f),.agg (Rd.cCg c),.agg ([iv x,iv y,iv kp]),bF] rfl rfl (oS bF (jF (jB (oA (Zj (z:=10) (.tmp 4) rfl U27 rfl (by kernel_rfl) rfl rfl) I0 (oA (Zj (z:=6) (.tmp 6) rfl U31 rfl (by kernel_rfl) rfl rfl) I0 (oA (Zj (z:=3) (.tmp 7) rfl U35 rfl (by kernel_rfl) rfl rfl) I0 (oK (rapply_g HL HC hc hv hs2) [.agg (cFm p),.agg (Rd.cCg c),.agg ([iv x,iv y,iv kp])] rfl rfl (oS (.tup [.fr (.agg (Rd.cCg (Ap.afX p n f c x y kp))),bv (Ap.lgB (Ap.afX p n f c x y kp))]) (oS (.fr (.agg (Rd.cCg (Ap.afX p n f c x y kp)))) (oW (oZ 2 Z31 (Y6 rfl (sB 6 11 (.tmp 33) (.agg [.fr (Zb ((Ap.afX p n f c x y kp).sh)),.fr (Zb ((Ap.afX p n f c x y kp).st)),iv ((Ap.afX p n f c x y kp).cor),.fr (Zb ((Ap.afX p n f c x y kp).se)),.fr (Zb ((Ap.afX p n f c x y kp).fa)),iv ((Ap.afX p n f c x y kp).val)])) ⟨I0,.inr (.inr (.inl ⟨_,rfl,rfl⟩)),T0⟩ ⟨rfl,T0⟩ rfl (oS (bv (Ap.lgB (Ap.afX p n f c x y kp))) ?_))))))))))))))))))
 refine jD (Zl ?_)
 by_cases hs3:(Ap.lgB (Ap.afX p n f c x y kp))=true
 rw [hs3]
 refine kW 39 (Ze7 p n f c x y kp) [(8,bx 1),(9,iv 0),(11,bx 2),(12,bT)] (Za (oF bF (jF (jB (oW (oY (oS (iv 0) (kN 39 [(1,.box 31 [.fr (Zb ((Ap.afX p n f c x y kp).sh)),.fr (Zb ((Ap.afX p n f c x y kp).st)),iv ((Ap.afX p n f c x y kp).cor),.fr (Zb ((Ap.afX p n f c x y kp).se)),.fr (Zb ((Ap.afX p n f c x y kp).fa)),iv ((Ap.afX p n f c x y kp).val)])] [(8,bx 1),(9,iv 0)] (Zf (Z4 ?_))))))))))
 refine ZQ Tryz.results10 (.cellS rfl rfl U31 rfl (z:=6) (by kernel_rfl) rfl (by decide)) (.tmp rfl) ?_
 rw [Ra.apC_y hs1 hs2 hs3,Ra.apE_y hs1 hs2 hs3]
 exact rfl
 have hs3f:(Ap.lgB (Ap.afX p n f c x y kp))=false:=by simpa using hs3
 rw [hs3f]
 refine kW 39 (Ze7 p n f c x y kp) [(8,bx 1),(9,iv 0),(11,bx 2),(12,bF)] (Za (oF bT (jG (Y6 rfl (Ki [] #[.slice none 0 0,.slice none 0 0,.int .i64 0,.slice none 0 0,.slice none 0 0,.int .i64 0] rfl rfl (by kernel_rfl) rfl) T0 T0 T0 (oY (oS (iv 4) (kN 39 (Ze7 p n f c x y kp) [(8,bx 1),(9,iv 4),(11,bx 2)] (Zf (jN ?_)))))))))
 refine Yk (Yp 1 0 3 true 3 1 rfl rfl rfl rfl) ?_
 refine Yk (Yp 1 1 4 true 3 1 rfl rfl rfl rfl) ?_
 refine Yk (Yp 1 3 5 true 3 1 rfl rfl rfl rfl) ?_
 refine Yk (Yp 1 4 6 true 3 1 rfl rfl rfl rfl) ?_
 refine ZQ Tryz.results10 (.cellS rfl rfl U31 rfl (z:=6) (by kernel_rfl) rfl (by decide)) (.tmp rfl) ?_
 rw [Ra.apC_n hs1 hs2 hs3f,Ra.apE_n hs1 hs2 hs3f]
 exact rfl
 have hs2f:(En.enB p n t f c (En.hdG p f c false) x y kp)=false:=by simpa using hs2
 refine Za (oA (Zj (z:=10) (.tmp 4) rfl U27 rfl (by kernel_rfl) rfl rfl) I0 (oA (Zj (z:=3) (.tmp 5) rfl U29 rfl (by kernel_rfl) rfl rfl) I0 (oA (Zj (z:=6) (.tmp 6) rfl U31 rfl (by kernel_rfl) rfl rfl) I0 (oA (Zj (z:=3) (.tmp 7) rfl U35 rfl (by kernel_rfl) rfl rfl) I0 (oK (Zr (Zci HL HC hc hv hf) hs2f) [.agg (cFm p),.agg (cSz n t f),.agg (Rd.cCg c),.agg ([iv x,iv y,iv kp]),bF] rfl rfl (oS bT (jG (Y6 rfl (Ki [] #[.slice none 0 0,.slice none 0 0,.int .i64 0,.slice none 0 0,.slice none 0 0,.int .i64 0] rfl rfl (by kernel_rfl) rfl) T0 T0 T0 (oY (oS (iv 9) (kN 39 [(1,.box 31 [nz,nz,iv 0,nz,nz,iv 0])] [(4,.el (cFm p) 0),(6,.el (Rd.cCg c) 0),(7,.el ([iv x,iv y,iv kp]) 0),(8,bx 1),(9,iv 9)] (Zf (jN ?_)))))))))))))
 refine Yk (Yp 1 0 2 true 3 1 rfl rfl rfl rfl) ?_
 refine Yk (Yp 1 1 3 true 3 1 rfl rfl rfl rfl) ?_
 refine Yk (Yp 1 3 4 true 3 1 rfl rfl rfl rfl) ?_
 refine Yk (Yp 1 4 5 true 3 1 rfl rfl rfl rfl) ?_
 refine ZQ Tryz.results10 (.cellS rfl rfl U31 rfl (z:=6) (by kernel_rfl) rfl (by decide)) (.tmp rfl) ?_
 rw [Ap.apC_no hs1 hs2f,Ap.apE_no hs1 hs2f]
 exact rfl
 refine Za (oW (on (dF' hs1) (jG (Y6 rfl (Ki [] #[.slice none 0 0,.slice none 0 0,.int .i64 0,.slice none 0 0,.slice none 0 0,.int .i64 0] rfl rfl (by kernel_rfl) rfl) T0 T0 T0 (oW (oY (oS (iv (Rd.vcE p n t f c)) (kN 39 [(1,.box 31 [nz,nz,iv 0,nz,nz,iv 0])] [(4,.el (cFm p) 0),(5,.el (cSz n t f) 0),(6,.el (Rd.cCg c) 0),(7,.el ([iv x,iv y,iv kp]) 0),(8,bx 1),(9,iv (Rd.vcE p n t f c))] (Zf (jN ?_))))))))))
 refine Yk (Yp 1 0 2 true 3 1 rfl rfl rfl rfl) ?_
 refine Yk (Yp 1 1 3 true 3 1 rfl rfl rfl rfl) ?_
 refine Yk (Yp 1 3 4 true 3 1 rfl rfl rfl rfl) ?_
 refine Yk (Yp 1 4 5 true 3 1 rfl rfl rfl rfl) ?_
 refine ZQ Tryz.results10 (.cellS rfl rfl U31 rfl (z:=6) (by kernel_rfl) rfl (by decide)) (.tmp rfl) ?_
 rw [Ap.apC_err hs1,Ap.apE_err hs1]
 exact rfl
variable {k:Nat}
theorem rApplyK0 (HP:FmOk p) (HL:FamLen p) (HC:Rd.CgOk c) (hs:Ns.sysE p n t f=0) (hc:En.CfV p n f c) {ss:List Rp.Sp} (hk:k≤ss.length) (ok:Rp.okK p n t f c ss k) (hk1:k<ss.length) (e:(Rp.ee p n t f (Rp.cK p n f c ss k) ss[k])=0):Ctr Tryz.prog J 10 [.agg (cFm p),.agg (cSz n t f),.agg (Rd.cCg (Rp.cK p n f c ss k)),.agg (Rp.cSp ss[k])] (.tup [.agg (Rd.cCg (Rp.cK p n f c ss (k+1))),iv 0]):=by
 have h2:=Rp.cK_ok HL hs hc HC k hk ok
 have h:=rApply_c (J:=J) HP HL h2 (n:=n) (t:=t) (f:=f) (x:=ss[k].1) (y:=ss[k].2.1) (kp:=ss[k].2.2)
 have e2:Ap.apE p n t f (Rp.cK p n f c ss k) ss[k].1 ss[k].2.1 ss[k].2.2=0:=e
 rw [show Ap.apC p n t f (Rp.cK p n f c ss k) ss[k].1 ss[k].2.1 ss[k].2.2=(Rp.cK p n f c ss (k+1)) from by rw [Rp.cK_succ hk1];exact if_pos e2,e2] at h
 exact h
theorem rApplyK1 (HP:FmOk p) (HL:FamLen p) (HC:Rd.CgOk c) (hs:Ns.sysE p n t f=0) (hc:En.CfV p n f c) {ss:List Rp.Sp} (hk:k≤ss.length) (ok:Rp.okK p n t f c ss k) (hk1:k<ss.length) (e:¬ (Rp.ee p n t f (Rp.cK p n f c ss k) ss[k])=0):Ctr Tryz.prog J 10 [.agg (cFm p),.agg (cSz n t f),.agg (Rd.cCg (Rp.cK p n f c ss k)),.agg (Rp.cSp ss[k])] (.tup [.agg (Rd.cCg Ap.zC),iv (Rp.ee p n t f (Rp.cK p n f c ss k) ss[k])]):=by
 have h2:=Rp.cK_ok HL hs hc HC k hk ok
 have h:=rApply_c (J:=J) HP HL h2 (n:=n) (t:=t) (f:=f) (x:=ss[k].1) (y:=ss[k].2.1) (kp:=ss[k].2.2)
 rw [show Ap.apC p n t f (Rp.cK p n f c ss k) ss[k].1 ss[k].2.1 ss[k].2.2=Ap.zC from if_neg e] at h
 exact h
theorem Rp.rpK_row {ss:List Rp.Sp} :(((Rp.rpK p n f c ss k).flatMap Rd.cCg).drop (k*6)).take 6=Rd.cCg (Rp.cK p n f c ss k):=by
 have h:=Z9 Rp.len_cCg (Rp.rpK p n f c ss k) k (by rw [Rp.rpK_len];omega)
 rw [Rp.rpK_at (by omega)] at h
 exact h
theorem rreplay_c (HP:FmOk p) (HL:FamLen p) (HC:Rd.CgOk c) {ss:List Rp.Sp} (hs:Ns.sysE p n t f=0) (hx:Rd.rdX p n f c=true) (hl:ss.length≤300):Ctr Tryz.prog J 33 [.agg (cFm p),.agg (cSz n t f),.agg (Rd.cCg c),slA 3 Rp.cSp ss] (.tup [slA 6 Rd.cCg (Rp.rpL p n t f c ss),iv (Rp.rpE p n t f c ss)]):=by
 have hc:=En.cf_in hx
 refine Zm Tryz.func33 rfl (pN (Zh (ZS p)) (pN (Zh (Ya n t f)) (pN (Zh (Rd.plain_cg c)) (pN (Yx Rp.plain_cSp _) pZ)))) (n:=47) rfl (by simp) (fun w0 => ?_)
 refine kW 47 [] [(0,.agg (cFm p)),(1,.agg (cSz n t f)),(2,.agg (Rd.cCg c)),(3,slA 3 Rp.cSp ss)] (jB (oA (ZD (X := .agg (cFm p)) (.tmp 0) rfl rfl rfl) I0 (oA (ZD (X := .agg (cSz n t f)) (.tmp 1) rfl rfl rfl) I0 (oA (ZD (X := .agg (Rd.cCg c)) (.tmp 2) rfl rfl rfl) I0 (oS (nz) (oS (iv 0) (jD (Za (oA (Zj (z:=6) (.tmp 6) rfl U31 rfl (by kernel_rfl) rfl rfl) I0 (oK (CopyCf_c HC) [.agg (Rd.cCg c)] rfl rfl (Y6 rfl (Wv (z:=6) (k:=1) (fr:=true) (cs:=[Zb c.sh,Zb c.st,iv c.cor,Zb c.se,Zb c.fa,iv c.val]) [.tmp 15] [.agg [.fr (Zb c.sh),.fr (Zb c.st),iv c.cor,.fr (Zb c.se),.fr (Zb c.fa),iv c.val]] rfl U49 (by kernel_rfl) (by decide) (by decide) rfl rfl rfl (by kernel_rfl) (by decide) (fun _=>by simp [AV.cellsOf,AV.isNew,cLn,cTh]) (by kernel_rfl)) ⟨.inr (.inr (.inl ⟨_,rfl,rfl⟩)),T0⟩ T0 rfl (oS (.own 1) (jD (jB (oS (iv 0) (kN 47 [(1,.row true 31 6 1 ([Zb c.sh,Zb c.st,iv c.cor,Zb c.se,Zb c.fa,iv c.val]))] [(3,slA 3 Rp.cSp ss),(4,.el (cFm p) 0),(5,.el (cSz n t f) 0),(8,nz),(9,iv 0),(10,.own 1),(11,iv 0)] (Zf ?_)))))))))))))))))
 refine Zo ?_
 refine ZL (σ:={k:Nat // k≤ss.length∧Rp.okK p n t f c ss k}) (fun s=>(ofL [(1,.row true 31 6 (s.1+1) ((Rp.rpK p n f c ss s.1).flatMap Rd.cCg))],ofT 47 [(3,slA 3 Rp.cSp ss),(4,.el (cFm p) 0),(5,.el (cSz n t f) 0),(10,.own 1),(11,iv s.1)])) (fun s=>ss.length-s.1) ⟨0,Nat.zero_le _,Rp.ok_zero⟩ (Zp _ _) (fun s => ?_)
 obtain ⟨k,hk0,ok⟩:=s
 show ETri J w0 (ofL [(1,.row true 31 6 (k+1) ((Rp.rpK p n f c ss k).flatMap Rd.cCg))]) (ofT 47 [(3,slA 3 Rp.cSp ss),(4,.el (cFm p) 0),(5,.el (cSz n t f) 0),(10,.own 1),(11,iv k)]) _
 refine jM ?_
 by_cases hs1:(k:Int)<(ss.length:Int)
 have hk1:k<ss.length:=by omega
 refine Za (oW (oW (oW (ol (dT hs1) (jH (Zq (jC (Zo (Zl ?_)))))))))
 by_cases hs2:(Rp.ee p n t f (Rp.cK p n f c ss k) ss[k])=0
 refine tD (dA (Zj (z:=10) (.tmp 4) rfl U27 rfl (by kernel_rfl) rfl rfl) I0 (dA (Zj (z:=3) (.tmp 5) rfl U29 rfl (by kernel_rfl) rfl rfl) I0 (dS (.own 1) (dS (.own 1) (dB (Kr (.tmp 27) rfl U49) I0 rfl (dC (Kq (c:=(k:Int)) rfl (w64 (by omega) (by omega) (by omega))) I0 I0 (dR (ZZ (off:=k*6) (.tmp 26) (.tmp 29) rfl U49 (by kernel_rfl) (by omega) (by omega) rfl) ⟨I0,I0,T0⟩ ⟨rfl,T0⟩ T0 (dB (Wu (Y := .row true 31 6 (k+1) ((Rp.rpK p n f c ss k).flatMap Rd.cCg)) (z:=6) (.tmp 30) rfl U31 rfl (by kernel_rfl) (by decide) Rp.rpK_row rfl) I0 rfl (dS (slA 3 Rp.cSp ss) (dS (iv k) (dC (xS (k*3) 32 33 U45) I0 I0 (dA (Zj (z:=3) (.tmp 34) rfl U35 rfl (by kernel_rfl) (Z9 Rp.len_cSp ss k (by omega)) rfl) I0 (dk (rApplyK0 HP HL HC hs hc hk0 ok hk1 hs2) [.agg (cFm p),.agg (cSz n t f),.agg (Rd.cCg (Rp.cK p n f c ss k)),.agg (Rp.cSp ss[k])] rfl rfl (dS (.tup [.fr (.agg (Rd.cCg (Rp.cK p n f c ss (k+1)))),iv 0]) (dS (.fr (.agg (Rd.cCg (Rp.cK p n f c ss (k+1))))) (dW (dz 2 Z31 (dR (sB 6 12 (.tmp 37) (.agg [.fr (Zb ((Rp.cK p n f c ss (k+1)).sh)),.fr (Zb ((Rp.cK p n f c ss (k+1)).st)),iv ((Rp.cK p n f c ss (k+1)).cor),.fr (Zb ((Rp.cK p n f c ss (k+1)).se)),.fr (Zb ((Rp.cK p n f c ss (k+1)).fa)),iv ((Rp.cK p n f c ss (k+1)).val)])) ⟨I0,.inr (.inr (.inl ⟨_,rfl,rfl⟩)),T0⟩ ⟨rfl,T0⟩ rfl (dS (iv 0) (eD ?_))))))))))))))))))))
 refine kW 47 [(1,.row true 31 6 (k+1) ((Rp.rpK p n f c ss k).flatMap Rd.cCg)),(2,.box 31 [.fr (Zb ((Rp.cK p n f c ss (k+1)).sh)),.fr (Zb ((Rp.cK p n f c ss (k+1)).st)),iv ((Rp.cK p n f c ss (k+1)).cor),.fr (Zb ((Rp.cK p n f c ss (k+1)).se)),.fr (Zb ((Rp.cK p n f c ss (k+1)).fa)),iv ((Rp.cK p n f c ss (k+1)).val)])] [(3,slA 3 Rp.cSp ss),(4,.el (cFm p) 0),(5,.el (cSz n t f) 0),(10,.own 1),(11,iv k),(12,bx 2),(13,iv 0),(20,bT)] (jC (jB (oS (iv 0) (oC (YJ (r:=false) rfl (by decide)) I0 I0 (jF (Za (oS (.own 1) (oS (.agg [.fr (Zb ((Rp.cK p n f c ss (k+1)).sh)),.fr (Zb ((Rp.cK p n f c ss (k+1)).st)),iv ((Rp.cK p n f c ss (k+1)).cor),.fr (Zb ((Rp.cK p n f c ss (k+1)).se)),.fr (Zb ((Rp.cK p n f c ss (k+1)).fa)),iv ((Rp.cK p n f c ss (k+1)).val)]) (Y6 rfl (Wv (z:=6) (k:=3) (fr:=false) (cs:=[.fr (Zb ((Rp.cK p n f c ss (k+1)).sh)),.fr (Zb ((Rp.cK p n f c ss (k+1)).st)),iv ((Rp.cK p n f c ss (k+1)).cor),.fr (Zb ((Rp.cK p n f c ss (k+1)).se)),.fr (Zb ((Rp.cK p n f c ss (k+1)).fa)),iv ((Rp.cK p n f c ss (k+1)).val)]) [.tmp 43] [.agg [.fr (Zb ((Rp.cK p n f c ss (k+1)).sh)),.fr (Zb ((Rp.cK p n f c ss (k+1)).st)),iv ((Rp.cK p n f c ss (k+1)).cor),.fr (Zb ((Rp.cK p n f c ss (k+1)).se)),.fr (Zb ((Rp.cK p n f c ss (k+1)).fa)),iv ((Rp.cK p n f c ss (k+1)).val)]] rfl U49 (by kernel_rfl) (by decide) (by decide) rfl rfl rfl (by kernel_rfl) (by decide) (fun h=>Bool.noConfusion h) (by kernel_rfl)) ⟨I0,T0⟩ T0 rfl (Y6 rfl (WU (n:=(k+1)) (cs:=((Rp.rpK p n f c ss k).flatMap Rd.cCg)) (fr:=true) (m:=1) (ds:=[.fr (Zb ((Rp.cK p n f c ss (k+1)).sh)),.fr (Zb ((Rp.cK p n f c ss (k+1)).st)),iv ((Rp.cK p n f c ss (k+1)).cor),.fr (Zb ((Rp.cK p n f c ss (k+1)).se)),.fr (Zb ((Rp.cK p n f c ss (k+1)).fa)),iv ((Rp.cK p n f c ss (k+1)).val)]) (⟨U49,by kernel_rfl,by decide⟩:Elt Tryz.prog 49 31 6 112) (.tmp 42) (.tmp 44) rfl (fun _=>Rp.newCg _) (by unfold maxLen;omega) (by omega) (Rp.cellCg _) (es:=((Rp.rpK p n f c ss (k+1)).flatMap Rd.cCg)) Rp.snocCg) ⟨I0,I0,T0⟩ ⟨rfl,rfl,T0⟩ rfl (oS (.own 1) (Yh (Zv (Zf (Za (oS (iv k) (oV ((k+1:Nat):Int) ?_)))))))))))))))))
 refine oS (iv (k+1:Nat)) (kN 47 [(1,.row true 31 6 (k+1+1) ((Rp.rpK p n f c ss (k+1)).flatMap Rd.cCg)),(2,.box 31 [.fr (Zb ((Rp.cK p n f c ss (k+1)).sh)),.fr (Zb ((Rp.cK p n f c ss (k+1)).st)),iv ((Rp.cK p n f c ss (k+1)).cor),.fr (Zb ((Rp.cK p n f c ss (k+1)).se)),.fr (Zb ((Rp.cK p n f c ss (k+1)).fa)),iv ((Rp.cK p n f c ss (k+1)).val)])] [(3,slA 3 Rp.cSp ss),(4,.el (cFm p) 0),(5,.el (cSz n t f) 0),(10,.own 1),(11,iv (k+1:Nat)),(12,bx 2),(13,iv 0),(20,bT),(40,bF)] (Zf ?_))
 refine Zs ⟨k+1,by omega,Rp.ok_succ hk1 ok hs2⟩ (show ss.length-(k+1)<ss.length-k by omega) ?_
 show Wk _ _ (ofL [(1,.row true 31 6 ((k+1)+1) ((Rp.rpK p n f c ss (k+1)).flatMap Rd.cCg))]) (ofT 47 [(3,slA 3 Rp.cSp ss),(4,.el (cFm p) 0),(5,.el (cSz n t f) 0),(10,.own 1),(11,iv ((k+1):Nat))])
 exact Zp _ _
 refine tD (dA (Zj (z:=10) (.tmp 4) rfl U27 rfl (by kernel_rfl) rfl rfl) I0 (dA (Zj (z:=3) (.tmp 5) rfl U29 rfl (by kernel_rfl) rfl rfl) I0 (dS (.own 1) (dS (.own 1) (dB (Kr (.tmp 27) rfl U49) I0 rfl (dC (Kq (c:=(k:Int)) rfl (w64 (by omega) (by omega) (by omega))) I0 I0 (dR (ZZ (off:=k*6) (.tmp 26) (.tmp 29) rfl U49 (by kernel_rfl) (by omega) (by omega) rfl) ⟨I0,I0,T0⟩ ⟨rfl,T0⟩ T0 (dB (Wu (Y := .row true 31 6 (k+1) ((Rp.rpK p n f c ss k).flatMap Rd.cCg)) (z:=6) (.tmp 30) rfl U31 rfl (by kernel_rfl) (by decide) Rp.rpK_row rfl) I0 rfl (dS (slA 3 Rp.cSp ss) (dS (iv k) (dC (xS (k*3) 32 33 U45) I0 I0 (dA (Zj (z:=3) (.tmp 34) rfl U35 rfl (by kernel_rfl) (Z9 Rp.len_cSp ss k (by omega)) rfl) I0 (dk (rApplyK1 HP HL HC hs hc hk0 ok hk1 hs2) [.agg (cFm p),.agg (cSz n t f),.agg (Rd.cCg (Rp.cK p n f c ss k)),.agg (Rp.cSp ss[k])] rfl rfl (dS (.tup [.fr (.agg (Rd.cCg Ap.zC)),iv (Rp.ee p n t f (Rp.cK p n f c ss k) ss[k])]) (dS (.fr (.agg (Rd.cCg Ap.zC))) (dW (dz 2 Z31 (dR (sB 6 12 (.tmp 37) (.agg [.fr (Zb Ap.zC.sh),.fr (Zb Ap.zC.st),iv Ap.zC.cor,.fr (Zb Ap.zC.se),.fr (Zb Ap.zC.fa),iv Ap.zC.val])) ⟨I0,.inr (.inr (.inl ⟨_,rfl,rfl⟩)),T0⟩ ⟨rfl,T0⟩ rfl (dS (iv (Rp.ee p n t f (Rp.cK p n f c ss k) ss[k])) (eD ?_))))))))))))))))))))
 refine kW 47 [(1,.row true 31 6 (k+1) ((Rp.rpK p n f c ss k).flatMap Rd.cCg)),(2,.box 31 [.fr (Zb Ap.zC.sh),.fr (Zb Ap.zC.st),iv Ap.zC.cor,.fr (Zb Ap.zC.se),.fr (Zb Ap.zC.fa),iv Ap.zC.val])] [(3,slA 3 Rp.cSp ss),(4,.el (cFm p) 0),(5,.el (cSz n t f) 0),(10,.own 1),(11,iv k),(12,bx 2),(13,iv (Rp.ee p n t f (Rp.cK p n f c ss k) ss[k])),(20,bT)] (jC (jB (oW (on (dF' hs2) (jG (oW (oS (nz) (oS (iv (Rp.ee p n t f (Rp.cK p n f c ss k) ss[k])) (jE (Zc (Zn (Zc (Zc (Zn (Zc ?_)))))))))))))))
 refine Yk (Zaa 8 3 true 31 6 rfl rfl rfl) ?_
 refine ZQ Tryz.results33 (.tmp rfl) (.tmp rfl) ?_
 have e1:=Rp.rp_err hs hx hk1 ok hs2
 rw [Rp.rpL_no (by rw [e1];exact hs2),e1]
 exact rfl
 refine Za (oW (oW (oW (ol (dF hs1) (jI (jO (jC (Za (oF (.own 1) (oS (iv 0) (jE ?_)))))))))))
 refine ZQ Tryz.results33 (.tmp rfl) (.tmp rfl) ?_
 obtain rfl:k=ss.length:=by omega
 have e1:=Rp.rp_ok hs hx ok
 rw [Rp.rpL_yes e1,e1]
 unfold slA
 rw [Rp.rpK_len]
 exact rfl
theorem rReplay_c (HP:FmOk p) (HL:FamLen p) (HC:Rd.CgOk c) {ss:List Rp.Sp} (hl:ss.length≤300):Ctr Tryz.prog J 14 [.agg (cFm p),.agg (cSz n t f),.agg (Rp.cRun c ss)] (.tup [slA 6 Rd.cCg (Rp.rpL p n t f c ss),iv (Rp.rpE p n t f c ss)]):=by
 refine Zm Tryz.func14 rfl (pN (Zh (ZS p)) (pN (Zh (Ya n t f)) (pN (Zh (fun X hX=>by rcases List.mem_append.1 hX with h | h;exact Rd.plain_cg c X h;rw [List.mem_singleton.1 h];exact Yx Rp.plain_cSp _)) pZ))) (n:=30) rfl (by simp) (fun w0 => ?_)
 refine kW 30 [] [(0,.agg (cFm p)),(1,.agg (cSz n t f)),(2,.agg (Rp.cRun c ss))] (jB (oA (ZD (X := .agg (cFm p)) (.tmp 0) rfl rfl rfl) I0 (oA (ZD (X := .agg (cSz n t f)) (.tmp 1) rfl rfl rfl) I0 (oA (ZD (X := .agg (Rp.cRun c ss)) (.tmp 2) rfl rfl rfl) I0 (oS (nz) (oS (iv 0) (jD (jB (oA (Zj (z:=10) (.tmp 3) rfl U27 rfl (by kernel_rfl) rfl rfl) I0 (oA (Zj (z:=3) (.tmp 4) rfl U29 rfl (by kernel_rfl) rfl rfl) I0 (oK (Sized_c HP) [.agg (cFm p),.agg (cSz n t f)] rfl rfl (oS (iv (Ns.sysE p n t f)) (jD ?_)))))))))))))
 by_cases hs1:(Ns.sysE p n t f)=0
 refine Za (oW (on (dT' hs1) (jF (jM ?_))))
 by_cases hs2:(Rd.rvB p n f c)=true
 refine Za (oA (Zj (z:=10) (.tmp 3) rfl U27 rfl (by kernel_rfl) rfl rfl) I0 (oA (Zj (z:=3) (.tmp 4) rfl U29 rfl (by kernel_rfl) rfl rfl) I0 (oS (.el (Rp.cRun c ss) 0) (oA (Zj (z:=6) (ds:=[Zb c.sh,Zb c.st,iv c.cor,Zb c.se,Zb c.fa,iv c.val]) (.tmp 17) rfl U31 rfl (by kernel_rfl) (by kernel_rfl) rfl) I0 (oK (Zr (Kz HP HC (Ns.adm_in (Ns.sys_ok hs1).2.1)) hs2) [.agg (cFm p),.agg (cSz n t f),.agg [Zb c.sh,Zb c.st,iv c.cor,Zb c.se,Zb c.fa,iv c.val]] rfl rfl (oS bF (jF (jB (oA (Zj (z:=10) (.tmp 3) rfl U27 rfl (by kernel_rfl) rfl rfl) I0 (oA (Zj (z:=3) (.tmp 4) rfl U29 rfl (by kernel_rfl) rfl rfl) I0 (oS (.el (Rp.cRun c ss) 0) (oA (Zj (z:=6) (ds:=[Zb c.sh,Zb c.st,iv c.cor,Zb c.se,Zb c.fa,iv c.val]) (.tmp 23) rfl U31 rfl (by kernel_rfl) (by kernel_rfl) rfl) I0 (oW (oW (oK (rreplay_c HP HL HC hs1 ((Rd.rv_rd hs1).symm.trans hs2) hl) [.agg (cFm p),.agg (cSz n t f),.agg [Zb c.sh,Zb c.st,iv c.cor,Zb c.se,Zb c.fa,iv c.val],slA 3 Rp.cSp ss] rfl rfl (oW (oW (oS (.fr (slA 6 Rd.cCg (Rp.rpL p n t f c ss))) ?_))))))))))))))))))
 refine oS (iv (Rp.rpE p n t f c ss)) (jE ?_)
 refine ZQ Tryz.results14 (.tmp rfl) (.tmp rfl) ?_
 exact rfl
 have hs2f:(Rd.rvB p n f c)=false:=by simpa using hs2
 refine Za (oA (Zj (z:=10) (.tmp 3) rfl U27 rfl (by kernel_rfl) rfl rfl) I0 (oA (Zj (z:=3) (.tmp 4) rfl U29 rfl (by kernel_rfl) rfl rfl) I0 (oS (.el (Rp.cRun c ss) 0) (oA (Zj (z:=6) (ds:=[Zb c.sh,Zb c.st,iv c.cor,Zb c.se,Zb c.fa,iv c.val]) (.tmp 17) rfl U31 rfl (by kernel_rfl) (by kernel_rfl) rfl) I0 (oK (Zr (Kz HP HC (Ns.adm_in (Ns.sys_ok hs1).2.1)) hs2f) [.agg (cFm p),.agg (cSz n t f),.agg [Zb c.sh,Zb c.st,iv c.cor,Zb c.se,Zb c.fa,iv c.val]] rfl rfl (oS bT (jG (oS (nz) (oS (iv 10) (jE (Zc ?_)))))))))))
 refine Yk (Zaa 6 1 true 31 6 rfl rfl rfl) ?_
 refine ZQ Tryz.results14 (.tmp rfl) (.tmp rfl) ?_
 have e1:=Rp.rp_run (ss:=ss) hs1 ((Rd.rv_rd hs1).symm.trans hs2f)
 rw [Rp.rpL_no (by rw [e1];decide),e1]
 exact rfl
 refine Za (oW (on (dF' hs1) (jG (oW (oS (nz) (oS (iv (Ns.sysE p n t f)) (jE (Zc ?_))))))))
 refine Yk (Zaa 6 1 true 31 6 rfl rfl rfl) ?_
 refine ZQ Tryz.results14 (.tmp rfl) (.tmp rfl) ?_
 have e1:=Rp.rp_sys (c:=c) (ss:=ss) hs1
 rw [Rp.rpL_no (by rw [e1];exact hs1),e1]
 exact rfl
end Go.Proofs.YtdbehgbggaaipaaGreat
namespace Go.Proofs.YtdbehgbggaaipaaGreat
open Go.RowKit Go.Deep Go.ChangeShapes Go.WideShapes Go.ChangeAt Go.Joins
theorem Zcv:Tryz.prog.cellsOf 35=3:=by kernel_rfl
variable {w:World}{base:Nat}{held:Bool}{cs:List Value}
set_option maxRecDepth 100000 in
theorem Zdt {H:Type} {enc:TypeId × Value→H} {sp:Nat→Bool} {n:Nat} {x:DataW H × List MemPlace} (h:DataW.trod enc Tryz.prog w base sp held n 35 cs=some x) :
 ∃ c0 c1 c2,cs=[.int .i64 c0,.int .i64 c1,.int .i64 c2]∧I64 c0∧I64 c1∧I64 c2:=by
 obtain ⟨ys,m,_,_,hlen,_,hf⟩:=DataW.trod_struct Tryz.underlying35 h
 rw [Zcv] at hlen
 match cs,hlen with
 | [v0,v1,v2],_ =>
   have h0:DataW.trod enc Tryz.prog w base sp held m 3 (([v0,v1,v2].drop 0).take (Tryz.prog.cellsOf 3))=ys[0]? := hf 0 _ rfl
   have h1:DataW.trod enc Tryz.prog w base sp held m 3 (([v0,v1,v2].drop 1).take (Tryz.prog.cellsOf 3))=ys[1]? := hf 1 _ rfl
   have h2:DataW.trod enc Tryz.prog w base sp held m 3 (([v0,v1,v2].drop 2).take (Tryz.prog.cellsOf 3))=ys[2]? := hf 2 _ rfl
   rw [ZU] at h0 h1 h2
   simp only [List.drop_zero,List.take_succ_cons,List.take_zero] at h0
   simp only [List.drop_succ_cons,List.drop_zero,List.take_succ_cons,List.take_zero] at h1 h2
   have hx:∀ i,i<3→∃ y,ys[i]? = some y:=fun i hi=>⟨ys[i]'(by simp at *;omega),List.getElem?_eq_getElem _⟩
   obtain ⟨y0,e0⟩:=hx 0 (by omega)
   rw [e0] at h0
   obtain ⟨c0,rfl,q0⟩:=ZI h0
   obtain ⟨y1,e1⟩:=hx 1 (by omega)
   rw [e1] at h1
   obtain ⟨c1,rfl,q1⟩:=ZI h1
   obtain ⟨y2,e2⟩:=hx 2 (by omega)
   rw [e2] at h2
   obtain ⟨c2,rfl,q2⟩:=ZI h2
   exact ⟨c0,c1,c2,rfl,q0,q1,q2⟩
def StpEl (_:Nat) (_:World) (cs:List Value) (s:Rp.Sp):Prop:=cs=[.int .i64 s.1,.int .i64 s.2.1,.int .i64 s.2.2]∧I64 s.1∧I64 s.2.1∧I64 s.2.2
set_option maxRecDepth 100000 in
theorem ZcK {H:Type} {enc:TypeId × Value→H} {sp:Nat→Bool} {n:Nat} {x:DataW H × List MemPlace} (h:DataW.trod enc Tryz.prog w base sp held n 35 cs=some x):∃ s,StpEl 0 w cs s:=by
 obtain ⟨c0,c1,c2,e,q⟩:=Zdt h
 exact ⟨(c0,c1,c2),e,q⟩
variable {v:Value}
theorem steps_pu {F ok:Nat→Prop} {lo:Nat} (hok:∀ b,lo≤b→b<w.heap.size→ok b) {xs:List Rp.Sp} (h:IsSl 3 StpEl lo w v xs):Pu F w ok (slA 3 Rp.cSp xs) v:=by
 refine sl_pu Rp.len_cSp hok (fun s vs hs j hj => ?_) h
 obtain ⟨rfl,_⟩:=hs
 match j,hj with
 | 0,_=>exact .v _
 | 1,_=>exact .v _
 | 2,_=>exact .v _
theorem cells_run:Tryz.prog.cellsOf 47=7:=by kernel_rfl
theorem Zem:Tryz.prog.cellsOf 45=1:=by kernel_rfl
def IsRun (w:World) (v:Value) (c:Cf) (ss:List Rp.Sp):Prop :=
 ∃ (cs:List Value) (u:Value),v = .agg (cs++[u]).toArray∧IsCf 0 w (.agg cs.toArray) c∧IsSl 3 StpEl 0 w u ss
set_option maxRecDepth 100000 in
theorem ZeE {H:Type} {enc:TypeId × Value→H} {n:Nat} {x:DataW H × List MemPlace} (h:DataW.trod enc Tryz.prog w 0 (fun _=>true) true n 47 cs=some x) :
 ∃ c ss,IsRun w (.agg cs.toArray) c ss:=by
 obtain ⟨ys,m,_,_,hlen,_,hf⟩:=DataW.trod_struct Tryz.underlying47 h
 rw [cells_run] at hlen
 match cs,hlen with
 | [v0,v1,v2,v3,v4,v5,u],_ =>
   have h0:DataW.trod enc Tryz.prog w 0 (fun _=>true) true m 31 (([v0,v1,v2,v3,v4,v5,u].drop 0).take (Tryz.prog.cellsOf 31))=ys[0]? := hf 0 _ rfl
   rw [Zep] at h0
   simp only [List.drop_zero,List.take_succ_cons,List.take_zero] at h0
   have h1:DataW.trod enc Tryz.prog w 0 (fun _=>true) true m 45 (([v0,v1,v2,v3,v4,v5,u].drop 6).take (Tryz.prog.cellsOf 45))=ys[1]? := hf 1 _ rfl
   rw [Zem] at h1
   simp only [List.drop_succ_cons,List.drop_zero,List.take_succ_cons,List.take_zero] at h1
   have hx:∀ i,i<2→∃ y,ys[i]? = some y:=fun i hi=>⟨ys[i]'(by simp at *;omega),List.getElem?_eq_getElem _⟩
   obtain ⟨y0,e0⟩:=hx 0 (by omega)
   rw [e0] at h0
   obtain ⟨u0,xs0,u1,xs1,g2,u3,xs3,u4,xs4,g5,s2,q0,q1,q2,q3,q4,q5⟩:=Ze2 h0
   obtain ⟨y1,e1⟩:=hx 1 (by omega)
   rw [e1] at h1
   obtain ⟨ss,hs⟩:=Kk Tryz.underlying45 Zcv (by omega) (fun _ _ _ hh _=>ZcK hh) h1
   refine ⟨⟨xs0,xs1,g2,xs3,xs4,g5⟩,ss,[v0,v1,v2,v3,v4,v5],u,rfl,?_,hs⟩
   exact ⟨u0,u1,u3,u4,by rw [s2],q0,q1,q2,q3,q4,q5⟩
set_option maxRecDepth 100000 in
theorem arg_run {H:Type} {enc:TypeId × Value→H} {r:Reach} {b0:Nat} {d:DataW H} {p:List MemPlace} (hv:Value.okWide Tryz.prog w r b0 47 v) (h:DataW.Trod enc Tryz.prog w 0 (fun _=>true) true 47 v d p) :
 ∃ c ss,IsRun w v c ss:=by
 obtain ⟨cs,rfl,_⟩:=okWide_struct Tryz.underlying47 hv
 obtain ⟨fuel,hf⟩:=h
 obtain ⟨c,ss,hq⟩:=ZeE hf
 exact ⟨c,ss,by simpa [Value.cells] using hq⟩
variable {c:Cf}
theorem run_in {ss:List Rp.Sp} (h:IsRun w v c ss):Rd.CgIn c:=by
 obtain ⟨cs,u,rfl,hC,_⟩:=h
 exact Rd.cf_in hC
theorem run_pu {ss:List Rp.Sp} (h:IsRun w v c ss):Pu (fun _=>True) w (fun b=>b<w.heap.size) (.agg (Rp.cRun c ss)) v:=by
 obtain ⟨cs,u,rfl,hC,hS⟩:=h
 refine Rd.agg_app (Rd.cf_pu (fun _ _ h=>h) hC) (.agg rfl fun j hj => ?_)
 match j,hj with
 | 0,_=>exact steps_pu (fun _ _ hb=>hb) hS
end Go.Proofs.YtdbehgbggaaipaaGreat
namespace Go.Proofs.YtdbehgbggaaipaaGreat
open Go.RowKit Go.Deep
set_option maxRecDepth 100000
set_option maxHeartbeats 6400000
variable {J:World→Prop}
def Rp.lgR (c:Cf) (ss:List Rp.Sp):Bool:=wideCf c||decide (300<(ss.length:Int))
variable {c:Cf}
theorem Rp.lg_no {ss:List Rp.Sp} (h:Rp.lgR c ss=false):wideCf c=false∧ss.length≤300:=by
 unfold Rp.lgR at h
 rw [Bool.or_eq_false_iff,decide_eq_false_iff_not] at h
 exact ⟨h.1,by omega⟩
theorem long_c (HI:Rd.CgIn c) {ss:List Rp.Sp}:Ctr Tryz.prog J 12 [.agg (Rp.cRun c ss)] (bv (Rp.lgR c ss)):=by
 refine Zm Tryz.func12 rfl (pN (Zh (fun X hX=>by rcases List.mem_append.1 hX with h | h;exact Rd.plain_cg c X h;rw [List.mem_singleton.1 h];exact Yx Rp.plain_cSp _)) pZ) (n:=12) rfl (by simp) (fun w0 => ?_)
 refine kW 12 [] [(0,.agg (Rp.cRun c ss))] (jB (oX 1 (.agg (Rp.cRun c ss)) (oS bF (jD ?_))))
 by_cases hs1:(wideCf c)=true
 refine Za (oW (oW (oK (Zr (Rd.Wide_c HI) hs1) [.agg (Rd.cCg c)] rfl rfl (oS bT (qK (qK (qK (qK (oF bT (jE ?_))))))))))
 refine Zg Tryz.results12 (.tmp rfl) ?_
 rw [show Rp.lgR c ss=true from by unfold Rp.lgR;rw [hs1];rfl]
 exact rfl
 have hs1f:(wideCf c)=false:=by simpa using hs1
 refine Za (oW (oW (oK (Zr (Rd.Wide_c HI) hs1f) [.agg (Rd.cCg c)] rfl rfl (oS bF (oW (oF (iv ss.length) (gC (Zdw rfl rfl) I0 I0 (oF (bv (decide (300<(ss.length:Int)))) (jE ?_)))))))))
 refine Zg Tryz.results12 (.tmp rfl) ?_
 rw [show Rp.lgR c ss=decide (300<(ss.length:Int)) from by unfold Rp.lgR;rw [hs1f];rfl]
 exact rfl
variable {p:Fm}{n t f:Int}
theorem rpL_inA (HL:FamLen p) (HC:Rd.CgOk c) {ss:List Rp.Sp} (HI:Rd.CgIn c):∀ c1∈(Rp.rpL p n t f c ss),Rd.CgIn c1:=fun c1 h=>by
 by_cases he:(Rp.rpE p n t f c ss)=0
 ·obtain ⟨j,hj,rfl⟩:=List.getElem_of_mem h
  rw [Rp.rpL_at he hj]
  have:=Rp.rpL_len he
  exact Rp.cK_in HI HL HC (by omega) he
 rw [Rp.rpL_no he] at h;cases h
theorem rpL_le {ss:List Rp.Sp} (hl:ss.length≤300):(Rp.rpL p n t f c ss).length≤1000000:=by
 by_cases he:(Rp.rpE p n t f c ss)=0
 ·rw [Rp.rpL_len he];omega
 rw [Rp.rpL_no he];simp
theorem sameCfgsR {L:List Cf} (hI:∀ c∈L,Rd.CgIn c) (hl:L.length≤1000000):Ctr Tryz.prog J 15 [slA 6 Rd.cCg L,slA 6 Rd.cCg L] bT:=by
 refine Zm Tryz.func15 rfl (pN (Yx Rd.plain_cg _) (pN (Yx Rd.plain_cg _) pZ)) (n:=27) rfl (by simp) (fun w0 => ?_)
 refine kW 27 [] [(0,slA 6 Rd.cCg L),(1,slA 6 Rd.cCg L)] (jB (oS bF (jD (jB (oF (iv L.length) (oF (iv L.length) (oC (YJ rfl (dT' rfl)) I0 I0 (jF (jM (Za (oS (iv 0) (kN 27 [] [(0,slA 6 Rd.cCg L),(1,slA 6 Rd.cCg L),(4,bF),(5,iv 0)] (Zf (Zo ?_))))))))))))))
 refine ZL (σ:={k:Nat // k≤L.length}) (fun s=>(ofL [],ofT 27 [(0,slA 6 Rd.cCg L),(1,slA 6 Rd.cCg L),(5,iv s.1)])) (fun s=>L.length-s.1) ⟨0,Nat.zero_le _⟩ (Zp [] _) (fun s => ?_)
 obtain ⟨k,hk0⟩:=s
 show ETri J w0 (ofL []) (ofT 27 [(0,slA 6 Rd.cCg L),(1,slA 6 Rd.cCg L),(5,iv k)]) _
 refine jM ?_
 by_cases hs1:(k:Int)<(L.length:Int)
 refine Za (oW (oW (oW (ol (dT hs1) (jH (Zq (jC (Zo (Zl ?_)))))))))
 refine tD (dS (slA 6 Rd.cCg L) (dS (iv k) (dC (xS (k*6) 17 18 U49) I0 I0 (dA (Zj (z:=6) (.tmp 19) rfl U31 rfl (by kernel_rfl) (Z9 Rp.len_cCg L k (by omega)) rfl) I0 (dS (slA 6 Rd.cCg L) (dS (iv k) (dC (xS (k*6) 21 22 U49) I0 I0 (dA (Zj (z:=6) (.tmp 23) rfl U31 rfl (by kernel_rfl) (Z9 Rp.len_cCg L k (by omega)) rfl) I0 (dk (Rd.rCompare_c (hI _ (List.getElem_mem (by omega)))) [.agg (Rd.cCg L[k]),.agg (Rd.cCg L[k])] rfl rfl (dC (YJ (r:=false) rfl (by decide)) I0 I0 (eD ?_)))))))))))
 refine kW 27 [] [(0,slA 6 Rd.cCg L),(1,slA 6 Rd.cCg L),(5,iv k),(14,bT),(26,bF)] (Zf (ZA rfl (Zq (Zv (Zf (Za (oS (iv k) (oV ((k+1:Nat):Int) (oS (iv (k+1:Nat)) (kN 27 [] [(0,slA 6 Rd.cCg L),(1,slA 6 Rd.cCg L),(5,iv (k+1:Nat)),(14,bT),(26,bF)] (Zf ?_)))))))))))
 refine Zs ⟨k+1,by omega⟩ (show L.length-(k+1)<L.length-k by omega) ?_
 exact Zp [] _
 refine Za (oW (oW (oW (ol (dF hs1) (jI (jO (jC (Za (oS bT (jE ?_))))))))))
 refine Zg Tryz.results15 (.tmp rfl) ?_
 exact rfl
theorem ZdZ (HP:FmOk p) (HI:Rd.CgIn c) {ss:List Rp.Sp}:Ctr Tryz.prog J 4 [.agg (cFm p),.agg (cSz n t f),.agg (Rp.cRun c ss)] bT:=by
 refine Zm Tryz.func4 rfl (pN (Zh (ZS p)) (pN (Zh (Ya n t f)) (pN (Zh (fun X hX=>by rcases List.mem_append.1 hX with h | h;exact Rd.plain_cg c X h;rw [List.mem_singleton.1 h];exact Yx Rp.plain_cSp _)) pZ))) (n:=43) rfl (by simp) (fun w0 => ?_)
 refine kW 43 [] [(0,.agg (cFm p)),(1,.agg (cSz n t f)),(2,.agg (Rp.cRun c ss))] (jB (oX 1 (.agg (cFm p)) (oX 2 (.agg (cSz n t f)) (oX 3 (.agg (Rp.cRun c ss)) (oS bF (jD (Zl ?_)))))))
 by_cases hs1:(bigF p)=true
 refine Za (oW (oK (Zr (Big_c HP) hs1) [.agg (cFm p)] rfl rfl (oS bT (qK (qK (oS bT (jG (oK Sh.zknown_c [] rfl rfl (oS bT (jE (Zc ?_)))))))))))
 refine Zg Tryz.results4 (.tmp rfl) ?_
 exact rfl
 have hs1f:(bigF p)=false:=by simpa using hs1
 by_cases hs2:(Rp.lgR c ss)=true
 refine Za (oW (oK (Zr (Big_c HP) hs1f) [.agg (cFm p)] rfl rfl (oS bF (oW (oK (Zr (long_c HI) hs2) [.agg (Rp.cRun c ss)] rfl rfl (oS bT (jG (oK Sh.zknown_c [] rfl rfl (oS bT (jE (Zc ?_)))))))))))
 refine Zg Tryz.results4 (.tmp rfl) ?_
 exact rfl
 have hs2f:(Rp.lgR c ss)=false:=by simpa using hs2
 refine Za (oW (oK (Zr (Big_c HP) hs1f) [.agg (cFm p)] rfl rfl (oS bF (oW (oK (Zr (long_c HI) hs2f) [.agg (Rp.cRun c ss)] rfl rfl (oS bF (jF (jB (oW (oW (oW (oK (Replay_c HP (famLen hs1f) (Rd.cg_ok HI (Rp.lg_no hs2f).1) (Rp.lg_no hs2f).2) [.agg (cFm p),.agg (cSz n t f),.agg (Rp.cRun c ss)] rfl rfl (oS (.tup [.fr (slA 6 Rd.cCg (Rp.rpL p n t f c ss)),iv (Rp.rpE p n t f c ss)]) (oW (oW (oS (.fr (slA 6 Rd.cCg (Rp.rpL p n t f c ss))) (oS (iv (Rp.rpE p n t f c ss)) (Yh ?_))))))))))))))))))
 refine jC (Za (oW (oW (oW (oK (rReplay_c HP (famLen hs1f) (Rd.cg_ok HI (Rp.lg_no hs2f).1) (Rp.lg_no hs2f).2) [.agg (cFm p),.agg (cSz n t f),.agg (Rp.cRun c ss)] rfl rfl (oS (.tup [.fr (slA 6 Rd.cCg (Rp.rpL p n t f c ss)),iv (Rp.rpE p n t f c ss)]) (oW (oW (oS (.fr (slA 6 Rd.cCg (Rp.rpL p n t f c ss))) (oS (iv (Rp.rpE p n t f c ss)) (jD (Za (oS (iv (Rp.rpE p n t f c ss)) (oS (iv (Rp.rpE p n t f c ss)) (oC (ZM rfl (dT rfl)) I0 I0 (oS bT (oS (.fr (slA 6 Rd.cCg (Rp.rpL p n t f c ss))) (oS (.fr (slA 6 Rd.cCg (Rp.rpL p n t f c ss))) (WR rfl (sc #[.tmp 36,.tmp 37] [] (sameCfgsR (rpL_inA (famLen hs1f) (Rd.cg_ok HI (Rp.lg_no hs2f).1) HI) (rpL_le (Rp.lg_no hs2f).2)) [slA 6 Rd.cCg (Rp.rpL p n t f c ss),slA 6 Rd.cCg (Rp.rpL p n t f c ss)] rfl rfl rfl) ⟨I0,.inr (.inl rfl),.inr (.inl rfl),T0⟩ T0 T0 (oF bT ?_))))))))))))))))))))
 refine oK Sh.zknown_c [] rfl rfl (oF bT (jE ?_))
 refine Zg Tryz.results4 (.tmp rfl) ?_
 exact rfl
theorem Zax {v v2:Value} {ss:List Rp.Sp} (w:World) (h:IsFam 0 w v p) (_:I64 n) (_:I64 t) (_:I64 f) (hr:IsRun w v2 c ss) :
 Calls Tryz.prog 4 #[v,.agg #[.int .i64 n,.int .i64 t,.int .i64 f],v2] w fun e w'=>e = .returned (.bool true)∧Below w.heap.size w w' :=
 (ZdZ (J:=fun _=>True) h.ok (run_in hr) w #[v,.agg #[.int .i64 n,.int .i64 t,.int .i64 f],v2] (fun _ _=>T0) rfl fun j hj=>(match j,hj with
  | 0,_=>famw h
  | 1,_ => .agg rfl fun j hj=>(match j,hj with | 0,_ => .v _ | 1,_ => .v _ | 2,_ => .v _)
  | 2,_=>run_pu hr)).mono fun _ _ ⟨_,he,hp,hb⟩=>⟨by rw [he,hp.v_inv],hb⟩
end Go.Proofs.YtdbehgbggaaipaaGreat
