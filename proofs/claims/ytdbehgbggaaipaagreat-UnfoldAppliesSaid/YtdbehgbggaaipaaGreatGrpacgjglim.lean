import Derived.Test.YtdbehgbggaaipaaGreatGrpdmbijldf
import Derived.Test.YtdbehgbggaaipaaGreatGrpkeegmnpc
import Derived.Test.YtdbehgbggaaipaaGreatGrpiiicjbhn
import Derived.Test.YtdbehgbggaaipaaGreatGrppnomngln
set_option linter.all false
namespace Go.Proofs.YtdbehgbggaaipaaGreat
open Go.RowKit Go.Deep
set_option maxHeartbeats 12800000
variable {J:World→Prop}
variable {top:Int}
set_option maxRecDepth 100000 in
theorem En.place_x {c:Nat} (hc:c≤8) (xs:Nat→Value):CtrW Tryz.prog J 49 [bx 1000000] 1000000 (.box 102 [.v (xs 0),iv top,.v (xs 2),.v (xs 3),.v (xs 4),.v (xs 5),.v (xs 6),.v (xs 7),.v (xs 8),.v (xs 9),.v (xs 10),.v (xs 11),.v (xs 12),iv c,.v (xs 14),.v (xs 15),.v (xs 16),.v (xs 17),.v (xs 18),.v (xs 19),.v (xs 20),.v (xs 21),.v (xs 22),.v (xs 23),.v (xs 24),.v (xs 25),.v (xs 26),.v (xs 27),.v (xs 28),.v (xs 29),.v (xs 30),nz,nz]) (.box 102 [.v (xs 0),iv top,.v (xs 2),.v (xs 3),.v (xs 4),.v (xs 5),.v (xs 6),.v (xs 7),.v (xs 8),.v (xs 9),.v (xs 10),.v (xs 11),.v (xs 12),iv c,.v (xs 14),.v (xs 15),.v (xs 16),.v (xs 17),.v (xs 18),.v (xs 19),.v (xs 20),.v (xs 21),.v (xs 22),.v (xs 23),.v (xs 24),.v (xs 25),.v (xs 26),.v (xs 27),.v (xs 28),.v (xs 29),.v (xs 30),.fr (slA 1 cLi (Ns.shT top (c:Int))),.fr ((En.lkS top c))]) (.v (.tuple #[])):=by
 have hsh:=Sh_pos (c:=c)
 have hsl:=Sh.shX_len (c:Int)
 refine ZeW (by decide) Tryz.func49 rfl (n:=64) rfl (by simp) (fun w0 => ?_)
 refine kW 64 [(1000000,.box 102 [.v (xs 0),iv top,.v (xs 2),.v (xs 3),.v (xs 4),.v (xs 5),.v (xs 6),.v (xs 7),.v (xs 8),.v (xs 9),.v (xs 10),.v (xs 11),.v (xs 12),iv c,.v (xs 14),.v (xs 15),.v (xs 16),.v (xs 17),.v (xs 18),.v (xs 19),.v (xs 20),.v (xs 21),.v (xs 22),.v (xs 23),.v (xs 24),.v (xs 25),.v (xs 26),.v (xs 27),.v (xs 28),.v (xs 29),.v (xs 30),nz,nz])] [(0,bx 1000000)] (jB (oW (oW (oW (oF (iv top) (jA (Zn (jM ?_))))))))
 by_cases hs1:top=2
 refine Za (oe (dT hs1) (oS bT (jH (Zq (Ze (Ya rfl ?_))))))
 refine tD (dW (dW (dW (dW (dW (dW (dW (dW (dW (dW (dk (ZbK (.inl hs1) hc) [iv top,nz,iv c] rfl rfl (dR (ZcN (z:=1) (k:=1) (fr:=true) (cs:=[.sl 3 c (Ns.lkZ top c c)]) [.tmp 22] [.fr (.sl 3 c (Ns.lkZ top c c))] rfl U100 (by kernel_rfl) (by decide) (by decide) rfl rfl rfl (by kernel_rfl) (by decide) (fun _=>by simp [AV.cellsOf,AV.isNew,cLn,cTh]) (by kernel_rfl)) ⟨I0,T0⟩ T0 rfl (dW (dW (dY (eD ?_))))))))))))))))
 refine kW 64 [(1,.row true 93 1 1 ([.sl 3 c (Ns.lkZ top c c)])),(1000000,.box 102 [.v (xs 0),iv top,.v (xs 2),.v (xs 3),.v (xs 4),.v (xs 5),.v (xs 6),.v (xs 7),.v (xs 8),.v (xs 9),.v (xs 10),.v (xs 11),.v (xs 12),iv c,.v (xs 14),.v (xs 15),.v (xs 16),.v (xs 17),.v (xs 18),.v (xs 19),.v (xs 20),.v (xs 21),.v (xs 22),.v (xs 23),.v (xs 24),.v (xs 25),.v (xs 26),.v (xs 27),.v (xs 28),.v (xs 29),.v (xs 30),nz,.own 1])] [] (Zv ?_)
 refine Kz ?_
 rw [Ns.shT_no (n:=(c:Int)) (by omega),← En.lkS_row (c:=c) (top:=top) (by omega)]
 refine kW 64 [(1000000,.box 102 [.v (xs 0),iv top,.v (xs 2),.v (xs 3),.v (xs 4),.v (xs 5),.v (xs 6),.v (xs 7),.v (xs 8),.v (xs 9),.v (xs 10),.v (xs 11),.v (xs 12),iv c,.v (xs 14),.v (xs 15),.v (xs 16),.v (xs 17),.v (xs 18),.v (xs 19),.v (xs 20),.v (xs 21),.v (xs 22),.v (xs 23),.v (xs 24),.v (xs 25),.v (xs 26),.v (xs 27),.v (xs 28),.v (xs 29),.v (xs 30),nz,.fr ((.sl 1 1 [.sl 3 c (Ns.lkZ top c c)]))])] [] ?_
 refine Z9 (WO 1000000 1 [0,0,0,0,0,0,0,0,0,0,0,0,0,0,0,0,0,0,0,0,0,0,0,0,0,0,0,0,0,0,0,2,0] rfl (ds:=[.v (xs 0),iv top,.v (xs 2),.v (xs 3),.v (xs 4),.v (xs 5),.v (xs 6),.v (xs 7),.v (xs 8),.v (xs 9),.v (xs 10),.v (xs 11),.v (xs 12),iv c,.v (xs 14),.v (xs 15),.v (xs 16),.v (xs 17),.v (xs 18),.v (xs 19),.v (xs 20),.v (xs 21),.v (xs 22),.v (xs 23),.v (xs 24),.v (xs 25),.v (xs 26),.v (xs 27),.v (xs 28),.v (xs 29),.v (xs 30),.fr (.sl 1 0 []),.fr ((.sl 1 1 [.sl 3 c (Ns.lkZ top c c)]))]) (by kernel_rfl) (by kernel_rfl)) ?_
 exact Zay Tryz.results49 (by decide) (by kernel_rfl)
 refine Za (oe (dF hs1) (oS bF (jI ?_)))
 by_cases hs2:top=3
 refine Za (oe (dT hs2) (oS bT (jH ?_)))
 refine tD (dW (dW (dW (dW (dW (dW (dW (dW (dW (dW (dk (ZbK (.inr hs2) hc) [iv top,nz,iv c] rfl rfl (dR (ZcN (z:=1) (k:=1) (fr:=true) (cs:=[.sl 3 c (Ns.lkZ top c c)]) [.tmp 22] [.fr (.sl 3 c (Ns.lkZ top c c))] rfl U100 (by kernel_rfl) (by decide) (by decide) rfl rfl rfl (by kernel_rfl) (by decide) (fun _=>by simp [AV.cellsOf,AV.isNew,cLn,cTh]) (by kernel_rfl)) ⟨I0,T0⟩ T0 rfl (dW (dW (dY (eD ?_))))))))))))))))
 refine kW 64 [(1,.row true 93 1 1 ([.sl 3 c (Ns.lkZ top c c)])),(1000000,.box 102 [.v (xs 0),iv top,.v (xs 2),.v (xs 3),.v (xs 4),.v (xs 5),.v (xs 6),.v (xs 7),.v (xs 8),.v (xs 9),.v (xs 10),.v (xs 11),.v (xs 12),iv c,.v (xs 14),.v (xs 15),.v (xs 16),.v (xs 17),.v (xs 18),.v (xs 19),.v (xs 20),.v (xs 21),.v (xs 22),.v (xs 23),.v (xs 24),.v (xs 25),.v (xs 26),.v (xs 27),.v (xs 28),.v (xs 29),.v (xs 30),nz,.own 1])] [] (Zv ?_)
 refine Kz ?_
 rw [Ns.shT_no (n:=(c:Int)) (by omega),← En.lkS_row (c:=c) (top:=top) (by omega)]
 refine kW 64 [(1000000,.box 102 [.v (xs 0),iv top,.v (xs 2),.v (xs 3),.v (xs 4),.v (xs 5),.v (xs 6),.v (xs 7),.v (xs 8),.v (xs 9),.v (xs 10),.v (xs 11),.v (xs 12),iv c,.v (xs 14),.v (xs 15),.v (xs 16),.v (xs 17),.v (xs 18),.v (xs 19),.v (xs 20),.v (xs 21),.v (xs 22),.v (xs 23),.v (xs 24),.v (xs 25),.v (xs 26),.v (xs 27),.v (xs 28),.v (xs 29),.v (xs 30),nz,.fr ((.sl 1 1 [.sl 3 c (Ns.lkZ top c c)]))])] [] ?_
 refine Z9 (WO 1000000 1 [0,0,0,0,0,0,0,0,0,0,0,0,0,0,0,0,0,0,0,0,0,0,0,0,0,0,0,0,0,0,0,2,0] rfl (ds:=[.v (xs 0),iv top,.v (xs 2),.v (xs 3),.v (xs 4),.v (xs 5),.v (xs 6),.v (xs 7),.v (xs 8),.v (xs 9),.v (xs 10),.v (xs 11),.v (xs 12),iv c,.v (xs 14),.v (xs 15),.v (xs 16),.v (xs 17),.v (xs 18),.v (xs 19),.v (xs 20),.v (xs 21),.v (xs 22),.v (xs 23),.v (xs 24),.v (xs 25),.v (xs 26),.v (xs 27),.v (xs 28),.v (xs 29),.v (xs 30),.fr (.sl 1 0 []),.fr ((.sl 1 1 [.sl 3 c (Ns.lkZ top c c)]))]) (by kernel_rfl) (by kernel_rfl)) ?_
 exact Zay Tryz.results49 (by decide) (by kernel_rfl)
 refine Za (oe (dF hs2) (oS bF (jI (Zl ?_))))
 by_cases hs3:top=4
 refine Za (oe (dT hs3) (oS bT (jG (oW (oW (oW (oW (oW (oK (Sh.Shapes_n _) [iv c] rfl rfl (oS (.tup [.fr (slA 1 cLi (Sh.shX (c:Int))),iv (Sh.shZ (c:Int))]) (oW (oS (iv (Sh.shZ (c:Int))) (oW (oW (oY (kN 64 [(1000000,.box 102 [.v (xs 0),iv top,.v (xs 2),.v (xs 3),.v (xs 4),.v (xs 5),.v (xs 6),.v (xs 7),.v (xs 8),.v (xs 9),.v (xs 10),.v (xs 11),.v (xs 12),iv c,.v (xs 14),.v (xs 15),.v (xs 16),.v (xs 17),.v (xs 18),.v (xs 19),.v (xs 20),.v (xs 21),.v (xs 22),.v (xs 23),.v (xs 24),.v (xs 25),.v (xs 26),.v (xs 27),.v (xs 28),.v (xs 29),.v (xs 30),.fr (slA 1 cLi (Sh.shX (c:Int))),nz])] [(0,bx 1000000)] (jC (Za ?_))))))))))))))))))
 refine oW (oW (oF (.fr (slA 1 cLi (Sh.shX (c:Int)))) (Yz rfl (nLs 42 U61) ⟨.inr (.inl rfl),T0⟩ T0 T0 (oS (iv 0) (kN 64 [(1000000,.box 102 [.v (xs 0),iv top,.v (xs 2),.v (xs 3),.v (xs 4),.v (xs 5),.v (xs 6),.v (xs 7),.v (xs 8),.v (xs 9),.v (xs 10),.v (xs 11),.v (xs 12),iv c,.v (xs 14),.v (xs 15),.v (xs 16),.v (xs 17),.v (xs 18),.v (xs 19),.v (xs 20),.v (xs 21),.v (xs 22),.v (xs 23),.v (xs 24),.v (xs 25),.v (xs 26),.v (xs 27),.v (xs 28),.v (xs 29),.v (xs 30),.fr (slA 1 cLi (Sh.shX (c:Int))),nz])] [(0,bx 1000000),(42,.fr (slA 1 cLi (Sh.shX (c:Int)))),(43,iv ((Sh.shX (c:Int)).length:Nat)),(44,iv 0)] (Ze (Zn ?_)))))))
 refine Z9 (ZS 1000000 32 1 true 93 1 rfl rfl rfl rfl) ?_
 refine ZK (σ:={j:Nat // j≤(Sh.shX (c:Int)).length}) (fun s=>(ofL [(1,.row true 93 1 (((Sh.shX (c:Int)).take s.1).length) (((Sh.shX (c:Int)).take s.1).flatMap Ns.cLk)),(1000000,.box 102 [.v (xs 0),iv top,.v (xs 2),.v (xs 3),.v (xs 4),.v (xs 5),.v (xs 6),.v (xs 7),.v (xs 8),.v (xs 9),.v (xs 10),.v (xs 11),.v (xs 12),iv c,.v (xs 14),.v (xs 15),.v (xs 16),.v (xs 17),.v (xs 18),.v (xs 19),.v (xs 20),.v (xs 21),.v (xs 22),.v (xs 23),.v (xs 24),.v (xs 25),.v (xs 26),.v (xs 27),.v (xs 28),.v (xs 29),.v (xs 30),.fr (slA 1 cLi (Sh.shX (c:Int))),.own 1])],ofT 64 [(0,bx 1000000),(42,.fr (slA 1 cLi (Sh.shX (c:Int)))),(43,iv ((Sh.shX (c:Int)).length:Nat)),(44,iv s.1)])) (fun s=>(Sh.shX (c:Int)).length-s.1) ⟨0,Nat.zero_le _⟩ (Zp _ _) (fun s => ?_)
 obtain ⟨j,hj0⟩:=s
 show ETri J w0 (ofL [(1,.row true 93 1 (((Sh.shX (c:Int)).take j).length) (((Sh.shX (c:Int)).take j).flatMap Ns.cLk)),(1000000,.box 102 [.v (xs 0),iv top,.v (xs 2),.v (xs 3),.v (xs 4),.v (xs 5),.v (xs 6),.v (xs 7),.v (xs 8),.v (xs 9),.v (xs 10),.v (xs 11),.v (xs 12),iv c,.v (xs 14),.v (xs 15),.v (xs 16),.v (xs 17),.v (xs 18),.v (xs 19),.v (xs 20),.v (xs 21),.v (xs 22),.v (xs 23),.v (xs 24),.v (xs 25),.v (xs 26),.v (xs 27),.v (xs 28),.v (xs 29),.v (xs 30),.fr (slA 1 cLi (Sh.shX (c:Int))),.own 1])]) (ofT 64 [(0,bx 1000000),(42,.fr (slA 1 cLi (Sh.shX (c:Int)))),(43,iv ((Sh.shX (c:Int)).length:Nat)),(44,iv j)]) _
 have l1:((Sh.shX (c:Int)).take j).length≤j:=List.length_take_le _ _
 refine Zl ?_
 by_cases hs4:(j:Int)<(((Sh.shX (c:Int)).length:Nat):Int)
 have hj1:j<(Sh.shX (c:Int)).length:=by omega
 have hx0:0<(Sh.shX (c:Int))[j].length:=hsh _ (List.getElem_mem hj1)
 have hx1:(Sh.shX (c:Int))[j].length≤100:=Nat.le_trans (Sh.shX_mem _ _ (List.getElem_mem hj1)).1 (by decide)
 refine Za (ol (dT hs4) (jD (Ya rfl (Zq (jC (Zn (jB (Yz rfl (xS (j*1) 42 44 U61) ⟨.inr (.inl rfl),I0,T0⟩ T0 T0 (oL (Zb ((Sh.shX (c:Int))[j])) (fT lenLi (Sh.shX (c:Int)) j 0) (oS (Zb ((Sh.shX (c:Int))[j])) (jA ?_)))))))))))
 refine tD (dW (dW (dW (dW (dS (.own 1) (dW (dW (dW (dW (dW (dk (ZdW (Sh.shX_mem _ _ (List.getElem_mem (by omega))).2 hx0 hx1) [iv 4,Zb ((Sh.shX (c:Int))[j]),iv c] rfl rfl (dR (ZcN (z:=1) (k:=2) (fr:=false) (cs:=[.fr (Ns.lkT ((Sh.shX (c:Int))[j]))]) [.tmp 58] [.fr (Ns.lkT ((Sh.shX (c:Int))[j]))] rfl U100 (by kernel_rfl) (by decide) (by decide) rfl rfl rfl (by kernel_rfl) (by decide) (fun h=>Bool.noConfusion h) (by kernel_rfl)) ⟨I0,T0⟩ T0 rfl (dR (Zdw (n:=((Sh.shX (c:Int)).take j).length) (cs:=(((Sh.shX (c:Int)).take j).flatMap Ns.cLk)) (fr:=true) (m:=1) (ds:=[.fr (Ns.lkT ((Sh.shX (c:Int))[j]))]) (⟨U100,by kernel_rfl,by decide⟩:Elt Tryz.prog 100 93 1 24) (.tmp 52) (.tmp 59) rfl (fun _=>Ns.newLk (Sh.shX (c:Int))[j]) (by unfold maxLen;omega) (by omega) (Ns.cellLk (Sh.shX (c:Int))[j]) (es:=(((Sh.shX (c:Int)).take (j+1)).flatMap Ns.cLk)) (Ns.snocLk (by omega))) ⟨I0,I0,T0⟩ ⟨rfl,rfl,T0⟩ rfl (dW (dW (dY (eD ?_)))))))))))))))))
 refine kW 64 [(1,.row true 93 1 (((Sh.shX (c:Int)).take j).length+1) (((Sh.shX (c:Int)).take (j+1)).flatMap Ns.cLk)),(1000000,.box 102 [.v (xs 0),iv top,.v (xs 2),.v (xs 3),.v (xs 4),.v (xs 5),.v (xs 6),.v (xs 7),.v (xs 8),.v (xs 9),.v (xs 10),.v (xs 11),.v (xs 12),iv c,.v (xs 14),.v (xs 15),.v (xs 16),.v (xs 17),.v (xs 18),.v (xs 19),.v (xs 20),.v (xs 21),.v (xs 22),.v (xs 23),.v (xs 24),.v (xs 25),.v (xs 26),.v (xs 27),.v (xs 28),.v (xs 29),.v (xs 30),.fr (slA 1 cLi (Sh.shX (c:Int))),.own 1])] [(0,bx 1000000),(3,Zb ((Sh.shX (c:Int))[j])),(42,.fr (slA 1 cLi (Sh.shX (c:Int)))),(43,iv ((Sh.shX (c:Int)).length:Nat)),(44,iv j),(45,bT)] (Zv (Ze (Za (oV ((j+1:Nat):Int) (oS (iv (j+1:Nat)) (kN 64 [(1,.row true 93 1 (((Sh.shX (c:Int)).take j).length+1) (((Sh.shX (c:Int)).take (j+1)).flatMap Ns.cLk)),(1000000,.box 102 [.v (xs 0),iv top,.v (xs 2),.v (xs 3),.v (xs 4),.v (xs 5),.v (xs 6),.v (xs 7),.v (xs 8),.v (xs 9),.v (xs 10),.v (xs 11),.v (xs 12),iv c,.v (xs 14),.v (xs 15),.v (xs 16),.v (xs 17),.v (xs 18),.v (xs 19),.v (xs 20),.v (xs 21),.v (xs 22),.v (xs 23),.v (xs 24),.v (xs 25),.v (xs 26),.v (xs 27),.v (xs 28),.v (xs 29),.v (xs 30),.fr (slA 1 cLi (Sh.shX (c:Int))),.own 1])] [(0,bx 1000000),(3,Zb ((Sh.shX (c:Int))[j])),(42,.fr (slA 1 cLi (Sh.shX (c:Int)))),(43,iv ((Sh.shX (c:Int)).length:Nat)),(44,iv (j+1:Nat)),(45,bT)] (Ze ?_)))))))
 refine Zs ⟨j+1,by omega⟩ (show (Sh.shX (c:Int)).length-(j+1)<(Sh.shX (c:Int)).length-j by omega) ?_
 show Wk _ _ (ofL [(1,.row true 93 1 (((Sh.shX (c:Int)).take (j+1)).length) (((Sh.shX (c:Int)).take (j+1)).flatMap Ns.cLk)),(1000000,.box 102 [.v (xs 0),iv top,.v (xs 2),.v (xs 3),.v (xs 4),.v (xs 5),.v (xs 6),.v (xs 7),.v (xs 8),.v (xs 9),.v (xs 10),.v (xs 11),.v (xs 12),iv c,.v (xs 14),.v (xs 15),.v (xs 16),.v (xs 17),.v (xs 18),.v (xs 19),.v (xs 20),.v (xs 21),.v (xs 22),.v (xs 23),.v (xs 24),.v (xs 25),.v (xs 26),.v (xs 27),.v (xs 28),.v (xs 29),.v (xs 30),.fr (slA 1 cLi (Sh.shX (c:Int))),.own 1])]) (ofT 64 [(0,bx 1000000),(42,.fr (slA 1 cLi (Sh.shX (c:Int)))),(43,iv ((Sh.shX (c:Int)).length:Nat)),(44,iv ((j+1):Nat))])
 rw [show ((Sh.shX (c:Int)).take (j+1)).length=((Sh.shX (c:Int)).take j).length+1 by rw [List.length_take,List.length_take];omega]
 exact Zp _ _
 refine Za (ol (dF hs4) (kN 64 [(1,.row true 93 1 (((Sh.shX (c:Int)).take j).length) (((Sh.shX (c:Int)).take j).flatMap Ns.cLk)),(1000000,.box 102 [.v (xs 0),iv top,.v (xs 2),.v (xs 3),.v (xs 4),.v (xs 5),.v (xs 6),.v (xs 7),.v (xs 8),.v (xs 9),.v (xs 10),.v (xs 11),.v (xs 12),iv c,.v (xs 14),.v (xs 15),.v (xs 16),.v (xs 17),.v (xs 18),.v (xs 19),.v (xs 20),.v (xs 21),.v (xs 22),.v (xs 23),.v (xs 24),.v (xs 25),.v (xs 26),.v (xs 27),.v (xs 28),.v (xs 29),.v (xs 30),.fr (slA 1 cLi (Sh.shX (c:Int))),.own 1])] [(0,bx 1000000),(42,.fr (slA 1 cLi (Sh.shX (c:Int)))),(43,iv ((Sh.shX (c:Int)).length:Nat)),(44,iv j),(45,bF)] (jC (ZD rfl (jO (Zv ?_))))))
 refine Kz ?_
 have hj2:j=(Sh.shX (c:Int)).length:=by omega
 have ht:(Sh.shX (c:Int)).take j=(Sh.shX (c:Int)):=by rw [hj2,List.take_length]
 rw [ht]
 rw [Ns.shT_tree (n:=(c:Int)) hs3,hs3,← En.lkS_tree]
 refine kW 64 [(1000000,.box 102 [.v (xs 0),iv 4,.v (xs 2),.v (xs 3),.v (xs 4),.v (xs 5),.v (xs 6),.v (xs 7),.v (xs 8),.v (xs 9),.v (xs 10),.v (xs 11),.v (xs 12),iv c,.v (xs 14),.v (xs 15),.v (xs 16),.v (xs 17),.v (xs 18),.v (xs 19),.v (xs 20),.v (xs 21),.v (xs 22),.v (xs 23),.v (xs 24),.v (xs 25),.v (xs 26),.v (xs 27),.v (xs 28),.v (xs 29),.v (xs 30),.fr (slA 1 cLi (Sh.shX (c:Int))),.fr ((.sl 1 (Sh.shX (c:Int)).length ((Sh.shX (c:Int)).flatMap Ns.cLk)))])] [] ?_
 exact Zay Tryz.results49 (by decide) (by kernel_rfl)
 refine Za (oe (dF hs3) (oS bF (kN 64 [(1000000,.box 102 [.v (xs 0),iv top,.v (xs 2),.v (xs 3),.v (xs 4),.v (xs 5),.v (xs 6),.v (xs 7),.v (xs 8),.v (xs 9),.v (xs 10),.v (xs 11),.v (xs 12),iv c,.v (xs 14),.v (xs 15),.v (xs 16),.v (xs 17),.v (xs 18),.v (xs 19),.v (xs 20),.v (xs 21),.v (xs 22),.v (xs 23),.v (xs 24),.v (xs 25),.v (xs 26),.v (xs 27),.v (xs 28),.v (xs 29),.v (xs 30),nz,nz])] [(0,bx 1000000),(26,bF)] (Ze (ZD rfl (Zq (Zv ?_)))))))
 refine Kz ?_
 rw [Ns.shT_no (n:=(c:Int)) (by omega),← En.lkS_no (c:=c) hs1 hs2 hs3]
 refine Z9 (WO 1000000 1 [0,0,0,0,0,0,0,0,0,0,0,0,0,0,0,0,0,0,0,0,0,0,0,0,0,0,0,0,0,0,0,2,2] rfl (ds:=[.v (xs 0),iv top,.v (xs 2),.v (xs 3),.v (xs 4),.v (xs 5),.v (xs 6),.v (xs 7),.v (xs 8),.v (xs 9),.v (xs 10),.v (xs 11),.v (xs 12),iv c,.v (xs 14),.v (xs 15),.v (xs 16),.v (xs 17),.v (xs 18),.v (xs 19),.v (xs 20),.v (xs 21),.v (xs 22),.v (xs 23),.v (xs 24),.v (xs 25),.v (xs 26),.v (xs 27),.v (xs 28),.v (xs 29),.v (xs 30),.fr (.sl 1 0 []),.fr (.sl 1 0 [])]) (by kernel_rfl) (by kernel_rfl)) ?_
 exact Zay Tryz.results49 (by decide) (by kernel_rfl)
namespace En
theorem place_cx {top c:Int} (h0:0≤c) (h8:c≤8) (xs:Nat→Value):CtrW Tryz.prog J 49 [bx 1000000] 1000000 (.box 102 [.v (xs 0),iv top,.v (xs 2),.v (xs 3),.v (xs 4),.v (xs 5),.v (xs 6),.v (xs 7),.v (xs 8),.v (xs 9),.v (xs 10),.v (xs 11),.v (xs 12),iv c,.v (xs 14),.v (xs 15),.v (xs 16),.v (xs 17),.v (xs 18),.v (xs 19),.v (xs 20),.v (xs 21),.v (xs 22),.v (xs 23),.v (xs 24),.v (xs 25),.v (xs 26),.v (xs 27),.v (xs 28),.v (xs 29),.v (xs 30),nz,nz]) (.box 102 [.v (xs 0),iv top,.v (xs 2),.v (xs 3),.v (xs 4),.v (xs 5),.v (xs 6),.v (xs 7),.v (xs 8),.v (xs 9),.v (xs 10),.v (xs 11),.v (xs 12),iv c,.v (xs 14),.v (xs 15),.v (xs 16),.v (xs 17),.v (xs 18),.v (xs 19),.v (xs 20),.v (xs 21),.v (xs 22),.v (xs 23),.v (xs 24),.v (xs 25),.v (xs 26),.v (xs 27),.v (xs 28),.v (xs 29),.v (xs 30),.fr (slA 1 cLi (Ns.shT top c)),.fr ((lkS top c.toNat))]) (.v (.tuple #[])):=by
 obtain ⟨m,rfl⟩:=Int.eq_ofNat_of_zero_le h0
 exact place_x (by omega) xs
variable {p:Fm}{n t f:Int}
theorem place_mx (b:Nat→AV) (h0:0≤Ns.cntE p n f) (h8:Ns.cntE p n f≤8):∀ xs':Nat→Value,CtrW Tryz.prog J 49 [bx 1000000] 1000000 (.box 102 (maskC [true,false,true,true,true,true,true,true,true,true,true,true,true,false,true,true,true,true,true,true,true,true,true,true,true,true,true,true,true,true,true,false,false] xs' [sv p.nm,iv p.top,ZY p.sz,ZY p.msgs,ZY p.vals,iv p.fzz,slA 4 cLn p.res,Zb p.init,Zb p.lz,slA 18 cRu p.rz,iv n,iv t,iv f,iv (Ns.cntE p n f),iv (n-f),b 0,b 1,b 2,b 3,b 4,b 5,b 6,b 7,b 8,b 9,b 10,b 11,b 12,b 13,b 14,b 15,nz,nz])) (.box 102 (maskC [true,false,true,true,true,true,true,true,true,true,true,true,true,false,true,true,true,true,true,true,true,true,true,true,true,true,true,true,true,true,true,false,false] xs' [sv p.nm,iv p.top,ZY p.sz,ZY p.msgs,ZY p.vals,iv p.fzz,slA 4 cLn p.res,Zb p.init,Zb p.lz,slA 18 cRu p.rz,iv n,iv t,iv f,iv (Ns.cntE p n f),iv (n-f),b 0,b 1,b 2,b 3,b 4,b 5,b 6,b 7,b 8,b 9,b 10,b 11,b 12,b 13,b 14,b 15,.fr (slA 1 cLi (Ns.shT p.top (Ns.cntE p n f))),.fr (En.lkS p.top (Ns.cntE p n f).toNat)])) (.v (.tuple #[])):=fun xs=>place_cx h0 h8 xs
end En
abbrev XEn2_h1 (x0:Int) (x1:Int) (x2:Int) (x3:Fm) (x4:Nat) (x5:Ru):List (Nat × ABlk):=[(2,.box 29 (cSz x0 x1 x2)),(3,.box 102 (En.sysB x3 x0 x1 x2 x4 0 (nz) (nz))),(4,.box 57 (cRu x5))]
abbrev XEn2_h2 (x0:Int) (x1:Int) (x2:Int) (x3:Fm) (x4:Nat) (x5:Nat) (x6:Ru):List (Nat × ABlk):=[(2,.box 29 (cSz x0 x1 x2)),(3,.box 102 (En.sysB x3 x0 x1 x2 x4 x5 (nz) (nz))),(4,.box 57 (cRu x6))]
abbrev XEn2_h3 (x0:Nat) (x1:Nat) (x2:Fm) (x3:Ru):List (Nat × AV):=[(3,bx 2),(4,.v (.pointer none)),(5,iv 0),(7,bx 3),(8,iv x0),(9,bx 4),(10,iv x1),(11,bx 5),(46,slA 18 cRu x2.rz),(47,iv x2.rz.length),(48,iv x0),(49,bT),(54,slA 6 cTh x3.gz),(55,iv (x3.gz.length:Nat)),(56,iv x1),(57,bT)]
variable {p:Fm}{n t f:Int}
set_option maxRecDepth 100000 in
theorem ZbJ (HP:FmOk p) (hs:Ns.sysE p n t f=0):CtrA Tryz.prog J 29 [.agg (cFm p),.agg (cSz n t f)] (.tup [.el (En.sysP p n t f) 0,iv 0]):=by
 obtain ⟨hv,ha,h8⟩:=Ns.sys_ok hs
 obtain ⟨hr8,hg2⟩:=Ns.val_lims hv
 have hai:=Ns.adm_in ha
 have hc0:=Ns.cnt_lo (p:=p) hai
 have hc8:=Ns.cnt_hi (p:=p) hai h8
 refine WG Tryz.func29 rfl (pN (Zh (ZQ p)) (pN (Zh (Z0 n t f)) pZ)) (n:=80) rfl (by simp) (fun w0 => ?_)
 refine kW 80 [] [(0,.agg (cFm p)),(1,.agg (cSz n t f))] (jB (oX 1 (.agg (cFm p)) (oX 2 (.agg (cSz n t f)) (oS (.v (.pointer none)) (oS (iv 0) (jD (jB (oW (oK (ZbH HP) [.agg (cFm p)] rfl rfl (oS (iv (valE p)) (jD (Za (oS (iv (valE p)) (oC (Yq rfl (dT' hv)) I0 I0 (jI ?_)))))))))))))))
 refine Zq (jC (jB (oW (oW (oK (Zr (Ns.adm_c HP hv) ha) [.agg (cFm p),.agg (cSz n t f)] rfl rfl (oS bF (jF (jM (Za (oF (iv n) (oC (sp_gtr rfl (dF h8)) I0 I0 (jF ?_))))))))))))
 refine jB (oS (.agg (cFm p)) (oS (.agg (cSz n t f)) (oF (iv n) (oF (iv n) (oF (iv f) (oU (n-f) (Yz rfl (sp_bldG [0,1,2,3] [.tmp 24,.tmp 25,.tmp 27,.tmp 32] [.agg (cFm p),.agg (cSz n t f),iv n,iv (n-f)] [.inr 0,.inr 1,.inr 2,.inr 3,.inr 4,.inr 5,.inr 6,.inr 7,.inr 8,.inr 9,.inr 10,.inr 11,.inr 12,.inr 13,.inr 14,.inl (.int .i64 0),.inl (.int .i64 0),.inl (.int .i64 0),.inl (.int .i64 0),.inl (.int .i64 0),.inl (.int .i64 0),.inl (.int .i64 0),.inl (.int .i64 0),.inl (.int .i64 0),.inl (.int .i64 0),.inl (.int .i64 0),.inl (.int .i64 0),.inl (.int .i64 0),.inl (.int .i64 0),.inl (.int .i64 0),.inl (.int .i64 0),.inl (.slice none 0 0),.inl (.slice none 0 0)] rfl rfl rfl rfl rfl (fun _=>by kernel_rfl) rfl (ds:=[sv p.nm,iv p.top,ZY p.sz,ZY p.msgs,ZY p.vals,iv p.fzz,slA 4 cLn p.res,Zb p.init,Zb p.lz,slA 18 cRu p.rz,iv n,iv t,iv f,iv n,iv (n-f),iv 0,iv 0,iv 0,iv 0,iv 0,iv 0,iv 0,iv 0,iv 0,iv 0,iv 0,iv 0,iv 0,iv 0,iv 0,iv 0,nz,nz]) rfl) ⟨I0,I0,I0,I0,T0⟩ T0 T0 (oX 3 (.agg [sv p.nm,iv p.top,ZY p.sz,ZY p.msgs,ZY p.vals,iv p.fzz,slA 4 cLn p.res,Zb p.init,Zb p.lz,slA 18 cRu p.rz,iv n,iv t,iv f,iv n,iv (n-f),iv 0,iv 0,iv 0,iv 0,iv 0,iv 0,iv 0,iv 0,iv 0,iv 0,iv 0,iv 0,iv 0,iv 0,iv 0,iv 0,nz,nz]) (oS (bx 3) (jD (jB (oF (iv p.fzz) (oC (ZF rfl rfl) I0 I0 (kN 80 [(1,.box 27 (cFm p)),(2,.box 29 (cSz n t f)),(3,.box 102 [sv p.nm,iv p.top,ZY p.sz,ZY p.msgs,ZY p.vals,iv p.fzz,slA 4 cLn p.res,Zb p.init,Zb p.lz,slA 18 cRu p.rz,iv n,iv t,iv f,iv n,iv (n-f),iv 0,iv 0,iv 0,iv 0,iv 0,iv 0,iv 0,iv 0,iv 0,iv 0,iv 0,iv 0,iv 0,iv 0,iv 0,iv 0,nz,nz])] [(2,bx 1),(3,bx 2),(4,.v (.pointer none)),(5,iv 0),(7,bx 3),(37,bv (decide (p.fzz=3)))] (Ze ?_)))))))))))))))
 refine Ym (True) (ofL [(1,.box 27 (cFm p)),(2,.box 29 (cSz n t f)),(3,.box 102 [sv p.nm,iv p.top,ZY p.sz,ZY p.msgs,ZY p.vals,iv p.fzz,slA 4 cLn p.res,Zb p.init,Zb p.lz,slA 18 cRu p.rz,iv n,iv t,iv f,iv (Ns.cntE p n f),iv (n-f),iv 0,iv 0,iv 0,iv 0,iv 0,iv 0,iv 0,iv 0,iv 0,iv 0,iv 0,iv 0,iv 0,iv 0,iv 0,iv 0,nz,nz])]) (ofT 80 [(2,bx 1),(3,bx 2),(4,.v (.pointer none)),(5,iv 0),(7,bx 3)]) ?_ (fun _ => ?_)
 by_cases hs1:p.fzz=3
 rw [dT hs1]
 refine kW 80 [(1,.box 27 (cFm p)),(2,.box 29 (cSz n t f)),(3,.box 102 [sv p.nm,iv p.top,ZY p.sz,ZY p.msgs,ZY p.vals,iv p.fzz,slA 4 cLn p.res,Zb p.init,Zb p.lz,slA 18 cRu p.rz,iv n,iv t,iv f,iv n,iv (n-f),iv 0,iv 0,iv 0,iv 0,iv 0,iv 0,iv 0,iv 0,iv 0,iv 0,iv 0,iv 0,iv 0,iv 0,iv 0,iv 0,nz,nz])] [(2,bx 1),(3,bx 2),(4,.v (.pointer none)),(5,iv 0),(7,bx 3),(37,bT)] (Ya rfl (Za (oW (oW (oW (oW (oW (oW (oW (oY (kN 80 [(1,.box 27 (cFm p)),(2,.box 29 (cSz n t f)),(3,.box 102 [sv p.nm,iv p.top,ZY p.sz,ZY p.msgs,ZY p.vals,iv p.fzz,slA 4 cLn p.res,Zb p.init,Zb p.lz,slA 18 cRu p.rz,iv n,iv t,iv f,iv (n-f),iv (n-f),iv 0,iv 0,iv 0,iv 0,iv 0,iv 0,iv 0,iv 0,iv 0,iv 0,iv 0,iv 0,iv 0,iv 0,iv 0,iv 0,nz,nz])] [(2,bx 1),(3,bx 2),(4,.v (.pointer none)),(5,iv 0),(7,bx 3)] ?_)))))))))))
 rw [show Ns.cntE p n f=n-f from if_pos hs1]
 exact tM T0
 rw [dF hs1]
 refine kW 80 [(1,.box 27 (cFm p)),(2,.box 29 (cSz n t f)),(3,.box 102 [sv p.nm,iv p.top,ZY p.sz,ZY p.msgs,ZY p.vals,iv p.fzz,slA 4 cLn p.res,Zb p.init,Zb p.lz,slA 18 cRu p.rz,iv n,iv t,iv f,iv n,iv (n-f),iv 0,iv 0,iv 0,iv 0,iv 0,iv 0,iv 0,iv 0,iv 0,iv 0,iv 0,iv 0,iv 0,iv 0,iv 0,iv 0,nz,nz])] [(2,bx 1),(3,bx 2),(4,.v (.pointer none)),(5,iv 0),(7,bx 3),(37,bF)] (ZD rfl (Zq ?_))
 rw [show Ns.cntE p n f=n from if_neg hs1]
 exact tM T0
 refine jC (jB (oF (slA 18 cRu p.rz) (oS (iv p.rz.length) (oS (iv 0) (kN 80 [(2,.box 29 (cSz n t f)),(3,.box 102 [sv p.nm,iv p.top,ZY p.sz,ZY p.msgs,ZY p.vals,iv p.fzz,slA 4 cLn p.res,Zb p.init,Zb p.lz,slA 18 cRu p.rz,iv n,iv t,iv f,iv (Ns.cntE p n f),iv (n-f),iv 0,iv 0,iv 0,iv 0,iv 0,iv 0,iv 0,iv 0,iv 0,iv 0,iv 0,iv 0,iv 0,iv 0,iv 0,iv 0,nz,nz])] [(3,bx 2),(4,.v (.pointer none)),(5,iv 0),(7,bx 3),(46,slA 18 cRu p.rz),(47,iv p.rz.length),(48,iv 0)] (Ze (Zn ?_)))))))
 refine ZK (σ:={j:Nat // j≤p.rz.length}) (fun s=>(ofL [(2,.box 29 (cSz n t f)),(3,.box 102 (En.sysB p n t f s.1 0 (nz) (nz)))],ofT 80 [(3,bx 2),(4,.v (.pointer none)),(5,iv 0),(7,bx 3),(46,slA 18 cRu p.rz),(47,iv p.rz.length),(48,iv s.1)])) (fun s=>p.rz.length-s.1) ⟨0,Nat.zero_le _⟩ (Zp _ _) (fun s => ?_)
 obtain ⟨j,hj0⟩:=s
 show ETri J w0 (ofL [(2,.box 29 (cSz n t f)),(3,.box 102 (En.sysB p n t f j 0 (nz) (nz)))]) (ofT 80 [(3,bx 2),(4,.v (.pointer none)),(5,iv 0),(7,bx 3),(46,slA 18 cRu p.rz),(47,iv p.rz.length),(48,iv j)]) _
 refine Zl ?_
 by_cases hs2:(j:Int)<(p.rz.length:Int)
 have hj1:j<p.rz.length:=by omega
 have hgj:=hg2 _ (List.getElem_mem hj1)
 refine Za (ol (dT hs2) (jD (Ya rfl (Zq (jC (Zn (jB (oW (oC (xS (j*18) 46 48 U25) I0 I0 (oA (Zk (z:=18) (.tmp 51) rfl U57 rfl (by kernel_rfl) (Yu lenRu p.rz j (by omega)) rfl) I0 (oZ 4 Z57 (oS (iv j) (oY (kN 80 (XEn2_h1 n t f p j p.rz[j]) [(3,bx 2),(4,.v (.pointer none)),(5,iv 0),(7,bx 3),(8,iv j),(9,bx 4),(46,slA 18 cRu p.rz),(47,iv p.rz.length),(48,iv j),(49,bT)] (jC (Za (oF (slA 6 cTh p.rz[j].gz) (oS (iv (p.rz[j].gz.length:Nat)) ?_))))))))))))))))))
 refine oS (iv 0) (kN 80 (XEn2_h1 n t f p j p.rz[j]) [(3,bx 2),(4,.v (.pointer none)),(5,iv 0),(7,bx 3),(8,iv j),(9,bx 4),(46,slA 18 cRu p.rz),(47,iv p.rz.length),(48,iv j),(49,bT),(54,slA 6 cTh p.rz[j].gz),(55,iv (p.rz[j].gz.length:Nat)),(56,iv 0)] (Ze (Zn ?_)))
 refine ZK (σ:={k:Nat // k≤p.rz[j].gz.length}) (fun s=>(ofL [(2,.box 29 (cSz n t f)),(3,.box 102 (En.sysB p n t f j s.1 (nz) (nz))),(4,.box 57 (cRu p.rz[j]))],ofT 80 [(3,bx 2),(4,.v (.pointer none)),(5,iv 0),(7,bx 3),(8,iv j),(9,bx 4),(46,slA 18 cRu p.rz),(47,iv p.rz.length),(48,iv j),(49,bT),(54,slA 6 cTh p.rz[j].gz),(55,iv (p.rz[j].gz.length:Nat)),(56,iv s.1)])) (fun s=>p.rz[j].gz.length-s.1) ⟨0,Nat.zero_le _⟩ (Zp _ _) (fun s => ?_)
 obtain ⟨k,hk0⟩:=s
 show ETri J w0 (ofL (XEn2_h2 n t f p j k p.rz[j])) (ofT 80 [(3,bx 2),(4,.v (.pointer none)),(5,iv 0),(7,bx 3),(8,iv j),(9,bx 4),(46,slA 18 cRu p.rz),(47,iv p.rz.length),(48,iv j),(49,bT),(54,slA 6 cTh p.rz[j].gz),(55,iv (p.rz[j].gz.length:Nat)),(56,iv k)]) _
 refine Zl ?_
 by_cases hs3:(k:Int)<((p.rz[j].gz.length:Nat):Int)
 have hk1:k<p.rz[j].gz.length:=by omega
 refine Za (ol (dT hs3) (jD (Ya rfl (Zq (jC (Zn (jB (oW (oC (xS (k*6) 54 56 U55) I0 I0 (oA (Zk (z:=6) (.tmp 59) rfl U111 rfl (by kernel_rfl) (Yu lenTh p.rz[j].gz k (by omega)) rfl) I0 (oZ 5 Z111 (oS (iv k) (oY (kN 80 [(2,.box 29 (cSz n t f)),(3,.box 102 (En.sysB p n t f j k (nz) (nz))),(4,.box 57 (cRu p.rz[j])),(5,.box 111 (cTh p.rz[j].gz[k]))] (XEn2_h3 j k p p.rz[j]) (Ze ?_)))))))))))))))
 refine tD (dW (dS (iv j) (dS (iv k) (dW (dW (dW (dk (Ns.Evaluate_c (l:=p.rz[j].gz[k].bd)) [.agg [iv p.rz[j].gz[k].bd.c,iv p.rz[j].gz[k].bd.n,iv p.rz[j].gz[k].bd.t,iv p.rz[j].gz[k].bd.f],.agg (cSz n t f)] rfl rfl (dS (.tup [iv (evN p.rz[j].gz[k].bd.c p.rz[j].gz[k].bd.n p.rz[j].gz[k].bd.t p.rz[j].gz[k].bd.f n t f),iv (evE p.rz[j].gz[k].bd.c p.rz[j].gz[k].bd.n p.rz[j].gz[k].bd.t p.rz[j].gz[k].bd.f n t f)]) (dS (iv (evN p.rz[j].gz[k].bd.c p.rz[j].gz[k].bd.n p.rz[j].gz[k].bd.t p.rz[j].gz[k].bd.f n t f)) (dS (iv (evE p.rz[j].gz[k].bd.c p.rz[j].gz[k].bd.n p.rz[j].gz[k].bd.t p.rz[j].gz[k].bd.f n t f)) (dW (dS (.box 3 15) (dC (Z7 (off':=15+j*2) (.tmp 72) (.tmp 63) rfl U99 (by kernel_rfl) (by omega) (by omega) rfl) I0 I0 (dC (Z7 (off':=15+j*2+k*1) (.tmp 73) (.tmp 64) rfl U98 (by kernel_rfl) (by omega) (by omega) rfl) I0 I0 (dR (Yp (T0:=102) (X:=iv (evN p.rz[j].gz[k].bd.c p.rz[j].gz[k].bd.n p.rz[j].gz[k].bd.t p.rz[j].gz[k].bd.f n t f)) (off:=15+j*2+k*1) (cs:=En.sysB p n t f j k (nz) (nz)) (ds:=En.sysB p n t f j (k+1) (nz) (nz)) (z:=1) (.tmp 74) (.tmp 69) rfl (by kernel_rfl) (by kernel_rfl) (by kernel_rfl) (by rw [En.sysB_len];omega) (En.sysB_step hj1 hr8 hk1 (by omega) rfl)) ⟨I0,I0,T0⟩ ⟨rfl,T0⟩ rfl (eD ?_))))))))))))))))
 refine kW 80 [(2,.box 29 (cSz n t f)),(3,.box 102 (En.sysB p n t f j (k+1) (nz) (nz))),(4,.box 57 (cRu p.rz[j])),(5,.box 111 (cTh p.rz[j].gz[k]))] (XEn2_h3 j k p p.rz[j]) (Zv (Ze (Za (oV ((k+1:Nat):Int) (oS (iv (k+1:Nat)) (kN 80 [(2,.box 29 (cSz n t f)),(3,.box 102 (En.sysB p n t f j (k+1) (nz) (nz))),(4,.box 57 (cRu p.rz[j])),(5,.box 111 (cTh p.rz[j].gz[k]))] [(3,bx 2),(4,.v (.pointer none)),(5,iv 0),(7,bx 3),(8,iv j),(9,bx 4),(10,iv k),(11,bx 5),(46,slA 18 cRu p.rz),(47,iv p.rz.length),(48,iv j),(49,bT),(54,slA 6 cTh p.rz[j].gz),(55,iv (p.rz[j].gz.length:Nat)),(56,iv (k+1:Nat)),(57,bT)] (Ze ?_)))))))
 refine Zs ⟨k+1,by omega⟩ (show p.rz[j].gz.length-(k+1)<p.rz[j].gz.length-k by omega) ?_
 exact Zp _ _
 refine Za (ol (dF hs3) (jD (ZD rfl (jO (Zv (Ze (Za (oV ((j+1:Nat):Int) (oS (iv (j+1:Nat)) (kN 80 (XEn2_h2 n t f p j k p.rz[j]) [(3,bx 2),(4,.v (.pointer none)),(5,iv 0),(7,bx 3),(8,iv j),(9,bx 4),(46,slA 18 cRu p.rz),(47,iv p.rz.length),(48,iv (j+1:Nat)),(49,bT),(54,slA 6 cTh p.rz[j].gz),(55,iv (p.rz[j].gz.length:Nat)),(56,iv k),(57,bF)] (Ze ?_)))))))))))
 refine Zs ⟨j+1,by omega⟩ (show p.rz.length-(j+1)<p.rz.length-j by omega) ?_
 show Wk _ _ (ofL [(2,.box 29 (cSz n t f)),(3,.box 102 (En.sysB p n t f (j+1) 0 (nz) (nz)))]) (ofT 80 [(3,bx 2),(4,.v (.pointer none)),(5,iv 0),(7,bx 3),(46,slA 18 cRu p.rz),(47,iv p.rz.length),(48,iv ((j+1):Nat))])
 rw [En.sysB_row hj1 (by omega:¬ k<p.rz[j].gz.length)]
 exact Zp _ _
 refine Za (ol (dF hs2) (kN 80 [(2,.box 29 (cSz n t f)),(3,.box 102 (En.sysB p n t f j 0 (nz) (nz)))] [(3,bx 2),(4,.v (.pointer none)),(5,iv 0),(7,bx 3),(46,slA 18 cRu p.rz),(47,iv p.rz.length),(48,iv j),(49,bF)] (jC (ZD rfl (jO (jC (kW 80 [(3,.box 102 (En.sysB p n t f j 0 (nz) (nz)))] [(4,.v (.pointer none)),(5,iv 0),(7,bx 3)] ?_)))))))
 rw [show j=p.rz.length by omega]
 refine Za (oS (bx 3) (Yz rfl (sp_callWB (T:=102) (cs:=En.sysB p n t f p.rz.length 0 (nz) (nz)) (ds:=En.sysB p n t f p.rz.length 0 (.fr (slA 1 cLi (Ns.shT p.top (Ns.cntE p n f)))) (.fr ((En.lkS p.top (Ns.cntE p n f).toNat)))) (c := .func 49) (xs := #[.tmp 77]) (k:=3) 1000000 [true,false,true,true,true,true,true,true,true,true,true,true,true,false,true,true,true,true,true,true,true,true,true,true,true,true,true,true,true,true,true,false,false] [] (fun xs_=>(En.place_mx (p:=p) (n:=n) (t:=t) (f:=f) (fun q=>iv (En.bdP p n t f p.rz.length 0 q)) hc0 hc8 xs_)) rfl (by kernel_rfl) rfl (Xs:=[bx 3]) rfl rfl (Ns.pw1) rfl rfl rfl (Ns.plain_mask (fun _=>by kernel_rfl)) rfl rfl rfl) ⟨I0,I0,T0⟩ ⟨rfl,T0⟩ rfl (jD (Za (oF (bx 3) (oS (iv 0) (jE ?_)))))))
 refine Zax [(3,.box 102 (En.sysB p n t f p.rz.length 0 (.fr (slA 1 cLi (Ns.shT p.top (Ns.cntE p n f)))) (.fr ((En.lkS p.top (Ns.cntE p n f).toNat)))))] Tryz.results29 (.tmp rfl) (.tmp rfl) (by kernel_rfl) rfl rfl rfl ?_ ?_ ?_
 ·exact (show Plain (.el (En.sysP p n t f) 0) from .el (ZN (En.plain_sysP p n t f)))
 ·exact .v _
 kernel_rfl
set_option maxRecDepth 100000
set_option maxHeartbeats 6400000
variable {c:Cf}
theorem En.read_t (HC:Rd.CgOk c) (hx:Rd.rdX p n f c=true):Ctr Tryz.prog J 30 [.el (Ns.sysC p n t f) 0,.agg (Rd.cCg c)] (.tup [.agg (En.cfV (Rd.shI p.top (Ns.shT p.top (Ns.cntE p n f)) c.sh) c),bT]):=by
 have h:=read_c (J:=J) (p:=p) (n:=n) (t:=t) (f:=f) HC
 rw [show Rd.rdY p n f c=true from hx,hx] at h
 exact h
theorem pu_part {F ok:Nat→Prop} {w:World} {cs ds:List AV} {o:Nat} {v:Value} (hl:cs.length=ds.length) (h:∀ (j:Nat) (h1:j<cs.length) (h2:j<ds.length),ds[j]=cs[j]∨ds[j] = .any) (hp:Pu F w ok (.el cs o) v):Pu F w ok (.el ds o) v:=by
 cases hp with
 | el hb hw hf hh =>
   refine .el hb hw (fun j hj=>hf j (by omega)) fun j hj => ?_
   rcases h j (by omega) hj with e | e
   ·rw [e];exact hh j (by omega)
   rw [e];exact .any _
theorem En.sys_part :(En.sysP p n t f).length=(Ns.sysC p n t f).length∧∀ (j:Nat) (h1:j<(En.sysP p n t f).length) (h2:j<(Ns.sysC p n t f).length),(Ns.sysC p n t f)[j]=(En.sysP p n t f)[j]∨(Ns.sysC p n t f)[j] = .any:=by
 refine ⟨by unfold En.sysP;rw [En.sysB_len];rfl,fun j h1 h2 => ?_⟩
 have h3:j<33:=h2
 obtain rfl | rfl | rfl | rfl | rfl | rfl | rfl | rfl | rfl | rfl | rfl | rfl | rfl | rfl | rfl | rfl | rfl | rfl | rfl | rfl | rfl | rfl | rfl | rfl | rfl | rfl | rfl | rfl | rfl | rfl | rfl | rfl | rfl:j=0∨j=1∨j=2∨j=3∨j=4∨j=5∨j=6∨j=7∨j=8∨j=9∨j=10∨j=11∨j=12∨j=13∨j=14∨j=15∨j=16∨j=17∨j=18∨j=19∨j=20∨j=21∨j=22∨j=23∨j=24∨j=25∨j=26∨j=27∨j=28∨j=29∨j=30∨j=31∨j=32:=by omega
 ·exact .inl (by kernel_rfl)
 ·exact .inl (by kernel_rfl)
 ·exact .inl (by kernel_rfl)
 ·exact .inl (by kernel_rfl)
 ·exact .inl (by kernel_rfl)
 ·exact .inl (by kernel_rfl)
 ·exact .inl (by kernel_rfl)
 ·exact .inl (by kernel_rfl)
 ·exact .inl (by kernel_rfl)
 ·exact .inl (by kernel_rfl)
 ·exact .inl (by kernel_rfl)
 ·exact .inl (by kernel_rfl)
 ·exact .inl (by kernel_rfl)
 ·exact .inl (by kernel_rfl)
 ·exact .inl (by kernel_rfl)
 ·exact .inr rfl
 ·exact .inr rfl
 ·exact .inr rfl
 ·exact .inr rfl
 ·exact .inr rfl
 ·exact .inr rfl
 ·exact .inr rfl
 ·exact .inr rfl
 ·exact .inr rfl
 ·exact .inr rfl
 ·exact .inr rfl
 ·exact .inr rfl
 ·exact .inr rfl
 ·exact .inr rfl
 ·exact .inr rfl
 ·exact .inr rfl
 ·exact .inl (by kernel_rfl)
 exact .inr rfl
theorem En.read_p (HC:Rd.CgOk c) (hx:Rd.rdX p n f c=true):Ctr Tryz.prog J 30 [.el (En.sysP p n t f) 0,.agg (Rd.cCg c)] (.tup [.agg (En.cfV (Rd.shI p.top (Ns.shT p.top (Ns.cntE p n f)) c.sh) c),bT]):=by
 intro w vs hJ hl hv
 refine En.read_t (J:=J) (p:=p) (n:=n) (t:=t) (f:=f) HC hx w vs hJ hl fun j hj => ?_
 match j,hj with
 | 0,_=>exact pu_part En.sys_part.1 En.sys_part.2 (hv 0 (by simp))
 | 1,_=>exact hv 1 (by simp)
theorem En.read_q (HC:Rd.CgOk c) (hx:Rd.rdX p n f c=false):Ctr Tryz.prog J 30 [.el (En.sysP p n t f) 0,.agg (Rd.cCg c)] (.tup [.agg (Rd.cfZ false (Rd.shI p.top (Ns.shT p.top (Ns.cntE p n f)) c.sh) c),bF]):=by
 intro w vs hJ hl hv
 have h:=read_c (J:=J) (p:=p) (n:=n) (t:=t) (f:=f) HC w vs hJ hl fun j hj => ?_
 ·rw [show Rd.rdY p n f c=false from hx,hx] at h
  exact h
 match j,hj with
 | 0,_=>exact pu_part En.sys_part.1 En.sys_part.2 (hv 0 (by simp))
 | 1,_=>exact hv 1 (by simp)
theorem open_V (HP:FmOk p) (HC:Rd.CgOk c) (hs:Ns.sysE p n t f=0) (hx:Rd.rdX p n f c=true):CtrA Tryz.prog J 22 [.agg (cFm p),.agg (cSz n t f),.agg (Rd.cCg c)] (.tup [.el (En.sysP p n t f) 0,.agg (En.cfV (Rd.shI p.top (Ns.shT p.top (Ns.cntE p n f)) c.sh) c),iv 0]):=by
 refine WG Tryz.func22 rfl (pN (Zh (ZQ p)) (pN (Zh (Z0 n t f)) (pN (Zh (Rd.plain_cg c)) pZ))) (n:=34) rfl (by simp) (fun w0 => ?_)
 refine kW 34 [] [(0,.agg (cFm p)),(1,.agg (cSz n t f)),(2,.agg (Rd.cCg c))] (jB (oX 1 (.agg (cFm p)) (oX 2 (.agg (cSz n t f)) (oX 3 (.agg (Rd.cCg c)) (oS (.v (.pointer none)) (oZ 4 Z71 (oS (iv 0) (jD (Za (oS (.agg (cFm p)) (oS (.agg (cSz n t f)) (oD (KS (c := .func 29) (xs := #[.tmp 14,.tmp 15]) (ZbJ HP hs) rfl (by kernel_rfl) rfl (Xs:=[.agg (cFm p),.agg (cSz n t f)]) rfl rfl) I0 I0 I0 (oS (.tup [.el (En.sysP p n t f) 0,iv 0]) (oW (oW (oS (.el (En.sysP p n t f) 0) (oS (iv 0) (jD ?_))))))))))))))))))
 refine jB (oS (iv 0) (oC (Yq (r:=false) rfl (by decide)) I0 I0 (jF (jB (oW (oW (oK (En.read_p HC hx) [.el (En.sysP p n t f) 0,.agg (Rd.cCg c)] rfl rfl (oS (.tup [.fr (.agg (En.cfV (Rd.shI p.top (Ns.shT p.top (Ns.cntE p n f)) c.sh) c)),bT]) (oS (.fr (.agg (En.cfV (Rd.shI p.top (Ns.shT p.top (Ns.cntE p n f)) c.sh) c))) (oW (oZ 5 Z71 (Yz rfl (sB 16 11 (.tmp 27) (.agg [iv (Rd.shI p.top (Ns.shT p.top (Ns.cntE p n f)) c.sh),iv (c.st.getD 0 0),iv (c.st.getD 1 0),iv (c.st.getD 2 0),iv (c.st.getD 3 0),iv (c.st.getD 4 0),iv (c.st.getD 5 0),iv (c.st.getD 6 0),iv (c.st.getD 7 0),iv (c.se.getD 0 0),iv (c.se.getD 1 0),iv (c.se.getD 2 0),iv (c.fa.getD 0 0),iv (c.fa.getD 1 0),iv (c.fa.getD 2 0),iv c.val])) ⟨I0,.inr (.inr (.inl ⟨_,rfl,rfl⟩)),T0⟩ ⟨rfl,T0⟩ rfl (oS bT (jD (Zl ?_)))))))))))))))
 refine Za (oF bF (jF (Zl ?_)))
 refine tD (dW (dW (dS (.el (En.sysP p n t f) 0) (dY (dS (iv 0) (eD ?_))))))
 refine kW 34 [(4,.box 71 [iv (Rd.shI p.top (Ns.shT p.top (Ns.cntE p n f)) c.sh),iv (c.st.getD 0 0),iv (c.st.getD 1 0),iv (c.st.getD 2 0),iv (c.st.getD 3 0),iv (c.st.getD 4 0),iv (c.st.getD 5 0),iv (c.st.getD 6 0),iv (c.st.getD 7 0),iv (c.se.getD 0 0),iv (c.se.getD 1 0),iv (c.se.getD 2 0),iv (c.fa.getD 0 0),iv (c.fa.getD 1 0),iv (c.fa.getD 2 0),iv c.val])] [(6,.el (En.sysP p n t f) 0),(7,bx 4),(8,iv 0)] (Ze (ZV ?_))
 refine tri_endA3 [(4,.box 71 [iv (Rd.shI p.top (Ns.shT p.top (Ns.cntE p n f)) c.sh),iv (c.st.getD 0 0),iv (c.st.getD 1 0),iv (c.st.getD 2 0),iv (c.st.getD 3 0),iv (c.st.getD 4 0),iv (c.st.getD 5 0),iv (c.st.getD 6 0),iv (c.st.getD 7 0),iv (c.se.getD 0 0),iv (c.se.getD 1 0),iv (c.se.getD 2 0),iv (c.fa.getD 0 0),iv (c.fa.getD 1 0),iv (c.fa.getD 2 0),iv c.val])] Tryz.results22 (.tmp rfl) (.cellS rfl rfl U71 rfl (z:=16) (by kernel_rfl) rfl (by decide)) (.tmp rfl) (by kernel_rfl) rfl rfl rfl rfl ?_ ?_ ?_ ?_
 ·exact (show Plain (.el (En.sysP p n t f) 0) from .el (ZN (En.plain_sysP p n t f)))
 ·exact Zh (En.plain_cfV _ c)
 ·exact .v _
 kernel_rfl
abbrev XEn3_h1 (x0:Fm) (x1:Int) (x2:Int) (x3:Cf):List (Nat × ABlk):=[(4,.box 71 [iv 0,iv 0,iv 0,iv 0,iv 0,iv 0,iv 0,iv 0,iv 0,iv 0,iv 0,iv 0,iv 0,iv 0,iv 0,iv 0]),(5,.box 71 [iv (Rd.zz false (Rd.shI x0.top (Ns.shT x0.top (Ns.cntE x0 x1 x2)) x3.sh)),iv (Rd.zz false (x3.st.getD 0 0)),iv (Rd.zz false (x3.st.getD 1 0)),iv (Rd.zz false (x3.st.getD 2 0)),iv (Rd.zz false (x3.st.getD 3 0)),iv (Rd.zz false (x3.st.getD 4 0)),iv (Rd.zz false (x3.st.getD 5 0)),iv (Rd.zz false (x3.st.getD 6 0)),iv (Rd.zz false (x3.st.getD 7 0)),iv (Rd.zz false (x3.se.getD 0 0)),iv (Rd.zz false (x3.se.getD 1 0)),iv (Rd.zz false (x3.se.getD 2 0)),iv (Rd.zz false (x3.fa.getD 0 0)),iv (Rd.zz false (x3.fa.getD 1 0)),iv (Rd.zz false (x3.fa.getD 2 0)),iv (Rd.zz false x3.val)])]
theorem open_bad (HP:FmOk p) (HC:Rd.CgOk c) (hs:Ns.sysE p n t f=0) (hx:Rd.rdX p n f c=false):Ctr Tryz.prog J 22 [.agg (cFm p),.agg (cSz n t f),.agg (Rd.cCg c)] (.tup [.any,.agg (Rd.cfZ false (Rd.shI p.top (Ns.shT p.top (Ns.cntE p n f)) c.sh) c),iv 1]):=by
 refine Zm Tryz.func22 rfl (pN (Zh (ZQ p)) (pN (Zh (Z0 n t f)) (pN (Zh (Rd.plain_cg c)) pZ))) (n:=34) rfl (by simp) (fun w0 => ?_)
 refine kW 34 [] [(0,.agg (cFm p)),(1,.agg (cSz n t f)),(2,.agg (Rd.cCg c))] (jB (oX 1 (.agg (cFm p)) (oX 2 (.agg (cSz n t f)) (oX 3 (.agg (Rd.cCg c)) (oS (.v (.pointer none)) (oZ 4 Z71 (oS (iv 0) (jD (Za (oS (.agg (cFm p)) (oS (.agg (cSz n t f)) (oD (KS (c := .func 29) (xs := #[.tmp 14,.tmp 15]) (ZbJ HP hs) rfl (by kernel_rfl) rfl (Xs:=[.agg (cFm p),.agg (cSz n t f)]) rfl rfl) I0 I0 I0 (oS (.tup [.el (En.sysP p n t f) 0,iv 0]) (oW (oW (oS (.el (En.sysP p n t f) 0) (oS (iv 0) (jD ?_))))))))))))))))))
 refine jB (oS (iv 0) (oC (Yq (r:=false) rfl (by decide)) I0 I0 (jF (jB (oW (oW (oK (En.read_q HC hx) [.el (En.sysP p n t f) 0,.agg (Rd.cCg c)] rfl rfl (oS (.tup [.fr (.agg (Rd.cfZ false (Rd.shI p.top (Ns.shT p.top (Ns.cntE p n f)) c.sh) c)),bF]) (oS (.fr (.agg (Rd.cfZ false (Rd.shI p.top (Ns.shT p.top (Ns.cntE p n f)) c.sh) c))) (oW (oZ 5 Z71 (Yz rfl (sB 16 11 (.tmp 27) (.agg [iv (Rd.zz false (Rd.shI p.top (Ns.shT p.top (Ns.cntE p n f)) c.sh)),iv (Rd.zz false (c.st.getD 0 0)),iv (Rd.zz false (c.st.getD 1 0)),iv (Rd.zz false (c.st.getD 2 0)),iv (Rd.zz false (c.st.getD 3 0)),iv (Rd.zz false (c.st.getD 4 0)),iv (Rd.zz false (c.st.getD 5 0)),iv (Rd.zz false (c.st.getD 6 0)),iv (Rd.zz false (c.st.getD 7 0)),iv (Rd.zz false (c.se.getD 0 0)),iv (Rd.zz false (c.se.getD 1 0)),iv (Rd.zz false (c.se.getD 2 0)),iv (Rd.zz false (c.fa.getD 0 0)),iv (Rd.zz false (c.fa.getD 1 0)),iv (Rd.zz false (c.fa.getD 2 0)),iv (Rd.zz false c.val)])) ⟨I0,.inr (.inr (.inl ⟨_,rfl,rfl⟩)),T0⟩ ⟨rfl,T0⟩ rfl (oS bF (jD (Zl ?_)))))))))))))))
 refine Za (oF bT (jG (Yz rfl (YV [] #[.int .i64 0,.int .i64 0,.int .i64 0,.int .i64 0,.int .i64 0,.int .i64 0,.int .i64 0,.int .i64 0,.int .i64 0,.int .i64 0,.int .i64 0,.int .i64 0,.int .i64 0,.int .i64 0,.int .i64 0,.int .i64 0] rfl rfl (by kernel_rfl) rfl) T0 T0 T0 (oS (.v (.pointer none)) (oY (oS (iv 1) (kN 34 (XEn3_h1 p n f c) [(6,.v (.pointer none)),(7,bx 4),(8,iv 1),(9,.el (En.sysP p n t f) 0),(11,bx 5)] (Ze (jN (kW 34 (XEn3_h1 p n f c) [(7,bx 4),(8,iv 1),(9,.el (En.sysP p n t f) 0),(11,bx 5)] ?_))))))))))
 refine Ky Tryz.results22 (.tmp rfl) (.cellS rfl rfl U71 rfl (z:=16) (by kernel_rfl) rfl (by decide)) (.tmp rfl) ?_
 exact rfl
theorem open_no (HP:FmOk p) (HC:Rd.CgOk c) (hz:¬ Rd.vcE p n t f c=0):Ctr Tryz.prog J 22 [.agg (cFm p),.agg (cSz n t f),.agg (Rd.cCg c)] (.tup [.any,.agg (Rd.cfZ false (Rd.shI p.top (Ns.shT p.top (Ns.cntE p n f)) c.sh) c),iv (Rd.vcE p n t f c)]):=by
 by_cases hs:Ns.sysE p n t f=0
 ·have hx:Rd.rdX p n f c=false:=by
   cases e:Rd.rdX p n f c with
   | false=>rfl
   | true=>exact absurd (by unfold Rd.vcE;rw [if_pos hs,if_pos e]) hz
  have e:Rd.vcE p n t f c=1:=by unfold Rd.vcE;rw [if_pos hs,hx];rfl
  rw [e]
  exact open_bad HP HC hs hx
 have h:=open_err (J:=J) HP HC hs
 rw [show Rd.rdW p n t f c=false by unfold Rd.rdW;rw [decide_eq_false hs];rfl] at h
 exact h
variable {m:Nat}{x:Int}
theorem ZaH (hn:(Ns.cntE p n f)=(m:Int)) :Ctr Tryz.prog J 58 [.el (En.sysP p n t f) 0,iv x] (bv (En.isP m x)):=by
 refine Zm Tryz.func58 rfl (pN (show Plain (.el (En.sysP p n t f) 0) from .el (ZN (En.plain_sysP p n t f))) (pN (.v _) pZ)) (n:=15) rfl (by simp) (fun w0 => ?_)
 refine kW 15 [] [(0,.el (En.sysP p n t f) 0),(1,iv x)] (jB (oS bF (jD ?_)))
 by_cases hs1:0≤x
 refine Za (oW (oh (dT hs1) (oS bT (oS (iv x) (oW (oW (oF (iv (Ns.cntE p n f)) (gC (Za2 rfl rfl) I0 I0 (oF (bv (decide (x<(Ns.cntE p n f)))) (jE ?_))))))))))
 refine Zg Tryz.results58 (.tmp rfl) ?_
 exact cB ((by unfold En.isP;rw [← hn];simp only [hs1,decide_true,decide_false,Bool.and_true,Bool.true_and,Bool.false_and,Bool.and_false,Bool.true_or,Bool.false_or,Bool.or_true,Bool.or_false,Bool.not_true,Bool.not_false]))
 refine Za (oW (oh (dF hs1) (oS bF (qK (qK (qK (qK (qK (qK (oF bF (jE ?_)))))))))))
 refine Zg Tryz.results58 (.tmp rfl) ?_
 exact cB ((by unfold En.isP;rw [← hn];simp only [hs1,decide_true,decide_false,Bool.and_true,Bool.true_and,Bool.false_and,Bool.and_false,Bool.true_or,Bool.false_or,Bool.or_true,Bool.or_false,Bool.not_true,Bool.not_false]))
variable {r:Nat}
theorem ZbO (hr:r<p.rz.length):Ctr Tryz.prog J 63 [.el (p.rz.flatMap cRu) (r*18)] (bv (decide (p.rz[r].kind=2)||decide (p.rz[r].kind=5))):=by
 refine Zm Tryz.func63 rfl (pN (.el (ZN fun X hX=>by obtain ⟨x,_,hx⟩:=List.mem_flatMap.1 hX;exact Y3 x X hx)) pZ) (n:=15) rfl (by simp) (fun w0 => ?_)
 refine kW 15 [] [(0,.el (p.rz.flatMap cRu) (r*18))] (jB (oS bF (jD ?_)))
 by_cases hs1:p.rz[r].kind=2
 refine Za (oW (oW (oW (oL (iv p.rz[r].kind) (fT lenRu p.rz r 1) (oe (dT hs1) (oS bT (qK (qK (qK (qK (qK (oF bT (jE ?_)))))))))))))
 refine Zg Tryz.results63 (.tmp rfl) ?_
 exact cB ((by simp only [hs1,decide_true,decide_false,Bool.and_true,Bool.true_and,Bool.false_and,Bool.and_false,Bool.true_or,Bool.false_or,Bool.or_true,Bool.or_false,Bool.not_true,Bool.not_false]))
 refine Za (oW (oW (oW (oL (iv p.rz[r].kind) (fT lenRu p.rz r 1) (oe (dF hs1) (oS bF (oW (oW (oW (oL (iv p.rz[r].kind) (fT lenRu p.rz r 1) (gC (ZF rfl rfl) I0 I0 (oF (bv (decide (p.rz[r].kind=5))) (jE ?_)))))))))))))
 refine Zg Tryz.results63 (.tmp rfl) ?_
 exact cB ((by simp only [hs1,decide_true,decide_false,Bool.and_true,Bool.true_and,Bool.false_and,Bool.and_false,Bool.true_or,Bool.false_or,Bool.or_true,Bool.or_false,Bool.not_true,Bool.not_false]))
abbrev XEn4_h1 (x0:Cf):List (Nat × ABlk):=[(1,.box 69 [iv 0,iv 0,iv 0]),(2,.box 69 [iv (x0.se.getD 0 0),iv (x0.se.getD 1 0),iv (x0.se.getD 2 0)])]
abbrev WL (x0:Fm) (x1:Int) (x2:Cf) (x3:Nat):List (Nat × ABlk):=[(1,.box 69 [iv 0,iv 0,iv 0]),(2,.box 69 (En.msA (En.hdJ x0 x1 x2 (x3+1))))]
abbrev XEn4_h3 (x0:Fm) (x1:Int) (x2:Int) (x3:Int) (x4:Int) (x5:Cf) (x6:Nat):List (Nat × AV):=[(0,.el (En.sysP x0 x1 x2 x3) 0),(3,.el (En.cfV x4 x5) 0),(4,bx 1),(5,bx 2),(6,iv x6),(14,iv x0.msgs.length),(15,iv x6),(16,bT),(22,iv x0.fzz),(23,bT)]
abbrev XEn4_h4 (x0:Fm) (x1:Int) (x2:Int) (x3:Int) (x4:Int) (x5:Cf) (x6:Nat):List (Nat × AV):=[(0,.el (En.sysP x0 x1 x2 x3) 0),(3,.el (En.cfV x4 x5) 0),(4,bx 1),(5,bx 2),(6,iv x6),(14,iv x0.msgs.length),(15,iv (x6+1:Nat)),(16,bT),(22,iv x0.fzz),(23,bT)]
abbrev Ze9 (x0:Fm) (x1:Int) (x2:Int) (x3:Int) (x4:Int) (x5:Cf) (x6:Nat):List (Nat × AV):=[(0,.el (En.sysP x0 x1 x2 x3) 0),(3,.el (En.cfV x4 x5) 0),(4,bx 1),(5,bx 2),(14,iv x0.msgs.length),(15,iv ((x6+1):Nat))]
variable {sx:Int}
theorem ZeQ (hc:En.CfV p n f c) (hf:0≤f∧f≤1048576) (h3:p.msgs.length≤3) :Ctr Tryz.prog J 39 [.el (En.sysP p n t f) 0,.agg (En.cfV sx c)] (.agg (En.msA (En.hdJ p f c p.msgs.length))):=by
 refine Zm Tryz.func39 rfl (pN (show Plain (.el (En.sysP p n t f) 0) from .el (ZN (En.plain_sysP p n t f))) (pN (Zh (En.plain_cfV _ c)) pZ)) (n:=49) rfl (by simp) (fun w0 => ?_)
 refine kW 49 [] [(0,.el (En.sysP p n t f) 0),(1,.agg (En.cfV sx c))] (jB (oA (ZA (X := .agg (En.cfV sx c)) (.tmp 1) rfl rfl rfl) I0 (oZ 1 Z69 (jD (Za (oS (.el (En.cfV sx c) 9) (oA (Zk (z:=3) (ds:=[iv (c.se.getD 0 0),iv (c.se.getD 1 0),iv (c.se.getD 2 0)]) (.tmp 7) rfl U69 rfl (by kernel_rfl) (by kernel_rfl) rfl) I0 (oZ 2 Z69 (oY (kN 49 (XEn4_h1 c) [(0,.el (En.sysP p n t f) 0),(3,.el (En.cfV sx c) 0),(4,bx 1),(5,bx 2)] (jC (jB (oW (oW (oW (oW (oF (iv p.msgs.length) (oS (iv 0) ?_))))))))))))))))))
 refine kN 49 (XEn4_h1 c) [(0,.el (En.sysP p n t f) 0),(3,.el (En.cfV sx c) 0),(4,bx 1),(5,bx 2),(14,iv p.msgs.length),(15,iv 0)] (Ze (Zn ?_))
 refine ZK (σ:={j:Nat // j≤p.msgs.length}) (fun s=>(ofL [(1,.box 69 [iv 0,iv 0,iv 0]),(2,.box 69 (En.msA (En.hdJ p f c s.1)))],ofT 49 [(0,.el (En.sysP p n t f) 0),(3,.el (En.cfV sx c) 0),(4,bx 1),(5,bx 2),(14,iv p.msgs.length),(15,iv s.1)])) (fun s=>p.msgs.length-s.1) ⟨0,Nat.zero_le _⟩ (Zp _ _) (fun s => ?_)
 obtain ⟨j,hj0⟩:=s
 show ETri J w0 (ofL [(1,.box 69 [iv 0,iv 0,iv 0]),(2,.box 69 (En.msA (En.hdJ p f c j)))]) (ofT 49 [(0,.el (En.sysP p n t f) 0),(3,.el (En.cfV sx c) 0),(4,bx 1),(5,bx 2),(14,iv p.msgs.length),(15,iv j)]) _
 refine Zl ?_
 by_cases hs1:(j:Int)<(p.msgs.length:Int)
 have hj1:j<3:=by omega
 have hb1:=En.hdJ_in hc hf j j
 have hb2:=hc.fa_at j
 refine Za (ol (dT hs1) (jD (Ya rfl (Zq (jC (Zn (jB (oF (iv j) (jD (Za (oW (oW (oW (oF (iv p.fzz) (jA (Zn ?_))))))))))))))))
 refine jM ?_
 by_cases hs2:p.fzz=1
 refine Za (oe (dT hs2) (oS bT (jH (Zq (Ze (Ya rfl ?_))))))
 refine tD (dS (iv j) (dC (Z7 (off':=0+j*1) (.tmp 5) (.tmp 26) rfl U69 (by kernel_rfl) (by omega) (by omega) rfl) I0 I0 (dB (lB (.box 69 (En.msA (En.hdJ p f c j))) (iv (En.hdJ p f c j j)) (.tmp 27) rfl U3 rfl (En.msA_get (by omega))) I0 rfl (dS (iv j) (dS (.el (En.cfV sx c) 12) (dC (ZZ (off':=12+j*1) (.tmp 30) (.tmp 29) rfl U69 (by kernel_rfl) (by omega) (by omega) rfl) I0 I0 (dA (lE (iv (c.fa.getD j 0)) 31 U3 (En.cfV_fa (by omega))) I0 (dC (WV (c:=(En.hdJ p f c j j)+(c.fa.getD j 0)) rfl (w64 (by omega) (by omega) (by omega))) I0 I0 (dC (Z7 (off':=0+j*1) (.tmp 5) (.tmp 26) rfl U69 (by kernel_rfl) (by omega) (by omega) rfl) I0 I0 (dR (Yp (T0:=69) (X:=iv ((En.hdJ p f c j j)+(c.fa.getD j 0))) (off:=0+j*1) (cs:=En.msA (En.hdJ p f c j)) (ds:=En.msA (En.hdJ p f c (j+1))) (z:=1) (.tmp 34) (.tmp 33) rfl (by kernel_rfl) (by kernel_rfl) (by kernel_rfl) (by show _≤3;omega) (En.msA_step (by omega) (En.hd_12 (.inl hs2)))) ⟨I0,I0,T0⟩ ⟨rfl,T0⟩ rfl (eD ?_)))))))))))
 refine kW 49 (WL p f c j) (XEn4_h3 p n t f sx c j) (Zv (Zv (Ze (Za (oV ((j+1:Nat):Int) (oS (iv (j+1:Nat)) (kN 49 (WL p f c j) (XEn4_h4 p n t f sx c j) (Ze ?_))))))))
 refine Zs ⟨j+1,by omega⟩ (show p.msgs.length-(j+1)<p.msgs.length-j by omega) ?_
 show Wk _ _ (ofL (WL p f c j)) (ofT 49 (Ze9 p n t f sx c j))
 exact Zp _ _
 refine Za (oe (dF hs2) (oS bF (jI ?_)))
 by_cases hs3:p.fzz=2
 refine Za (oe (dT hs3) (oS bT (jH ?_)))
 refine tD (dS (iv j) (dC (Z7 (off':=0+j*1) (.tmp 5) (.tmp 26) rfl U69 (by kernel_rfl) (by omega) (by omega) rfl) I0 I0 (dB (lB (.box 69 (En.msA (En.hdJ p f c j))) (iv (En.hdJ p f c j j)) (.tmp 27) rfl U3 rfl (En.msA_get (by omega))) I0 rfl (dS (iv j) (dS (.el (En.cfV sx c) 12) (dC (ZZ (off':=12+j*1) (.tmp 30) (.tmp 29) rfl U69 (by kernel_rfl) (by omega) (by omega) rfl) I0 I0 (dA (lE (iv (c.fa.getD j 0)) 31 U3 (En.cfV_fa (by omega))) I0 (dC (WV (c:=(En.hdJ p f c j j)+(c.fa.getD j 0)) rfl (w64 (by omega) (by omega) (by omega))) I0 I0 (dC (Z7 (off':=0+j*1) (.tmp 5) (.tmp 26) rfl U69 (by kernel_rfl) (by omega) (by omega) rfl) I0 I0 (dR (Yp (T0:=69) (X:=iv ((En.hdJ p f c j j)+(c.fa.getD j 0))) (off:=0+j*1) (cs:=En.msA (En.hdJ p f c j)) (ds:=En.msA (En.hdJ p f c (j+1))) (z:=1) (.tmp 34) (.tmp 33) rfl (by kernel_rfl) (by kernel_rfl) (by kernel_rfl) (by show _≤3;omega) (En.msA_step (by omega) (En.hd_12 (.inr hs3)))) ⟨I0,I0,T0⟩ ⟨rfl,T0⟩ rfl (eD ?_)))))))))))
 refine kW 49 (WL p f c j) (XEn4_h3 p n t f sx c j) (Zv (Zv (Ze (Za (oV ((j+1:Nat):Int) (oS (iv (j+1:Nat)) (kN 49 (WL p f c j) (XEn4_h4 p n t f sx c j) (Ze ?_))))))))
 refine Zs ⟨j+1,by omega⟩ (show p.msgs.length-(j+1)<p.msgs.length-j by omega) ?_
 show Wk _ _ (ofL (WL p f c j)) (ofT 49 (Ze9 p n t f sx c j))
 exact Zp _ _
 refine Za (oe (dF hs3) (oS bF (jI (Zl ?_))))
 by_cases hs4:p.fzz=3
 refine Za (oe (dT hs4) (oS bT (jH ?_)))
 refine tD (dS (iv j) (dC (Z7 (off':=0+j*1) (.tmp 5) (.tmp 37) rfl U69 (by kernel_rfl) (by omega) (by omega) rfl) I0 I0 (dB (lB (.box 69 (En.msA (En.hdJ p f c j))) (iv (En.hdJ p f c j j)) (.tmp 38) rfl U3 rfl (En.msA_get (by omega))) I0 rfl (dW (dW (dW (dW (dS (iv f) (dC (WV (c:=(En.hdJ p f c j j)+f) rfl (w64 (by omega) (by omega) (by omega))) I0 I0 (dC (Z7 (off':=0+j*1) (.tmp 5) (.tmp 37) rfl U69 (by kernel_rfl) (by omega) (by omega) rfl) I0 I0 (dR (Yp (T0:=69) (X:=iv ((En.hdJ p f c j j)+f)) (off:=0+j*1) (cs:=En.msA (En.hdJ p f c j)) (ds:=En.msA (En.hdJ p f c (j+1))) (z:=1) (.tmp 46) (.tmp 45) rfl (by kernel_rfl) (by kernel_rfl) (by kernel_rfl) (by show _≤3;omega) (En.msA_step (by omega) (En.hd_3 hs2 hs3 hs4))) ⟨I0,I0,T0⟩ ⟨rfl,T0⟩ rfl (eD ?_))))))))))))
 refine kW 49 (WL p f c j) [(0,.el (En.sysP p n t f) 0),(3,.el (En.cfV sx c) 0),(4,bx 1),(5,bx 2),(6,iv j),(14,iv p.msgs.length),(15,iv j),(16,bT),(22,iv p.fzz),(23,bF),(35,bT)] (Zv (Zv (Ze (Za (oV ((j+1:Nat):Int) (oS (iv (j+1:Nat)) (kN 49 (WL p f c j) [(0,.el (En.sysP p n t f) 0),(3,.el (En.cfV sx c) 0),(4,bx 1),(5,bx 2),(6,iv j),(14,iv p.msgs.length),(15,iv (j+1:Nat)),(16,bT),(22,iv p.fzz),(23,bF),(35,bT)] (Ze ?_))))))))
 refine Zs ⟨j+1,by omega⟩ (show p.msgs.length-(j+1)<p.msgs.length-j by omega) ?_
 show Wk _ _ (ofL (WL p f c j)) (ofT 49 (Ze9 p n t f sx c j))
 exact Zp _ _
 refine Za (oe (dF hs4) (oS bF (jI (Zq (Zv (Zv (Ze (Za (oV ((j+1:Nat):Int) (oS (iv (j+1:Nat)) (kN 49 [(1,.box 69 [iv 0,iv 0,iv 0]),(2,.box 69 (En.msA (En.hdJ p f c j)))] [(0,.el (En.sysP p n t f) 0),(3,.el (En.cfV sx c) 0),(4,bx 1),(5,bx 2),(6,iv j),(14,iv p.msgs.length),(15,iv (j+1:Nat)),(16,bT),(22,iv p.fzz),(23,bF),(35,bF)] (Ze ?_))))))))))))
 refine Zs ⟨j+1,by omega⟩ (show p.msgs.length-(j+1)<p.msgs.length-j by omega) ?_
 show Wk _ _ (ofL [(1,.box 69 [iv 0,iv 0,iv 0]),(2,.box 69 (En.msA (En.hdJ p f c (j+1))))]) (ofT 49 [(0,.el (En.sysP p n t f) 0),(3,.el (En.cfV sx c) 0),(4,bx 1),(5,bx 2),(14,iv p.msgs.length),(15,iv ((j+1):Nat))])
 rw [En.hdJ_skip hs2 hs3 hs4]
 exact Zp _ _
 refine Za (ol (dF hs1) (jD (ZD rfl (jO (jC (Za (oW (oY (kN 49 [(1,.box 69 (En.msA (En.hdJ p f c j)))] [(4,bx 1)] (Ze (ZV ?_)))))))))))
 refine Zg Tryz.results39 (.cellS rfl rfl U69 rfl (z:=3) (by kernel_rfl) rfl (by decide)) ?_
 obtain hje:j=p.msgs.length:=by omega
 rw [hje]
 exact rfl
theorem En.or_t {a b:Prop} [Decidable a] [Decidable b] (h:(decide a||decide b)=true):a∨b:=by simpa using h
theorem En.or_f {a b:Prop} [Decidable a] [Decidable b] (h:(decide a||decide b)=false):¬ (a∨b):=by simpa using h
theorem En.isP_in (h:En.isP m x=true):0≤x∧x<(m:Int):=by
 unfold En.isP at h
 simpa using h
variable {i:Nat}{kp:Int}
set_option maxRecDepth 100000 in
set_option maxHeartbeats 6400000 in
theorem Zck (hn:(Ns.cntE p n f)=(c.st.length:Int)) (l8:c.st.length≤8) (hr:r<p.rz.length) (hi:i<c.st.length) :Ctr Tryz.prog J 59 [.el (En.sysP p n t f) 0,.agg (En.cfV sx c),.el (p.rz.flatMap cRu) (r*18),.agg [iv r,iv i,iv kp]] (bv (En.ptB c p.rz[r] i kp)):=by
 refine Zm Tryz.func59 rfl (pN (show Plain (.el (En.sysP p n t f) 0) from .el (ZN (En.plain_sysP p n t f))) (pN (Zh (En.plain_cfV _ c)) (pN (.el (ZN fun X hX=>by obtain ⟨x,_,hx⟩:=List.mem_flatMap.1 hX;exact Y3 x X hx)) (pN (Zh (pN (.v _) (pN (.v _) (pN (.v _) pZ)))) pZ)))) (n:=38) rfl (by simp) (fun w0 => ?_)
 refine kW 38 [] [(0,.el (En.sysP p n t f) 0),(1,.agg (En.cfV sx c)),(2,.el (p.rz.flatMap cRu) (r*18)),(3,.agg [iv r,iv i,iv kp])] (jB (oA (ZA (X := .agg (En.cfV sx c)) (.tmp 1) rfl rfl rfl) I0 (oA (ZA (X := .agg [iv r,iv i,iv kp]) (.tmp 3) rfl rfl rfl) I0 (oS bF (jD (Zl ?_))))))
 by_cases hs1:(decide (p.rz[r].kind=2)||decide (p.rz[r].kind=5))=true
 refine Za (oW (oK (Zr (ZbO hr) hs1) [.el (p.rz.flatMap cRu) (r*18)] rfl rfl (oS bF (jF (Zl ?_)))))
 by_cases hs2:(En.isP c.st.length kp)=true
 have hk0:=En.isP_in hs2
 by_cases hs3:kp=(i:Int)
 refine tD (dW (dW (dW (dk (Zr (ZaH hn) hs2) [.el (En.sysP p n t f) 0,iv kp] rfl rfl (dS bT (dW (dW (dW (dW (dn (dT' hs3) (dW (dS bF (dK (dK (dK (dK (dK (dK (dK (dK (dK (dK (dW (dS bF (eD ?_)))))))))))))))))))))))))
 refine Ze (ZV ?_)
 refine Zg Tryz.results59 (.tmp rfl) ?_
 rw [show En.ptB c p.rz[r] i kp=_ from if_pos (En.or_t hs1)]
 exact cB ((by simp only [hs2,hs3,decide_true,decide_false,Bool.and_true,Bool.true_and,Bool.false_and,Bool.and_false,Bool.true_or,Bool.false_or,Bool.or_true,Bool.or_false,Bool.not_true,Bool.not_false]))
 refine tD (dW (dW (dW (dk (Zr (ZaH hn) hs2) [.el (En.sysP p n t f) 0,iv kp] rfl rfl (dS bT (dW (dW (dW (dW (dn (dF' hs3) (dW (dS bT (dW (dS (iv kp) (dS (.el (En.cfV sx c) 1) (dC (ZZ (off':=1+kp.toNat*1) (.tmp 29) (.tmp 28) rfl U67 (by kernel_rfl) (by omega) (by omega) rfl) I0 I0 (dA (lE (iv (c.st.getD kp.toNat 0)) 30 U3 (En.cfV_st (by omega))) I0 (dW (dW (dW (dL (iv p.rz[r].pf) (fT lenRu p.rz r 4) (dC (ZF rfl rfl) I0 I0 (dW (dS (bv (decide ((c.st.getD kp.toNat 0)=p.rz[r].pf))) (eD ?_)))))))))))))))))))))))))
 refine Ze (ZV ?_)
 refine Zg Tryz.results59 (.tmp rfl) ?_
 rw [show En.ptB c p.rz[r] i kp=_ from if_pos (En.or_t hs1)]
 exact cB ((by simp only [hs2,hs3,decide_true,decide_false,Bool.and_true,Bool.true_and,Bool.false_and,Bool.and_false,Bool.true_or,Bool.false_or,Bool.or_true,Bool.or_false,Bool.not_true,Bool.not_false]))
 have hs2f:(En.isP c.st.length kp)=false:=by simpa using hs2
 refine tD (dW (dW (dW (dk (Zr (ZaH hn) hs2f) [.el (En.sysP p n t f) 0,iv kp] rfl rfl (dS bF (dK (dK (dK (dK (dK (dW (dS bF (dK (dK (dK (dK (dK (dK (dK (dK (dK (dK (dW (dS bF (eD ?_)))))))))))))))))))))))))
 refine Ze (ZV ?_)
 refine Zg Tryz.results59 (.tmp rfl) ?_
 rw [show En.ptB c p.rz[r] i kp=_ from if_pos (En.or_t hs1)]
 exact cB ((by simp only [hs2f,decide_true,decide_false,Bool.and_true,Bool.true_and,Bool.false_and,Bool.and_false,Bool.true_or,Bool.false_or,Bool.or_true,Bool.or_false,Bool.not_true,Bool.not_false]))
 have hs1f:(decide (p.rz[r].kind=2)||decide (p.rz[r].kind=5))=false:=by simpa using hs1
 refine Za (oW (oK (Zr (ZbO hr) hs1f) [.el (p.rz.flatMap cRu) (r*18)] rfl rfl (oS bT (jG (oF (iv kp) (oC (ZF rfl rfl) I0 I0 (oS (bv (decide (kp=(-1)))) (jE (Zd ?_)))))))))
 refine Zg Tryz.results59 (.tmp rfl) ?_
 rw [show En.ptB c p.rz[r] i kp=_ from if_neg (En.or_f hs1f)]
 exact rfl
set_option maxRecDepth 100000 in
set_option maxHeartbeats 6400000 in
theorem localH_c (hn:(Ns.cntE p n f)=(c.st.length:Int)) (l8:c.st.length≤8) (hr:r<p.rz.length) (hi:i<c.st.length) {g:Nat→Int} (hg:∀ m,0≤g m∧g m≤3000000) (h8:p.rz.length≤8) (h3:p.msgs.length≤3) (hg2:p.rz[r].gz.length≤2) (hgd:∀ q∈p.rz[r].gz,0≤q.msg∧q.msg<p.msgs.length∧1≤q.coef∧q.coef≤100) (le:p.rz[r].ex.length≤9223372036854775807) (lf:p.rz[r].fa.length≤9223372036854775807):Ctr Tryz.prog J 60 [.el (En.sysP p n t f) 0,.agg (En.cfV sx c),.agg [iv r,iv i,iv kp],.agg (En.msA g)] (bv (En.loB n t f c p.rz[r] g i)):=by
 refine Zm Tryz.func60 rfl (pN (show Plain (.el (En.sysP p n t f) 0) from .el (ZN (En.plain_sysP p n t f))) (pN (Zh (En.plain_cfV _ c)) (pN (Zh (pN (.v _) (pN (.v _) (pN (.v _) pZ)))) (pN (Zh (En.plain_msA _)) pZ)))) (n:=113) rfl (by simp) (fun w0 => ?_)
 refine kW 113 [] [(0,.el (En.sysP p n t f) 0),(1,.agg (En.cfV sx c)),(2,.agg [iv r,iv i,iv kp]),(3,.agg (En.msA g))] (jB (oA (ZA (X := .agg (En.cfV sx c)) (.tmp 1) rfl rfl rfl) I0 (oA (ZA (X := .agg [iv r,iv i,iv kp]) (.tmp 2) rfl rfl rfl) I0 (oA (ZA (X := .agg (En.msA g)) (.tmp 3) rfl rfl rfl) I0 (oS bF (jD ?_))))))
 refine tD (dW (dW (dW (dW (dS (slA 18 cRu p.rz) (dW (dS (iv r) (dC (xS (r*18) 19 21 U25) I0 I0 (dS (.el (p.rz.flatMap cRu) (r*18)) (eD ?_))))))))))
 refine kW 113 [] [(0,.el (En.sysP p n t f) 0),(5,.el (En.cfV sx c) 0),(6,.el ([iv r,iv i,iv kp]) 0),(7,.el (En.msA g) 0),(8,bF),(9,.el (p.rz.flatMap cRu) (r*18))] (jC (Zl ?_))
 refine Ym (True) (ofL []) (ofT 113 [(0,.el (En.sysP p n t f) 0),(5,.el (En.cfV sx c) 0),(6,.el ([iv r,iv i,iv kp]) 0),(7,.el (En.msA g) 0),(8,bF),(9,.el (p.rz.flatMap cRu) (r*18)),(36,bv (En.rdN c p.rz[r]))]) ?_ (fun _ => ?_)
 by_cases hs1:0≤p.rz[r].rd
 by_cases hs2:c.val=p.rz[r].rd
 refine tD (dW (dW (dW (dL (iv p.rz[r].rd) (fT lenRu p.rz r 10) (dh (dT hs1) (dS bT (dW (dW (dW (dW (dW (dL (iv p.rz[r].rd) (fT lenRu p.rz r 10) (dn (dT' hs2) (dS bF (eD ?_)))))))))))))))
 refine kW 113 [] [(0,.el (En.sysP p n t f) 0),(5,.el (En.cfV sx c) 0),(6,.el ([iv r,iv i,iv kp]) 0),(7,.el (En.msA g) 0),(8,bF),(9,.el (p.rz.flatMap cRu) (r*18)),(36,bF)] ?_
 rw [show (En.rdN c p.rz[r])=false by unfold En.rdN;simp only [dT hs1,dT hs2,decide_true,decide_false,Bool.and_true,Bool.true_and,Bool.false_and,Bool.and_false,Bool.true_or,Bool.false_or,Bool.or_true,Bool.or_false,Bool.not_true,Bool.not_false]]
 exact Kx T0 (Zp [] _)
 refine tD (dW (dW (dW (dL (iv p.rz[r].rd) (fT lenRu p.rz r 10) (dh (dT hs1) (dS bT (dW (dW (dW (dW (dW (dL (iv p.rz[r].rd) (fT lenRu p.rz r 10) (dn (dF' hs2) (dS bT (eD ?_)))))))))))))))
 refine kW 113 [] [(0,.el (En.sysP p n t f) 0),(5,.el (En.cfV sx c) 0),(6,.el ([iv r,iv i,iv kp]) 0),(7,.el (En.msA g) 0),(8,bF),(9,.el (p.rz.flatMap cRu) (r*18)),(36,bT)] ?_
 rw [show (En.rdN c p.rz[r])=true by unfold En.rdN;simp only [dT hs1,dF hs2,decide_true,decide_false,Bool.and_true,Bool.true_and,Bool.false_and,Bool.and_false,Bool.true_or,Bool.false_or,Bool.or_true,Bool.or_false,Bool.not_true,Bool.not_false]]
 exact Kx T0 (Zp [] _)
 refine tD (dW (dW (dW (dL (iv p.rz[r].rd) (fT lenRu p.rz r 10) (dh (dF hs1) (dS bF (dK (dK (dK (dK (dK (dK (dK (dS bF (eD ?_)))))))))))))))
 refine kW 113 [] [(0,.el (En.sysP p n t f) 0),(5,.el (En.cfV sx c) 0),(6,.el ([iv r,iv i,iv kp]) 0),(7,.el (En.msA g) 0),(8,bF),(9,.el (p.rz.flatMap cRu) (r*18)),(36,bF)] ?_
 rw [show (En.rdN c p.rz[r])=false by unfold En.rdN;simp only [dF hs1,decide_true,decide_false,Bool.and_true,Bool.true_and,Bool.false_and,Bool.and_false,Bool.true_or,Bool.false_or,Bool.or_true,Bool.or_false,Bool.not_true,Bool.not_false]]
 exact Kx T0 (Zp [] _)
 refine Ze ?_
 by_cases hs3:(En.rdN c p.rz[r])=true
 rw [hs3]
 refine kW 113 [] [(0,.el (En.sysP p n t f) 0),(5,.el (En.cfV sx c) 0),(6,.el ([iv r,iv i,iv kp]) 0),(7,.el (En.msA g) 0),(8,bF),(9,.el (p.rz.flatMap cRu) (r*18)),(36,bT)] (jK (oS bF (jE (Zd ?_))))
 refine Zg Tryz.results60 (.tmp rfl) ?_
 exact cB ((En.lo_rd hs3).symm)
 have hs3f:(En.rdN c p.rz[r])=false:=by simpa using hs3
 rw [hs3f]
 refine kW 113 [] [(0,.el (En.sysP p n t f) 0),(5,.el (En.cfV sx c) 0),(6,.el ([iv r,iv i,iv kp]) 0),(7,.el (En.msA g) 0),(8,bF),(9,.el (p.rz.flatMap cRu) (r*18)),(36,bF)] (jL (jM (Za (oW (oW (oW (oL (slA 6 cTh p.rz[r].gz) (fT lenRu p.rz r 7) (oS (iv (p.rz[r].gz.length:Nat)) (oS (iv 0) (kN 113 [] [(0,.el (En.sysP p n t f) 0),(5,.el (En.cfV sx c) 0),(6,.el ([iv r,iv i,iv kp]) 0),(7,.el (En.msA g) 0),(8,bF),(9,.el (p.rz.flatMap cRu) (r*18)),(40,slA 6 cTh p.rz[r].gz),(41,iv (p.rz[r].gz.length:Nat)),(42,iv 0)] (Ze (Zn ?_))))))))))))
 refine ZK (σ:={k:Nat // k≤p.rz[r].gz.length∧Rd.noP p.rz[r].gz (En.gdN n t f g) k}) (fun s=>(ofL [],ofT 113 [(0,.el (En.sysP p n t f) 0),(5,.el (En.cfV sx c) 0),(6,.el ([iv r,iv i,iv kp]) 0),(7,.el (En.msA g) 0),(9,.el (p.rz.flatMap cRu) (r*18)),(40,slA 6 cTh p.rz[r].gz),(41,iv (p.rz[r].gz.length:Nat)),(42,iv s.1)])) (fun s=>p.rz[r].gz.length-s.1) ⟨0,Nat.zero_le _,Rd.noP_zero _ _⟩ (Zp [] _) (fun s => ?_)
 obtain ⟨k,hk0,hs0⟩:=s
 show ETri J w0 (ofL []) (ofT 113 [(0,.el (En.sysP p n t f) 0),(5,.el (En.cfV sx c) 0),(6,.el ([iv r,iv i,iv kp]) 0),(7,.el (En.msA g) 0),(9,.el (p.rz.flatMap cRu) (r*18)),(40,slA 6 cTh p.rz[r].gz),(41,iv (p.rz[r].gz.length:Nat)),(42,iv k)]) _
 refine Zl ?_
 by_cases hs4:(k:Int)<((p.rz[r].gz.length:Nat):Int)
 have hk1:k<p.rz[r].gz.length:=by omega
 have hgk:=hgd _ (List.getElem_mem hk1)
 have hgb:=hg p.rz[r].gz[k].msg.toNat
 refine Za (ol (dT hs4) (jD (Ya rfl (Zq (jC (Zn (jB (oW (oC (xS (k*6) 40 42 U55) I0 I0 (oA (Zk (z:=6) (.tmp 45) rfl U111 rfl (by kernel_rfl) (Yu lenTh p.rz[r].gz k (by omega)) rfl) I0 (oZ 1 Z111 (oS (iv k) (oY (kN 113 [(1,.box 111 (cTh p.rz[r].gz[k]))] [(0,.el (En.sysP p n t f) 0),(5,.el (En.cfV sx c) 0),(6,.el ([iv r,iv i,iv kp]) 0),(7,.el (En.msA g) 0),(9,.el (p.rz.flatMap cRu) (r*18)),(10,iv k),(11,bx 1),(40,slA 6 cTh p.rz[r].gz),(41,iv (p.rz[r].gz.length:Nat)),(42,iv k),(43,bT)] (jC ?_)))))))))))))))
 by_cases hs5:p.rz[r].gz[k].coef*(g p.rz[r].gz[k].msg.toNat)<(En.gbV p.rz[r] n t f k)
 refine tD (dW (dS (iv p.rz[r].gz[k].coef) (dW (dS (iv p.rz[r].gz[k].msg) (dC (ZZ (off':=0+p.rz[r].gz[k].msg.toNat*1) (.tmp 7) (.tmp 50) rfl U69 (by kernel_rfl) (by omega) (by omega) rfl) I0 I0 (dA (lE (iv (g p.rz[r].gz[k].msg.toNat)) 51 U3 (En.msA_get (by omega))) I0 (dC (sp_mul (c:=p.rz[r].gz[k].coef*(g p.rz[r].gz[k].msg.toNat)) rfl (En.mulW hgk.2.2.1 hgk.2.2.2 hgb.1 hgb.2)) I0 I0 (dW (dW (dS (iv r) (dS (iv k) (dW (dS (.el (En.sysP p n t f) 15) (dC (ZZ (off':=15+r*2) (.tmp 59) (.tmp 56) rfl U99 (by kernel_rfl) (by omega) (by omega) rfl) I0 I0 (dC (ZZ (off':=15+r*2+k*1) (.tmp 60) (.tmp 57) rfl U98 (by kernel_rfl) (by omega) (by omega) rfl) I0 I0 (dA (lE (iv (En.gbV p.rz[r] n t f k)) 61 U3 (En.sysP_bd hr h8 hk1 hg2)) I0 (dl (dT hs5) (eD ?_))))))))))))))))))
 refine kW 113 [(1,.box 111 (cTh p.rz[r].gz[k]))] [(0,.el (En.sysP p n t f) 0),(5,.el (En.cfV sx c) 0),(6,.el ([iv r,iv i,iv kp]) 0),(7,.el (En.msA g) 0),(9,.el (p.rz.flatMap cRu) (r*18)),(10,iv k),(11,bx 1),(40,slA 6 cTh p.rz[r].gz),(41,iv (p.rz[r].gz.length:Nat)),(42,iv k),(43,bT),(63,bT)] (Ze (jK (oS bF (jE (Zo (Zd (Zd (Zo (Zd ?_)))))))))
 refine Zg Tryz.results60 (.tmp rfl) ?_
 exact cB ((En.lo_gd hk1 hs5).symm)
 refine tD (dW (dS (iv p.rz[r].gz[k].coef) (dW (dS (iv p.rz[r].gz[k].msg) (dC (ZZ (off':=0+p.rz[r].gz[k].msg.toNat*1) (.tmp 7) (.tmp 50) rfl U69 (by kernel_rfl) (by omega) (by omega) rfl) I0 I0 (dA (lE (iv (g p.rz[r].gz[k].msg.toNat)) 51 U3 (En.msA_get (by omega))) I0 (dC (sp_mul (c:=p.rz[r].gz[k].coef*(g p.rz[r].gz[k].msg.toNat)) rfl (En.mulW hgk.2.2.1 hgk.2.2.2 hgb.1 hgb.2)) I0 I0 (dW (dW (dS (iv r) (dS (iv k) (dW (dS (.el (En.sysP p n t f) 15) (dC (ZZ (off':=15+r*2) (.tmp 59) (.tmp 56) rfl U99 (by kernel_rfl) (by omega) (by omega) rfl) I0 I0 (dC (ZZ (off':=15+r*2+k*1) (.tmp 60) (.tmp 57) rfl U98 (by kernel_rfl) (by omega) (by omega) rfl) I0 I0 (dA (lE (iv (En.gbV p.rz[r] n t f k)) 61 U3 (En.sysP_bd hr h8 hk1 hg2)) I0 (dl (dF hs5) (eD ?_))))))))))))))))))
 refine kW 113 [(1,.box 111 (cTh p.rz[r].gz[k]))] [(0,.el (En.sysP p n t f) 0),(5,.el (En.cfV sx c) 0),(6,.el ([iv r,iv i,iv kp]) 0),(7,.el (En.msA g) 0),(9,.el (p.rz.flatMap cRu) (r*18)),(10,iv k),(11,bx 1),(40,slA 6 cTh p.rz[r].gz),(41,iv (p.rz[r].gz.length:Nat)),(42,iv k),(43,bT),(63,bF)] (Ze (ZD rfl (Zq (Zv (Ze (Za (oV ((k+1:Nat):Int) (oS (iv (k+1:Nat)) (kN 113 [(1,.box 111 (cTh p.rz[r].gz[k]))] [(0,.el (En.sysP p n t f) 0),(5,.el (En.cfV sx c) 0),(6,.el ([iv r,iv i,iv kp]) 0),(7,.el (En.msA g) 0),(9,.el (p.rz.flatMap cRu) (r*18)),(10,iv k),(11,bx 1),(40,slA 6 cTh p.rz[r].gz),(41,iv (p.rz[r].gz.length:Nat)),(42,iv (k+1:Nat)),(43,bT),(63,bF)] (Ze ?_))))))))))
 refine Zs ⟨k+1,by omega,Rd.noP_succ hk1 hs0 (En.gd_no hk1 hs5)⟩ (show p.rz[r].gz.length-(k+1)<p.rz[r].gz.length-k by omega) ?_
 exact Zp [] _
 refine Za (ol (dF hs4) (jD (ZD rfl (jO (jC (Za (oW (oW (oW (oL (Zb p.rz[r].ex) (fT lenRu p.rz r 8) (oS (iv (p.rz[r].ex.length:Nat)) (oC (ZF rfl rfl) I0 I0 (oS (bv (decide (((p.rz[r].ex.length:Nat):Int)=0))) (jD (Zl ?_)))))))))))))))
 refine Za (oS (.el (En.cfV sx c) 1) (oW (oW (oF (iv (Ns.cntE p n f)) (oC (YH (n:=c.st.length) (off:=1) (ds:=(c.st.map iv)) (.tmp 71) (.tmp 75) rfl U67 (by kernel_rfl) (by omega) (by kernel_rfl) (by unfold maxLen;omega) (by show _≤16;omega) (En.cfV_row l8) hn) I0 I0 (oS (iv c.st.length) (oS (iv 0) (kN 113 [] [(6,.el ([iv r,iv i,iv kp]) 0),(9,.el (p.rz.flatMap cRu) (r*18)),(12,bv (decide (((p.rz[r].ex.length:Nat):Int)=0))),(76,Zb c.st),(77,iv c.st.length),(78,iv 0)] (Ze (Zn ?_))))))))))
 rw [← En.exU_zero (c:=c) (i:=i)]
 refine ZK (σ:={j:Nat // j≤c.st.length∧En.noF c p.rz[r] i j}) (fun s=>(ofL [],ofT 113 [(6,.el ([iv r,iv i,iv kp]) 0),(9,.el (p.rz.flatMap cRu) (r*18)),(12,bv (En.exU c p.rz[r] i s.1)),(76,Zb c.st),(77,iv c.st.length),(78,iv s.1)])) (fun s=>c.st.length-s.1) ⟨0,Nat.zero_le _,En.noF_zero⟩ (Zp [] _) (fun s => ?_)
 obtain ⟨j,hj0,hnf⟩:=s
 show ETri J w0 (ofL []) (ofT 113 [(6,.el ([iv r,iv i,iv kp]) 0),(9,.el (p.rz.flatMap cRu) (r*18)),(12,bv (En.exU c p.rz[r] i j)),(76,Zb c.st),(77,iv c.st.length),(78,iv j)]) _
 refine Zl ?_
 by_cases hs6:(j:Int)<(c.st.length:Int)
 have hj1:j<c.st.length:=by omega
 refine Za (ol (dT hs6) (jD (Ya rfl (Zq (jC (Zn (jB (oW (oC (xS (j*1) 76 78 U24) I0 I0 (oL (iv c.st[j]) (Zw c.st (by omega)) (oS (iv j) (oS (iv c.st[j]) (jD (Zl ?_))))))))))))))
 by_cases hs7:(j:Int)=(i:Int)
 refine Za (oW (oW (oW (oe (dT hs7) (jH (ZcL (Wt (t_hit (Ze (Za (oV ((j+1:Nat):Int) (oS (iv (j+1:Nat)) (kN 113 [] [(6,.el ([iv r,iv i,iv kp]) 0),(9,.el (p.rz.flatMap cRu) (r*18)),(12,bv (En.exU c p.rz[r] i j)),(13,iv j),(14,iv c.st[j]),(76,Zb c.st),(77,iv c.st.length),(78,iv (j+1:Nat)),(79,bT),(86,bT)] (Ze ?_))))))))))))))
 refine Zs ⟨j+1,by omega,En.noF_succ hnf (En.fa_same (by omega))⟩ (show c.st.length-(j+1)<c.st.length-j by omega) ?_
 show Wk _ _ (ofL []) (ofT 113 [(6,.el ([iv r,iv i,iv kp]) 0),(9,.el (p.rz.flatMap cRu) (r*18)),(12,bv (En.exU c p.rz[r] i (j+1))),(76,Zb c.st),(77,iv c.st.length),(78,iv ((j+1):Nat))])
 rw [En.exU_same (by omega)]
 exact Zp [] _
 refine Za (oW (oW (oW (oe (dF hs7) (jF (jM ?_))))))
 by_cases hs8:0<((p.rz[r].fa.length:Nat):Int)
 by_cases hs9:(decide (c.st[j]∈p.rz[r].fa))=true
 refine Za (oW (oW (oW (oL (Zb p.rz[r].fa) (fT lenRu p.rz r 9) (oW (og (dT hs8) (oS bT (oW (oW (oW (oL (Zb p.rz[r].fa) (fT lenRu p.rz r 9) (oW (oK (Zr (Wl p.rz[r].fa c.st[j] lf) hs9) [Zb p.rz[r].fa,iv c.st[j]] rfl rfl (oW (oS bF (jF ?_))))))))))))))))
 by_cases hs10:(En.exU c p.rz[r] i j)=true
 rw [hs10]
 refine kW 113 [] [(6,.el ([iv r,iv i,iv kp]) 0),(9,.el (p.rz.flatMap cRu) (r*18)),(12,bT),(13,iv j),(14,iv c.st[j]),(76,Zb c.st),(77,iv c.st.length),(78,iv j),(79,bT),(86,bF),(101,bF)] (Za (oF bT (qK (qK (qK (qK (qK (qK (oF bT (Yi (Zv (Ze (Za (oV ((j+1:Nat):Int) (oS (iv (j+1:Nat)) (kN 113 [] [(6,.el ([iv r,iv i,iv kp]) 0),(9,.el (p.rz.flatMap cRu) (r*18)),(12,bT),(13,iv j),(14,iv c.st[j]),(76,Zb c.st),(77,iv c.st.length),(78,iv (j+1:Nat)),(79,bT),(86,bF),(101,bF)] (Ze ?_)))))))))))))))))
 refine Zs ⟨j+1,by omega,En.noF_succ hnf (En.fa_in hj1 hs9)⟩ (show c.st.length-(j+1)<c.st.length-j by omega) ?_
 show Wk _ _ (ofL []) (ofT 113 [(6,.el ([iv r,iv i,iv kp]) 0),(9,.el (p.rz.flatMap cRu) (r*18)),(12,bv (En.exU c p.rz[r] i (j+1))),(76,Zb c.st),(77,iv c.st.length),(78,iv ((j+1):Nat))])
 rw [En.exU_t hs10]
 exact Zp [] _
 have hs10f:(En.exU c p.rz[r] i j)=false:=by simpa using hs10
 rw [hs10f]
 refine kW 113 [] [(6,.el ([iv r,iv i,iv kp]) 0),(9,.el (p.rz.flatMap cRu) (r*18)),(12,bF),(13,iv j),(14,iv c.st[j]),(76,Zb c.st),(77,iv c.st.length),(78,iv j),(79,bT),(86,bF),(101,bF)] (Za (oF bF (oW (oW (oW (oL (Zb p.rz[r].ex) (fT lenRu p.rz r 8) (oW (oK (Wl p.rz[r].ex c.st[j] le) [Zb p.rz[r].ex,iv c.st[j]] rfl rfl (oF (bv (decide (c.st[j]∈p.rz[r].ex))) (Yi (Zv (Ze (Za (oV ((j+1:Nat):Int) (oS (iv (j+1:Nat)) (kN 113 [] [(6,.el ([iv r,iv i,iv kp]) 0),(9,.el (p.rz.flatMap cRu) (r*18)),(12,bv (decide (c.st[j]∈p.rz[r].ex))),(13,iv j),(14,iv c.st[j]),(76,Zb c.st),(77,iv c.st.length),(78,iv (j+1:Nat)),(79,bT),(86,bF),(101,bF)] (Ze ?_)))))))))))))))))
 refine Zs ⟨j+1,by omega,En.noF_succ hnf (En.fa_in hj1 hs9)⟩ (show c.st.length-(j+1)<c.st.length-j by omega) ?_
 show Wk _ _ (ofL []) (ofT 113 [(6,.el ([iv r,iv i,iv kp]) 0),(9,.el (p.rz.flatMap cRu) (r*18)),(12,bv (En.exU c p.rz[r] i (j+1))),(76,Zb c.st),(77,iv c.st.length),(78,iv ((j+1):Nat))])
 rw [En.exU_f hj1 hs10f (by omega)]
 exact Zp [] _
 have hs9f:(decide (c.st[j]∈p.rz[r].fa))=false:=by simpa using hs9
 refine Za (oW (oW (oW (oL (Zb p.rz[r].fa) (fT lenRu p.rz r 9) (oW (og (dT hs8) (oS bT (oW (oW (oW (oL (Zb p.rz[r].fa) (fT lenRu p.rz r 9) (oW (oK (Zr (Wl p.rz[r].fa c.st[j] lf) hs9f) [Zb p.rz[r].fa,iv c.st[j]] rfl rfl (oW (oS bT (jG (oS bF (jA ?_))))))))))))))))))
 refine jN (Zo (Zd (Zd (Zo (Zd ?_)))))
 refine Zg Tryz.results60 (.tmp rfl) ?_
 exact cB ((En.lo_fa hj1 (En.fa_out hj1 (by omega) hs8 hs9f)).symm)
 refine Za (oW (oW (oW (oL (Zb p.rz[r].fa) (fT lenRu p.rz r 9) (oW (og (dF hs8) (oS bF (qK (qK (qK (qK (qK (qK (qK (oS bF (jF ?_))))))))))))))))
 by_cases hs11:(En.exU c p.rz[r] i j)=true
 rw [hs11]
 refine kW 113 [] [(6,.el ([iv r,iv i,iv kp]) 0),(9,.el (p.rz.flatMap cRu) (r*18)),(12,bT),(13,iv j),(14,iv c.st[j]),(76,Zb c.st),(77,iv c.st.length),(78,iv j),(79,bT),(86,bF),(101,bF)] (Za (oF bT (qK (qK (qK (qK (qK (qK (oF bT (Yi (Zv (Ze (Za (oV ((j+1:Nat):Int) (oS (iv (j+1:Nat)) (kN 113 [] [(6,.el ([iv r,iv i,iv kp]) 0),(9,.el (p.rz.flatMap cRu) (r*18)),(12,bT),(13,iv j),(14,iv c.st[j]),(76,Zb c.st),(77,iv c.st.length),(78,iv (j+1:Nat)),(79,bT),(86,bF),(101,bF)] (Ze ?_)))))))))))))))))
 refine Zs ⟨j+1,by omega,En.noF_succ hnf (En.fa_none hs8)⟩ (show c.st.length-(j+1)<c.st.length-j by omega) ?_
 show Wk _ _ (ofL []) (ofT 113 [(6,.el ([iv r,iv i,iv kp]) 0),(9,.el (p.rz.flatMap cRu) (r*18)),(12,bv (En.exU c p.rz[r] i (j+1))),(76,Zb c.st),(77,iv c.st.length),(78,iv ((j+1):Nat))])
 rw [En.exU_t hs11]
 exact Zp [] _
 have hs11f:(En.exU c p.rz[r] i j)=false:=by simpa using hs11
 rw [hs11f]
 refine kW 113 [] [(6,.el ([iv r,iv i,iv kp]) 0),(9,.el (p.rz.flatMap cRu) (r*18)),(12,bF),(13,iv j),(14,iv c.st[j]),(76,Zb c.st),(77,iv c.st.length),(78,iv j),(79,bT),(86,bF),(101,bF)] (Za (oF bF (oW (oW (oW (oL (Zb p.rz[r].ex) (fT lenRu p.rz r 8) (oW (oK (Wl p.rz[r].ex c.st[j] le) [Zb p.rz[r].ex,iv c.st[j]] rfl rfl (oF (bv (decide (c.st[j]∈p.rz[r].ex))) (Yi (Zv (Ze (Za (oV ((j+1:Nat):Int) (oS (iv (j+1:Nat)) (kN 113 [] [(6,.el ([iv r,iv i,iv kp]) 0),(9,.el (p.rz.flatMap cRu) (r*18)),(12,bv (decide (c.st[j]∈p.rz[r].ex))),(13,iv j),(14,iv c.st[j]),(76,Zb c.st),(77,iv c.st.length),(78,iv (j+1:Nat)),(79,bT),(86,bF),(101,bF)] (Ze ?_)))))))))))))))))
 refine Zs ⟨j+1,by omega,En.noF_succ hnf (En.fa_none hs8)⟩ (show c.st.length-(j+1)<c.st.length-j by omega) ?_
 show Wk _ _ (ofL []) (ofT 113 [(6,.el ([iv r,iv i,iv kp]) 0),(9,.el (p.rz.flatMap cRu) (r*18)),(12,bv (En.exU c p.rz[r] i (j+1))),(76,Zb c.st),(77,iv c.st.length),(78,iv ((j+1):Nat))])
 rw [En.exU_f hj1 hs11f (by omega)]
 exact Zp [] _
 refine Za (ol (dF hs6) (jD (ZD rfl (jO (jC (Za (oF (bv (En.exU c p.rz[r] i j)) (jE ?_))))))))
 refine Zg Tryz.results60 (.tmp rfl) ?_
 exact cB ((En.lo_ex hs3f (by omega) hs0 (by omega) hj0 hnf).symm)
theorem Zcp {l:List Int} (ll:l.length≤9223372036854775807) (l8:c.st.length≤8) (hx:x<(c.st.length:Int)):Ctr Tryz.prog J 98 [.agg (En.cfV sx c),iv x,Zb l] (bv (En.fitB c x l)):=by
 refine Zm Tryz.func98 rfl (pN (Zh (En.plain_cfV _ c)) (pN (.v _) (pN (ZM _) pZ))) (n:=22) rfl (by simp) (fun w0 => ?_)
 refine kW 22 [] [(0,.agg (En.cfV sx c)),(1,iv x),(2,Zb l)] (jB (oA (ZA (X := .agg (En.cfV sx c)) (.tmp 0) rfl rfl rfl) I0 (oS bF (jD ?_))))
 by_cases hs1:(l.length:Int)=0
 refine Za (oW (oW (oe (dT hs1) (oS bT (qK (qK (qK (qK (qK (qK (qK (qK (qK (qK (oF bT (jE ?_))))))))))))))))
 refine Zg Tryz.results98 (.tmp rfl) ?_
 exact cB ((by unfold En.fitB;simp only [hs1,decide_true,decide_false,Bool.and_true,Bool.true_and,Bool.false_and,Bool.and_false,Bool.true_or,Bool.false_or,Bool.or_true,Bool.or_false,Bool.not_true,Bool.not_false]))
 by_cases hs2:0≤x
 refine Za (oW (oW (oe (dF hs1) (oS bF (oW (oh (dT hs2) (oS bT (oW (oS (iv x) (oS (.el (En.cfV sx c) 1) (gC (ZZ (off':=1+x.toNat*1) (.tmp 16) (.tmp 15) rfl U67 (by kernel_rfl) (by omega) (by omega) rfl) I0 I0 (gA (lE (iv (c.st.getD x.toNat 0)) 17 U3 (En.cfV_st (by omega))) I0 (oK (Wl l (c.st.getD x.toNat 0) ll) [Zb l,iv (c.st.getD x.toNat 0)] rfl rfl (oW (oF (bv (decide (c.st.getD x.toNat 0∈l))) (jE ?_))))))))))))))))
 refine Zg Tryz.results98 (.tmp rfl) ?_
 exact cB ((by unfold En.fitB;simp only [hs1,hs2,decide_true,decide_false,Bool.and_true,Bool.true_and,Bool.false_and,Bool.and_false,Bool.true_or,Bool.false_or,Bool.or_true,Bool.or_false,Bool.not_true,Bool.not_false]))
 refine Za (oW (oW (oe (dF hs1) (oS bF (oW (oh (dF hs2) (oS bF (qK (qK (qK (qK (qK (qK (oW (oF bF (jE ?_))))))))))))))))
 refine Zg Tryz.results98 (.tmp rfl) ?_
 exact cB ((by unfold En.fitB;simp only [hs1,hs2,decide_true,decide_false,Bool.and_true,Bool.true_and,Bool.false_and,Bool.and_false,Bool.true_or,Bool.false_or,Bool.or_true,Bool.or_false,Bool.not_true,Bool.not_false]))
abbrev WK (x0:Fm) (x1:Cf) (x2:Nat):List (Nat × ABlk):=[(1,.box 90 ([iv (Jd.lkF x0.top x1.sh x1.st.length x2),iv (Jd.lkS x0.top x1.sh x1.st.length x2),iv (En.lkP x0.top x1.sh x1.st.length x2)]))]
theorem neighH_c (hn:(Ns.cntE p n f).toNat=c.st.length) (l8:c.st.length≤8) (hr:r<p.rz.length) (hi:i<c.st.length) (hrl:RuLen p.rz[r]) (hx0:0≤sx) (hx1:sx<(((En.shS p.top (Ns.cntE p n f).toNat).length:Nat):Int)) (hx2:(En.shS p.top (Ns.cntE p n f).toNat)[sx.toNat]? = some c.sh) (hlk:Jd.lkF p.top c.sh c.st.length i<(c.st.length:Int)∧Jd.lkS p.top c.sh c.st.length i<(c.st.length:Int)∧En.lkP p.top c.sh c.st.length i<(c.st.length:Int)):Ctr Tryz.prog J 61 [.el (En.sysP p n t f) 0,.agg (En.cfV sx c),.agg [iv r,iv i,iv kp]] (bv (En.nbB p.top c p.rz[r] i)):=by
 refine Zm Tryz.func61 rfl (pN (show Plain (.el (En.sysP p n t f) 0) from .el (ZN (En.plain_sysP p n t f))) (pN (Zh (En.plain_cfV _ c)) (pN (Zh (pN (.v _) (pN (.v _) (pN (.v _) pZ)))) pZ))) (n:=79) rfl (by simp) (fun w0 => ?_)
 refine kW 79 [] [(0,.el (En.sysP p n t f) 0),(1,.agg (En.cfV sx c)),(2,.agg [iv r,iv i,iv kp])] (jB (oA (ZA (X := .agg (En.cfV sx c)) (.tmp 1) rfl rfl rfl) I0 (oA (ZA (X := .agg [iv r,iv i,iv kp]) (.tmp 2) rfl rfl rfl) I0 (oS bF (jD ?_)))))
 refine tD (dW (dW (dW (dW (dS (slA 18 cRu p.rz) (dW (dS (iv r) (dC (xS (r*18) 13 15 U25) I0 I0 (dS (.el (p.rz.flatMap cRu) (r*18)) (eD ?_))))))))))
 refine kW 79 [] [(0,.el (En.sysP p n t f) 0),(4,.el (En.cfV sx c) 0),(5,.el ([iv r,iv i,iv kp]) 0),(6,bF),(7,.el (p.rz.flatMap cRu) (r*18))] (jC ?_)
 refine tD (dW (dW (dW (dS (En.lkS p.top (Ns.cntE p n f).toNat) (dW (dS (iv sx) (dC (xS (sx.toNat*1) 20 22 U100) I0 I0 (dA (lE (Jd.lkA p.top c.sh c.st.length) 23 U93 (En.links_at hx2 hn)) I0 (dW (dS (iv i) (dC (xS (i*3) 24 26 U93) I0 I0 (dA (Zk (z:=3) (.tmp 27) rfl U90 rfl (by kernel_rfl) (En.lk_el (by omega)) rfl) I0 (dz 1 Z90 (dY (eD ?_)))))))))))))))
 refine kW 79 (WK p c i) [(4,.el (En.cfV sx c) 0),(5,.el ([iv r,iv i,iv kp]) 0),(6,bF),(7,.el (p.rz.flatMap cRu) (r*18)),(8,bx 1)] (jC (Zn (Zl ?_)))
 refine Ym (True) (ofL (WK p c i)) (ofT 79 [(4,.el (En.cfV sx c) 0),(6,bF),(7,.el (p.rz.flatMap cRu) (r*18)),(8,bx 1),(29,bv (decide (p.rz[r].pos=1) && !decide ((i:Int)=0)))]) ?_ (fun _ => ?_)
 by_cases hs1:p.rz[r].pos=1
 by_cases hs2:(i:Int)=0
 refine Za (oW (oW (oW (oL (iv p.rz[r].pos) (fT lenRu p.rz r 13) (oe (dT hs1) (oS bT (oW (oW (on (dT' hs2) (oF bF (kN 79 [(1,.box 90 ([iv (Jd.lkF p.top c.sh c.st.length i),iv (Jd.lkS p.top c.sh c.st.length i),iv (En.lkP p.top c.sh c.st.length i)]))] [(4,.el (En.cfV sx c) 0),(6,bF),(7,.el (p.rz.flatMap cRu) (r*18)),(8,bx 1),(29,bF)] ?_)))))))))))
 rw [show ((decide (p.rz[r].pos=1) && !decide ((i:Int)=0)))=false by simp only [dT hs1,dT hs2,decide_true,decide_false,Bool.and_true,Bool.true_and,Bool.false_and,Bool.and_false,Bool.true_or,Bool.false_or,Bool.or_true,Bool.or_false,Bool.not_true,Bool.not_false]]
 exact tM T0
 refine Za (oW (oW (oW (oL (iv p.rz[r].pos) (fT lenRu p.rz r 13) (oe (dT hs1) (oS bT (oW (oW (on (dF' hs2) (oF bT (kN 79 [(1,.box 90 ([iv (Jd.lkF p.top c.sh c.st.length i),iv (Jd.lkS p.top c.sh c.st.length i),iv (En.lkP p.top c.sh c.st.length i)]))] [(4,.el (En.cfV sx c) 0),(6,bF),(7,.el (p.rz.flatMap cRu) (r*18)),(8,bx 1),(29,bT)] ?_)))))))))))
 rw [show ((decide (p.rz[r].pos=1) && !decide ((i:Int)=0)))=true by simp only [dT hs1,dF hs2,decide_true,decide_false,Bool.and_true,Bool.true_and,Bool.false_and,Bool.and_false,Bool.true_or,Bool.false_or,Bool.or_true,Bool.or_false,Bool.not_true,Bool.not_false]]
 exact tM T0
 refine Za (oW (oW (oW (oL (iv p.rz[r].pos) (fT lenRu p.rz r 13) (oe (dF hs1) (oS bF (qK (qK (qK (oF bF (kN 79 [(1,.box 90 ([iv (Jd.lkF p.top c.sh c.st.length i),iv (Jd.lkS p.top c.sh c.st.length i),iv (En.lkP p.top c.sh c.st.length i)]))] [(4,.el (En.cfV sx c) 0),(6,bF),(7,.el (p.rz.flatMap cRu) (r*18)),(8,bx 1),(29,bF)] ?_)))))))))))
 rw [show ((decide (p.rz[r].pos=1) && !decide ((i:Int)=0)))=false by simp only [dF hs1,decide_true,decide_false,Bool.and_true,Bool.true_and,Bool.false_and,Bool.and_false,Bool.true_or,Bool.false_or,Bool.or_true,Bool.or_false,Bool.not_true,Bool.not_false]]
 exact tM T0
 refine Ze ?_
 by_cases hs3:(decide (p.rz[r].pos=1) && !decide ((i:Int)=0))=true
 rw [hs3]
 refine kW 79 (WK p c i) [(4,.el (En.cfV sx c) 0),(6,bF),(7,.el (p.rz.flatMap cRu) (r*18)),(8,bx 1),(29,bT)] (jK (oS bF (jE (Zo (Zd ?_)))))
 refine Zg Tryz.results61 (.tmp rfl) ?_
 exact cB ((by unfold En.nbB;simp only [hs3,decide_true,decide_false,Bool.and_true,Bool.true_and,Bool.false_and,Bool.and_false,Bool.true_or,Bool.false_or,Bool.or_true,Bool.or_false,Bool.not_true,Bool.not_false]))
 have hs3f:(decide (p.rz[r].pos=1) && !decide ((i:Int)=0))=false:=by simpa using hs3
 rw [hs3f]
 refine kW 79 (WK p c i) [(4,.el (En.cfV sx c) 0),(6,bF),(7,.el (p.rz.flatMap cRu) (r*18)),(8,bx 1),(29,bF)] (ZD rfl (Zl ?_))
 refine Ym (True) (ofL (WK p c i)) (ofT 79 [(4,.el (En.cfV sx c) 0),(6,bF),(7,.el (p.rz.flatMap cRu) (r*18)),(8,bx 1),(40,bv (decide (p.rz[r].pos=2)&&decide (0≤(Jd.lkS p.top c.sh c.st.length i))))]) ?_ (fun _ => ?_)
 by_cases hs4:p.rz[r].pos=2
 by_cases hs5:0≤(Jd.lkS p.top c.sh c.st.length i)
 refine Za (oW (oW (oW (oL (iv p.rz[r].pos) (fT lenRu p.rz r 13) (oe (dT hs4) (oS bT (oW (oW (oh (dT hs5) (oF bT (kN 79 [(1,.box 90 ([iv (Jd.lkF p.top c.sh c.st.length i),iv (Jd.lkS p.top c.sh c.st.length i),iv (En.lkP p.top c.sh c.st.length i)]))] [(4,.el (En.cfV sx c) 0),(6,bF),(7,.el (p.rz.flatMap cRu) (r*18)),(8,bx 1),(40,bT)] ?_)))))))))))
 rw [show ((decide (p.rz[r].pos=2)&&decide (0≤(Jd.lkS p.top c.sh c.st.length i))))=true by simp only [hs3f,dT hs4,dT hs5,decide_true,decide_false,Bool.and_true,Bool.true_and,Bool.false_and,Bool.and_false,Bool.true_or,Bool.false_or,Bool.or_true,Bool.or_false,Bool.not_true,Bool.not_false]]
 exact tM T0
 refine Za (oW (oW (oW (oL (iv p.rz[r].pos) (fT lenRu p.rz r 13) (oe (dT hs4) (oS bT (oW (oW (oh (dF hs5) (oF bF (kN 79 [(1,.box 90 ([iv (Jd.lkF p.top c.sh c.st.length i),iv (Jd.lkS p.top c.sh c.st.length i),iv (En.lkP p.top c.sh c.st.length i)]))] [(4,.el (En.cfV sx c) 0),(6,bF),(7,.el (p.rz.flatMap cRu) (r*18)),(8,bx 1),(40,bF)] ?_)))))))))))
 rw [show ((decide (p.rz[r].pos=2)&&decide (0≤(Jd.lkS p.top c.sh c.st.length i))))=false by simp only [hs3f,dT hs4,dF hs5,decide_true,decide_false,Bool.and_true,Bool.true_and,Bool.false_and,Bool.and_false,Bool.true_or,Bool.false_or,Bool.or_true,Bool.or_false,Bool.not_true,Bool.not_false]]
 exact tM T0
 refine Za (oW (oW (oW (oL (iv p.rz[r].pos) (fT lenRu p.rz r 13) (oe (dF hs4) (oS bF (qK (qK (qK (oF bF (kN 79 [(1,.box 90 ([iv (Jd.lkF p.top c.sh c.st.length i),iv (Jd.lkS p.top c.sh c.st.length i),iv (En.lkP p.top c.sh c.st.length i)]))] [(4,.el (En.cfV sx c) 0),(6,bF),(7,.el (p.rz.flatMap cRu) (r*18)),(8,bx 1),(40,bF)] ?_)))))))))))
 rw [show ((decide (p.rz[r].pos=2)&&decide (0≤(Jd.lkS p.top c.sh c.st.length i))))=false by simp only [hs3f,dF hs4,decide_true,decide_false,Bool.and_true,Bool.true_and,Bool.false_and,Bool.and_false,Bool.true_or,Bool.false_or,Bool.or_true,Bool.or_false,Bool.not_true,Bool.not_false]]
 exact tM T0
 refine Ze ?_
 by_cases hs6:(decide (p.rz[r].pos=2)&&decide (0≤(Jd.lkS p.top c.sh c.st.length i)))=true
 rw [hs6]
 refine kW 79 (WK p c i) [(4,.el (En.cfV sx c) 0),(6,bF),(7,.el (p.rz.flatMap cRu) (r*18)),(8,bx 1),(40,bT)] (jK (oS bF (jE (Zo (Zd ?_)))))
 refine Zg Tryz.results61 (.tmp rfl) ?_
 exact cB ((by unfold En.nbB;simp only [hs3f,hs6,decide_true,decide_false,Bool.and_true,Bool.true_and,Bool.false_and,Bool.and_false,Bool.true_or,Bool.false_or,Bool.or_true,Bool.or_false,Bool.not_true,Bool.not_false]))
 have hs6f:(decide (p.rz[r].pos=2)&&decide (0≤(Jd.lkS p.top c.sh c.st.length i)))=false:=by simpa using hs6
 rw [hs6f]
 refine kW 79 (WK p c i) [(4,.el (En.cfV sx c) 0),(6,bF),(7,.el (p.rz.flatMap cRu) (r*18)),(8,bx 1),(40,bF)] (ZD rfl (Zq (Zv (jC ?_))))
 by_cases hs7:(En.fitB c (Jd.lkF p.top c.sh c.st.length i) p.rz[r].left)=true
 by_cases hs8:(En.fitB c (Jd.lkS p.top c.sh c.st.length i) p.rz[r].right)=true
 refine tD (dA (Zk (z:=16) (.tmp 4) rfl U71 rfl (by kernel_rfl) rfl rfl) I0 (dW (dW (dW (dW (dW (dL (Zb p.rz[r].left) (fT lenRu p.rz r 14) (dk (Zr (Zcp (Nat.le_trans hrl.left (by decide)) l8 hlk.1) hs7) [.agg (En.cfV sx c),iv (Jd.lkF p.top c.sh c.st.length i),Zb p.rz[r].left] rfl rfl (dS bT (dA (Zk (z:=16) (.tmp 4) rfl U71 rfl (by kernel_rfl) rfl rfl) I0 (dW (dW (dW (dW (dW (dL (Zb p.rz[r].right) (fT lenRu p.rz r 15) (dk (Zr (Zcp (Nat.le_trans hrl.right (by decide)) l8 hlk.2.1) hs8) [.agg (En.cfV sx c),iv (Jd.lkS p.top c.sh c.st.length i),Zb p.rz[r].right] rfl rfl (dW (dS bT (dA (Zk (z:=16) (.tmp 4) rfl U71 rfl (by kernel_rfl) rfl rfl) I0 (dW (dW (dW (dW (dW (dL (Zb p.rz[r].pz) (fT lenRu p.rz r 16) (dk (Zcp (Nat.le_trans hrl.pz (by decide)) l8 hlk.2.2) [.agg (En.cfV sx c),iv (En.lkP p.top c.sh c.st.length i),Zb p.rz[r].pz] rfl rfl (dW (dS (bv (En.fitB c (En.lkP p.top c.sh c.st.length i) p.rz[r].pz)) (eD ?_))))))))))))))))))))))))))))))
 refine Ze (ZV ?_)
 refine Zg Tryz.results61 (.tmp rfl) ?_
 exact cB ((by unfold En.nbB;simp only [hs3f,hs6f,hs7,hs8,decide_true,decide_false,Bool.and_true,Bool.true_and,Bool.false_and,Bool.and_false,Bool.true_or,Bool.false_or,Bool.or_true,Bool.or_false,Bool.not_true,Bool.not_false]))
 have hs8f:(En.fitB c (Jd.lkS p.top c.sh c.st.length i) p.rz[r].right)=false:=by simpa using hs8
 refine tD (dA (Zk (z:=16) (.tmp 4) rfl U71 rfl (by kernel_rfl) rfl rfl) I0 (dW (dW (dW (dW (dW (dL (Zb p.rz[r].left) (fT lenRu p.rz r 14) (dk (Zr (Zcp (Nat.le_trans hrl.left (by decide)) l8 hlk.1) hs7) [.agg (En.cfV sx c),iv (Jd.lkF p.top c.sh c.st.length i),Zb p.rz[r].left] rfl rfl (dS bT (dA (Zk (z:=16) (.tmp 4) rfl U71 rfl (by kernel_rfl) rfl rfl) I0 (dW (dW (dW (dW (dW (dL (Zb p.rz[r].right) (fT lenRu p.rz r 15) (dk (Zr (Zcp (Nat.le_trans hrl.right (by decide)) l8 hlk.2.1) hs8f) [.agg (En.cfV sx c),iv (Jd.lkS p.top c.sh c.st.length i),Zb p.rz[r].right] rfl rfl (dW (dS bF (dK (dK (dK (dK (dK (dK (dK (dK (dW (dS bF (eD ?_))))))))))))))))))))))))))))))
 refine Ze (ZV ?_)
 refine Zg Tryz.results61 (.tmp rfl) ?_
 exact cB ((by unfold En.nbB;simp only [hs3f,hs6f,hs7,hs8f,decide_true,decide_false,Bool.and_true,Bool.true_and,Bool.false_and,Bool.and_false,Bool.true_or,Bool.false_or,Bool.or_true,Bool.or_false,Bool.not_true,Bool.not_false]))
 have hs7f:(En.fitB c (Jd.lkF p.top c.sh c.st.length i) p.rz[r].left)=false:=by simpa using hs7
 refine tD (dA (Zk (z:=16) (.tmp 4) rfl U71 rfl (by kernel_rfl) rfl rfl) I0 (dW (dW (dW (dW (dW (dL (Zb p.rz[r].left) (fT lenRu p.rz r 14) (dk (Zr (Zcp (Nat.le_trans hrl.left (by decide)) l8 hlk.1) hs7f) [.agg (En.cfV sx c),iv (Jd.lkF p.top c.sh c.st.length i),Zb p.rz[r].left] rfl rfl (dS bF (dK (dK (dK (dK (dK (dK (dK (dK (dW (dS bF (dK (dK (dK (dK (dK (dK (dK (dK (dW (dS bF (eD ?_))))))))))))))))))))))))))))))
 refine Ze (ZV ?_)
 refine Zg Tryz.results61 (.tmp rfl) ?_
 exact cB ((by unfold En.nbB;simp only [hs3f,hs6f,hs7f,decide_true,decide_false,Bool.and_true,Bool.true_and,Bool.false_and,Bool.and_false,Bool.true_or,Bool.false_or,Bool.or_true,Bool.or_false,Bool.not_true,Bool.not_false]))
theorem passH_c (hn:(Ns.cntE p n f).toNat=c.st.length) (l8:c.st.length≤8) (hr:r<p.rz.length) (hi:i<c.st.length) (hrl:RuLen p.rz[r]) (hx0:0≤sx) (hx1:sx<(((En.shS p.top (Ns.cntE p n f).toNat).length:Nat):Int)) (hx2:(En.shS p.top (Ns.cntE p n f).toNat)[sx.toNat]? = some c.sh) (hlk:Jd.lkF p.top c.sh c.st.length i<(c.st.length:Int)∧Jd.lkS p.top c.sh c.st.length i<(c.st.length:Int)∧En.lkP p.top c.sh c.st.length i<(c.st.length:Int)):Ctr Tryz.prog J 62 [.el (En.sysP p n t f) 0,.agg (En.cfV sx c),.agg [iv r,iv i,iv kp]] (bv (En.psB p.top c p.rz[r] i kp)):=by
 refine Zm Tryz.func62 rfl (pN (show Plain (.el (En.sysP p n t f) 0) from .el (ZN (En.plain_sysP p n t f))) (pN (Zh (En.plain_cfV _ c)) (pN (Zh (pN (.v _) (pN (.v _) (pN (.v _) pZ)))) pZ))) (n:=63) rfl (by simp) (fun w0 => ?_)
 refine kW 63 [] [(0,.el (En.sysP p n t f) 0),(1,.agg (En.cfV sx c)),(2,.agg [iv r,iv i,iv kp])] (jB (oA (ZA (X := .agg (En.cfV sx c)) (.tmp 1) rfl rfl rfl) I0 (oA (ZA (X := .agg [iv r,iv i,iv kp]) (.tmp 2) rfl rfl rfl) I0 (oS bF (jD ?_)))))
 refine tD (dW (dW (dW (dS (En.lkS p.top (Ns.cntE p n f).toNat) (dW (dS (iv sx) (dC (xS (sx.toNat*1) 11 13 U100) I0 I0 (dA (lE (Jd.lkA p.top c.sh c.st.length) 14 U93 (En.links_at hx2 hn)) I0 (dW (dS (iv i) (dC (xS (i*3) 15 17 U93) I0 I0 (dA (Zk (z:=3) (.tmp 18) rfl U90 rfl (by kernel_rfl) (En.lk_el (by omega)) rfl) I0 (dz 1 Z90 (dY (eD ?_)))))))))))))))
 refine kW 63 (WK p c i) [(0,.el (En.sysP p n t f) 0),(5,.el ([iv r,iv i,iv kp]) 0),(6,bF),(7,bx 1)] (jC (Zl ?_))
 refine tD (dW (dW (dW (dW (dS (slA 18 cRu p.rz) (dW (dS (iv r) (dC (xS (r*18) 24 26 U25) I0 I0 (dW (dL (iv p.rz[r].dir) (fT lenRu p.rz r 17) (eD ?_)))))))))))
 refine kW 63 (WK p c i) [(5,.el ([iv r,iv i,iv kp]) 0),(6,bF),(7,bx 1),(29,iv p.rz[r].dir)] (Ze (Zn (Zl ?_)))
 by_cases hs1:p.rz[r].dir=1
 refine Za (oe (dT hs1) (oS bT (jG (oF (iv kp) (oF (iv (Jd.lkS p.top c.sh c.st.length i)) (oC (ZF rfl rfl) I0 I0 (oS (bv (decide (kp=(Jd.lkS p.top c.sh c.st.length i)))) (jE (Zo (Zd ?_))))))))))
 refine Zg Tryz.results62 (.tmp rfl) ?_
 exact cB ((by unfold En.psB;rw [if_pos hs1]))
 refine Za (oe (dF hs1) (oS bF (jI (Zl ?_))))
 by_cases hs2:p.rz[r].dir=2
 refine Za (oe (dT hs2) (oS bT (jG (oF (iv kp) (oF (iv (Jd.lkF p.top c.sh c.st.length i)) (oC (ZF rfl rfl) I0 I0 (oS (bv (decide (kp=(Jd.lkF p.top c.sh c.st.length i)))) (jE (Zo (Zd ?_))))))))))
 refine Zg Tryz.results62 (.tmp rfl) ?_
 exact cB ((by unfold En.psB;rw [if_neg hs1,if_pos hs2]))
 refine Za (oe (dF hs2) (oS bF (jI (Zl ?_))))
 by_cases hs3:p.rz[r].dir=3
 refine Za (oe (dT hs3) (oS bT (jH (Zl ?_))))
 by_cases hs4:kp=(Jd.lkF p.top c.sh c.st.length i)
 refine Za (oW (oW (oW (oW (oe (dT hs4) (oS bT (qK (qK (qK (qK (qK (oF bT (jE (Zo (Zd ?_)))))))))))))))
 refine Zg Tryz.results62 (.tmp rfl) ?_
 exact cB ((by unfold En.psB;rw [if_neg hs1,if_neg hs2,if_pos hs3];simp only [dT hs4,decide_true,decide_false,Bool.and_true,Bool.true_and,Bool.false_and,Bool.and_false,Bool.true_or,Bool.false_or,Bool.or_true,Bool.or_false,Bool.not_true,Bool.not_false]))
 refine Za (oW (oW (oW (oW (oe (dF hs4) (oS bF (oF (iv kp) (oF (iv (Jd.lkS p.top c.sh c.st.length i)) (gC (ZF rfl rfl) I0 I0 (oF (bv (decide (kp=(Jd.lkS p.top c.sh c.st.length i)))) (jE (Zo (Zd ?_)))))))))))))
 refine Zg Tryz.results62 (.tmp rfl) ?_
 exact cB ((by unfold En.psB;rw [if_neg hs1,if_neg hs2,if_pos hs3];simp only [dF hs4,decide_true,decide_false,Bool.and_true,Bool.true_and,Bool.false_and,Bool.and_false,Bool.true_or,Bool.false_or,Bool.or_true,Bool.or_false,Bool.not_true,Bool.not_false]))
 refine Za (oe (dF hs3) (oS bF (jI (Zq (Zv (jC (Za (oF (iv kp) (oF (iv (En.lkP p.top c.sh c.st.length i)) (oC (ZF rfl rfl) I0 I0 (oS (bv (decide (kp=(En.lkP p.top c.sh c.st.length i)))) (jE ?_))))))))))))
 refine Zg Tryz.results62 (.tmp rfl) ?_
 exact cB ((by unfold En.psB;rw [if_neg hs1,if_neg hs2,if_neg hs3]))
end Go.Proofs.YtdbehgbggaaipaaGreat
