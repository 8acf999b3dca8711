import Derived.Test.YthefecaefbeidaaGreatGrpaboakmmf
import Derived.Test.YthefecaefbeidaaGreatGrpgojjocei
import Derived.Test.YthefecaefbeidaaGreatGrpacmcpece
set_option linter.all false
namespace Go.Proofs.YthefecaefbeidaaGreat
open Go.RowKit Go.Deep
variable {J:World→Prop}
abbrev ZJ (x0:Fm):List (Nat × ABlk):=[(1,.box 27 (cFm x0))]
abbrev XVal_h2 (x0:Fm):List (Nat × ABlk):=[(1,.box 27 (cFm x0)),(2,.row true 9 1 (0+x0.sz.length+x0.msgs.length+x0.vals.length) ((nmA x0).map sv))]
abbrev XVal_h3 (x0:Fm) (x1:Nat):List (Nat × AV):=[(1,bx 1),(3,.fr (.sl 1 (0+x0.sz.length+x0.msgs.length+x0.vals.length) ((nmA x0).map sv))),(4,iv x1),(69,bT),(87,bT)]
set_option maxRecDepth 100000 in
set_option maxHeartbeats 6400000 in
theorem ZcS {q:Fm} (HQ:FmOk q):Ctr Tryz.prog J 121 [.agg (cFm q)] (iv (valE q)):=by
 have hNL:=nmA_len q
 have l1:=HQ.lstates
 have l2:=HQ.lmsgs
 have l3:=HQ.lvals
 have l4:=HQ.lrules
 have l5:=HQ.lres
 have l6:=HQ.linit
 have l7:=HQ.lleader
 refine Zn Tryz.func121 rfl (pN (Zm (Z0 q)) pZ) (n:=178) rfl (by simp) (fun w0 => ?_)
 refine kW 178 [] [(0,.agg (cFm q))] (jB (oX 1 (.agg (cFm q)) (oS (iv 0) (jD (Zk ?_)))))
 by_cases hs1:(nameB q.nm.toList)=true
 refine Za (oW (oW (oK (Zj (Ye q.nm HQ.nm) hs1) [sv q.nm] rfl rfl (oS bF (kN 178 (ZJ q) [(1,bx 1),(2,iv 0),(13,bF)] (jJ (jM ?_)))))))
 refine YK (True) (ofL [(1,.box 27 (cFm q))]) (ofT 178 [(1,bx 1),(2,iv 0),(23,bv (argB q))]) ?_ (fun _ => ?_)
 by_cases hs2:(inB 1 4 q.top)=true
 by_cases hs3:(inB 0 3 q.fz)=true
 refine Za (oW (oW (oK (Zj (Zo q.top 1 4) hs2) [iv q.top,iv 1,iv 4] rfl rfl (oF bF (oW (oW (oK (Zj (Zo q.fz 0 3) hs3) [iv q.fz,iv 0,iv 3] rfl rfl (oW (oS bF (kN 178 [(1,.box 27 (cFm q))] [(1,bx 1),(2,iv 0),(23,bF)] ?_))))))))))
 rw [show (argB q)=false by simp only [argB,Bool.or_true,Bool.true_or,Bool.or_false,Bool.false_or,Bool.and_true,Bool.true_and,Bool.and_false,Bool.false_and,Bool.not_true,Bool.not_false,hs1,hs2,hs3]]
 exact tM T0
 have hs3f:(inB 0 3 q.fz)=false:=by simpa using hs3
 refine Za (oW (oW (oK (Zj (Zo q.top 1 4) hs2) [iv q.top,iv 1,iv 4] rfl rfl (oF bF (oW (oW (oK (Zj (Zo q.fz 0 3) hs3f) [iv q.fz,iv 0,iv 3] rfl rfl (oW (oS bT (kN 178 [(1,.box 27 (cFm q))] [(1,bx 1),(2,iv 0),(23,bT)] ?_))))))))))
 rw [show (argB q)=true by simp only [argB,Bool.or_true,Bool.true_or,Bool.or_false,Bool.false_or,Bool.and_true,Bool.true_and,Bool.and_false,Bool.false_and,Bool.not_true,Bool.not_false,hs1,hs2,hs3f]]
 exact tM T0
 have hs2f:(inB 1 4 q.top)=false:=by simpa using hs2
 refine Za (oW (oW (oK (Zj (Zo q.top 1 4) hs2f) [iv q.top,iv 1,iv 4] rfl rfl (oF bT (qK (qK (qK (qK (oS bT (kN 178 [(1,.box 27 (cFm q))] [(1,bx 1),(2,iv 0),(23,bT)] ?_))))))))))
 rw [show (argB q)=true by simp only [argB,Bool.or_true,Bool.true_or,Bool.or_false,Bool.false_or,Bool.and_true,Bool.true_and,Bool.and_false,Bool.false_and,Bool.not_true,Bool.not_false,hs1,hs2f]]
 exact tM T0
 refine Zi ?_
 by_cases hs4:(argB q)=true
 rw [hs4]
 refine kW 178 (ZJ q) [(1,bx 1),(2,iv 0),(23,bT)] (jK (oS (iv 1) (jE (Zb ?_))))
 refine Zd Tryz.results121 (.tmp rfl) ?_
 exact congrArg (fun x:Int=>AV.v (.int .i64 x)) ((valE_ar hs1 hs4).symm)
 have hs4f:(argB q)=false:=by simpa using hs4
 rw [hs4f]
 refine kW 178 (ZJ q) [(1,bx 1),(2,iv 0),(23,bF)] (jL (jM ?_))
 by_cases hs5:(q.sz.length:Int)=0
 refine Za (oW (oW (oW (oe (dT hs5) (jG (oS (iv 1) (jE (Zb ?_))))))))
 refine Zd Tryz.results121 (.tmp rfl) ?_
 exact congrArg (fun x:Int=>AV.v (.int .i64 x)) ((valE_st hs1 hs4f hs5).symm)
 refine Za (oW (oW (oW (oe (dF hs5) (kN 178 (ZJ q) [(1,bx 1),(2,iv 0),(27,bF)] (jJ (jM ?_)))))))
 refine YK (True) (ofL [(1,.box 27 (cFm q))]) (ofT 178 [(1,bx 1),(2,iv 0),(55,bv (tooI q))]) ?_ (fun _ => ?_)
 by_cases hs6:6<(q.sz.length:Int)
 refine Za (oW (oW (oW (og (dT hs6) (oS bT (qK (qK (qK (qK (oF bT (qK (qK (qK (qK (oF bT (qK (qK (qK (qK (oF bT (qK (qK (qK ?_)))))))))))))))))))))))
 refine qK (oS bT (kN 178 [(1,.box 27 (cFm q))] [(1,bx 1),(2,iv 0),(55,bT)] ?_))
 rw [show (tooI q)=true by simp only [tooI,Bool.or_true,Bool.true_or,Bool.or_false,Bool.false_or,Bool.and_true,Bool.true_and,Bool.and_false,Bool.false_and,Bool.not_true,Bool.not_false,hs1,hs4f,decide_eq_false hs5,decide_eq_true hs6]]
 exact tM T0
 by_cases hs7:3<(q.msgs.length:Int)
 refine Za (oW (oW (oW (og (dF hs6) (oS bF (oW (oW (oW (og (dT hs7) (oF bT (qK (qK (qK (qK (oF bT (qK (qK (qK (qK (oF bT (qK (qK (qK ?_)))))))))))))))))))))))
 refine qK (oS bT (kN 178 [(1,.box 27 (cFm q))] [(1,bx 1),(2,iv 0),(55,bT)] ?_))
 rw [show (tooI q)=true by simp only [tooI,Bool.or_true,Bool.true_or,Bool.or_false,Bool.false_or,Bool.and_true,Bool.true_and,Bool.and_false,Bool.false_and,Bool.not_true,Bool.not_false,hs1,hs4f,decide_eq_false hs5,decide_eq_false hs6,decide_eq_true hs7]]
 exact tM T0
 by_cases hs8:3<(q.vals.length:Int)
 refine Za (oW (oW (oW (og (dF hs6) (oS bF (oW (oW (oW (og (dF hs7) (oF bF (oW (oW (oW (og (dT hs8) (oF bT (qK (qK (qK (qK (oF bT (qK (qK (qK ?_)))))))))))))))))))))))
 refine qK (oS bT (kN 178 [(1,.box 27 (cFm q))] [(1,bx 1),(2,iv 0),(55,bT)] ?_))
 rw [show (tooI q)=true by simp only [tooI,Bool.or_true,Bool.true_or,Bool.or_false,Bool.false_or,Bool.and_true,Bool.true_and,Bool.and_false,Bool.false_and,Bool.not_true,Bool.not_false,hs1,hs4f,decide_eq_false hs5,decide_eq_false hs6,decide_eq_false hs7,decide_eq_true hs8]]
 exact tM T0
 by_cases hs9:4<(q.res.length:Int)
 refine Za (oW (oW (oW (og (dF hs6) (oS bF (oW (oW (oW (og (dF hs7) (oF bF (oW (oW (oW (og (dF hs8) (oF bF (oW (oW (oW (og (dT hs9) (oF bT (qK (qK (qK ?_)))))))))))))))))))))))
 refine qK (oS bT (kN 178 [(1,.box 27 (cFm q))] [(1,bx 1),(2,iv 0),(55,bT)] ?_))
 rw [show (tooI q)=true by simp only [tooI,Bool.or_true,Bool.true_or,Bool.or_false,Bool.false_or,Bool.and_true,Bool.true_and,Bool.and_false,Bool.false_and,Bool.not_true,Bool.not_false,hs1,hs4f,decide_eq_false hs5,decide_eq_false hs6,decide_eq_false hs7,decide_eq_false hs8,decide_eq_true hs9]]
 exact tM T0
 by_cases hs10:8<(q.rz.length:Int)
 refine Za (oW (oW (oW (og (dF hs6) (oS bF (oW (oW (oW (og (dF hs7) (oF bF (oW (oW (oW (og (dF hs8) (oF bF (oW (oW (oW (og (dF hs9) (oF bF (oW (oW (oW ?_)))))))))))))))))))))))
 refine og (dT hs10) (oS bT (kN 178 [(1,.box 27 (cFm q))] [(1,bx 1),(2,iv 0),(55,bT)] ?_))
 rw [show (tooI q)=true by simp only [tooI,Bool.or_true,Bool.true_or,Bool.or_false,Bool.false_or,Bool.and_true,Bool.true_and,Bool.and_false,Bool.false_and,Bool.not_true,Bool.not_false,hs1,hs4f,decide_eq_false hs5,decide_eq_false hs6,decide_eq_false hs7,decide_eq_false hs8,decide_eq_false hs9,decide_eq_true hs10]]
 exact tM T0
 refine Za (oW (oW (oW (og (dF hs6) (oS bF (oW (oW (oW (og (dF hs7) (oF bF (oW (oW (oW (og (dF hs8) (oF bF (oW (oW (oW (og (dF hs9) (oF bF (oW (oW (oW ?_)))))))))))))))))))))))
 refine og (dF hs10) (oS bF (kN 178 [(1,.box 27 (cFm q))] [(1,bx 1),(2,iv 0),(55,bF)] ?_))
 rw [show (tooI q)=false by simp only [tooI,Bool.or_true,Bool.true_or,Bool.or_false,Bool.false_or,Bool.and_true,Bool.true_and,Bool.and_false,Bool.false_and,Bool.not_true,Bool.not_false,hs1,hs4f,decide_eq_false hs5,decide_eq_false hs6,decide_eq_false hs7,decide_eq_false hs8,decide_eq_false hs9,decide_eq_false hs10]]
 exact tM T0
 refine Zi ?_
 by_cases hs11:(tooI q)=true
 rw [hs11]
 refine kW 178 (ZJ q) [(1,bx 1),(2,iv 0),(55,bT)] (jK (oS (iv 4) (jE (Zb ?_))))
 refine Zd Tryz.results121 (.tmp rfl) ?_
 exact congrArg (fun x:Int=>AV.v (.int .i64 x)) ((valE_tb hs1 hs4f hs5 hs11).symm)
 have hs11f:(tooI q)=false:=by simpa using hs11
 rw [hs11f]
 refine kW 178 (ZJ q) [(1,bx 1),(2,iv 0),(55,bF)] (jL (Zk ?_))
 refine tD (dR (sp_build0 (z:=1) (k:=2) true rfl U22 (by kernel_rfl)) T0 T0 rfl (dW (dS (KV q.sz) (dR (Zab (n:=0) (cs:=[]) (fr:=true) (m:=q.sz.length) (ds:=(q.sz.map sv)) (⟨U22,by kernel_rfl,by decide⟩:Elt Tryz.prog 22 9 1 16) (.tmp 56) (.tmp 58) rfl (fun _ d hd=>by obtain ⟨x,_,rfl⟩:=List.mem_map.1 hd;rfl) (by have:=Kc hs11f;unfold maxLen;omega) (by have:=Kc hs11f;omega) (fun d hd=>by obtain ⟨x,_,rfl⟩:=List.mem_map.1 hd;rfl) (es:=(q.sz.map sv)) (by rw [W6];rfl)) ⟨I0,I0,T0⟩ ⟨rfl,T0⟩ rfl (dW (dS (KV q.msgs) (dR (Zab (n:=(0+q.sz.length)) (cs:=(q.sz.map sv)) (fr:=true) (m:=q.msgs.length) (ds:=(q.msgs.map sv)) (⟨U22,by kernel_rfl,by decide⟩:Elt Tryz.prog 22 9 1 16) (.tmp 59) (.tmp 61) rfl (fun _ d hd=>by obtain ⟨x,_,rfl⟩:=List.mem_map.1 hd;rfl) (by have:=Kc hs11f;unfold maxLen;omega) (by have:=Kc hs11f;omega) (fun d hd=>by obtain ⟨x,_,rfl⟩:=List.mem_map.1 hd;rfl) (es:=((q.sz++q.msgs).map sv)) (by rw [W6,← List.map_append])) ⟨I0,I0,T0⟩ ⟨rfl,T0⟩ rfl (dW (dS (KV q.vals) (dR (Zab (n:=(0+q.sz.length+q.msgs.length)) (cs:=((q.sz++q.msgs).map sv)) (fr:=true) (m:=q.vals.length) (ds:=(q.vals.map sv)) (⟨U22,by kernel_rfl,by decide⟩:Elt Tryz.prog 22 9 1 16) (.tmp 62) (.tmp 64) rfl (fun _ d hd=>by obtain ⟨x,_,rfl⟩:=List.mem_map.1 hd;rfl) (by have:=Kc hs11f;unfold maxLen;omega) (by have:=Kc hs11f;omega) (fun d hd=>by obtain ⟨x,_,rfl⟩:=List.mem_map.1 hd;rfl) (es:=((nmA q).map sv)) (by rw [W6];exact nmA_map q)) ⟨I0,I0,T0⟩ ⟨rfl,T0⟩ rfl (dS (.own 2) (eD ?_))))))))))))
 refine kW 178 (XVal_h2 q) [(1,bx 1),(2,iv 0),(3,.own 2)] (jC (jB (oS (iv 0) (kN 178 (XVal_h2 q) [(1,bx 1),(2,iv 0),(3,.own 2),(4,iv 0)] (Zi ?_)))))
 refine YK (nmOk (nmA q) (nmA q).length=true) (ofL (ZJ q)) (ofT 178 [(1,bx 1)]) ?_ (fun NOK => ?_)
 refine Zl ?_
 refine ZL (σ:={k:Nat // k≤(nmA q).length∧nmOk (nmA q) k=true}) (fun s=>(ofL (ZJ q),ofT 178 [(1,bx 1),(3,.fr (.sl 1 (0+q.sz.length+q.msgs.length+q.vals.length) ((nmA q).map sv))),(4,iv s.1)])) (fun s=>(nmA q).length-s.1) ⟨0,Nat.zero_le _,rfl⟩ (Zs _ _) (fun s => ?_)
 obtain ⟨k,hk0,hs0⟩:=s
 show ETri J w0 (ofL (ZJ q)) (ofT 178 [(1,bx 1),(3,.fr (.sl 1 (0+q.sz.length+q.msgs.length+q.vals.length) ((nmA q).map sv))),(4,iv k)]) _
 have hT:=Kc hs11f
 refine jM ?_
 by_cases hs12:(k:Int)<(((0+q.sz.length+q.msgs.length+q.vals.length):Nat):Int)
 refine Za (oW (oS (.fr (.sl 1 (0+q.sz.length+q.msgs.length+q.vals.length) ((nmA q).map sv))) (Zaz rfl (nLs 67 U22) ⟨.inr (.inl rfl),T0⟩ T0 T0 (ol (dT hs12) (jH (Zq (jC (Zl (Zk ?_)))))))))
 by_cases hs13:(nameB (nmA q)[k].toList)=true
 by_cases hs14:(hasT ((nmA q).take k) (nmA q)[k])=true
 refine tD (dS (.fr (.sl 1 (0+q.sz.length+q.msgs.length+q.vals.length) ((nmA q).map sv))) (dS (iv k) (dR (xS (k*1) 72 73 U22) ⟨.inr (.inl rfl),I0,T0⟩ T0 T0 (dL (sv ((nmA q)[k])) (Zy (nmA q) (by omega)) (dk (Zj (Ye ((nmA q)[k]) (Kx HQ _ (List.getElem_mem (by omega)))) hs13) [sv ((nmA q)[k])] rfl rfl (dW (dS bF (dS (.fr (.sl 1 (0+q.sz.length+q.msgs.length+q.vals.length) ((nmA q).map sv))) (dS (iv k) (dR (Wv (l:=0) (h:=k) (ds:=((nmA q).take k).map sv) (.tmp 79) none (some (.tmp 80)) rfl U22 (by kernel_rfl) [] [(.tmp 80,iv k)] (.inl ⟨rfl,rfl,rfl⟩) (.inr ⟨_,_,rfl,rfl⟩) (Nat.zero_le _) (by omega) (by simp [List.map_take])) ⟨.inr (.inl rfl),I0,T0⟩ T0 T0 (dS (.fr (.sl 1 (0+q.sz.length+q.msgs.length+q.vals.length) ((nmA q).map sv))) (dS (iv k) (dR (xS (k*1) 82 83 U22) ⟨.inr (.inl rfl),I0,T0⟩ T0 T0 (dL (sv ((nmA q)[k])) (Zy (nmA q) (by omega)) (dk (Zj (ZcC (Kx HQ) (k:=k) (by omega) _) hs14) [.sl 1 (k-0) (((nmA q).take k).map sv),sv ((nmA q)[k])] rfl rfl (dS bT (eD ?_)))))))))))))))))
 refine kW 178 (ZJ q) (XVal_h3 q k) (Zi (jK (oS (iv 2) (jE (Zg (Zb (Zb (Zg (Yj (Zb ?_))))))))))
 refine Zd Tryz.results121 (.tmp rfl) ?_
 exact congrArg (fun x:Int=>AV.v (.int .i64 x)) (((KO ⟨hs1,hs4f,hs5,hs11f⟩).trans (val2_nm (ZcY (k:=k) (by omega) (by omega) (.inr hs14)))).symm)
 have hs14f:(hasT ((nmA q).take k) (nmA q)[k])=false:=by simpa using hs14
 refine tD (dS (.fr (.sl 1 (0+q.sz.length+q.msgs.length+q.vals.length) ((nmA q).map sv))) (dS (iv k) (dR (xS (k*1) 72 73 U22) ⟨.inr (.inl rfl),I0,T0⟩ T0 T0 (dL (sv ((nmA q)[k])) (Zy (nmA q) (by omega)) (dk (Zj (Ye ((nmA q)[k]) (Kx HQ _ (List.getElem_mem (by omega)))) hs13) [sv ((nmA q)[k])] rfl rfl (dW (dS bF (dS (.fr (.sl 1 (0+q.sz.length+q.msgs.length+q.vals.length) ((nmA q).map sv))) (dS (iv k) (dR (Wv (l:=0) (h:=k) (ds:=((nmA q).take k).map sv) (.tmp 79) none (some (.tmp 80)) rfl U22 (by kernel_rfl) [] [(.tmp 80,iv k)] (.inl ⟨rfl,rfl,rfl⟩) (.inr ⟨_,_,rfl,rfl⟩) (Nat.zero_le _) (by omega) (by simp [List.map_take])) ⟨.inr (.inl rfl),I0,T0⟩ T0 T0 (dS (.fr (.sl 1 (0+q.sz.length+q.msgs.length+q.vals.length) ((nmA q).map sv))) (dS (iv k) (dR (xS (k*1) 82 83 U22) ⟨.inr (.inl rfl),I0,T0⟩ T0 T0 (dL (sv ((nmA q)[k])) (Zy (nmA q) (by omega)) (dk (Zj (ZcC (Kx HQ) (k:=k) (by omega) _) hs14f) [.sl 1 (k-0) (((nmA q).take k).map sv),sv ((nmA q)[k])] rfl rfl (dS bF (eD ?_)))))))))))))))))
 refine kW 178 (ZJ q) [(1,bx 1),(3,.fr (.sl 1 (0+q.sz.length+q.msgs.length+q.vals.length) ((nmA q).map sv))),(4,iv k),(69,bT),(87,bF)] (Zi (ZK rfl (Zq (ZG (Zi (Za (oS (iv k) (oV ((k+1:Nat):Int) (oS (iv (k+1:Nat)) (kN 178 (ZJ q) [(1,bx 1),(3,.fr (.sl 1 (0+q.sz.length+q.msgs.length+q.vals.length) ((nmA q).map sv))),(4,iv (k+1:Nat)),(69,bT),(87,bF)] (Zi ?_)))))))))))
 refine ZD ⟨k+1,by omega,Zb9 (by omega) hs0 hs13 hs14f⟩ (show (nmA q).length-(k+1)<(nmA q).length-k by omega) ?_
 exact Zs _ _
 have hs13f:(nameB (nmA q)[k].toList)=false:=by simpa using hs13
 refine tD (dS (.fr (.sl 1 (0+q.sz.length+q.msgs.length+q.vals.length) ((nmA q).map sv))) (dS (iv k) (dR (xS (k*1) 72 73 U22) ⟨.inr (.inl rfl),I0,T0⟩ T0 T0 (dL (sv ((nmA q)[k])) (Zy (nmA q) (by omega)) (dk (Zj (Ye ((nmA q)[k]) (Kx HQ _ (List.getElem_mem (by omega)))) hs13f) [sv ((nmA q)[k])] rfl rfl (dW (dS bT (dK (dK (dK (dK (dK (dK (dK (dK (dS bT (eD ?_)))))))))))))))))
 refine kW 178 (ZJ q) (XVal_h3 q k) (Zi (jK (oS (iv 2) (jE (Zg (Zb (Zb (Zg (Yj (Zb ?_))))))))))
 refine Zd Tryz.results121 (.tmp rfl) ?_
 exact congrArg (fun x:Int=>AV.v (.int .i64 x)) (((KO ⟨hs1,hs4f,hs5,hs11f⟩).trans (val2_nm (ZcY (k:=k) (by omega) (by omega) (.inl hs13f)))).symm)
 refine Za (oW (oS (.fr (.sl 1 (0+q.sz.length+q.msgs.length+q.vals.length) ((nmA q).map sv))) (Zaz rfl (nLs 67 U22) ⟨.inr (.inl rfl),T0⟩ T0 T0 (ol (dF hs12) (kN 178 (ZJ q) [(1,bx 1),(3,.fr (.sl 1 (0+q.sz.length+q.msgs.length+q.vals.length) ((nmA q).map sv))),(4,iv k),(69,bF)] (Zi (ZK rfl (jO ?_))))))))
 exact Kq (by have:k=(nmA q).length:=(by omega);subst this;exact hs0) (Zs _ _)
 refine jC (Zk ?_)
 refine YK (True) (ofL [(1,.box 27 (cFm q))]) (ofT 178 [(1,bx 1),(124,bv (misB q))]) ?_ (fun _ => ?_)
 by_cases hs15:q.top=1
 by_cases hs16:0<(q.lz.length:Int)
 refine Za (oW (oW (on (dT' hs15) (oS bF (qK (qK (qK (qK (qK (qK (qK (qK (qK (qK (qK (qK (qK (qK (qK (qK (qK (qK (qK ?_)))))))))))))))))))))))
 refine qK (qK (oF bF (oW (oW (oe (dT hs15) (oS bT (oW (oW (oW (og (dT hs16) (oW (oS bT (kN 178 [(1,.box 27 (cFm q))] [(1,bx 1),(124,bT)] ?_)))))))))))))
 rw [show (misB q)=true by simp only [misB,Bool.or_true,Bool.true_or,Bool.or_false,Bool.false_or,Bool.and_true,Bool.true_and,Bool.and_false,Bool.false_and,Bool.not_true,Bool.not_false,hs1,hs4f,decide_eq_false hs5,hs11f,decide_eq_true hs15,decide_eq_true hs16]]
 exact tM T0
 refine Za (oW (oW (on (dT' hs15) (oS bF (qK (qK (qK (qK (qK (qK (qK (qK (qK (qK (qK (qK (qK (qK (qK (qK (qK (qK (qK ?_)))))))))))))))))))))))
 refine qK (qK (oF bF (oW (oW (oe (dT hs15) (oS bT (oW (oW (oW (og (dF hs16) (oW (oS bF (kN 178 [(1,.box 27 (cFm q))] [(1,bx 1),(124,bF)] ?_)))))))))))))
 rw [show (misB q)=false by simp only [misB,Bool.or_true,Bool.true_or,Bool.or_false,Bool.false_or,Bool.and_true,Bool.true_and,Bool.and_false,Bool.false_and,Bool.not_true,Bool.not_false,hs1,hs4f,decide_eq_false hs5,hs11f,decide_eq_true hs15,decide_eq_false hs16]]
 exact tM T0
 by_cases hs17:0<(q.msgs.length:Int)
 refine Za (oW (oW (on (dF' hs15) (oS bT (oW (oW (oW (og (dT hs17) (oS bT (qK (qK (qK (qK (oF bT (qK (qK (qK (qK (oF bT (qK (qK (qK (oW ?_)))))))))))))))))))))))
 refine oF bT (qK (qK (qK (qK (qK (qK (qK (qK (qK (oS bT (kN 178 [(1,.box 27 (cFm q))] [(1,bx 1),(124,bT)] ?_)))))))))))
 rw [show (misB q)=true by simp only [misB,Bool.or_true,Bool.true_or,Bool.or_false,Bool.false_or,Bool.and_true,Bool.true_and,Bool.and_false,Bool.false_and,Bool.not_true,Bool.not_false,hs1,hs4f,decide_eq_false hs5,hs11f,decide_eq_false hs15,decide_eq_true hs17]]
 exact tM T0
 by_cases hs18:0<(q.vals.length:Int)
 refine Za (oW (oW (on (dF' hs15) (oS bT (oW (oW (oW (og (dF hs17) (oS bF (oW (oW (oW (og (dT hs18) (oF bT (qK (qK (qK (qK (oF bT (qK (qK (qK (oW ?_)))))))))))))))))))))))
 refine oF bT (qK (qK (qK (qK (qK (qK (qK (qK (qK (oS bT (kN 178 [(1,.box 27 (cFm q))] [(1,bx 1),(124,bT)] ?_)))))))))))
 rw [show (misB q)=true by simp only [misB,Bool.or_true,Bool.true_or,Bool.or_false,Bool.false_or,Bool.and_true,Bool.true_and,Bool.and_false,Bool.false_and,Bool.not_true,Bool.not_false,hs1,hs4f,decide_eq_false hs5,hs11f,decide_eq_false hs15,decide_eq_false hs17,decide_eq_true hs18]]
 exact tM T0
 by_cases hs19:0<(q.res.length:Int)
 refine Za (oW (oW (on (dF' hs15) (oS bT (oW (oW (oW (og (dF hs17) (oS bF (oW (oW (oW (og (dF hs18) (oF bF (oW (oW (oW (og (dT hs19) (oF bT (qK (qK (qK (oW ?_)))))))))))))))))))))))
 refine oF bT (qK (qK (qK (qK (qK (qK (qK (qK (qK (oS bT (kN 178 [(1,.box 27 (cFm q))] [(1,bx 1),(124,bT)] ?_)))))))))))
 rw [show (misB q)=true by simp only [misB,Bool.or_true,Bool.true_or,Bool.or_false,Bool.false_or,Bool.and_true,Bool.true_and,Bool.and_false,Bool.false_and,Bool.not_true,Bool.not_false,hs1,hs4f,decide_eq_false hs5,hs11f,decide_eq_false hs15,decide_eq_false hs17,decide_eq_false hs18,decide_eq_true hs19]]
 exact tM T0
 by_cases hs20:q.fz=0
 refine Za (oW (oW (on (dF' hs15) (oS bT (oW (oW (oW (og (dF hs17) (oS bF (oW (oW (oW (og (dF hs18) (oF bF (oW (oW (oW (og (dF hs19) (oF bF (oW (oW (on (dT' hs20) (oW ?_)))))))))))))))))))))))
 refine oF bF (oW (oW (oe (dF hs15) (oS bF (qK (qK (qK (qK (oW (oS bF (kN 178 [(1,.box 27 (cFm q))] [(1,bx 1),(124,bF)] ?_)))))))))))
 rw [show (misB q)=false by simp only [misB,Bool.or_true,Bool.true_or,Bool.or_false,Bool.false_or,Bool.and_true,Bool.true_and,Bool.and_false,Bool.false_and,Bool.not_true,Bool.not_false,hs1,hs4f,decide_eq_false hs5,hs11f,decide_eq_false hs15,decide_eq_false hs17,decide_eq_false hs18,decide_eq_false hs19,decide_eq_true hs20]]
 exact tM T0
 refine Za (oW (oW (on (dF' hs15) (oS bT (oW (oW (oW (og (dF hs17) (oS bF (oW (oW (oW (og (dF hs18) (oF bF (oW (oW (oW (og (dF hs19) (oF bF (oW (oW (on (dF' hs20) (oW ?_)))))))))))))))))))))))
 refine oF bT (qK (qK (qK (qK (qK (qK (qK (qK (qK (oS bT (kN 178 [(1,.box 27 (cFm q))] [(1,bx 1),(124,bT)] ?_)))))))))))
 rw [show (misB q)=true by simp only [misB,Bool.or_true,Bool.true_or,Bool.or_false,Bool.false_or,Bool.and_true,Bool.true_and,Bool.and_false,Bool.false_and,Bool.not_true,Bool.not_false,hs1,hs4f,decide_eq_false hs5,hs11f,decide_eq_false hs15,decide_eq_false hs17,decide_eq_false hs18,decide_eq_false hs19,decide_eq_false hs20]]
 exact tM T0
 refine Zi ?_
 by_cases hs21:(misB q)=true
 rw [hs21]
 refine kW 178 (ZJ q) [(1,bx 1),(124,bT)] (jK (oS (iv 1) (jE (Zb ?_))))
 refine Zd Tryz.results121 (.tmp rfl) ?_
 exact congrArg (fun x:Int=>AV.v (.int .i64 x)) (((KO ⟨hs1,hs4f,hs5,hs11f⟩).trans (val2_mis NOK hs21)).symm)
 have hs21f:(misB q)=false:=by simpa using hs21
 rw [hs21f]
 refine kW 178 (ZJ q) [(1,bx 1),(124,bF)] (jL (jM (Za (oS (iv 0) (kN 178 (ZJ q) [(1,bx 1),(5,iv 0)] (Zi ?_))))))
 refine YK (resB2 q q.res.length=false) (ofL (ZJ q)) (ofT 178 [(1,bx 1)]) ?_ (fun RES => ?_)
 refine Zl ?_
 refine ZL (σ:={k:Nat // k≤q.res.length∧resB2 q k=false}) (fun s=>(ofL (ZJ q),ofT 178 [(1,bx 1),(5,iv s.1)])) (fun s=>q.res.length-s.1) ⟨0,Nat.zero_le _,rfl⟩ (Zs _ _) (fun s => ?_)
 obtain ⟨k,hk0,hs0⟩:=s
 show ETri J w0 (ofL (ZJ q)) (ofT 178 [(1,bx 1),(5,iv k)]) _
 refine jM ?_
 by_cases hs22:(k:Int)<(q.res.length:Int)
 refine Za (oW (oW (oW (oW (ol (dT hs22) (jH (Zq (jC (Zl (Zk ?_))))))))))
 by_cases hs23:(smL q.res[k].c q.res[k].n q.res[k].t q.res[k].f)=true
 refine Za (oF (slA 4 cLn q.res) (oS (iv k) (oC (xS (k*4) 133 134 U23) I0 I0 (oA (ZW (z:=4) (.tmp 135) rfl U179 rfl (by kernel_rfl) (Ym lenLn q.res k (by omega)) rfl) I0 (oK (Zj (few_c q.res[k]) hs23) [.agg (cLn q.res[k])] rfl rfl (oS bF (jI (Zq (ZG (Zi (Za (oS (iv k) (oV ((k+1:Nat):Int) (oS (iv (k+1:Nat)) (kN 178 (ZJ q) [(1,bx 1),(5,iv (k+1:Nat)),(129,bT),(138,bF)] (Zi ?_))))))))))))))))
 refine ZD ⟨k+1,by omega,resB2_succ (by omega) hs0 hs23⟩ (show q.res.length-(k+1)<q.res.length-k by omega) ?_
 exact Zs _ _
 have hs23f:(smL q.res[k].c q.res[k].n q.res[k].t q.res[k].f)=false:=by simpa using hs23
 refine Za (oF (slA 4 cLn q.res) (oS (iv k) (oC (xS (k*4) 133 134 U23) I0 I0 (oA (ZW (z:=4) (.tmp 135) rfl U179 rfl (by kernel_rfl) (Ym lenLn q.res k (by omega)) rfl) I0 (oK (Zj (few_c q.res[k]) hs23f) [.agg (cLn q.res[k])] rfl rfl (oS bT (jG (oS (iv 4) (jE (Zg (Zb (Zb (Zg (Yj (Zb ?_)))))))))))))))
 refine Zd Tryz.results121 (.tmp rfl) ?_
 exact congrArg (fun x:Int=>AV.v (.int .i64 x)) (((KO ⟨hs1,hs4f,hs5,hs11f⟩).trans (val2_res NOK hs21f (resB2_yes (k:=k) (by omega) hs23f))).symm)
 refine Za (oW (oW (oW (oW (ol (dF hs22) (kN 178 (ZJ q) [(1,bx 1),(5,iv k),(129,bF)] (Zi (ZK rfl (jO ?_)))))))))
 exact Kq (by have:k=q.res.length:=(by omega);subst this;exact hs0) (Zs _ _)
 refine jC (jB (oW (oW (oW (oW (oW (oK (WN q.sz.length HQ.lstates q.init HQ.init) [Zc q.init,iv q.sz.length] rfl rfl (oS (iv (setE q.sz.length q.init)) (jD ?_)))))))))
 by_cases hs24:setE q.sz.length q.init=0
 refine Za (oW (on (dT' hs24) (jF (jM ?_))))
 by_cases hs25:(q.init.length:Int)=0
 refine Za (oW (oW (oW (oe (dT hs25) (jG (oS (iv 1) (jE (Zb ?_))))))))
 refine Zd Tryz.results121 (.tmp rfl) ?_
 exact congrArg (fun x:Int=>AV.v (.int .i64 x)) (((KO ⟨hs1,hs4f,hs5,hs11f⟩).trans ((ZaK NOK hs21f RES).trans (val3_n hs25))).symm)
 refine Za (oW (oW (oW (oe (dF hs25) (jF (jM (Za (oW (oW (oW (oW (oW (oK (WN q.sz.length HQ.lstates q.lz HQ.lz) [Zc q.lz,iv q.sz.length] rfl rfl (oS (iv (setE q.sz.length q.lz)) (jD ?_)))))))))))))))
 by_cases hs26:setE q.sz.length q.lz=0
 refine Za (oW (on (dT' hs26) (jF (jM (Za (oS (iv 0) (kN 178 (ZJ q) [(1,bx 1),(8,iv 0)] (Zi ?_))))))))
 refine YK (rulOk q q.rz.length) (ofL (ZJ q)) (ofT 178 [(1,bx 1)]) ?_ (fun RUL => ?_)
 refine Zl ?_
 refine ZL (σ:={k:Nat // k≤q.rz.length∧rulOk q k}) (fun s=>(ofL (ZJ q),ofT 178 [(1,bx 1),(8,iv s.1)])) (fun s=>q.rz.length-s.1) ⟨0,Nat.zero_le _,rulOk_zero q⟩ (Zs _ _) (fun s => ?_)
 obtain ⟨k,hk0,hs0⟩:=s
 show ETri J w0 (ofL (ZJ q)) (ofT 178 [(1,bx 1),(8,iv k)]) _
 refine jM ?_
 by_cases hs27:(k:Int)<(q.rz.length:Int)
 refine Za (oW (oW (oW (oW (ol (dT hs27) (jH (Zq (jC (Zl (jB (oW (oW (oK (rrule_c HQ (i:=k) (by omega)) [.agg (cFm q),iv k] rfl rfl (oS (iv (rruleE q k q.rz[k])) (jD ?_)))))))))))))))
 by_cases hs28:rruleE q k q.rz[k]=0
 refine Za (oW (on (dT' hs28) (jI (Zq (ZG (Zi (Za (oS (iv k) (oV ((k+1:Nat):Int) (oS (iv (k+1:Nat)) (kN 178 (ZJ q) [(1,bx 1),(8,iv (k+1:Nat)),(9,iv (rruleE q k q.rz[k])),(165,bT),(172,bF)] (Zi ?_))))))))))))
 refine ZD ⟨k+1,by omega,rulOk_succ (by omega) hs0 hs28⟩ (show q.rz.length-(k+1)<q.rz.length-k by omega) ?_
 exact Zs _ _
 refine Za (oW (on (dF' hs28) (jG (oF (iv (rruleE q k q.rz[k])) (jE (Zg (Zb (Zb (Zg (Yj (Zb ?_)))))))))))
 refine Zd Tryz.results121 (.tmp rfl) ?_
 exact congrArg (fun x:Int=>AV.v (.int .i64 x)) (((KO ⟨hs1,hs4f,hs5,hs11f⟩).trans ((ZaK NOK hs21f RES).trans (val3_r ⟨hs24,hs25⟩ hs26 hs5 (k:=k) (by omega) hs0 hs28))).symm)
 refine Za (oW (oW (oW (oW (ol (dF hs27) (kN 178 (ZJ q) [(1,bx 1),(8,iv k),(165,bF)] (Zi (ZK rfl (jO ?_)))))))))
 exact Kq (by have:k=q.rz.length:=(by omega);subst this;exact hs0) (Zs _ _)
 refine jC (Zk ?_)
 by_cases hs29:3<(((diffG q.rz).length:Nat):Int)
 refine Za (oW (oK (Za4 HQ (Kc hs11f).2.2.2.2 (ZaT hs5 RUL)) [.agg (cFm q)] rfl rfl (Zaz rfl (nLs 175 U96) ⟨.inr (.inl rfl),T0⟩ T0 T0 (og (dT hs29) (kN 178 [] [(177,bT)] (Zi (jK (oS (iv 4) (jE (Zb ?_))))))))))
 refine Zd Tryz.results121 (.tmp rfl) ?_
 exact congrArg (fun x:Int=>AV.v (.int .i64 x)) (((KO ⟨hs1,hs4f,hs5,hs11f⟩).trans ((ZaK NOK hs21f RES).trans (val3_d ⟨hs24,hs25⟩ hs26 hs5 RUL hs29))).symm)
 refine Za (oW (oK (Za4 HQ (Kc hs11f).2.2.2.2 (ZaT hs5 RUL)) [.agg (cFm q)] rfl rfl (Zaz rfl (nLs 175 U96) ⟨.inr (.inl rfl),T0⟩ T0 T0 (og (dF hs29) (kN 178 [] [(177,bF)] (jJ (jB (oS (iv 0) (jE ?_)))))))))
 refine Zd Tryz.results121 (.tmp rfl) ?_
 exact congrArg (fun x:Int=>AV.v (.int .i64 x)) (((KO ⟨hs1,hs4f,hs5,hs11f⟩).trans ((ZaK NOK hs21f RES).trans (val3_0 ⟨hs24,hs25⟩ hs26 hs5 RUL hs29))).symm)
 refine Za (oW (on (dF' hs26) (jG (oF (iv (setE q.sz.length q.lz)) (jE (Zb ?_))))))
 refine Zd Tryz.results121 (.tmp rfl) ?_
 exact congrArg (fun x:Int=>AV.v (.int .i64 x)) (((KO ⟨hs1,hs4f,hs5,hs11f⟩).trans ((ZaK NOK hs21f RES).trans (val3_l ⟨hs24,hs25⟩ hs26))).symm)
 refine Za (oW (on (dF' hs24) (jG (oF (iv (setE q.sz.length q.init)) (jE (Zb ?_))))))
 refine Zd Tryz.results121 (.tmp rfl) ?_
 exact congrArg (fun x:Int=>AV.v (.int .i64 x)) (((KO ⟨hs1,hs4f,hs5,hs11f⟩).trans ((ZaK NOK hs21f RES).trans (val3_i hs24))).symm)
 have hs1f:(nameB q.nm.toList)=false:=by simpa using hs1
 refine Za (oW (oW (oK (Zj (Ye q.nm HQ.nm) hs1f) [sv q.nm] rfl rfl (oS bT (jG (oS (iv 2) (jE (Zb ?_))))))))
 refine Zd Tryz.results121 (.tmp rfl) ?_
 exact congrArg (fun x:Int=>AV.v (.int .i64 x)) ((valE_nm hs1f).symm)
end Go.Proofs.YthefecaefbeidaaGreat
