import Derived.Test.YtengacodacejiaaGrpglmclemb
import Derived.Test.YtengacodacejiaaGrpflkjneac
set_option linter.all false
namespace Go.Proofs.Ytengacodacejiaa
open Go.RowKit Go.Deep
variable {J:World→Prop}
set_option maxRecDepth 100000 in
set_option maxHeartbeats 6400000 in
theorem rrule_c {q:Fm} (HQ:FmOk q) {i:Nat} (hi:i<q.rules.length):Ctr Try.prog J 57 [.agg (cFm q),iv i] (iv (rruleE q i q.rules[i])):=by
 have HR:=HQ.rules q.rules[i] (List.getElem_mem hi)
 have l1:=HQ.lstates
 have l2:=HQ.lmsgs
 have l3:=HQ.lvals
 have l4:=HQ.lrules
 have l5:=HR.lresp
 have l6:=HR.lguards
 refine ZJ Try.func57 rfl (by intro X hX;simp only [List.mem_cons,List.not_mem_nil,or_false] at hX;rcases hX with rfl | rfl;exact Zt (YN q);exact .v _) (n:=276) rfl (by simp) (fun w0 => ?_)
 refine kW 276 [] [(0,.agg (cFm q)),(1,iv i)] (Zb (Za (ZQ rfl (YC (X := .agg (cFm q)) (k:=1) (.tmp 0) rfl rfl) ⟨I0,T0⟩ T0 rfl (pM (aC (.int .i64 0)) (Ze (Zc (Zb ?_)))))))
 refine Zu (dA (fb 9 2 U27 1) I0 (dB (lb (slA 18 cRu q.rules) 18 U25) I0 rfl (dM (mT 1 (iv i)) (dC (xS (i*18) 19 20 U25) I0 I0 (dA (ZF (z:=18) (.tmp 21) rfl U65 rfl (by kernel_rfl) (Kh lenRu q.rules i (by omega)) rfl) I0 (dA (fb 2 2 U27 1) I0 (dB (lb (Zw q.states) 23 U22) I0 rfl (dA (nS 24 U22) I0 (dR (Z0 (z := .agg #[.string (⟨#[]⟩),.int .i64 0,.int .i64 0,.int .i64 0,.int .i64 0,.int .i64 0,.slice none 0 0,.slice none 0 0,.slice none 0 0,.slice none 0 0,.int .i64 0,.int .i64 0,.slice none 0 0,.int .i64 0,.slice none 0 0,.slice none 0 0,.slice none 0 0,.int .i64 0]) (k:=2) rfl (by kernel_rfl)) T0 T0 rfl (dR (sB 18 5 (.tmp 22) (.agg (cRu q.rules[i]))) ⟨I0,I0,T0⟩ ⟨rfl,T0⟩ rfl (dM (aT 25 (iv q.states.length)) (dE ?_)))))))))))) (by kernel_rfl)
 show ETri J w0 _ _ _
 refine kW 276 [(1,.box 27 (cFm q)),(2,.box 65 (cRu q.rules[i]))] [(1,iv i),(2,.box 1 0),(4,iv 0),(5,.box 2 0),(6,iv q.states.length)] (Zc (Zb (Zb ?_)))
 by_cases hs1:(nameB q.rules[i].nm.toList)=true
 refine Za (oA (fb 0 5 U65 1) I0 (oB (lb (sv q.rules[i].nm) 26 U9) I0 rfl (oC (sc #[.tmp 27] [] (ZS (YV q.rules[i].nm HR.nm) hs1) [sv q.rules[i].nm] rfl rfl rfl) I0 I0 (oA (Zq rfl rfl) I0 (Ze (Zc (Zo rfl (Zn (Zc (Zb (Zb (Za (pM (aC (.int .i64 0)) (kN 276 [(1,.box 27 (cFm q)),(2,.box 65 (cRu q.rules[i]))] [(1,iv i),(2,.box 1 0),(4,iv 0),(5,.box 2 0),(6,iv q.states.length),(7,iv 0)] (Zc ?_)))))))))))))))
 refine Y6 (hasR (q.rules.take i) q.rules[i].nm=false) (ofL [(1,.box 27 (cFm q)),(2,.box 65 (cRu q.rules[i]))]) (ofT 276 [(2,.box 1 0),(5,.box 2 0),(6,iv q.states.length)]) ?_ (fun HNO => ?_)
 refine ZE ?_
 refine Yp (σ:={k:Nat // k≤i∧hasR (q.rules.take k) q.rules[i].nm=false}) (fun s=>(ofL [(1,.box 27 (cFm q)),(2,.box 65 (cRu q.rules[i]))],ofT 276 [(1,iv i),(2,.box 1 0),(5,.box 2 0),(6,iv q.states.length),(7,iv s.1)])) (fun s=>i-s.1) ⟨0,Nat.zero_le _,rfl⟩ (Zj _ _ rfl (by kernel_rfl) (by kernel_rfl)) (fun s => ?_)
 obtain ⟨k,hk0,hs0⟩:=s
 show ETri J w0 (ofL [(1,.box 27 (cFm q)),(2,.box 65 (cRu q.rules[i]))]) (ofT 276 [(1,iv i),(2,.box 1 0),(5,.box 2 0),(6,iv q.states.length),(7,iv k)]) _
 refine Zb (Zb ?_)
 by_cases hs2:((k:Nat):Int)<((i:Nat):Int)
 refine Za (pM (mT 7 (iv k)) (pM (mT 1 (iv i)) (oC (Z5 rfl (dT hs2)) I0 I0 (Ze (Zc (Zm rfl (Zn (Zc (Zb (ZE (Zb ?_)))))))))))
 by_cases hs3:(q.rules[k].nm.toList==q.rules[i].nm.toList)=true
 refine Zu (dA (fb 9 2 U27 1) I0 (dB (lb (slA 18 cRu q.rules) 35 U25) I0 rfl (dM (mT 7 (iv k)) (dC (xS (k*18) 36 37 U25) I0 I0 (dA (fe (k*18) 38 U65 1) I0 (dA (lE (sv q.rules[k].nm) 39 U9 ((ZA lenRu q.rules k 0 (by omega) (by decide)).trans rfl)) I0 (dA (fb 0 5 U65 1) I0 (dB (lb (sv q.rules[i].nm) 41 U9) I0 rfl (dC (sp_seql rfl hs3) I0 I0 (dE ?_)))))))))) (by kernel_rfl)
 show ETri J w0 _ _ _
 refine kW 276 [(1,.box 27 (cFm q)),(2,.box 65 (cRu q.rules[i]))] [(1,iv i),(2,.box 1 0),(5,.box 2 0),(6,iv q.states.length),(7,iv k),(32,bT),(43,bT)] (Zc (Zm rfl (Zb (Za (pM (aC (.int .i64 2)) (Ze (Zc (Zk (Zv (Zh (Zh (Zv (Y1 (Zh ?_))))))))))))))
 refine Zl Try.results57 (.tmp rfl) ?_
 exact congrArg (fun x:Int=>AV.v (.int .i64 x)) ((rruleE_nm (.inr (hasR_take (k:=k) (by omega) hi hs3))).symm)
 have hs3f:(q.rules[k].nm.toList==q.rules[i].nm.toList)=false:=by simpa using hs3
 refine Zu (dA (fb 9 2 U27 1) I0 (dB (lb (slA 18 cRu q.rules) 35 U25) I0 rfl (dM (mT 7 (iv k)) (dC (xS (k*18) 36 37 U25) I0 I0 (dA (fe (k*18) 38 U65 1) I0 (dA (lE (sv q.rules[k].nm) 39 U9 ((ZA lenRu q.rules k 0 (by omega) (by decide)).trans rfl)) I0 (dA (fb 0 5 U65 1) I0 (dB (lb (sv q.rules[i].nm) 41 U9) I0 rfl (dC (sp_seql rfl hs3f) I0 I0 (dE ?_)))))))))) (by kernel_rfl)
 show ETri J w0 _ _ _
 refine kW 276 [(1,.box 27 (cFm q)),(2,.box 65 (cRu q.rules[i]))] [(1,iv i),(2,.box 1 0),(5,.box 2 0),(6,iv q.states.length),(7,iv k),(32,bT),(43,bF)] (Zc (Zo rfl (Zn (ZX (Zc (Za (pM (mT 7 (iv k)) (oC (Yj (c:=((k+1:Nat):Int)) rfl (w64 (by omega) (by omega) (by omega))) I0 I0 (pM (aT 34 (iv (k+1:Nat))) (kN 276 [(1,.box 27 (cFm q)),(2,.box 65 (cRu q.rules[i]))] [(1,iv i),(2,.box 1 0),(5,.box 2 0),(6,iv q.states.length),(7,iv (k+1:Nat)),(32,bT),(43,bF)] (Zc ?_)))))))))))
 refine ZZ ⟨k+1,by omega,hasR_next (by omega) hs0 hs3f⟩ (show i-(k+1)<i-k by omega) ?_
 exact Zj _ _ rfl (by kernel_rfl) (by kernel_rfl)
 refine Za (pM (mT 7 (iv k)) (pM (mT 1 (iv i)) (oC (Z5 rfl (dF hs2)) I0 I0 (kN 276 [(1,.box 27 (cFm q)),(2,.box 65 (cRu q.rules[i]))] [(1,iv i),(2,.box 1 0),(5,.box 2 0),(6,iv q.states.length),(7,iv k),(32,bF)] (Zc (Zo rfl (Yn (Zy (Zy (t_hit ?_))))))))))
 exact Zr (by have:k=i:=(by omega);subst this;exact hs0) (Zj _ _ rfl (by kernel_rfl) (by kernel_rfl))
 refine Zc (Zb (Zb ?_))
 refine Y6 (True) (ofL [(1,.box 27 (cFm q)),(2,.box 65 (cRu q.rules[i]))]) (ofT 276 [(2,.box 1 0),(5,.box 2 0),(6,iv q.states.length),(61,bv (!(rkindB q.rules[i] q.top)))]) ?_ (fun _ => ?_)
 by_cases hs4:(inB 1 5 q.rules[i].kind)=true
 by_cases hs5:q.rules[i].kind≤3
 by_cases hs6:q.top=1
 by_cases hs7:(Ky q.rules[i] q.top)=true
 refine Za (oA (fb 1 5 U65 1) I0 (oB (lb (iv q.rules[i].kind) 44 U3) I0 rfl (ZQ rfl (sc #[.tmp 45,.const (.int .i64 1),.const (.int .i64 5)] [] (ZS (ZH q.rules[i].kind 1 5) hs4) [iv q.rules[i].kind,iv 1,iv 5] rfl rfl rfl) ⟨I0,I0,I0,I0,T0⟩ T0 T0 (oA (Zq rfl rfl) I0 (pM (mT 47 bF) (gA (fb 1 5 U65 1) I0 (gB (lb (iv q.rules[i].kind) 49 U3) I0 rfl (gC (sp_leq rfl (dT hs5)) I0 I0 (gA (fb 1 2 U27 1) I0 (gB (lb (iv q.top) 52 U3) I0 rfl (gC (Zp rfl (dT hs6)) I0 I0 (gC (sp_bneq rfl U4 rfl) I0 I0 (pP (pk false bT bF rfl) (pM (mT 56 bF) (gB (lS (cFm q) 10 2 U27) I0 rfl (gB (lS (cRu q.rules[i]) 18 5 U65) I0 rfl (gD (sc #[.tmp 58,.tmp 59] [] (ZS (unused_c (kind_in hs4) HQ HR) hs7) [.agg (cFm q),.agg (cRu q.rules[i])] rfl rfl rfl) I0 I0 I0 (pP (pk false bT bT rfl) (kN 276 [(1,.box 27 (cFm q)),(2,.box 65 (cRu q.rules[i]))] [(2,.box 1 0),(5,.box 2 0),(6,iv q.states.length),(61,bT)] ?_)))))))))))))))))))
 rw [show (!rkindB q.rules[i] q.top)=true by unfold rkindB;rw [hs7];simp [hs1,hs4,hs5,hs6,hs7]]
 exact Zr T0 (Zj _ _ rfl (by kernel_rfl) (by kernel_rfl))
 have hs7f:(Ky q.rules[i] q.top)=false:=by simpa using hs7
 refine Za (oA (fb 1 5 U65 1) I0 (oB (lb (iv q.rules[i].kind) 44 U3) I0 rfl (ZQ rfl (sc #[.tmp 45,.const (.int .i64 1),.const (.int .i64 5)] [] (ZS (ZH q.rules[i].kind 1 5) hs4) [iv q.rules[i].kind,iv 1,iv 5] rfl rfl rfl) ⟨I0,I0,I0,I0,T0⟩ T0 T0 (oA (Zq rfl rfl) I0 (pM (mT 47 bF) (gA (fb 1 5 U65 1) I0 (gB (lb (iv q.rules[i].kind) 49 U3) I0 rfl (gC (sp_leq rfl (dT hs5)) I0 I0 (gA (fb 1 2 U27 1) I0 (gB (lb (iv q.top) 52 U3) I0 rfl (gC (Zp rfl (dT hs6)) I0 I0 (gC (sp_bneq rfl U4 rfl) I0 I0 (pP (pk false bT bF rfl) (pM (mT 56 bF) (gB (lS (cFm q) 10 2 U27) I0 rfl (gB (lS (cRu q.rules[i]) 18 5 U65) I0 rfl (gD (sc #[.tmp 58,.tmp 59] [] (ZS (unused_c (kind_in hs4) HQ HR) hs7f) [.agg (cFm q),.agg (cRu q.rules[i])] rfl rfl rfl) I0 I0 I0 (pP (pk false bT bF rfl) (kN 276 [(1,.box 27 (cFm q)),(2,.box 65 (cRu q.rules[i]))] [(2,.box 1 0),(5,.box 2 0),(6,iv q.states.length),(61,bF)] ?_)))))))))))))))))))
 rw [show (!rkindB q.rules[i] q.top)=false by unfold rkindB;rw [hs7f];simp [hs1,hs4,hs5,hs6,hs7f]]
 exact Zr T0 (Zj _ _ rfl (by kernel_rfl) (by kernel_rfl))
 refine Za (oA (fb 1 5 U65 1) I0 (oB (lb (iv q.rules[i].kind) 44 U3) I0 rfl (ZQ rfl (sc #[.tmp 45,.const (.int .i64 1),.const (.int .i64 5)] [] (ZS (ZH q.rules[i].kind 1 5) hs4) [iv q.rules[i].kind,iv 1,iv 5] rfl rfl rfl) ⟨I0,I0,I0,I0,T0⟩ T0 T0 (oA (Zq rfl rfl) I0 (pM (mT 47 bF) (gA (fb 1 5 U65 1) I0 (gB (lb (iv q.rules[i].kind) 49 U3) I0 rfl (gC (sp_leq rfl (dT hs5)) I0 I0 (gA (fb 1 2 U27 1) I0 (gB (lb (iv q.top) 52 U3) I0 rfl (gC (Zp rfl (dF hs6)) I0 I0 (gC (sp_bneq rfl U4 rfl) I0 I0 (pP (pk false bT bT rfl) (pM (mT 56 bT) (qK (qK (qK (pP (pk true bT (.v (.tuple #[])) rfl) (kN 276 [(1,.box 27 (cFm q)),(2,.box 65 (cRu q.rules[i]))] [(2,.box 1 0),(5,.box 2 0),(6,iv q.states.length),(61,bT)] ?_)))))))))))))))))))
 rw [show (!rkindB q.rules[i] q.top)=true by unfold rkindB;simp [hs1,hs4,hs5,hs6]]
 exact Zr T0 (Zj _ _ rfl (by kernel_rfl) (by kernel_rfl))
 by_cases hs8:q.top=1
 refine Za (oA (fb 1 5 U65 1) I0 (oB (lb (iv q.rules[i].kind) 44 U3) I0 rfl (ZQ rfl (sc #[.tmp 45,.const (.int .i64 1),.const (.int .i64 5)] [] (ZS (ZH q.rules[i].kind 1 5) hs4) [iv q.rules[i].kind,iv 1,iv 5] rfl rfl rfl) ⟨I0,I0,I0,I0,T0⟩ T0 T0 (oA (Zq rfl rfl) I0 (pM (mT 47 bF) (gA (fb 1 5 U65 1) I0 (gB (lb (iv q.rules[i].kind) 49 U3) I0 rfl (gC (sp_leq rfl (dF hs5)) I0 I0 (gA (fb 1 2 U27 1) I0 (gB (lb (iv q.top) 52 U3) I0 rfl (gC (Zp rfl (dT hs8)) I0 I0 (gC (sp_bneq rfl U4 rfl) I0 I0 (pP (pk false bT bT rfl) (pM (mT 56 bT) (qK (qK (qK (pP (pk true bT (.v (.tuple #[])) rfl) (kN 276 [(1,.box 27 (cFm q)),(2,.box 65 (cRu q.rules[i]))] [(2,.box 1 0),(5,.box 2 0),(6,iv q.states.length),(61,bT)] ?_)))))))))))))))))))
 rw [show (!rkindB q.rules[i] q.top)=true by unfold rkindB;simp [hs1,hs4,hs5,hs8]]
 exact Zr T0 (Zj _ _ rfl (by kernel_rfl) (by kernel_rfl))
 by_cases hs9:(Ky q.rules[i] q.top)=true
 refine Za (oA (fb 1 5 U65 1) I0 (oB (lb (iv q.rules[i].kind) 44 U3) I0 rfl (ZQ rfl (sc #[.tmp 45,.const (.int .i64 1),.const (.int .i64 5)] [] (ZS (ZH q.rules[i].kind 1 5) hs4) [iv q.rules[i].kind,iv 1,iv 5] rfl rfl rfl) ⟨I0,I0,I0,I0,T0⟩ T0 T0 (oA (Zq rfl rfl) I0 (pM (mT 47 bF) (gA (fb 1 5 U65 1) I0 (gB (lb (iv q.rules[i].kind) 49 U3) I0 rfl (gC (sp_leq rfl (dF hs5)) I0 I0 (gA (fb 1 2 U27 1) I0 (gB (lb (iv q.top) 52 U3) I0 rfl (gC (Zp rfl (dF hs8)) I0 I0 (gC (sp_bneq rfl U4 rfl) I0 I0 (pP (pk false bT bF rfl) (pM (mT 56 bF) (gB (lS (cFm q) 10 2 U27) I0 rfl (gB (lS (cRu q.rules[i]) 18 5 U65) I0 rfl (gD (sc #[.tmp 58,.tmp 59] [] (ZS (unused_c (kind_in hs4) HQ HR) hs9) [.agg (cFm q),.agg (cRu q.rules[i])] rfl rfl rfl) I0 I0 I0 (pP (pk false bT bT rfl) (kN 276 [(1,.box 27 (cFm q)),(2,.box 65 (cRu q.rules[i]))] [(2,.box 1 0),(5,.box 2 0),(6,iv q.states.length),(61,bT)] ?_)))))))))))))))))))
 rw [show (!rkindB q.rules[i] q.top)=true by unfold rkindB;rw [hs9];simp [hs1,hs4,hs5,hs8,hs9]]
 exact Zr T0 (Zj _ _ rfl (by kernel_rfl) (by kernel_rfl))
 have hs9f:(Ky q.rules[i] q.top)=false:=by simpa using hs9
 refine Za (oA (fb 1 5 U65 1) I0 (oB (lb (iv q.rules[i].kind) 44 U3) I0 rfl (ZQ rfl (sc #[.tmp 45,.const (.int .i64 1),.const (.int .i64 5)] [] (ZS (ZH q.rules[i].kind 1 5) hs4) [iv q.rules[i].kind,iv 1,iv 5] rfl rfl rfl) ⟨I0,I0,I0,I0,T0⟩ T0 T0 (oA (Zq rfl rfl) I0 (pM (mT 47 bF) (gA (fb 1 5 U65 1) I0 (gB (lb (iv q.rules[i].kind) 49 U3) I0 rfl (gC (sp_leq rfl (dF hs5)) I0 I0 (gA (fb 1 2 U27 1) I0 (gB (lb (iv q.top) 52 U3) I0 rfl (gC (Zp rfl (dF hs8)) I0 I0 (gC (sp_bneq rfl U4 rfl) I0 I0 (pP (pk false bT bF rfl) (pM (mT 56 bF) (gB (lS (cFm q) 10 2 U27) I0 rfl (gB (lS (cRu q.rules[i]) 18 5 U65) I0 rfl (gD (sc #[.tmp 58,.tmp 59] [] (ZS (unused_c (kind_in hs4) HQ HR) hs9f) [.agg (cFm q),.agg (cRu q.rules[i])] rfl rfl rfl) I0 I0 I0 (pP (pk false bT bF rfl) (kN 276 [(1,.box 27 (cFm q)),(2,.box 65 (cRu q.rules[i]))] [(2,.box 1 0),(5,.box 2 0),(6,iv q.states.length),(61,bF)] ?_)))))))))))))))))))
 rw [show (!rkindB q.rules[i] q.top)=false by unfold rkindB;rw [hs9f];simp [hs1,hs4,hs5,hs8,hs9f]]
 exact Zr T0 (Zj _ _ rfl (by kernel_rfl) (by kernel_rfl))
 have hs4f:(inB 1 5 q.rules[i].kind)=false:=by simpa using hs4
 refine Za (oA (fb 1 5 U65 1) I0 (oB (lb (iv q.rules[i].kind) 44 U3) I0 rfl (ZQ rfl (sc #[.tmp 45,.const (.int .i64 1),.const (.int .i64 5)] [] (ZS (ZH q.rules[i].kind 1 5) hs4f) [iv q.rules[i].kind,iv 1,iv 5] rfl rfl rfl) ⟨I0,I0,I0,I0,T0⟩ T0 T0 (oA (Zq rfl rfl) I0 (pM (mT 47 bT) (qK (qK (qK (qK (qK (qK (qK (pP (pk true bT (.v (.tuple #[])) rfl) (pM (mT 56 bT) (qK (qK (qK (pP (pk true bT (.v (.tuple #[])) rfl) (kN 276 [(1,.box 27 (cFm q)),(2,.box 65 (cRu q.rules[i]))] [(2,.box 1 0),(5,.box 2 0),(6,iv q.states.length),(61,bT)] ?_)))))))))))))))))))
 rw [show (!rkindB q.rules[i] q.top)=true by unfold rkindB;simp [hs1,hs4f]]
 exact Zr T0 (Zj _ _ rfl (by kernel_rfl) (by kernel_rfl))
 refine Zc ?_
 by_cases hs10:(rkindB q.rules[i] q.top)=true
 rw [hs10]
 refine kW 276 [(1,.box 27 (cFm q)),(2,.box 65 (cRu q.rules[i]))] [(2,.box 1 0),(5,.box 2 0),(6,iv q.states.length),(61,bF)] (Zo rfl (Zn (Zc (Zb ?_))))
 refine Y6 (True) (ofL [(1,.box 27 (cFm q)),(2,.box 65 (cRu q.rules[i]))]) (ofT 276 [(2,.box 1 0),(5,.box 2 0),(6,iv q.states.length),(8,bv (twoB q.rules[i]))]) ?_ (fun _ => ?_)
 by_cases hs11:q.rules[i].kind=2
 refine Za (oA (fb 1 5 U65 1) I0 (oB (lb (iv q.rules[i].kind) 62 U3) I0 rfl (oC (Zp rfl (dT hs11)) I0 I0 (pM (mT 64 bT) (qK (qK (qK (pP (pk true bT (.v (.tuple #[])) rfl) (pM (aT 69 bT) (kN 276 [(1,.box 27 (cFm q)),(2,.box 65 (cRu q.rules[i]))] [(2,.box 1 0),(5,.box 2 0),(6,iv q.states.length),(8,bT)] ?_))))))))))
 rw [show (twoB q.rules[i])=true by first | (simp [twoB,hs1,hs10,hs11];done) | (simp [twoB,inB,hs1,hs10,hs11];done)]
 exact Zr T0 (Zj _ _ rfl (by kernel_rfl) (by kernel_rfl))
 refine Za (oA (fb 1 5 U65 1) I0 (oB (lb (iv q.rules[i].kind) 62 U3) I0 rfl (oC (Zp rfl (dF hs11)) I0 I0 (pM (mT 64 bF) (gA (fb 1 5 U65 1) I0 (gB (lb (iv q.rules[i].kind) 66 U3) I0 rfl (gC (Zp rfl rfl) I0 I0 (pP (pk false bT (bv (decide (q.rules[i].kind=5))) rfl) (pM (aT 69 (bv (decide (q.rules[i].kind=5)))) (kN 276 [(1,.box 27 (cFm q)),(2,.box 65 (cRu q.rules[i]))] [(2,.box 1 0),(5,.box 2 0),(6,iv q.states.length),(8,bv (decide (q.rules[i].kind=5)))] ?_))))))))))
 rw [show (twoB q.rules[i])=(decide (q.rules[i].kind=5)) by first | (simp [twoB,hs1,hs10,hs11];done) | (simp [twoB,inB,hs1,hs10,hs11];done)]
 exact Zr T0 (Zj _ _ rfl (by kernel_rfl) (by kernel_rfl))
 refine Zc (Zb (Zb ?_))
 refine Y6 (True) (ofL [(1,.box 27 (cFm q)),(2,.box 65 (cRu q.rules[i]))]) (ofT 276 [(2,.box 1 0),(5,.box 2 0),(6,iv q.states.length),(102,bv (!(rstB q.rules[i] q.states.length)))]) ?_ (fun _ => ?_)
 by_cases hs12:(inB 0 (((q.states.length:Nat):Int)-1) q.rules[i].frm)=true
 by_cases hs13:(inB 0 (((q.states.length:Nat):Int)-1) q.rules[i].to)=true
 by_cases hs14:(twoB q.rules[i])=true
 rw [hs14]
 refine kW 276 [(1,.box 27 (cFm q)),(2,.box 65 (cRu q.rules[i]))] [(2,.box 1 0),(5,.box 2 0),(6,iv q.states.length),(8,bT)] ?_
 by_cases hs15:(inB 0 (((q.states.length:Nat):Int)-1) q.rules[i].pf)=true
 by_cases hs16:(inB 0 (((q.states.length:Nat):Int)-1) q.rules[i].pt)=true
 refine Za (oA (fb 2 5 U65 1) I0 (oB (lb (iv q.rules[i].frm) 70 U3) I0 rfl (pM (mT 6 (iv q.states.length)) (oC (Yt (c:=((q.states.length:Nat):Int)-1) rfl (w64 (by omega) (by omega) (by omega))) I0 I0 (ZQ rfl (sc #[.tmp 71,.const (.int .i64 0),.tmp 73] [] (ZS (ZH q.rules[i].frm 0 (((q.states.length:Nat):Int)-1)) hs12) [iv q.rules[i].frm,iv 0,iv (((q.states.length:Nat):Int)-1)] rfl rfl rfl) ⟨I0,I0,I0,I0,T0⟩ T0 T0 (oA (Zq rfl rfl) I0 (pM (mT 75 bF) (gA (fb 3 5 U65 1) I0 (gB (lb (iv q.rules[i].to) 77 U3) I0 rfl (qM (mT 6 (iv q.states.length)) (gC (Yt (c:=((q.states.length:Nat):Int)-1) rfl (w64 (by omega) (by omega) (by omega))) I0 I0 (Y0 rfl (sc #[.tmp 78,.const (.int .i64 0),.tmp 80] [] (ZS (ZH q.rules[i].to 0 (((q.states.length:Nat):Int)-1)) hs13) [iv q.rules[i].to,iv 0,iv (((q.states.length:Nat):Int)-1)] rfl rfl rfl) ⟨I0,I0,I0,I0,T0⟩ T0 T0 (gA (Zq rfl rfl) I0 (pP (pk false bT bF rfl) (pM (mT 83 bF) (qM (mT 8 bT) (qM (mT 85 bT) (gA (fb 4 5 U65 1) I0 (gB (lb (iv q.rules[i].pf) 87 U3) I0 rfl (qM (mT 6 (iv q.states.length)) (gC (Yt (c:=((q.states.length:Nat):Int)-1) rfl (w64 (by omega) (by omega) (by omega))) I0 I0 (Y0 rfl (sc #[.tmp 88,.const (.int .i64 0),.tmp 90] [] (ZS (ZH q.rules[i].pf 0 (((q.states.length:Nat):Int)-1)) hs15) [iv q.rules[i].pf,iv 0,iv (((q.states.length:Nat):Int)-1)] rfl rfl rfl) ⟨I0,I0,I0,I0,T0⟩ T0 T0 (gA (Zq rfl rfl) I0 ?_)))))))))))))))))))))))
 refine qM (mT 92 bF) (gA (fb 5 5 U65 1) I0 (gB (lb (iv q.rules[i].pt) 94 U3) I0 rfl (qM (mT 6 (iv q.states.length)) (gC (Yt (c:=((q.states.length:Nat):Int)-1) rfl (w64 (by omega) (by omega) (by omega))) I0 I0 (Y0 rfl (sc #[.tmp 95,.const (.int .i64 0),.tmp 97] [] (ZS (ZH q.rules[i].pt 0 (((q.states.length:Nat):Int)-1)) hs16) [iv q.rules[i].pt,iv 0,iv (((q.states.length:Nat):Int)-1)] rfl rfl rfl) ⟨I0,I0,I0,I0,T0⟩ T0 T0 (gA (Zq rfl rfl) I0 (qP (pk false bT bF rfl) (qP (pk true bF bF rfl) (pP (pk false bT bF rfl) (kN 276 [(1,.box 27 (cFm q)),(2,.box 65 (cRu q.rules[i]))] [(2,.box 1 0),(5,.box 2 0),(6,iv q.states.length),(102,bF)] ?_))))))))))
 rw [show (!rstB q.rules[i] q.states.length)=false by first | (simp [Y4,ixB,hs1,hs10,hs12,hs13,hs14,hs15,hs16];done) | (simp [Y4,ixB,inB,hs1,hs10,hs12,hs13,hs14,hs15,hs16];done)]
 exact Zr T0 (Zj _ _ rfl (by kernel_rfl) (by kernel_rfl))
 have hs16f:(inB 0 (((q.states.length:Nat):Int)-1) q.rules[i].pt)=false:=by simpa using hs16
 refine Za (oA (fb 2 5 U65 1) I0 (oB (lb (iv q.rules[i].frm) 70 U3) I0 rfl (pM (mT 6 (iv q.states.length)) (oC (Yt (c:=((q.states.length:Nat):Int)-1) rfl (w64 (by omega) (by omega) (by omega))) I0 I0 (ZQ rfl (sc #[.tmp 71,.const (.int .i64 0),.tmp 73] [] (ZS (ZH q.rules[i].frm 0 (((q.states.length:Nat):Int)-1)) hs12) [iv q.rules[i].frm,iv 0,iv (((q.states.length:Nat):Int)-1)] rfl rfl rfl) ⟨I0,I0,I0,I0,T0⟩ T0 T0 (oA (Zq rfl rfl) I0 (pM (mT 75 bF) (gA (fb 3 5 U65 1) I0 (gB (lb (iv q.rules[i].to) 77 U3) I0 rfl (qM (mT 6 (iv q.states.length)) (gC (Yt (c:=((q.states.length:Nat):Int)-1) rfl (w64 (by omega) (by omega) (by omega))) I0 I0 (Y0 rfl (sc #[.tmp 78,.const (.int .i64 0),.tmp 80] [] (ZS (ZH q.rules[i].to 0 (((q.states.length:Nat):Int)-1)) hs13) [iv q.rules[i].to,iv 0,iv (((q.states.length:Nat):Int)-1)] rfl rfl rfl) ⟨I0,I0,I0,I0,T0⟩ T0 T0 (gA (Zq rfl rfl) I0 (pP (pk false bT bF rfl) (pM (mT 83 bF) (qM (mT 8 bT) (qM (mT 85 bT) (gA (fb 4 5 U65 1) I0 (gB (lb (iv q.rules[i].pf) 87 U3) I0 rfl (qM (mT 6 (iv q.states.length)) (gC (Yt (c:=((q.states.length:Nat):Int)-1) rfl (w64 (by omega) (by omega) (by omega))) I0 I0 (Y0 rfl (sc #[.tmp 88,.const (.int .i64 0),.tmp 90] [] (ZS (ZH q.rules[i].pf 0 (((q.states.length:Nat):Int)-1)) hs15) [iv q.rules[i].pf,iv 0,iv (((q.states.length:Nat):Int)-1)] rfl rfl rfl) ⟨I0,I0,I0,I0,T0⟩ T0 T0 (gA (Zq rfl rfl) I0 ?_)))))))))))))))))))))))
 refine qM (mT 92 bF) (gA (fb 5 5 U65 1) I0 (gB (lb (iv q.rules[i].pt) 94 U3) I0 rfl (qM (mT 6 (iv q.states.length)) (gC (Yt (c:=((q.states.length:Nat):Int)-1) rfl (w64 (by omega) (by omega) (by omega))) I0 I0 (Y0 rfl (sc #[.tmp 95,.const (.int .i64 0),.tmp 97] [] (ZS (ZH q.rules[i].pt 0 (((q.states.length:Nat):Int)-1)) hs16f) [iv q.rules[i].pt,iv 0,iv (((q.states.length:Nat):Int)-1)] rfl rfl rfl) ⟨I0,I0,I0,I0,T0⟩ T0 T0 (gA (Zq rfl rfl) I0 (qP (pk false bT bT rfl) (qP (pk true bT bF rfl) (pP (pk false bT bT rfl) (kN 276 [(1,.box 27 (cFm q)),(2,.box 65 (cRu q.rules[i]))] [(2,.box 1 0),(5,.box 2 0),(6,iv q.states.length),(102,bT)] ?_))))))))))
 rw [show (!rstB q.rules[i] q.states.length)=true by first | (simp [Y4,ixB,hs1,hs10,hs12,hs13,hs14,hs15,hs16f];done) | (simp [Y4,ixB,inB,hs1,hs10,hs12,hs13,hs14,hs15,hs16f];done)]
 exact Zr T0 (Zj _ _ rfl (by kernel_rfl) (by kernel_rfl))
 have hs15f:(inB 0 (((q.states.length:Nat):Int)-1) q.rules[i].pf)=false:=by simpa using hs15
 refine Za (oA (fb 2 5 U65 1) I0 (oB (lb (iv q.rules[i].frm) 70 U3) I0 rfl (pM (mT 6 (iv q.states.length)) (oC (Yt (c:=((q.states.length:Nat):Int)-1) rfl (w64 (by omega) (by omega) (by omega))) I0 I0 (ZQ rfl (sc #[.tmp 71,.const (.int .i64 0),.tmp 73] [] (ZS (ZH q.rules[i].frm 0 (((q.states.length:Nat):Int)-1)) hs12) [iv q.rules[i].frm,iv 0,iv (((q.states.length:Nat):Int)-1)] rfl rfl rfl) ⟨I0,I0,I0,I0,T0⟩ T0 T0 (oA (Zq rfl rfl) I0 (pM (mT 75 bF) (gA (fb 3 5 U65 1) I0 (gB (lb (iv q.rules[i].to) 77 U3) I0 rfl (qM (mT 6 (iv q.states.length)) (gC (Yt (c:=((q.states.length:Nat):Int)-1) rfl (w64 (by omega) (by omega) (by omega))) I0 I0 (Y0 rfl (sc #[.tmp 78,.const (.int .i64 0),.tmp 80] [] (ZS (ZH q.rules[i].to 0 (((q.states.length:Nat):Int)-1)) hs13) [iv q.rules[i].to,iv 0,iv (((q.states.length:Nat):Int)-1)] rfl rfl rfl) ⟨I0,I0,I0,I0,T0⟩ T0 T0 (gA (Zq rfl rfl) I0 (pP (pk false bT bF rfl) (pM (mT 83 bF) (qM (mT 8 bT) (qM (mT 85 bT) (gA (fb 4 5 U65 1) I0 (gB (lb (iv q.rules[i].pf) 87 U3) I0 rfl (qM (mT 6 (iv q.states.length)) (gC (Yt (c:=((q.states.length:Nat):Int)-1) rfl (w64 (by omega) (by omega) (by omega))) I0 I0 (Y0 rfl (sc #[.tmp 88,.const (.int .i64 0),.tmp 90] [] (ZS (ZH q.rules[i].pf 0 (((q.states.length:Nat):Int)-1)) hs15f) [iv q.rules[i].pf,iv 0,iv (((q.states.length:Nat):Int)-1)] rfl rfl rfl) ⟨I0,I0,I0,I0,T0⟩ T0 T0 (gA (Zq rfl rfl) I0 ?_)))))))))))))))))))))))
 refine qM (mT 92 bT) (qK (qK (qK (qK (qK (qK (qP (pk true bT (.v (.tuple #[])) rfl) (qP (pk true bT bF rfl) (pP (pk false bT bT rfl) (kN 276 [(1,.box 27 (cFm q)),(2,.box 65 (cRu q.rules[i]))] [(2,.box 1 0),(5,.box 2 0),(6,iv q.states.length),(102,bT)] ?_))))))))))
 rw [show (!rstB q.rules[i] q.states.length)=true by first | (simp [Y4,ixB,hs1,hs10,hs12,hs13,hs14,hs15f];done) | (simp [Y4,ixB,inB,hs1,hs10,hs12,hs13,hs14,hs15f];done)]
 exact Zr T0 (Zj _ _ rfl (by kernel_rfl) (by kernel_rfl))
 have hs14f:(twoB q.rules[i])=false:=by simpa using hs14
 rw [hs14f]
 refine kW 276 [(1,.box 27 (cFm q)),(2,.box 65 (cRu q.rules[i]))] [(2,.box 1 0),(5,.box 2 0),(6,iv q.states.length),(8,bF)] (Za (oA (fb 2 5 U65 1) I0 (oB (lb (iv q.rules[i].frm) 70 U3) I0 rfl (pM (mT 6 (iv q.states.length)) (oC (Yt (c:=((q.states.length:Nat):Int)-1) rfl (w64 (by omega) (by omega) (by omega))) I0 I0 (ZQ rfl (sc #[.tmp 71,.const (.int .i64 0),.tmp 73] [] (ZS (ZH q.rules[i].frm 0 (((q.states.length:Nat):Int)-1)) hs12) [iv q.rules[i].frm,iv 0,iv (((q.states.length:Nat):Int)-1)] rfl rfl rfl) ⟨I0,I0,I0,I0,T0⟩ T0 T0 (oA (Zq rfl rfl) I0 (pM (mT 75 bF) (gA (fb 3 5 U65 1) I0 (gB (lb (iv q.rules[i].to) 77 U3) I0 rfl (qM (mT 6 (iv q.states.length)) (gC (Yt (c:=((q.states.length:Nat):Int)-1) rfl (w64 (by omega) (by omega) (by omega))) I0 I0 (Y0 rfl (sc #[.tmp 78,.const (.int .i64 0),.tmp 80] [] (ZS (ZH q.rules[i].to 0 (((q.states.length:Nat):Int)-1)) hs13) [iv q.rules[i].to,iv 0,iv (((q.states.length:Nat):Int)-1)] rfl rfl rfl) ⟨I0,I0,I0,I0,T0⟩ T0 T0 (gA (Zq rfl rfl) I0 (pP (pk false bT bF rfl) (pM (mT 83 bF) (qM (mT 8 bF) (qM (mT 85 bF) (qK (qK (qK (qK (qK ?_)))))))))))))))))))))))
 refine qK (qK (qK (qK (qK (qK (qK (qK (qK (qP (pk false (.v (.tuple #[])) bF rfl) (pP (pk false bT bF rfl) (kN 276 [(1,.box 27 (cFm q)),(2,.box 65 (cRu q.rules[i]))] [(2,.box 1 0),(5,.box 2 0),(6,iv q.states.length),(102,bF)] ?_)))))))))))
 rw [show (!rstB q.rules[i] q.states.length)=false by first | (simp [Y4,ixB,hs1,hs10,hs12,hs13,hs14f];done) | (simp [Y4,ixB,inB,hs1,hs10,hs12,hs13,hs14f];done)]
 exact Zr T0 (Zj _ _ rfl (by kernel_rfl) (by kernel_rfl))
 have hs13f:(inB 0 (((q.states.length:Nat):Int)-1) q.rules[i].to)=false:=by simpa using hs13
 refine Za (oA (fb 2 5 U65 1) I0 (oB (lb (iv q.rules[i].frm) 70 U3) I0 rfl (pM (mT 6 (iv q.states.length)) (oC (Yt (c:=((q.states.length:Nat):Int)-1) rfl (w64 (by omega) (by omega) (by omega))) I0 I0 (ZQ rfl (sc #[.tmp 71,.const (.int .i64 0),.tmp 73] [] (ZS (ZH q.rules[i].frm 0 (((q.states.length:Nat):Int)-1)) hs12) [iv q.rules[i].frm,iv 0,iv (((q.states.length:Nat):Int)-1)] rfl rfl rfl) ⟨I0,I0,I0,I0,T0⟩ T0 T0 (oA (Zq rfl rfl) I0 (pM (mT 75 bF) (gA (fb 3 5 U65 1) I0 (gB (lb (iv q.rules[i].to) 77 U3) I0 rfl (qM (mT 6 (iv q.states.length)) (gC (Yt (c:=((q.states.length:Nat):Int)-1) rfl (w64 (by omega) (by omega) (by omega))) I0 I0 (Y0 rfl (sc #[.tmp 78,.const (.int .i64 0),.tmp 80] [] (ZS (ZH q.rules[i].to 0 (((q.states.length:Nat):Int)-1)) hs13f) [iv q.rules[i].to,iv 0,iv (((q.states.length:Nat):Int)-1)] rfl rfl rfl) ⟨I0,I0,I0,I0,T0⟩ T0 T0 (gA (Zq rfl rfl) I0 (pP (pk false bT bT rfl) (pM (mT 83 bT) (qK (qK (qK (qK (qK (qK (qK (qK ?_)))))))))))))))))))))))
 refine qK (qK (qK (qK (qK (qK (qK (qK (qK (pP (pk true bT (.v (.tuple #[])) rfl) (kN 276 [(1,.box 27 (cFm q)),(2,.box 65 (cRu q.rules[i]))] [(2,.box 1 0),(5,.box 2 0),(6,iv q.states.length),(102,bT)] ?_))))))))))
 rw [show (!rstB q.rules[i] q.states.length)=true by first | (simp [Y4,ixB,hs1,hs10,hs12,hs13f];done) | (simp [Y4,ixB,inB,hs1,hs10,hs12,hs13f];done)]
 exact Zr T0 (Zj _ _ rfl (by kernel_rfl) (by kernel_rfl))
 have hs12f:(inB 0 (((q.states.length:Nat):Int)-1) q.rules[i].frm)=false:=by simpa using hs12
 refine Za (oA (fb 2 5 U65 1) I0 (oB (lb (iv q.rules[i].frm) 70 U3) I0 rfl (pM (mT 6 (iv q.states.length)) (oC (Yt (c:=((q.states.length:Nat):Int)-1) rfl (w64 (by omega) (by omega) (by omega))) I0 I0 (ZQ rfl (sc #[.tmp 71,.const (.int .i64 0),.tmp 73] [] (ZS (ZH q.rules[i].frm 0 (((q.states.length:Nat):Int)-1)) hs12f) [iv q.rules[i].frm,iv 0,iv (((q.states.length:Nat):Int)-1)] rfl rfl rfl) ⟨I0,I0,I0,I0,T0⟩ T0 T0 (oA (Zq rfl rfl) I0 (pM (mT 75 bT) (qK (qK (qK (qK (qK (qK (pP (pk true bT (.v (.tuple #[])) rfl) (pM (mT 83 bT) (qK (qK (qK (qK (qK (qK (qK (qK ?_)))))))))))))))))))))))
 refine qK (qK (qK (qK (qK (qK (qK (qK (qK (pP (pk true bT (.v (.tuple #[])) rfl) (kN 276 [(1,.box 27 (cFm q)),(2,.box 65 (cRu q.rules[i]))] [(2,.box 1 0),(5,.box 2 0),(6,iv q.states.length),(102,bT)] ?_))))))))))
 rw [show (!rstB q.rules[i] q.states.length)=true by first | (simp [Y4,ixB,hs1,hs10,hs12f];done) | (simp [Y4,ixB,inB,hs1,hs10,hs12f];done)]
 exact Zr T0 (Zj _ _ rfl (by kernel_rfl) (by kernel_rfl))
 refine Zc ?_
 by_cases hs17:(rstB q.rules[i] q.states.length)=true
 rw [hs17]
 refine kW 276 [(1,.box 27 (cFm q)),(2,.box 65 (cRu q.rules[i]))] [(2,.box 1 0),(5,.box 2 0),(6,iv q.states.length),(102,bF)] (Zo rfl (Zn (Zc (Zb (Zb (Za (oA (fb 1 5 U65 1) I0 (oB (lb (iv q.rules[i].kind) 103 U3) I0 rfl (oC (Zp rfl rfl) I0 I0 (kN 276 [(1,.box 27 (cFm q)),(2,.box 65 (cRu q.rules[i]))] [(2,.box 1 0),(5,.box 2 0),(6,iv q.states.length),(105,bv (decide (q.rules[i].kind=3)))] (Zc ?_)))))))))))
 refine Y6 (reX q q.rules[i]=0) (ofL [(1,.box 27 (cFm q)),(2,.box 65 (cRu q.rules[i]))]) (ofT 276 [(2,.box 1 0),(5,.box 2 0),(6,iv q.states.length)]) ?_ (fun HRX => ?_)
 by_cases hs18:q.rules[i].kind=3
 rw [dT hs18]
 refine kW 276 [(1,.box 27 (cFm q)),(2,.box 65 (cRu q.rules[i]))] [(2,.box 1 0),(5,.box 2 0),(6,iv q.states.length),(105,bT)] (Zm rfl (Zb (Zb ?_)))
 by_cases hs19:((q.rules[i].resp.length:Nat):Int)=((q.states.length:Nat):Int)
 refine Za (oA (fb 6 5 U65 1) I0 (oB (lb (Zd q.rules[i].resp) 106 U24) I0 rfl (oA (nS 107 U24) I0 (pM (mT 6 (iv q.states.length)) (oC (Zs rfl (dT' hs19)) I0 I0 (Ze (Zc (Zo rfl (Zn (Zc (Zb (Za (pM (aC (.int .i64 0)) (kN 276 [(1,.box 27 (cFm q)),(2,.box 65 (cRu q.rules[i]))] [(2,.box 1 0),(5,.box 2 0),(6,iv q.states.length),(9,iv 0)] (Zc (ZE ?_))))))))))))))))
 refine Yp (σ:={k:Nat // k≤q.states.length∧allK q.states.length q.rules[i].resp k=true}) (fun s=>(ofL [(1,.box 27 (cFm q)),(2,.box 65 (cRu q.rules[i]))],ofT 276 [(2,.box 1 0),(5,.box 2 0),(6,iv q.states.length),(9,iv s.1)])) (fun s=>q.states.length-s.1) ⟨0,Nat.zero_le _,rfl⟩ (Zj _ _ rfl (by kernel_rfl) (by kernel_rfl)) (fun s => ?_)
 obtain ⟨k,hk0,hs0⟩:=s
 show ETri J w0 (ofL [(1,.box 27 (cFm q)),(2,.box 65 (cRu q.rules[i]))]) (ofT 276 [(2,.box 1 0),(5,.box 2 0),(6,iv q.states.length),(9,iv k)]) _
 refine Zb (Zb ?_)
 by_cases hs20:((k:Nat):Int)<((q.states.length:Nat):Int)
 refine Za (pM (mT 9 (iv k)) (pM (mT 6 (iv q.states.length)) (oC (Z5 rfl (dT hs20)) I0 I0 (Ze (Zc (Zm rfl (Zn (Zc (Zb (ZE (Zb ?_)))))))))))
 by_cases hs21:(inB 0 (((q.states.length:Nat):Int)-1) q.rules[i].resp[k])=true
 refine Za (oA (fb 6 5 U65 1) I0 (oB (lb (Zd q.rules[i].resp) 116 U24) I0 rfl (pM (mT 9 (iv k)) (oC (xS (k*1) 117 118 U24) I0 I0 (oA (lE (iv q.rules[i].resp[k]) 119 U3 (Kk q.rules[i].resp (by omega))) I0 (pM (mT 6 (iv q.states.length)) (oC (Yt (c:=((q.states.length:Nat):Int)-1) rfl (w64 (by omega) (by omega) (by omega))) I0 I0 (ZQ rfl (sc #[.tmp 120,.const (.int .i64 0),.tmp 122] [] (ZS (ZH q.rules[i].resp[k] 0 (((q.states.length:Nat):Int)-1)) hs21) [iv q.rules[i].resp[k],iv 0,iv (((q.states.length:Nat):Int)-1)] rfl rfl rfl) ⟨I0,I0,I0,I0,T0⟩ T0 T0 (oA (Zq rfl rfl) I0 (Ze (Zc (Zo rfl (Zn (ZX (Zc (Za (pM (mT 9 (iv k)) (oC (Yj (c:=((k+1:Nat):Int)) rfl (w64 (by omega) (by omega) (by omega))) I0 I0 (pM (aT 115 (iv (k+1:Nat))) (kN 276 [(1,.box 27 (cFm q)),(2,.box 65 (cRu q.rules[i]))] [(2,.box 1 0),(5,.box 2 0),(6,iv q.states.length),(9,iv (k+1:Nat)),(113,bT),(124,bF)] (Zc ?_)))))))))))))))))))))
 refine ZZ ⟨k+1,by omega,allK_succ (by omega) hs0 hs21⟩ (show q.states.length-(k+1)<q.states.length-k by omega) ?_
 exact Zj _ _ rfl (by kernel_rfl) (by kernel_rfl)
 have hs21f:(inB 0 (((q.states.length:Nat):Int)-1) q.rules[i].resp[k])=false:=by simpa using hs21
 refine Za (oA (fb 6 5 U65 1) I0 (oB (lb (Zd q.rules[i].resp) 116 U24) I0 rfl (pM (mT 9 (iv k)) (oC (xS (k*1) 117 118 U24) I0 I0 (oA (lE (iv q.rules[i].resp[k]) 119 U3 (Kk q.rules[i].resp (by omega))) I0 (pM (mT 6 (iv q.states.length)) (oC (Yt (c:=((q.states.length:Nat):Int)-1) rfl (w64 (by omega) (by omega) (by omega))) I0 I0 (ZQ rfl (sc #[.tmp 120,.const (.int .i64 0),.tmp 122] [] (ZS (ZH q.rules[i].resp[k] 0 (((q.states.length:Nat):Int)-1)) hs21f) [iv q.rules[i].resp[k],iv 0,iv (((q.states.length:Nat):Int)-1)] rfl rfl rfl) ⟨I0,I0,I0,I0,T0⟩ T0 T0 (oA (Zq rfl rfl) I0 (Ze (Zc (Zm rfl (Zb (Za (pM (aC (.int .i64 5)) (Ze (Zc (Zk (Zv (Zh (Zh (Zv (Y1 ?_)))))))))))))))))))))))
 refine Zh ?_
 refine Zl Try.results57 (.tmp rfl) ?_
 exact congrArg (fun x:Int=>AV.v (.int .i64 x)) (Eq.trans (part_1b hs18 (by omega) (k:=k) (by omega) hs21f).symm (Z8 hs1 HNO hs10 hs17).symm)
 refine Za (pM (mT 9 (iv k)) (pM (mT 6 (iv q.states.length)) (oC (Z5 rfl (dF hs20)) I0 I0 (kN 276 [(1,.box 27 (cFm q)),(2,.box 65 (cRu q.rules[i]))] [(2,.box 1 0),(5,.box 2 0),(6,iv q.states.length),(9,iv k),(113,bF)] (Zc (Zo rfl (Yn (Zy (Zy (t_hit ?_))))))))))
 exact Zr (by have:k=q.states.length:=(by omega);subst this;exact reX_ok hs18 (by omega) hs0) (Zj _ _ rfl (by kernel_rfl) (by kernel_rfl))
 refine Za (oA (fb 6 5 U65 1) I0 (oB (lb (Zd q.rules[i].resp) 106 U24) I0 rfl (oA (nS 107 U24) I0 (pM (mT 6 (iv q.states.length)) (oC (Zs rfl (dF' hs19)) I0 I0 (Ze (Zc (Zm rfl (Zb (Za (pM (aC (.int .i64 1)) (Ze (Zc (Zk (Zh (Y1 (Zh ?_)))))))))))))))))
 refine Zl Try.results57 (.tmp rfl) ?_
 exact congrArg (fun x:Int=>AV.v (.int .i64 x)) (Eq.trans (part_1a hs18 (by omega)).symm (Z8 hs1 HNO hs10 hs17).symm)
 rw [dF hs18]
 refine kW 276 [(1,.box 27 (cFm q)),(2,.box 65 (cRu q.rules[i]))] [(2,.box 1 0),(5,.box 2 0),(6,iv q.states.length),(105,bF)] (Zo rfl (Zn ?_))
 exact Zr (reX_no hs18) (Zj _ _ rfl (by kernel_rfl) (by kernel_rfl))
 refine Zc (Zb (Zb (Za (pM (aC (.int .i64 0)) (kN 276 [(1,.box 27 (cFm q)),(2,.box 65 (cRu q.rules[i]))] [(2,.box 1 0),(5,.box 2 0),(6,iv q.states.length),(10,iv 0)] (Zc ?_))))))
 refine Y6 (gusE q.msgs.length q.rules[i].guards=0) (ofL [(1,.box 27 (cFm q)),(2,.box 65 (cRu q.rules[i]))]) (ofT 276 [(2,.box 1 0),(5,.box 2 0),(6,iv q.states.length)]) ?_ (fun HG => ?_)
 refine ZE ?_
 refine Yp (σ:={k:Nat // k≤q.rules[i].guards.length∧gusE q.msgs.length (q.rules[i].guards.take k)=0}) (fun s=>(ofL [(1,.box 27 (cFm q)),(2,.box 65 (cRu q.rules[i]))],ofT 276 [(2,.box 1 0),(5,.box 2 0),(6,iv q.states.length),(10,iv s.1)])) (fun s=>q.rules[i].guards.length-s.1) ⟨0,Nat.zero_le _,rfl⟩ (Zj _ _ rfl (by kernel_rfl) (by kernel_rfl)) (fun s => ?_)
 obtain ⟨k,hk0,hs0⟩:=s
 show ETri J w0 (ofL [(1,.box 27 (cFm q)),(2,.box 65 (cRu q.rules[i]))]) (ofT 276 [(2,.box 1 0),(5,.box 2 0),(6,iv q.states.length),(10,iv k)]) _
 refine Zb (Zb ?_)
 by_cases hs22:((k:Nat):Int)<((q.rules[i].guards.length:Nat):Int)
 refine Za (pM (mT 10 (iv k)) (oA (fb 7 5 U65 1) I0 (oB (lb (slA 6 cTh q.rules[i].guards) 126 U63) I0 rfl (oA (nS 127 U63) I0 (oC (Z5 rfl (dT hs22)) I0 I0 (Ze (Zc (Zm rfl (Zn (Zc (Zb (ZE (Zb (Za (oA (fb 7 5 U65 1) I0 (oB (lb (slA 6 cTh q.rules[i].guards) 132 U63) I0 rfl (pM (mT 10 (iv k)) (oC (xS (k*6) 133 134 U63) I0 I0 (oA (ZF (z:=6) (.tmp 135) rfl U128 rfl (by kernel_rfl) (Kh lenTh q.rules[i].guards k (by omega)) rfl) I0 (ZQ rfl (Z0 (z := .agg #[.int .i64 0,.int .i64 0,.int .i64 0,.int .i64 0,.int .i64 0,.int .i64 0]) (k:=3) rfl (by kernel_rfl)) T0 T0 rfl (ZQ rfl (sB 6 11 (.tmp 136) (.agg (cTh q.rules[i].guards[k]))) ⟨I0,I0,T0⟩ ⟨rfl,T0⟩ rfl (Ze (Zc ?_)))))))))))))))))))))))
 refine Zb (Zb ?_)
 by_cases hs23:(inB 0 (((q.msgs.length:Nat):Int)-1) q.rules[i].guards[k].msg)=true
 refine Za (oA (fb 0 11 U128 1) I0 (oB (lb (iv q.rules[i].guards[k].msg) 137 U3) I0 rfl (oA (fb 3 2 U27 1) I0 (oB (lb (Zw q.msgs) 139 U22) I0 rfl (oA (nS 140 U22) I0 (oC (Yt (c:=((q.msgs.length:Nat):Int)-1) rfl (w64 (by omega) (by omega) (by omega))) I0 I0 (ZQ rfl (sc #[.tmp 138,.const (.int .i64 0),.tmp 142] [] (ZS (ZH q.rules[i].guards[k].msg 0 (((q.msgs.length:Nat):Int)-1)) hs23) [iv q.rules[i].guards[k].msg,iv 0,iv (((q.msgs.length:Nat):Int)-1)] rfl rfl rfl) ⟨I0,I0,I0,I0,T0⟩ T0 T0 (oA (Zq rfl rfl) I0 (Ze (Zc (Zo rfl (Zn (Zc (Zb (Zb ?_)))))))))))))))
 by_cases hs24:(inB 1 100 q.rules[i].guards[k].coef)=true
 refine Za (oA (fb 1 11 U128 1) I0 (oB (lb (iv q.rules[i].guards[k].coef) 145 U3) I0 rfl (ZQ rfl (sc #[.tmp 146,.const (.int .i64 1),.const (.int .i64 100)] [] (ZS (ZH q.rules[i].guards[k].coef 1 100) hs24) [iv q.rules[i].guards[k].coef,iv 1,iv 100] rfl rfl rfl) ⟨I0,I0,I0,I0,T0⟩ T0 T0 (oA (Zq rfl rfl) I0 (Ze (Zc (Zo rfl (Zn (Zc (Zb ?_))))))))))
 by_cases hs25:(smL q.rules[i].guards[k].bd.c q.rules[i].guards[k].bd.n q.rules[i].guards[k].bd.t q.rules[i].guards[k].bd.f)=true
 refine Za (oA (fb 2 11 U128 4) I0 (oB (lS ([iv q.rules[i].guards[k].bd.c,iv q.rules[i].guards[k].bd.n,iv q.rules[i].guards[k].bd.t,iv q.rules[i].guards[k].bd.f]) 4 149 U122) I0 rfl (oC (sc #[.tmp 150] [] (ZS (few_c q.rules[i].guards[k].bd) hs25) [.agg [iv q.rules[i].guards[k].bd.c,iv q.rules[i].guards[k].bd.n,iv q.rules[i].guards[k].bd.t,iv q.rules[i].guards[k].bd.f]] rfl rfl rfl) I0 I0 (oA (Zq rfl rfl) I0 (Ze (Zc (Zo rfl (Zn (ZX (Zc (Za (pM (mT 10 (iv k)) (oC (Yj (c:=((k+1:Nat):Int)) rfl (w64 (by omega) (by omega) (by omega))) I0 I0 (pM (aT 131 (iv (k+1:Nat))) (kN 276 [(1,.box 27 (cFm q)),(2,.box 65 (cRu q.rules[i])),(3,.box 128 (cTh q.rules[i].guards[k]))] [(2,.box 1 0),(5,.box 2 0),(6,iv q.states.length),(10,iv (k+1:Nat)),(11,.box 3 0),(129,bT),(144,bF),(148,bF),(152,bF)] (Zc ?_))))))))))))))))
 refine ZZ ⟨k+1,by omega,gusE_succ (by omega) hs0 (guE_4 hs23 hs24 hs25)⟩ (show q.rules[i].guards.length-(k+1)<q.rules[i].guards.length-k by omega) ?_
 exact Zj _ _ rfl (by kernel_rfl) (by kernel_rfl)
 have hs25f:(smL q.rules[i].guards[k].bd.c q.rules[i].guards[k].bd.n q.rules[i].guards[k].bd.t q.rules[i].guards[k].bd.f)=false:=by simpa using hs25
 refine Za (oA (fb 2 11 U128 4) I0 (oB (lS ([iv q.rules[i].guards[k].bd.c,iv q.rules[i].guards[k].bd.n,iv q.rules[i].guards[k].bd.t,iv q.rules[i].guards[k].bd.f]) 4 149 U122) I0 rfl (oC (sc #[.tmp 150] [] (ZS (few_c q.rules[i].guards[k].bd) hs25f) [.agg [iv q.rules[i].guards[k].bd.c,iv q.rules[i].guards[k].bd.n,iv q.rules[i].guards[k].bd.t,iv q.rules[i].guards[k].bd.f]] rfl rfl rfl) I0 I0 (oA (Zq rfl rfl) I0 (Ze (Zc (Zm rfl (Zb (Za (pM (aC (.int .i64 4)) (Ze (Zc (Zk (Zv (Zh (Zh (Zv (Y1 (Zh ?_)))))))))))))))))))
 refine Zl Try.results57 (.tmp rfl) ?_
 exact congrArg (fun x:Int=>AV.v (.int .i64 x)) (Eq.trans (part_2g HRX (k:=k) (by omega) hs0 (guE_3 hs23 hs24 hs25f) (by decide)).symm (Z8 hs1 HNO hs10 hs17).symm)
 have hs24f:(inB 1 100 q.rules[i].guards[k].coef)=false:=by simpa using hs24
 refine Za (oA (fb 1 11 U128 1) I0 (oB (lb (iv q.rules[i].guards[k].coef) 145 U3) I0 rfl (ZQ rfl (sc #[.tmp 146,.const (.int .i64 1),.const (.int .i64 100)] [] (ZS (ZH q.rules[i].guards[k].coef 1 100) hs24f) [iv q.rules[i].guards[k].coef,iv 1,iv 100] rfl rfl rfl) ⟨I0,I0,I0,I0,T0⟩ T0 T0 (oA (Zq rfl rfl) I0 (Ze (Zc (Zm rfl (Zb (Za (pM (aC (.int .i64 1)) (Ze (Zc (Zk (Zh (Zv (Zh (Zh (Zv (Y1 (Zh ?_))))))))))))))))))))
 refine Zl Try.results57 (.tmp rfl) ?_
 exact congrArg (fun x:Int=>AV.v (.int .i64 x)) (Eq.trans (part_2g HRX (k:=k) (by omega) hs0 (guE_2 hs23 hs24f) (by decide)).symm (Z8 hs1 HNO hs10 hs17).symm)
 have hs23f:(inB 0 (((q.msgs.length:Nat):Int)-1) q.rules[i].guards[k].msg)=false:=by simpa using hs23
 refine Za (oA (fb 0 11 U128 1) I0 (oB (lb (iv q.rules[i].guards[k].msg) 137 U3) I0 rfl (oA (fb 3 2 U27 1) I0 (oB (lb (Zw q.msgs) 139 U22) I0 rfl (oA (nS 140 U22) I0 (oC (Yt (c:=((q.msgs.length:Nat):Int)-1) rfl (w64 (by omega) (by omega) (by omega))) I0 I0 (ZQ rfl (sc #[.tmp 138,.const (.int .i64 0),.tmp 142] [] (ZS (ZH q.rules[i].guards[k].msg 0 (((q.msgs.length:Nat):Int)-1)) hs23f) [iv q.rules[i].guards[k].msg,iv 0,iv (((q.msgs.length:Nat):Int)-1)] rfl rfl rfl) ⟨I0,I0,I0,I0,T0⟩ T0 T0 (oA (Zq rfl rfl) I0 (Ze (Zc (Zm rfl (Zb (Za (pM (aC (.int .i64 5)) (Ze (Zc (Zk (Zh (Zv (Zh (Zh (Zv (Y1 ?_)))))))))))))))))))))))
 refine Zh ?_
 refine Zl Try.results57 (.tmp rfl) ?_
 exact congrArg (fun x:Int=>AV.v (.int .i64 x)) (Eq.trans (part_2g HRX (k:=k) (by omega) hs0 (guE_1 hs23f) (by decide)).symm (Z8 hs1 HNO hs10 hs17).symm)
 refine Za (pM (mT 10 (iv k)) (oA (fb 7 5 U65 1) I0 (oB (lb (slA 6 cTh q.rules[i].guards) 126 U63) I0 rfl (oA (nS 127 U63) I0 (oC (Z5 rfl (dF hs22)) I0 I0 (kN 276 [(1,.box 27 (cFm q)),(2,.box 65 (cRu q.rules[i]))] [(2,.box 1 0),(5,.box 2 0),(6,iv q.states.length),(10,iv k),(129,bF)] (Zc (Zo rfl (Yn (Zy (Zy (t_hit ?_))))))))))))
 exact Zr (by have:k=q.rules[i].guards.length:=(by omega);subst this;rwa [List.take_length] at hs0) (Zj _ _ rfl (by kernel_rfl) (by kernel_rfl))
 refine Zc (Zb (Zb ?_))
 by_cases hs26:2<((q.rules[i].guards.length:Nat):Int)
 refine Za (oA (fb 7 5 U65 1) I0 (oB (lb (slA 6 cTh q.rules[i].guards) 153 U63) I0 rfl (oA (nS 154 U63) I0 (oC (ZK rfl (dT hs26)) I0 I0 (Ze (Zc (Zm rfl (Zb (Za (pM (aC (.int .i64 4)) (Ze (Zc (Zk (Zh ?_))))))))))))))
 refine Zl Try.results57 (.tmp rfl) ?_
 exact congrArg (fun x:Int=>AV.v (.int .i64 x)) (Eq.trans (part_2l HRX HG (by omega)).symm (Z8 hs1 HNO hs10 hs17).symm)
 refine Za (oA (fb 7 5 U65 1) I0 (oB (lb (slA 6 cTh q.rules[i].guards) 153 U63) I0 rfl (oA (nS 154 U63) I0 (oC (ZK rfl (dF hs26)) I0 I0 (Ze (Zc (Zo rfl (Zn (Zc (Zb (Zb (Za (oA (fb 8 5 U65 1) I0 (oB (lb (Zd q.rules[i].ex) 157 U24) I0 rfl (pM (mT 6 (iv q.states.length)) (oD (sc #[.tmp 158,.tmp 159] [] (rSet_c q.states.length (by omega) q.rules[i].ex HR.ex) [Zd q.rules[i].ex,iv q.states.length] rfl rfl rfl) I0 I0 I0 (pM (aT 160 (iv (setE q.states.length q.rules[i].ex))) (Ze (Zc (Zb ?_))))))))))))))))))))
 by_cases hs27:setE q.states.length q.rules[i].ex=0
 refine Za (pM (mT 12 (iv (setE q.states.length q.rules[i].ex))) (oC (Zs rfl (dT' hs27)) I0 I0 (Ze (Zc (Zo rfl (Zn (Zc (Zb (Zb (Za (oA (fb 9 5 U65 1) I0 (oB (lb (Zd q.rules[i].fa) 164 U24) I0 rfl (pM (mT 6 (iv q.states.length)) (oD (sc #[.tmp 165,.tmp 166] [] (rSet_c q.states.length (by omega) q.rules[i].fa HR.fa) [Zd q.rules[i].fa,iv q.states.length] rfl rfl rfl) I0 I0 I0 (pM (aT 167 (iv (setE q.states.length q.rules[i].fa))) (Ze (Zc (Zb ?_))))))))))))))))))
 by_cases hs28:setE q.states.length q.rules[i].fa=0
 refine Za (pM (mT 13 (iv (setE q.states.length q.rules[i].fa))) (oC (Zs rfl (dT' hs28)) I0 I0 (kN 276 [(1,.box 27 (cFm q)),(2,.box 65 (cRu q.rules[i]))] [(2,.box 1 0),(5,.box 2 0),(6,iv q.states.length),(13,iv (setE q.states.length q.rules[i].fa)),(169,bF)] (Zc (Zo rfl (Zn (Zc (Zb (Zb ?_)))))))))
 refine Y6 (True) (ofL [(1,.box 27 (cFm q)),(2,.box 65 (cRu q.rules[i]))]) (ofT 276 [(2,.box 1 0),(5,.box 2 0),(6,iv q.states.length),(198,bv (!decide (shE q.vals.length q.rules[i].rd q.rules[i].wr=0)))]) ?_ (fun _ => ?_)
 by_cases hs29:q.rules[i].rd=(-1)
 by_cases hs30:q.rules[i].wr=(-1)
 refine Za (oA (fb 10 5 U65 1) I0 (oB (lb (iv q.rules[i].rd) 171 U3) I0 rfl (oC (Zs rfl (dT' hs29)) I0 I0 (pM (mT 173 bF) (qK (qK (qK (qK (qK (qK (qK (qK (pP (pk false (.v (.tuple #[])) bF rfl) (pM (mT 183 bF) (gA (fb 11 5 U65 1) I0 (gB (lb (iv q.rules[i].wr) 185 U3) I0 rfl (gC (Zs rfl (dT' hs30)) I0 I0 (qM (mT 187 bF) (qK (qK (qK (qK (qK ?_)))))))))))))))))))))))
 refine qK (qK (qK (qP (pk false (.v (.tuple #[])) bF rfl) (pP (pk false bT bF rfl) (kN 276 [(1,.box 27 (cFm q)),(2,.box 65 (cRu q.rules[i]))] [(2,.box 1 0),(5,.box 2 0),(6,iv q.states.length),(198,bF)] ?_)))))
 rw [show (!decide (shE q.vals.length q.rules[i].rd q.rules[i].wr=0))=false by first | (simp [shE,ixB,hs1,hs10,hs17,hs26,hs27,hs28,hs29,hs30];done) | (simp [shE,ixB,inB,hs1,hs10,hs17,hs26,hs27,hs28,hs29,hs30];done)]
 exact Zr T0 (Zj _ _ rfl (by kernel_rfl) (by kernel_rfl))
 by_cases hs31:(inB 0 (((q.vals.length:Nat):Int)-1) q.rules[i].wr)=true
 refine Za (oA (fb 10 5 U65 1) I0 (oB (lb (iv q.rules[i].rd) 171 U3) I0 rfl (oC (Zs rfl (dT' hs29)) I0 I0 (pM (mT 173 bF) (qK (qK (qK (qK (qK (qK (qK (qK (pP (pk false (.v (.tuple #[])) bF rfl) (pM (mT 183 bF) (gA (fb 11 5 U65 1) I0 (gB (lb (iv q.rules[i].wr) 185 U3) I0 rfl (gC (Zs rfl (dF' hs30)) I0 I0 (qM (mT 187 bT) (gA (fb 11 5 U65 1) I0 (gB (lb (iv q.rules[i].wr) 189 U3) I0 rfl (gA (fb 4 2 U27 1) I0 (gB (lb (Zw q.vals) 191 U22) I0 rfl (gA (nS 192 U22) I0 ?_)))))))))))))))))))))))
 refine gC (Yt (c:=((q.vals.length:Nat):Int)-1) rfl (w64 (by omega) (by omega) (by omega))) I0 I0 (Y0 rfl (sc #[.tmp 190,.const (.int .i64 0),.tmp 194] [] (ZS (ZH q.rules[i].wr 0 (((q.vals.length:Nat):Int)-1)) hs31) [iv q.rules[i].wr,iv 0,iv (((q.vals.length:Nat):Int)-1)] rfl rfl rfl) ⟨I0,I0,I0,I0,T0⟩ T0 T0 (gA (Zq rfl rfl) I0 (qP (pk true bF bF rfl) (pP (pk false bT bF rfl) (kN 276 [(1,.box 27 (cFm q)),(2,.box 65 (cRu q.rules[i]))] [(2,.box 1 0),(5,.box 2 0),(6,iv q.states.length),(198,bF)] ?_)))))
 rw [show (!decide (shE q.vals.length q.rules[i].rd q.rules[i].wr=0))=false by first | (simp [shE,ixB,hs1,hs10,hs17,hs26,hs27,hs28,hs29,hs30,hs31];done) | (simp [shE,ixB,inB,hs1,hs10,hs17,hs26,hs27,hs28,hs29,hs30,hs31];done)]
 exact Zr T0 (Zj _ _ rfl (by kernel_rfl) (by kernel_rfl))
 have hs31f:(inB 0 (((q.vals.length:Nat):Int)-1) q.rules[i].wr)=false:=by simpa using hs31
 refine Za (oA (fb 10 5 U65 1) I0 (oB (lb (iv q.rules[i].rd) 171 U3) I0 rfl (oC (Zs rfl (dT' hs29)) I0 I0 (pM (mT 173 bF) (qK (qK (qK (qK (qK (qK (qK (qK (pP (pk false (.v (.tuple #[])) bF rfl) (pM (mT 183 bF) (gA (fb 11 5 U65 1) I0 (gB (lb (iv q.rules[i].wr) 185 U3) I0 rfl (gC (Zs rfl (dF' hs30)) I0 I0 (qM (mT 187 bT) (gA (fb 11 5 U65 1) I0 (gB (lb (iv q.rules[i].wr) 189 U3) I0 rfl (gA (fb 4 2 U27 1) I0 (gB (lb (Zw q.vals) 191 U22) I0 rfl (gA (nS 192 U22) I0 ?_)))))))))))))))))))))))
 refine gC (Yt (c:=((q.vals.length:Nat):Int)-1) rfl (w64 (by omega) (by omega) (by omega))) I0 I0 (Y0 rfl (sc #[.tmp 190,.const (.int .i64 0),.tmp 194] [] (ZS (ZH q.rules[i].wr 0 (((q.vals.length:Nat):Int)-1)) hs31f) [iv q.rules[i].wr,iv 0,iv (((q.vals.length:Nat):Int)-1)] rfl rfl rfl) ⟨I0,I0,I0,I0,T0⟩ T0 T0 (gA (Zq rfl rfl) I0 (qP (pk true bT bF rfl) (pP (pk false bT bT rfl) (kN 276 [(1,.box 27 (cFm q)),(2,.box 65 (cRu q.rules[i]))] [(2,.box 1 0),(5,.box 2 0),(6,iv q.states.length),(198,bT)] ?_)))))
 rw [show (!decide (shE q.vals.length q.rules[i].rd q.rules[i].wr=0))=true by first | (simp [shE,ixB,hs1,hs10,hs17,hs26,hs27,hs28,hs29,hs30,hs31f];done) | (simp [shE,ixB,inB,hs1,hs10,hs17,hs26,hs27,hs28,hs29,hs30,hs31f];done)]
 exact Zr T0 (Zj _ _ rfl (by kernel_rfl) (by kernel_rfl))
 by_cases hs32:(inB 0 (((q.vals.length:Nat):Int)-1) q.rules[i].rd)=true
 by_cases hs33:q.rules[i].wr=(-1)
 refine Za (oA (fb 10 5 U65 1) I0 (oB (lb (iv q.rules[i].rd) 171 U3) I0 rfl (oC (Zs rfl (dF' hs29)) I0 I0 (pM (mT 173 bT) (gA (fb 10 5 U65 1) I0 (gB (lb (iv q.rules[i].rd) 175 U3) I0 rfl (gA (fb 4 2 U27 1) I0 (gB (lb (Zw q.vals) 177 U22) I0 rfl (gA (nS 178 U22) I0 (gC (Yt (c:=((q.vals.length:Nat):Int)-1) rfl (w64 (by omega) (by omega) (by omega))) I0 I0 (Y0 rfl (sc #[.tmp 176,.const (.int .i64 0),.tmp 180] [] (ZS (ZH q.rules[i].rd 0 (((q.vals.length:Nat):Int)-1)) hs32) [iv q.rules[i].rd,iv 0,iv (((q.vals.length:Nat):Int)-1)] rfl rfl rfl) ⟨I0,I0,I0,I0,T0⟩ T0 T0 (gA (Zq rfl rfl) I0 (pP (pk true bF bF rfl) (pM (mT 183 bF) (gA (fb 11 5 U65 1) I0 (gB (lb (iv q.rules[i].wr) 185 U3) I0 rfl (gC (Zs rfl (dT' hs33)) I0 I0 (qM (mT 187 bF) (qK (qK (qK (qK (qK ?_)))))))))))))))))))))))
 refine qK (qK (qK (qP (pk false (.v (.tuple #[])) bF rfl) (pP (pk false bT bF rfl) (kN 276 [(1,.box 27 (cFm q)),(2,.box 65 (cRu q.rules[i]))] [(2,.box 1 0),(5,.box 2 0),(6,iv q.states.length),(198,bF)] ?_)))))
 rw [show (!decide (shE q.vals.length q.rules[i].rd q.rules[i].wr=0))=false by first | (simp [shE,ixB,hs1,hs10,hs17,hs26,hs27,hs28,hs29,hs32,hs33];done) | (simp [shE,ixB,inB,hs1,hs10,hs17,hs26,hs27,hs28,hs29,hs32,hs33];done)]
 exact Zr T0 (Zj _ _ rfl (by kernel_rfl) (by kernel_rfl))
 by_cases hs34:(inB 0 (((q.vals.length:Nat):Int)-1) q.rules[i].wr)=true
 refine Za (oA (fb 10 5 U65 1) I0 (oB (lb (iv q.rules[i].rd) 171 U3) I0 rfl (oC (Zs rfl (dF' hs29)) I0 I0 (pM (mT 173 bT) (gA (fb 10 5 U65 1) I0 (gB (lb (iv q.rules[i].rd) 175 U3) I0 rfl (gA (fb 4 2 U27 1) I0 (gB (lb (Zw q.vals) 177 U22) I0 rfl (gA (nS 178 U22) I0 (gC (Yt (c:=((q.vals.length:Nat):Int)-1) rfl (w64 (by omega) (by omega) (by omega))) I0 I0 (Y0 rfl (sc #[.tmp 176,.const (.int .i64 0),.tmp 180] [] (ZS (ZH q.rules[i].rd 0 (((q.vals.length:Nat):Int)-1)) hs32) [iv q.rules[i].rd,iv 0,iv (((q.vals.length:Nat):Int)-1)] rfl rfl rfl) ⟨I0,I0,I0,I0,T0⟩ T0 T0 (gA (Zq rfl rfl) I0 (pP (pk true bF bF rfl) (pM (mT 183 bF) (gA (fb 11 5 U65 1) I0 (gB (lb (iv q.rules[i].wr) 185 U3) I0 rfl (gC (Zs rfl (dF' hs33)) I0 I0 (qM (mT 187 bT) (gA (fb 11 5 U65 1) I0 (gB (lb (iv q.rules[i].wr) 189 U3) I0 rfl (gA (fb 4 2 U27 1) I0 (gB (lb (Zw q.vals) 191 U22) I0 rfl (gA (nS 192 U22) I0 ?_)))))))))))))))))))))))
 refine gC (Yt (c:=((q.vals.length:Nat):Int)-1) rfl (w64 (by omega) (by omega) (by omega))) I0 I0 (Y0 rfl (sc #[.tmp 190,.const (.int .i64 0),.tmp 194] [] (ZS (ZH q.rules[i].wr 0 (((q.vals.length:Nat):Int)-1)) hs34) [iv q.rules[i].wr,iv 0,iv (((q.vals.length:Nat):Int)-1)] rfl rfl rfl) ⟨I0,I0,I0,I0,T0⟩ T0 T0 (gA (Zq rfl rfl) I0 (qP (pk true bF bF rfl) (pP (pk false bT bF rfl) (kN 276 [(1,.box 27 (cFm q)),(2,.box 65 (cRu q.rules[i]))] [(2,.box 1 0),(5,.box 2 0),(6,iv q.states.length),(198,bF)] ?_)))))
 rw [show (!decide (shE q.vals.length q.rules[i].rd q.rules[i].wr=0))=false by first | (simp [shE,ixB,hs1,hs10,hs17,hs26,hs27,hs28,hs29,hs32,hs33,hs34];done) | (simp [shE,ixB,inB,hs1,hs10,hs17,hs26,hs27,hs28,hs29,hs32,hs33,hs34];done)]
 exact Zr T0 (Zj _ _ rfl (by kernel_rfl) (by kernel_rfl))
 have hs34f:(inB 0 (((q.vals.length:Nat):Int)-1) q.rules[i].wr)=false:=by simpa using hs34
 refine Za (oA (fb 10 5 U65 1) I0 (oB (lb (iv q.rules[i].rd) 171 U3) I0 rfl (oC (Zs rfl (dF' hs29)) I0 I0 (pM (mT 173 bT) (gA (fb 10 5 U65 1) I0 (gB (lb (iv q.rules[i].rd) 175 U3) I0 rfl (gA (fb 4 2 U27 1) I0 (gB (lb (Zw q.vals) 177 U22) I0 rfl (gA (nS 178 U22) I0 (gC (Yt (c:=((q.vals.length:Nat):Int)-1) rfl (w64 (by omega) (by omega) (by omega))) I0 I0 (Y0 rfl (sc #[.tmp 176,.const (.int .i64 0),.tmp 180] [] (ZS (ZH q.rules[i].rd 0 (((q.vals.length:Nat):Int)-1)) hs32) [iv q.rules[i].rd,iv 0,iv (((q.vals.length:Nat):Int)-1)] rfl rfl rfl) ⟨I0,I0,I0,I0,T0⟩ T0 T0 (gA (Zq rfl rfl) I0 (pP (pk true bF bF rfl) (pM (mT 183 bF) (gA (fb 11 5 U65 1) I0 (gB (lb (iv q.rules[i].wr) 185 U3) I0 rfl (gC (Zs rfl (dF' hs33)) I0 I0 (qM (mT 187 bT) (gA (fb 11 5 U65 1) I0 (gB (lb (iv q.rules[i].wr) 189 U3) I0 rfl (gA (fb 4 2 U27 1) I0 (gB (lb (Zw q.vals) 191 U22) I0 rfl (gA (nS 192 U22) I0 ?_)))))))))))))))))))))))
 refine gC (Yt (c:=((q.vals.length:Nat):Int)-1) rfl (w64 (by omega) (by omega) (by omega))) I0 I0 (Y0 rfl (sc #[.tmp 190,.const (.int .i64 0),.tmp 194] [] (ZS (ZH q.rules[i].wr 0 (((q.vals.length:Nat):Int)-1)) hs34f) [iv q.rules[i].wr,iv 0,iv (((q.vals.length:Nat):Int)-1)] rfl rfl rfl) ⟨I0,I0,I0,I0,T0⟩ T0 T0 (gA (Zq rfl rfl) I0 (qP (pk true bT bF rfl) (pP (pk false bT bT rfl) (kN 276 [(1,.box 27 (cFm q)),(2,.box 65 (cRu q.rules[i]))] [(2,.box 1 0),(5,.box 2 0),(6,iv q.states.length),(198,bT)] ?_)))))
 rw [show (!decide (shE q.vals.length q.rules[i].rd q.rules[i].wr=0))=true by first | (simp [shE,ixB,hs1,hs10,hs17,hs26,hs27,hs28,hs29,hs32,hs33,hs34f];done) | (simp [shE,ixB,inB,hs1,hs10,hs17,hs26,hs27,hs28,hs29,hs32,hs33,hs34f];done)]
 exact Zr T0 (Zj _ _ rfl (by kernel_rfl) (by kernel_rfl))
 have hs32f:(inB 0 (((q.vals.length:Nat):Int)-1) q.rules[i].rd)=false:=by simpa using hs32
 refine Za (oA (fb 10 5 U65 1) I0 (oB (lb (iv q.rules[i].rd) 171 U3) I0 rfl (oC (Zs rfl (dF' hs29)) I0 I0 (pM (mT 173 bT) (gA (fb 10 5 U65 1) I0 (gB (lb (iv q.rules[i].rd) 175 U3) I0 rfl (gA (fb 4 2 U27 1) I0 (gB (lb (Zw q.vals) 177 U22) I0 rfl (gA (nS 178 U22) I0 (gC (Yt (c:=((q.vals.length:Nat):Int)-1) rfl (w64 (by omega) (by omega) (by omega))) I0 I0 (Y0 rfl (sc #[.tmp 176,.const (.int .i64 0),.tmp 180] [] (ZS (ZH q.rules[i].rd 0 (((q.vals.length:Nat):Int)-1)) hs32f) [iv q.rules[i].rd,iv 0,iv (((q.vals.length:Nat):Int)-1)] rfl rfl rfl) ⟨I0,I0,I0,I0,T0⟩ T0 T0 (gA (Zq rfl rfl) I0 (pP (pk true bT bF rfl) (pM (mT 183 bT) (qK (qK (qK (qK (qK (qK (qK (qK (qK ?_)))))))))))))))))))))))
 refine qK (qK (qK (qK (pP (pk true bT (.v (.tuple #[])) rfl) (kN 276 [(1,.box 27 (cFm q)),(2,.box 65 (cRu q.rules[i]))] [(2,.box 1 0),(5,.box 2 0),(6,iv q.states.length),(198,bT)] ?_)))))
 rw [show (!decide (shE q.vals.length q.rules[i].rd q.rules[i].wr=0))=true by first | (simp [shE,ixB,hs1,hs10,hs17,hs26,hs27,hs28,hs29,hs32f];done) | (simp [shE,ixB,inB,hs1,hs10,hs17,hs26,hs27,hs28,hs29,hs32f];done)]
 exact Zr T0 (Zj _ _ rfl (by kernel_rfl) (by kernel_rfl))
 refine Zc ?_
 by_cases hs35:shE q.vals.length q.rules[i].rd q.rules[i].wr=0
 rw [dT hs35]
 refine kW 276 [(1,.box 27 (cFm q)),(2,.box 65 (cRu q.rules[i]))] [(2,.box 1 0),(5,.box 2 0),(6,iv q.states.length),(198,bF)] (Zo rfl (Zn (Zc (Zb (Zb (Za (oA (fb 12 5 U65 1) I0 (oB (lb (Zd q.rules[i].send) 199 U24) I0 rfl (oA (fb 3 2 U27 1) I0 (oB (lb (Zw q.msgs) 201 U22) I0 rfl (oA (nS 202 U22) I0 (oD (sc #[.tmp 200,.tmp 203] [] (rSet_c q.msgs.length (by omega) q.rules[i].send HR.send) [Zd q.rules[i].send,iv q.msgs.length] rfl rfl rfl) I0 I0 I0 (pM (aT 204 (iv (setE q.msgs.length q.rules[i].send))) (Ze (Zc (Zb ?_))))))))))))))))
 by_cases hs36:setE q.msgs.length q.rules[i].send=0
 refine Za (pM (mT 14 (iv (setE q.msgs.length q.rules[i].send))) (oC (Zs rfl (dT' hs36)) I0 I0 (Ze (Zc (Zo rfl (Zn (Zc (Zb (Zb (Za (oA (fb 14 5 U65 1) I0 (oB (lb (Zd q.rules[i].left) 208 U24) I0 rfl (pM (mT 6 (iv q.states.length)) (oD (sc #[.tmp 209,.tmp 210] [] (rSet_c q.states.length (by omega) q.rules[i].left HR.left) [Zd q.rules[i].left,iv q.states.length] rfl rfl rfl) I0 I0 I0 (pM (aT 211 (iv (setE q.states.length q.rules[i].left))) (Ze (Zc (Zb ?_))))))))))))))))))
 by_cases hs37:setE q.states.length q.rules[i].left=0
 refine Za (pM (mT 15 (iv (setE q.states.length q.rules[i].left))) (oC (Zs rfl (dT' hs37)) I0 I0 (Ze (Zc (Zo rfl (Zn (Zc (Zb (Zb (Za (oA (fb 15 5 U65 1) I0 (oB (lb (Zd q.rules[i].right) 215 U24) I0 rfl (pM (mT 6 (iv q.states.length)) (oD (sc #[.tmp 216,.tmp 217] [] (rSet_c q.states.length (by omega) q.rules[i].right HR.right) [Zd q.rules[i].right,iv q.states.length] rfl rfl rfl) I0 I0 I0 (pM (aT 218 (iv (setE q.states.length q.rules[i].right))) (Ze (Zc (Zb ?_))))))))))))))))))
 by_cases hs38:setE q.states.length q.rules[i].right=0
 refine Za (pM (mT 16 (iv (setE q.states.length q.rules[i].right))) (oC (Zs rfl (dT' hs38)) I0 I0 (Ze (Zc (Zo rfl (Zn (Zc (Zb (Zb (Za (oA (fb 16 5 U65 1) I0 (oB (lb (Zd q.rules[i].parent) 222 U24) I0 rfl (pM (mT 6 (iv q.states.length)) (oD (sc #[.tmp 223,.tmp 224] [] (rSet_c q.states.length (by omega) q.rules[i].parent HR.parent) [Zd q.rules[i].parent,iv q.states.length] rfl rfl rfl) I0 I0 I0 (pM (aT 225 (iv (setE q.states.length q.rules[i].parent))) (Ze (Zc (Zb ?_))))))))))))))))))
 by_cases hs39:setE q.states.length q.rules[i].parent=0
 refine Za (pM (mT 17 (iv (setE q.states.length q.rules[i].parent))) (oC (Zs rfl (dT' hs39)) I0 I0 (kN 276 [(1,.box 27 (cFm q)),(2,.box 65 (cRu q.rules[i]))] [(2,.box 1 0),(5,.box 2 0),(17,iv (setE q.states.length q.rules[i].parent)),(227,bF)] (Zc (Zo rfl (Zn (Zc (Zb (Zb ?_)))))))))
 refine Y6 (True) (ofL [(1,.box 27 (cFm q)),(2,.box 65 (cRu q.rules[i]))]) (ofT 276 [(2,.box 1 0),(5,.box 2 0),(247,bv (!decide (poX q q.rules[i]=0)))]) ?_ (fun _ => ?_)
 by_cases hs40:q.rules[i].kind=4
 by_cases hs41:(inB 0 2 q.rules[i].pos)=true
 by_cases hs42:q.rules[i].pos=0
 refine Za (oA (fb 1 5 U65 1) I0 (oB (lb (iv q.rules[i].kind) 229 U3) I0 rfl (oC (Zp rfl (dT hs40)) I0 I0 (pM (mT 231 bT) (gA (fb 13 5 U65 1) I0 (gB (lb (iv q.rules[i].pos) 233 U3) I0 rfl (Y0 rfl (sc #[.tmp 234,.const (.int .i64 0),.const (.int .i64 2)] [] (ZS (ZH q.rules[i].pos 0 2) hs41) [iv q.rules[i].pos,iv 0,iv 2] rfl rfl rfl) ⟨I0,I0,I0,I0,T0⟩ T0 T0 (gA (Zq rfl rfl) I0 (qM (mT 236 bF) (gA (fb 13 5 U65 1) I0 (gB (lb (iv q.rules[i].pos) 238 U3) I0 rfl (gC (Zs rfl (dT' hs42)) I0 I0 (qM (mT 240 bF) (qK (qK (qK (qP (pk false (.v (.tuple #[])) bF rfl) (qP (pk false bT bF rfl) (pP (pk true bF bF rfl) (kN 276 [(1,.box 27 (cFm q)),(2,.box 65 (cRu q.rules[i]))] [(2,.box 1 0),(5,.box 2 0),(247,bF)] ?_))))))))))))))))))))
 rw [show (!decide (poX q q.rules[i]=0))=false by first | (simp [poX,posE,hs1,hs10,hs17,hs26,hs27,hs28,hs35,hs36,hs37,hs38,hs39,hs40,hs41,hs42];done) | (simp [poX,posE,inB,hs1,hs10,hs17,hs26,hs27,hs28,hs35,hs36,hs37,hs38,hs39,hs40,hs41,hs42];done)]
 exact Zr T0 (Zj _ _ rfl (by kernel_rfl) (by kernel_rfl))
 by_cases hs43:q.top=3
 refine Za (oA (fb 1 5 U65 1) I0 (oB (lb (iv q.rules[i].kind) 229 U3) I0 rfl (oC (Zp rfl (dT hs40)) I0 I0 (pM (mT 231 bT) (gA (fb 13 5 U65 1) I0 (gB (lb (iv q.rules[i].pos) 233 U3) I0 rfl (Y0 rfl (sc #[.tmp 234,.const (.int .i64 0),.const (.int .i64 2)] [] (ZS (ZH q.rules[i].pos 0 2) hs41) [iv q.rules[i].pos,iv 0,iv 2] rfl rfl rfl) ⟨I0,I0,I0,I0,T0⟩ T0 T0 (gA (Zq rfl rfl) I0 (qM (mT 236 bF) (gA (fb 13 5 U65 1) I0 (gB (lb (iv q.rules[i].pos) 238 U3) I0 rfl (gC (Zs rfl (dF' hs42)) I0 I0 (qM (mT 240 bT) (gA (fb 1 2 U27 1) I0 (gB (lb (iv q.top) 242 U3) I0 rfl (gC (Zp rfl (dT hs43)) I0 I0 (qP (pk true bT bF rfl) (qP (pk false bT bT rfl) (pP (pk true bT bF rfl) (kN 276 [(1,.box 27 (cFm q)),(2,.box 65 (cRu q.rules[i]))] [(2,.box 1 0),(5,.box 2 0),(247,bT)] ?_))))))))))))))))))))
 rw [show (!decide (poX q q.rules[i]=0))=true by first | (simp [poX,posE,hs1,hs10,hs17,hs26,hs27,hs28,hs35,hs36,hs37,hs38,hs39,hs40,hs41,hs42,hs43];done) | (simp [poX,posE,inB,hs1,hs10,hs17,hs26,hs27,hs28,hs35,hs36,hs37,hs38,hs39,hs40,hs41,hs42,hs43];done)]
 exact Zr T0 (Zj _ _ rfl (by kernel_rfl) (by kernel_rfl))
 refine Za (oA (fb 1 5 U65 1) I0 (oB (lb (iv q.rules[i].kind) 229 U3) I0 rfl (oC (Zp rfl (dT hs40)) I0 I0 (pM (mT 231 bT) (gA (fb 13 5 U65 1) I0 (gB (lb (iv q.rules[i].pos) 233 U3) I0 rfl (Y0 rfl (sc #[.tmp 234,.const (.int .i64 0),.const (.int .i64 2)] [] (ZS (ZH q.rules[i].pos 0 2) hs41) [iv q.rules[i].pos,iv 0,iv 2] rfl rfl rfl) ⟨I0,I0,I0,I0,T0⟩ T0 T0 (gA (Zq rfl rfl) I0 (qM (mT 236 bF) (gA (fb 13 5 U65 1) I0 (gB (lb (iv q.rules[i].pos) 238 U3) I0 rfl (gC (Zs rfl (dF' hs42)) I0 I0 (qM (mT 240 bT) (gA (fb 1 2 U27 1) I0 (gB (lb (iv q.top) 242 U3) I0 rfl (gC (Zp rfl (dF hs43)) I0 I0 (qP (pk true bF bF rfl) (qP (pk false bT bF rfl) (pP (pk true bF bF rfl) (kN 276 [(1,.box 27 (cFm q)),(2,.box 65 (cRu q.rules[i]))] [(2,.box 1 0),(5,.box 2 0),(247,bF)] ?_))))))))))))))))))))
 rw [show (!decide (poX q q.rules[i]=0))=false by first | (simp [poX,posE,hs1,hs10,hs17,hs26,hs27,hs28,hs35,hs36,hs37,hs38,hs39,hs40,hs41,hs42,hs43];done) | (simp [poX,posE,inB,hs1,hs10,hs17,hs26,hs27,hs28,hs35,hs36,hs37,hs38,hs39,hs40,hs41,hs42,hs43];done)]
 exact Zr T0 (Zj _ _ rfl (by kernel_rfl) (by kernel_rfl))
 have hs41f:(inB 0 2 q.rules[i].pos)=false:=by simpa using hs41
 refine Za (oA (fb 1 5 U65 1) I0 (oB (lb (iv q.rules[i].kind) 229 U3) I0 rfl (oC (Zp rfl (dT hs40)) I0 I0 (pM (mT 231 bT) (gA (fb 13 5 U65 1) I0 (gB (lb (iv q.rules[i].pos) 233 U3) I0 rfl (Y0 rfl (sc #[.tmp 234,.const (.int .i64 0),.const (.int .i64 2)] [] (ZS (ZH q.rules[i].pos 0 2) hs41f) [iv q.rules[i].pos,iv 0,iv 2] rfl rfl rfl) ⟨I0,I0,I0,I0,T0⟩ T0 T0 (gA (Zq rfl rfl) I0 (qM (mT 236 bT) (qK (qK (qK (qK (qK (qK (qK (qK (qP (pk true bT (.v (.tuple #[])) rfl) (pP (pk true bT bF rfl) (kN 276 [(1,.box 27 (cFm q)),(2,.box 65 (cRu q.rules[i]))] [(2,.box 1 0),(5,.box 2 0),(247,bT)] ?_))))))))))))))))))))
 rw [show (!decide (poX q q.rules[i]=0))=true by first | (simp [poX,posE,hs1,hs10,hs17,hs26,hs27,hs28,hs35,hs36,hs37,hs38,hs39,hs40,hs41f];done) | (simp [poX,posE,inB,hs1,hs10,hs17,hs26,hs27,hs28,hs35,hs36,hs37,hs38,hs39,hs40,hs41f];done)]
 exact Zr T0 (Zj _ _ rfl (by kernel_rfl) (by kernel_rfl))
 refine Za (oA (fb 1 5 U65 1) I0 (oB (lb (iv q.rules[i].kind) 229 U3) I0 rfl (oC (Zp rfl (dF hs40)) I0 I0 (pM (mT 231 bF) (qK (qK (qK (qK (qK (qK (qK (qK (qK (qK (qK (qK (qK (qK (pP (pk false (.v (.tuple #[])) bF rfl) (kN 276 [(1,.box 27 (cFm q)),(2,.box 65 (cRu q.rules[i]))] [(2,.box 1 0),(5,.box 2 0),(247,bF)] ?_))))))))))))))))))))
 rw [show (!decide (poX q q.rules[i]=0))=false by first | (simp [poX,posE,hs1,hs10,hs17,hs26,hs27,hs28,hs35,hs36,hs37,hs38,hs39,hs40];done) | (simp [poX,posE,inB,hs1,hs10,hs17,hs26,hs27,hs28,hs35,hs36,hs37,hs38,hs39,hs40];done)]
 exact Zr T0 (Zj _ _ rfl (by kernel_rfl) (by kernel_rfl))
 refine Zc ?_
 by_cases hs44:poX q q.rules[i]=0
 rw [dT hs44]
 refine kW 276 [(1,.box 27 (cFm q)),(2,.box 65 (cRu q.rules[i]))] [(2,.box 1 0),(5,.box 2 0),(247,bF)] (Zo rfl (Zn (Zc (Zb (Zb ?_)))))
 refine Y6 (True) (ofL [(1,.box 27 (cFm q)),(2,.box 65 (cRu q.rules[i]))]) (ofT 276 [(2,.box 1 0),(5,.box 2 0),(261,bv (dir4 q q.rules[i]))]) ?_ (fun _ => ?_)
 by_cases hs45:q.rules[i].kind=5
 by_cases hs46:q.top=4
 by_cases hs47:(inB 3 4 q.rules[i].dir)=true
 refine Za (oA (fb 1 5 U65 1) I0 (oB (lb (iv q.rules[i].kind) 248 U3) I0 rfl (oC (Zp rfl (dT hs45)) I0 I0 (pM (mT 250 bT) (gA (fb 1 2 U27 1) I0 (gB (lb (iv q.top) 252 U3) I0 rfl (gC (Zp rfl (dT hs46)) I0 I0 (pP (pk true bT bF rfl) (pM (mT 255 bT) (gA (fb 17 5 U65 1) I0 (gB (lb (iv q.rules[i].dir) 257 U3) I0 rfl (Y0 rfl (sc #[.tmp 258,.const (.int .i64 3),.const (.int .i64 4)] [] (ZS (ZH q.rules[i].dir 3 4) hs47) [iv q.rules[i].dir,iv 3,iv 4] rfl rfl rfl) ⟨I0,I0,I0,I0,T0⟩ T0 T0 (gA (Zq rfl rfl) I0 (pP (pk true bF bF rfl) (kN 276 [(1,.box 27 (cFm q)),(2,.box 65 (cRu q.rules[i]))] [(2,.box 1 0),(5,.box 2 0),(261,bF)] ?_)))))))))))))))
 rw [show (dir4 q q.rules[i])=false by first | (simp [dir4,hs1,hs10,hs17,hs26,hs27,hs28,hs35,hs36,hs37,hs38,hs39,hs44,hs45,hs46,hs47];done) | (simp [dir4,inB,hs1,hs10,hs17,hs26,hs27,hs28,hs35,hs36,hs37,hs38,hs39,hs44,hs45,hs46,hs47];done)]
 exact Zr T0 (Zj _ _ rfl (by kernel_rfl) (by kernel_rfl))
 have hs47f:(inB 3 4 q.rules[i].dir)=false:=by simpa using hs47
 refine Za (oA (fb 1 5 U65 1) I0 (oB (lb (iv q.rules[i].kind) 248 U3) I0 rfl (oC (Zp rfl (dT hs45)) I0 I0 (pM (mT 250 bT) (gA (fb 1 2 U27 1) I0 (gB (lb (iv q.top) 252 U3) I0 rfl (gC (Zp rfl (dT hs46)) I0 I0 (pP (pk true bT bF rfl) (pM (mT 255 bT) (gA (fb 17 5 U65 1) I0 (gB (lb (iv q.rules[i].dir) 257 U3) I0 rfl (Y0 rfl (sc #[.tmp 258,.const (.int .i64 3),.const (.int .i64 4)] [] (ZS (ZH q.rules[i].dir 3 4) hs47f) [iv q.rules[i].dir,iv 3,iv 4] rfl rfl rfl) ⟨I0,I0,I0,I0,T0⟩ T0 T0 (gA (Zq rfl rfl) I0 (pP (pk true bT bF rfl) (kN 276 [(1,.box 27 (cFm q)),(2,.box 65 (cRu q.rules[i]))] [(2,.box 1 0),(5,.box 2 0),(261,bT)] ?_)))))))))))))))
 rw [show (dir4 q q.rules[i])=true by first | (simp [dir4,hs1,hs10,hs17,hs26,hs27,hs28,hs35,hs36,hs37,hs38,hs39,hs44,hs45,hs46,hs47f];done) | (simp [dir4,inB,hs1,hs10,hs17,hs26,hs27,hs28,hs35,hs36,hs37,hs38,hs39,hs44,hs45,hs46,hs47f];done)]
 exact Zr T0 (Zj _ _ rfl (by kernel_rfl) (by kernel_rfl))
 refine Za (oA (fb 1 5 U65 1) I0 (oB (lb (iv q.rules[i].kind) 248 U3) I0 rfl (oC (Zp rfl (dT hs45)) I0 I0 (pM (mT 250 bT) (gA (fb 1 2 U27 1) I0 (gB (lb (iv q.top) 252 U3) I0 rfl (gC (Zp rfl (dF hs46)) I0 I0 (pP (pk true bF bF rfl) (pM (mT 255 bF) (qK (qK (qK (qK (pP (pk false (.v (.tuple #[])) bF rfl) (kN 276 [(1,.box 27 (cFm q)),(2,.box 65 (cRu q.rules[i]))] [(2,.box 1 0),(5,.box 2 0),(261,bF)] ?_)))))))))))))))
 rw [show (dir4 q q.rules[i])=false by first | (simp [dir4,hs1,hs10,hs17,hs26,hs27,hs28,hs35,hs36,hs37,hs38,hs39,hs44,hs45,hs46];done) | (simp [dir4,inB,hs1,hs10,hs17,hs26,hs27,hs28,hs35,hs36,hs37,hs38,hs39,hs44,hs45,hs46];done)]
 exact Zr T0 (Zj _ _ rfl (by kernel_rfl) (by kernel_rfl))
 refine Za (oA (fb 1 5 U65 1) I0 (oB (lb (iv q.rules[i].kind) 248 U3) I0 rfl (oC (Zp rfl (dF hs45)) I0 I0 (pM (mT 250 bF) (qK (qK (qK (pP (pk false (.v (.tuple #[])) bF rfl) (pM (mT 255 bF) (qK (qK (qK (qK (pP (pk false (.v (.tuple #[])) bF rfl) (kN 276 [(1,.box 27 (cFm q)),(2,.box 65 (cRu q.rules[i]))] [(2,.box 1 0),(5,.box 2 0),(261,bF)] ?_)))))))))))))))
 rw [show (dir4 q q.rules[i])=false by first | (simp [dir4,hs1,hs10,hs17,hs26,hs27,hs28,hs35,hs36,hs37,hs38,hs39,hs44,hs45];done) | (simp [dir4,inB,hs1,hs10,hs17,hs26,hs27,hs28,hs35,hs36,hs37,hs38,hs39,hs44,hs45];done)]
 exact Zr T0 (Zj _ _ rfl (by kernel_rfl) (by kernel_rfl))
 refine Zc ?_
 by_cases hs48:(dir4 q q.rules[i])=true
 rw [hs48]
 refine kW 276 [(1,.box 27 (cFm q)),(2,.box 65 (cRu q.rules[i]))] [(2,.box 1 0),(5,.box 2 0),(261,bT)] (Zm rfl (Zb (Za (pM (aC (.int .i64 1)) (Ze (Zc (Zk (Zh ?_))))))))
 refine Zl Try.results57 (.tmp rfl) ?_
 exact congrArg (fun x:Int=>AV.v (.int .i64 x)) (Eq.trans ((((Y7 ⟨⟨⟨HRX,YA HG (by omega)⟩,hs27⟩,hs28⟩).trans (rest_6 hs35 hs36 hs37 hs38 hs39)).trans (by rw [hs44,ZL])).trans (diX_4 hs48)).symm (Z8 hs1 HNO hs10 hs17).symm)
 have hs48f:(dir4 q q.rules[i])=false:=by simpa using hs48
 rw [hs48f]
 refine kW 276 [(1,.box 27 (cFm q)),(2,.box 65 (cRu q.rules[i]))] [(2,.box 1 0),(5,.box 2 0),(261,bF)] (Zo rfl (Zn (Zc (Zb (Zb ?_)))))
 refine Y6 (True) (ofL []) (ofT 276 [(275,bv (dirO q q.rules[i]))]) ?_ (fun _ => ?_)
 by_cases hs49:q.rules[i].kind=5
 by_cases hs50:q.top=4
 refine Za (oA (fb 1 5 U65 1) I0 (oB (lb (iv q.rules[i].kind) 262 U3) I0 rfl (oC (Zp rfl (dT hs49)) I0 I0 (pM (mT 264 bT) (gA (fb 1 2 U27 1) I0 (gB (lb (iv q.top) 266 U3) I0 rfl (gC (Zs rfl (dT' hs50)) I0 I0 (pP (pk true bF bF rfl) (pM (mT 269 bF) (qK (qK (qK (qK (pP (pk false (.v (.tuple #[])) bF rfl) (kN 276 [] [(275,bF)] ?_)))))))))))))))
 rw [show (dirO q q.rules[i])=false by first | (simp [dirO,hs1,hs10,hs17,hs26,hs27,hs28,hs35,hs36,hs37,hs38,hs39,hs44,hs48f,hs49,hs50];done) | (simp [dirO,inB,hs1,hs10,hs17,hs26,hs27,hs28,hs35,hs36,hs37,hs38,hs39,hs44,hs48f,hs49,hs50];done)]
 exact Zr T0 (Zj [] _ rfl (by kernel_rfl) (by kernel_rfl))
 by_cases hs51:(inB 1 2 q.rules[i].dir)=true
 refine Za (oA (fb 1 5 U65 1) I0 (oB (lb (iv q.rules[i].kind) 262 U3) I0 rfl (oC (Zp rfl (dT hs49)) I0 I0 (pM (mT 264 bT) (gA (fb 1 2 U27 1) I0 (gB (lb (iv q.top) 266 U3) I0 rfl (gC (Zs rfl (dF' hs50)) I0 I0 (pP (pk true bT bF rfl) (pM (mT 269 bT) (gA (fb 17 5 U65 1) I0 (gB (lb (iv q.rules[i].dir) 271 U3) I0 rfl (Y0 rfl (sc #[.tmp 272,.const (.int .i64 1),.const (.int .i64 2)] [] (ZS (ZH q.rules[i].dir 1 2) hs51) [iv q.rules[i].dir,iv 1,iv 2] rfl rfl rfl) ⟨I0,I0,I0,I0,T0⟩ T0 T0 (gA (Zq rfl rfl) I0 (pP (pk true bF bF rfl) (kN 276 [] [(275,bF)] ?_)))))))))))))))
 rw [show (dirO q q.rules[i])=false by first | (simp [dirO,hs1,hs10,hs17,hs26,hs27,hs28,hs35,hs36,hs37,hs38,hs39,hs44,hs48f,hs49,hs50,hs51];done) | (simp [dirO,inB,hs1,hs10,hs17,hs26,hs27,hs28,hs35,hs36,hs37,hs38,hs39,hs44,hs48f,hs49,hs50,hs51];done)]
 exact Zr T0 (Zj [] _ rfl (by kernel_rfl) (by kernel_rfl))
 have hs51f:(inB 1 2 q.rules[i].dir)=false:=by simpa using hs51
 refine Za (oA (fb 1 5 U65 1) I0 (oB (lb (iv q.rules[i].kind) 262 U3) I0 rfl (oC (Zp rfl (dT hs49)) I0 I0 (pM (mT 264 bT) (gA (fb 1 2 U27 1) I0 (gB (lb (iv q.top) 266 U3) I0 rfl (gC (Zs rfl (dF' hs50)) I0 I0 (pP (pk true bT bF rfl) (pM (mT 269 bT) (gA (fb 17 5 U65 1) I0 (gB (lb (iv q.rules[i].dir) 271 U3) I0 rfl (Y0 rfl (sc #[.tmp 272,.const (.int .i64 1),.const (.int .i64 2)] [] (ZS (ZH q.rules[i].dir 1 2) hs51f) [iv q.rules[i].dir,iv 1,iv 2] rfl rfl rfl) ⟨I0,I0,I0,I0,T0⟩ T0 T0 (gA (Zq rfl rfl) I0 (pP (pk true bT bF rfl) (kN 276 [] [(275,bT)] ?_)))))))))))))))
 rw [show (dirO q q.rules[i])=true by first | (simp [dirO,hs1,hs10,hs17,hs26,hs27,hs28,hs35,hs36,hs37,hs38,hs39,hs44,hs48f,hs49,hs50,hs51f];done) | (simp [dirO,inB,hs1,hs10,hs17,hs26,hs27,hs28,hs35,hs36,hs37,hs38,hs39,hs44,hs48f,hs49,hs50,hs51f];done)]
 exact Zr T0 (Zj [] _ rfl (by kernel_rfl) (by kernel_rfl))
 refine Za (oA (fb 1 5 U65 1) I0 (oB (lb (iv q.rules[i].kind) 262 U3) I0 rfl (oC (Zp rfl (dF hs49)) I0 I0 (pM (mT 264 bF) (qK (qK (qK (pP (pk false (.v (.tuple #[])) bF rfl) (pM (mT 269 bF) (qK (qK (qK (qK (pP (pk false (.v (.tuple #[])) bF rfl) (kN 276 [] [(275,bF)] ?_)))))))))))))))
 rw [show (dirO q q.rules[i])=false by first | (simp [dirO,hs1,hs10,hs17,hs26,hs27,hs28,hs35,hs36,hs37,hs38,hs39,hs44,hs48f,hs49];done) | (simp [dirO,inB,hs1,hs10,hs17,hs26,hs27,hs28,hs35,hs36,hs37,hs38,hs39,hs44,hs48f,hs49];done)]
 exact Zr T0 (Zj [] _ rfl (by kernel_rfl) (by kernel_rfl))
 refine Zc ?_
 by_cases hs52:(dirO q q.rules[i])=true
 rw [hs52]
 refine kW 276 [] [(275,bT)] (Zm rfl (Zb (Za (pM (aC (.int .i64 1)) (Ze (Zc (Zk (Zh ?_))))))))
 refine Zl Try.results57 (.tmp rfl) ?_
 exact congrArg (fun x:Int=>AV.v (.int .i64 x)) (Eq.trans ((((Y7 ⟨⟨⟨HRX,YA HG (by omega)⟩,hs27⟩,hs28⟩).trans (rest_6 hs35 hs36 hs37 hs38 hs39)).trans (by rw [hs44,ZL])).trans (diX_O hs52)).symm (Z8 hs1 HNO hs10 hs17).symm)
 have hs52f:(dirO q q.rules[i])=false:=by simpa using hs52
 rw [hs52f]
 refine kW 276 [] [(275,bF)] (Zo rfl (Zn (Zc (Zb (Za (pM (aC (.int .i64 0)) (Ze (Zc (Zk ?_)))))))))
 refine Zl Try.results57 (.tmp rfl) ?_
 exact congrArg (fun x:Int=>AV.v (.int .i64 x)) (Eq.trans ((((Y7 ⟨⟨⟨HRX,YA HG (by omega)⟩,hs27⟩,hs28⟩).trans (rest_6 hs35 hs36 hs37 hs38 hs39)).trans (by rw [hs44,ZL])).trans (diX_0 hs48f hs52f)).symm (Z8 hs1 HNO hs10 hs17).symm)
 rw [dF hs44]
 refine kW 276 [(1,.box 27 (cFm q)),(2,.box 65 (cRu q.rules[i]))] [(2,.box 1 0),(5,.box 2 0),(247,bT)] (Zm rfl (Zb (Za (pM (aC (.int .i64 1)) (Ze (Zc (Zk (Zh ?_))))))))
 refine Zl Try.results57 (.tmp rfl) ?_
 exact congrArg (fun x:Int=>AV.v (.int .i64 x)) (Eq.trans (((Y7 ⟨⟨⟨HRX,YA HG (by omega)⟩,hs27⟩,hs28⟩).trans (rest_6 hs35 hs36 hs37 hs38 hs39)).trans ((Y8 _ hs44).trans (poX_one hs44))).symm (Z8 hs1 HNO hs10 hs17).symm)
 refine Za (pM (mT 17 (iv (setE q.states.length q.rules[i].parent))) (oC (Zs rfl (dF' hs39)) I0 I0 (Ze (Zc (Zm rfl (Zb (Za (pM (mT 17 (iv (setE q.states.length q.rules[i].parent))) (pM (aT 228 (iv (setE q.states.length q.rules[i].parent))) (Ze (Zc (Zk (Zh ?_)))))))))))))
 refine Zl Try.results57 (.tmp rfl) ?_
 exact congrArg (fun x:Int=>AV.v (.int .i64 x)) (Eq.trans ((Y7 ⟨⟨⟨HRX,YA HG (by omega)⟩,hs27⟩,hs28⟩).trans (rest_5 hs35 hs36 hs37 hs38 hs39)).symm (Z8 hs1 HNO hs10 hs17).symm)
 refine Za (pM (mT 16 (iv (setE q.states.length q.rules[i].right))) (oC (Zs rfl (dF' hs38)) I0 I0 (Ze (Zc (Zm rfl (Zb (Za (pM (mT 16 (iv (setE q.states.length q.rules[i].right))) (pM (aT 221 (iv (setE q.states.length q.rules[i].right))) (Ze (Zc (Zk (Zh ?_)))))))))))))
 refine Zl Try.results57 (.tmp rfl) ?_
 exact congrArg (fun x:Int=>AV.v (.int .i64 x)) (Eq.trans ((Y7 ⟨⟨⟨HRX,YA HG (by omega)⟩,hs27⟩,hs28⟩).trans (rest_4 hs35 hs36 hs37 hs38)).symm (Z8 hs1 HNO hs10 hs17).symm)
 refine Za (pM (mT 15 (iv (setE q.states.length q.rules[i].left))) (oC (Zs rfl (dF' hs37)) I0 I0 (Ze (Zc (Zm rfl (Zb (Za (pM (mT 15 (iv (setE q.states.length q.rules[i].left))) (pM (aT 214 (iv (setE q.states.length q.rules[i].left))) (Ze (Zc (Zk (Zh ?_)))))))))))))
 refine Zl Try.results57 (.tmp rfl) ?_
 exact congrArg (fun x:Int=>AV.v (.int .i64 x)) (Eq.trans ((Y7 ⟨⟨⟨HRX,YA HG (by omega)⟩,hs27⟩,hs28⟩).trans (rest_3 hs35 hs36 hs37)).symm (Z8 hs1 HNO hs10 hs17).symm)
 refine Za (pM (mT 14 (iv (setE q.msgs.length q.rules[i].send))) (oC (Zs rfl (dF' hs36)) I0 I0 (Ze (Zc (Zm rfl (Zb (Za (pM (mT 14 (iv (setE q.msgs.length q.rules[i].send))) (pM (aT 207 (iv (setE q.msgs.length q.rules[i].send))) (Ze (Zc (Zk (Zh ?_)))))))))))))
 refine Zl Try.results57 (.tmp rfl) ?_
 exact congrArg (fun x:Int=>AV.v (.int .i64 x)) (Eq.trans ((Y7 ⟨⟨⟨HRX,YA HG (by omega)⟩,hs27⟩,hs28⟩).trans (rest_2 hs35 hs36)).symm (Z8 hs1 HNO hs10 hs17).symm)
 rw [dF hs35]
 refine kW 276 [(1,.box 27 (cFm q)),(2,.box 65 (cRu q.rules[i]))] [(2,.box 1 0),(5,.box 2 0),(6,iv q.states.length),(198,bT)] (Zm rfl (Zb (Za (pM (aC (.int .i64 5)) (Ze (Zc (Zk (Zh ?_))))))))
 refine Zl Try.results57 (.tmp rfl) ?_
 exact congrArg (fun x:Int=>AV.v (.int .i64 x)) (Eq.trans ((Y7 ⟨⟨⟨HRX,YA HG (by omega)⟩,hs27⟩,hs28⟩).trans ((rest_1 hs35).trans (shE_five hs35))).symm (Z8 hs1 HNO hs10 hs17).symm)
 refine Za (pM (mT 13 (iv (setE q.states.length q.rules[i].fa))) (oC (Zs rfl (dF' hs28)) I0 I0 (Ze (Zc (Zm rfl (Zb (Za (pM (mT 13 (iv (setE q.states.length q.rules[i].fa))) (pM (aT 170 (iv (setE q.states.length q.rules[i].fa))) (Ze (Zc (Zk (Zh ?_)))))))))))))
 refine Zl Try.results57 (.tmp rfl) ?_
 exact congrArg (fun x:Int=>AV.v (.int .i64 x)) (Eq.trans (part_4 ⟨⟨HRX,YA HG (by omega)⟩,hs27⟩ hs28).symm (Z8 hs1 HNO hs10 hs17).symm)
 refine Za (pM (mT 12 (iv (setE q.states.length q.rules[i].ex))) (oC (Zs rfl (dF' hs27)) I0 I0 (Ze (Zc (Zm rfl (Zb (Za (pM (mT 12 (iv (setE q.states.length q.rules[i].ex))) (pM (aT 163 (iv (setE q.states.length q.rules[i].ex))) (Ze (Zc (Zk (Zh ?_)))))))))))))
 refine Zl Try.results57 (.tmp rfl) ?_
 exact congrArg (fun x:Int=>AV.v (.int .i64 x)) (Eq.trans (part_3 ⟨HRX,YA HG (by omega)⟩ hs27).symm (Z8 hs1 HNO hs10 hs17).symm)
 have hs17f:(rstB q.rules[i] q.states.length)=false:=by simpa using hs17
 rw [hs17f]
 refine kW 276 [(1,.box 27 (cFm q)),(2,.box 65 (cRu q.rules[i]))] [(2,.box 1 0),(5,.box 2 0),(6,iv q.states.length),(102,bT)] (Zm rfl (Zb (Za (pM (aC (.int .i64 5)) (Ze (Zc (Zk (Zh ?_))))))))
 refine Zl Try.results57 (.tmp rfl) ?_
 exact congrArg (fun x:Int=>AV.v (.int .i64 x)) ((rruleE_state hs1 HNO hs10 hs17f).symm)
 have hs10f:(rkindB q.rules[i] q.top)=false:=by simpa using hs10
 rw [hs10f]
 refine kW 276 [(1,.box 27 (cFm q)),(2,.box 65 (cRu q.rules[i]))] [(2,.box 1 0),(5,.box 2 0),(6,iv q.states.length),(61,bT)] (Zm rfl (Zb (Za (pM (aC (.int .i64 6)) (Ze (Zc (Zk (Zh ?_))))))))
 refine Zl Try.results57 (.tmp rfl) ?_
 exact congrArg (fun x:Int=>AV.v (.int .i64 x)) ((rruleE_kind hs1 HNO hs10f).symm)
 have hs1f:(nameB q.rules[i].nm.toList)=false:=by simpa using hs1
 refine Za (oA (fb 0 5 U65 1) I0 (oB (lb (sv q.rules[i].nm) 26 U9) I0 rfl (oC (sc #[.tmp 27] [] (ZS (YV q.rules[i].nm HR.nm) hs1f) [sv q.rules[i].nm] rfl rfl rfl) I0 I0 (oA (Zq rfl rfl) I0 (Ze (Zc (Zm rfl (Zb (Za (pM (aC (.int .i64 2)) (Ze (Zc (Zk (Zh ?_))))))))))))))
 refine Zl Try.results57 (.tmp rfl) ?_
 exact congrArg (fun x:Int=>AV.v (.int .i64 x)) ((rruleE_nm (.inl hs1f)).symm)
end Go.Proofs.Ytengacodacejiaa
