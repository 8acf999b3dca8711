import Derived.Test.YtengacodacejiaaGrpflmelffh
import Derived.Test.YtengacodacejiaaGrpflkjneac
set_option linter.all false
namespace Go.Proofs.Ytengacodacejiaa
open Go.RowKit Go.Deep
variable {J:World→Prop}
set_option maxRecDepth 100000 in
set_option maxHeartbeats 6400000 in
theorem rValidate_c {q:Fm} (HQ:FmOk q):Ctr Try.prog J 33 [.agg (cFm q)] (iv (valE q)):=by
 have hNL:=nmA_len q
 have l1:=HQ.lstates
 have l2:=HQ.lmsgs
 have l3:=HQ.lvals
 have l4:=HQ.lrules
 have l5:=HQ.lres
 have l6:=HQ.linit
 have l7:=HQ.lleader
 refine ZJ Try.func33 rfl (by intro X hX;simp only [List.mem_cons,List.not_mem_nil,or_false] at hX;rcases hX with rfl;exact Zt (YN q)) (n:=178) rfl (by simp) (fun w0 => ?_)
 refine kW 178 [] [(0,.agg (cFm q))] (Zb (Za (ZQ rfl (YC (X := .agg (cFm q)) (k:=1) (.tmp 0) rfl rfl) ⟨I0,T0⟩ T0 rfl (pM (aC (.int .i64 0)) (Ze (Zc (Zb (Zb ?_))))))))
 by_cases hs1:(nameB q.nm.toList)=true
 refine Za (oA (fb 0 1 U27 1) I0 (oB (lb (sv q.nm) 10 U9) I0 rfl (oC (sc #[.tmp 11] [] (ZS (YV q.nm HQ.nm) hs1) [sv q.nm] rfl rfl rfl) I0 I0 (oA (Zq rfl rfl) I0 (kN 178 [(1,.box 27 (cFm q))] [(1,.box 1 0),(2,iv 0),(13,bF)] (Zc (Zo rfl (Zn (Zc (Zb (Zb ?_)))))))))))
 refine Y6 (True) (ofL [(1,.box 27 (cFm q))]) (ofT 178 [(1,.box 1 0),(2,iv 0),(23,bv (argB q))]) ?_ (fun _ => ?_)
 by_cases hs2:(inB 1 4 q.top)=true
 by_cases hs3:(inB 0 3 q.fault)=true
 refine Za (oA (fb 1 1 U27 1) I0 (oB (lb (iv q.top) 14 U3) I0 rfl (ZQ rfl (sc #[.tmp 15,.const (.int .i64 1),.const (.int .i64 4)] [] (ZS (ZH q.top 1 4) hs2) [iv q.top,iv 1,iv 4] rfl rfl rfl) ⟨I0,I0,I0,I0,T0⟩ T0 T0 (oA (Zq rfl rfl) I0 (pM (mT 17 bF) (gA (fb 5 1 U27 1) I0 (gB (lb (iv q.fault) 19 U3) I0 rfl (Y0 rfl (sc #[.tmp 20,.const (.int .i64 0),.const (.int .i64 3)] [] (ZS (ZH q.fault 0 3) hs3) [iv q.fault,iv 0,iv 3] rfl rfl rfl) ⟨I0,I0,I0,I0,T0⟩ T0 T0 (gA (Zq rfl rfl) I0 (pP (pk false bT bF rfl) (kN 178 [(1,.box 27 (cFm q))] [(1,.box 1 0),(2,iv 0),(23,bF)] ?_)))))))))))
 rw [show (argB q)=false by simp only [argB,Bool.or_true,Bool.true_or,Bool.or_false,Bool.false_or,Bool.and_true,Bool.true_and,Bool.and_false,Bool.false_and,Bool.not_true,Bool.not_false,hs1,hs2,hs3]]
 exact Zr T0 (Zj _ _ rfl (by kernel_rfl) (by kernel_rfl))
 have hs3f:(inB 0 3 q.fault)=false:=by simpa using hs3
 refine Za (oA (fb 1 1 U27 1) I0 (oB (lb (iv q.top) 14 U3) I0 rfl (ZQ rfl (sc #[.tmp 15,.const (.int .i64 1),.const (.int .i64 4)] [] (ZS (ZH q.top 1 4) hs2) [iv q.top,iv 1,iv 4] rfl rfl rfl) ⟨I0,I0,I0,I0,T0⟩ T0 T0 (oA (Zq rfl rfl) I0 (pM (mT 17 bF) (gA (fb 5 1 U27 1) I0 (gB (lb (iv q.fault) 19 U3) I0 rfl (Y0 rfl (sc #[.tmp 20,.const (.int .i64 0),.const (.int .i64 3)] [] (ZS (ZH q.fault 0 3) hs3f) [iv q.fault,iv 0,iv 3] rfl rfl rfl) ⟨I0,I0,I0,I0,T0⟩ T0 T0 (gA (Zq rfl rfl) I0 (pP (pk false bT bT rfl) (kN 178 [(1,.box 27 (cFm q))] [(1,.box 1 0),(2,iv 0),(23,bT)] ?_)))))))))))
 rw [show (argB q)=true by simp only [argB,Bool.or_true,Bool.true_or,Bool.or_false,Bool.false_or,Bool.and_true,Bool.true_and,Bool.and_false,Bool.false_and,Bool.not_true,Bool.not_false,hs1,hs2,hs3f]]
 exact Zr T0 (Zj _ _ rfl (by kernel_rfl) (by kernel_rfl))
 have hs2f:(inB 1 4 q.top)=false:=by simpa using hs2
 refine Za (oA (fb 1 1 U27 1) I0 (oB (lb (iv q.top) 14 U3) I0 rfl (ZQ rfl (sc #[.tmp 15,.const (.int .i64 1),.const (.int .i64 4)] [] (ZS (ZH q.top 1 4) hs2f) [iv q.top,iv 1,iv 4] rfl rfl rfl) ⟨I0,I0,I0,I0,T0⟩ T0 T0 (oA (Zq rfl rfl) I0 (pM (mT 17 bT) (qK (qK (qK (qK (pP (pk true bT (.v (.tuple #[])) rfl) (kN 178 [(1,.box 27 (cFm q))] [(1,.box 1 0),(2,iv 0),(23,bT)] ?_)))))))))))
 rw [show (argB q)=true by simp only [argB,Bool.or_true,Bool.true_or,Bool.or_false,Bool.false_or,Bool.and_true,Bool.true_and,Bool.and_false,Bool.false_and,Bool.not_true,Bool.not_false,hs1,hs2f]]
 exact Zr T0 (Zj _ _ rfl (by kernel_rfl) (by kernel_rfl))
 refine Zc ?_
 by_cases hs4:(argB q)=true
 rw [hs4]
 refine kW 178 [(1,.box 27 (cFm q))] [(1,.box 1 0),(2,iv 0),(23,bT)] (Zm rfl (Zb (Za (pM (aC (.int .i64 1)) (Ze (Zc (Zk (Zh ?_))))))))
 refine Zl Try.results33 (.tmp rfl) ?_
 exact congrArg (fun x:Int=>AV.v (.int .i64 x)) ((valE_ar hs1 hs4).symm)
 have hs4f:(argB q)=false:=by simpa using hs4
 rw [hs4f]
 refine kW 178 [(1,.box 27 (cFm q))] [(1,.box 1 0),(2,iv 0),(23,bF)] (Zo rfl (Zn (Zc (Zb (Zb ?_)))))
 by_cases hs5:((q.states.length:Nat):Int)=0
 refine Za (oA (fb 2 1 U27 1) I0 (oB (lb (Zw q.states) 24 U22) I0 rfl (oA (nS 25 U22) I0 (oC (Zp rfl (dT hs5)) I0 I0 (Ze (Zc (Zm rfl (Zb (Za (pM (aC (.int .i64 1)) (Ze (Zc (Zk (Zh ?_))))))))))))))
 refine Zl Try.results33 (.tmp rfl) ?_
 exact congrArg (fun x:Int=>AV.v (.int .i64 x)) ((valE_st hs1 hs4f hs5).symm)
 refine Za (oA (fb 2 1 U27 1) I0 (oB (lb (Zw q.states) 24 U22) I0 rfl (oA (nS 25 U22) I0 (oC (Zp rfl (dF hs5)) I0 I0 (kN 178 [(1,.box 27 (cFm q))] [(1,.box 1 0),(2,iv 0),(27,bF)] (Zc (Zo rfl (Zn (Zc (Zb (Zb ?_)))))))))))
 refine Y6 (True) (ofL [(1,.box 27 (cFm q))]) (ofT 178 [(1,.box 1 0),(2,iv 0),(55,bv (tooI q))]) ?_ (fun _ => ?_)
 by_cases hs6:6<((q.states.length:Nat):Int)
 refine Za (oA (fb 2 1 U27 1) I0 (oB (lb (Zw q.states) 28 U22) I0 rfl (oA (nS 29 U22) I0 (oC (ZK rfl (dT hs6)) I0 I0 (pM (mT 31 bT) (qK (qK (qK (qK (pP (pk true bT (.v (.tuple #[])) rfl) (pM (mT 37 bT) (qK (qK (qK (qK (pP (pk true bT (.v (.tuple #[])) rfl) (pM (mT 43 bT) (qK (qK (qK (qK (pP (pk true bT (.v (.tuple #[])) rfl) (pM (mT 49 bT) ?_)))))))))))))))))))))))
 refine qK (qK (qK (qK (pP (pk true bT (.v (.tuple #[])) rfl) (kN 178 [(1,.box 27 (cFm q))] [(1,.box 1 0),(2,iv 0),(55,bT)] ?_)))))
 rw [show (tooI q)=true by simp only [tooI,Bool.or_true,Bool.true_or,Bool.or_false,Bool.false_or,Bool.and_true,Bool.true_and,Bool.and_false,Bool.false_and,Bool.not_true,Bool.not_false,hs1,hs4f,decide_eq_false hs5,decide_eq_true hs6]]
 exact Zr T0 (Zj _ _ rfl (by kernel_rfl) (by kernel_rfl))
 by_cases hs7:3<((q.msgs.length:Nat):Int)
 refine Za (oA (fb 2 1 U27 1) I0 (oB (lb (Zw q.states) 28 U22) I0 rfl (oA (nS 29 U22) I0 (oC (ZK rfl (dF hs6)) I0 I0 (pM (mT 31 bF) (gA (fb 3 1 U27 1) I0 (gB (lb (Zw q.msgs) 33 U22) I0 rfl (gA (nS 34 U22) I0 (gC (ZK rfl (dT hs7)) I0 I0 (pP (pk false bT bT rfl) (pM (mT 37 bT) (qK (qK (qK (qK (pP (pk true bT (.v (.tuple #[])) rfl) (pM (mT 43 bT) (qK (qK (qK (qK (pP (pk true bT (.v (.tuple #[])) rfl) (pM (mT 49 bT) ?_)))))))))))))))))))))))
 refine qK (qK (qK (qK (pP (pk true bT (.v (.tuple #[])) rfl) (kN 178 [(1,.box 27 (cFm q))] [(1,.box 1 0),(2,iv 0),(55,bT)] ?_)))))
 rw [show (tooI q)=true by simp only [tooI,Bool.or_true,Bool.true_or,Bool.or_false,Bool.false_or,Bool.and_true,Bool.true_and,Bool.and_false,Bool.false_and,Bool.not_true,Bool.not_false,hs1,hs4f,decide_eq_false hs5,decide_eq_false hs6,decide_eq_true hs7]]
 exact Zr T0 (Zj _ _ rfl (by kernel_rfl) (by kernel_rfl))
 by_cases hs8:3<((q.vals.length:Nat):Int)
 refine Za (oA (fb 2 1 U27 1) I0 (oB (lb (Zw q.states) 28 U22) I0 rfl (oA (nS 29 U22) I0 (oC (ZK rfl (dF hs6)) I0 I0 (pM (mT 31 bF) (gA (fb 3 1 U27 1) I0 (gB (lb (Zw q.msgs) 33 U22) I0 rfl (gA (nS 34 U22) I0 (gC (ZK rfl (dF hs7)) I0 I0 (pP (pk false bT bF rfl) (pM (mT 37 bF) (gA (fb 4 1 U27 1) I0 (gB (lb (Zw q.vals) 39 U22) I0 rfl (gA (nS 40 U22) I0 (gC (ZK rfl (dT hs8)) I0 I0 (pP (pk false bT bT rfl) (pM (mT 43 bT) (qK (qK (qK (qK (pP (pk true bT (.v (.tuple #[])) rfl) (pM (mT 49 bT) ?_)))))))))))))))))))))))
 refine qK (qK (qK (qK (pP (pk true bT (.v (.tuple #[])) rfl) (kN 178 [(1,.box 27 (cFm q))] [(1,.box 1 0),(2,iv 0),(55,bT)] ?_)))))
 rw [show (tooI q)=true by simp only [tooI,Bool.or_true,Bool.true_or,Bool.or_false,Bool.false_or,Bool.and_true,Bool.true_and,Bool.and_false,Bool.false_and,Bool.not_true,Bool.not_false,hs1,hs4f,decide_eq_false hs5,decide_eq_false hs6,decide_eq_false hs7,decide_eq_true hs8]]
 exact Zr T0 (Zj _ _ rfl (by kernel_rfl) (by kernel_rfl))
 by_cases hs9:4<((q.res.length:Nat):Int)
 refine Za (oA (fb 2 1 U27 1) I0 (oB (lb (Zw q.states) 28 U22) I0 rfl (oA (nS 29 U22) I0 (oC (ZK rfl (dF hs6)) I0 I0 (pM (mT 31 bF) (gA (fb 3 1 U27 1) I0 (gB (lb (Zw q.msgs) 33 U22) I0 rfl (gA (nS 34 U22) I0 (gC (ZK rfl (dF hs7)) I0 I0 (pP (pk false bT bF rfl) (pM (mT 37 bF) (gA (fb 4 1 U27 1) I0 (gB (lb (Zw q.vals) 39 U22) I0 rfl (gA (nS 40 U22) I0 (gC (ZK rfl (dF hs8)) I0 I0 (pP (pk false bT bF rfl) (pM (mT 43 bF) (gA (fb 6 1 U27 1) I0 (gB (lb (slA 4 cLn q.res) 45 U23) I0 rfl (gA (nS 46 U23) I0 (gC (ZK rfl (dT hs9)) I0 I0 (pP (pk false bT bT rfl) (pM (mT 49 bT) ?_)))))))))))))))))))))))
 refine qK (qK (qK (qK (pP (pk true bT (.v (.tuple #[])) rfl) (kN 178 [(1,.box 27 (cFm q))] [(1,.box 1 0),(2,iv 0),(55,bT)] ?_)))))
 rw [show (tooI q)=true by simp only [tooI,Bool.or_true,Bool.true_or,Bool.or_false,Bool.false_or,Bool.and_true,Bool.true_and,Bool.and_false,Bool.false_and,Bool.not_true,Bool.not_false,hs1,hs4f,decide_eq_false hs5,decide_eq_false hs6,decide_eq_false hs7,decide_eq_false hs8,decide_eq_true hs9]]
 exact Zr T0 (Zj _ _ rfl (by kernel_rfl) (by kernel_rfl))
 by_cases hs10:8<((q.rules.length:Nat):Int)
 refine Za (oA (fb 2 1 U27 1) I0 (oB (lb (Zw q.states) 28 U22) I0 rfl (oA (nS 29 U22) I0 (oC (ZK rfl (dF hs6)) I0 I0 (pM (mT 31 bF) (gA (fb 3 1 U27 1) I0 (gB (lb (Zw q.msgs) 33 U22) I0 rfl (gA (nS 34 U22) I0 (gC (ZK rfl (dF hs7)) I0 I0 (pP (pk false bT bF rfl) (pM (mT 37 bF) (gA (fb 4 1 U27 1) I0 (gB (lb (Zw q.vals) 39 U22) I0 rfl (gA (nS 40 U22) I0 (gC (ZK rfl (dF hs8)) I0 I0 (pP (pk false bT bF rfl) (pM (mT 43 bF) (gA (fb 6 1 U27 1) I0 (gB (lb (slA 4 cLn q.res) 45 U23) I0 rfl (gA (nS 46 U23) I0 (gC (ZK rfl (dF hs9)) I0 I0 (pP (pk false bT bF rfl) (pM (mT 49 bF) ?_)))))))))))))))))))))))
 refine gA (fb 9 1 U27 1) I0 (gB (lb (slA 18 cRu q.rules) 51 U25) I0 rfl (gA (nS 52 U25) I0 (gC (ZK rfl (dT hs10)) I0 I0 (pP (pk false bT bT rfl) (kN 178 [(1,.box 27 (cFm q))] [(1,.box 1 0),(2,iv 0),(55,bT)] ?_)))))
 rw [show (tooI q)=true by simp only [tooI,Bool.or_true,Bool.true_or,Bool.or_false,Bool.false_or,Bool.and_true,Bool.true_and,Bool.and_false,Bool.false_and,Bool.not_true,Bool.not_false,hs1,hs4f,decide_eq_false hs5,decide_eq_false hs6,decide_eq_false hs7,decide_eq_false hs8,decide_eq_false hs9,decide_eq_true hs10]]
 exact Zr T0 (Zj _ _ rfl (by kernel_rfl) (by kernel_rfl))
 refine Za (oA (fb 2 1 U27 1) I0 (oB (lb (Zw q.states) 28 U22) I0 rfl (oA (nS 29 U22) I0 (oC (ZK rfl (dF hs6)) I0 I0 (pM (mT 31 bF) (gA (fb 3 1 U27 1) I0 (gB (lb (Zw q.msgs) 33 U22) I0 rfl (gA (nS 34 U22) I0 (gC (ZK rfl (dF hs7)) I0 I0 (pP (pk false bT bF rfl) (pM (mT 37 bF) (gA (fb 4 1 U27 1) I0 (gB (lb (Zw q.vals) 39 U22) I0 rfl (gA (nS 40 U22) I0 (gC (ZK rfl (dF hs8)) I0 I0 (pP (pk false bT bF rfl) (pM (mT 43 bF) (gA (fb 6 1 U27 1) I0 (gB (lb (slA 4 cLn q.res) 45 U23) I0 rfl (gA (nS 46 U23) I0 (gC (ZK rfl (dF hs9)) I0 I0 (pP (pk false bT bF rfl) (pM (mT 49 bF) ?_)))))))))))))))))))))))
 refine gA (fb 9 1 U27 1) I0 (gB (lb (slA 18 cRu q.rules) 51 U25) I0 rfl (gA (nS 52 U25) I0 (gC (ZK rfl (dF hs10)) I0 I0 (pP (pk false bT bF rfl) (kN 178 [(1,.box 27 (cFm q))] [(1,.box 1 0),(2,iv 0),(55,bF)] ?_)))))
 rw [show (tooI q)=false by simp only [tooI,Bool.or_true,Bool.true_or,Bool.or_false,Bool.false_or,Bool.and_true,Bool.true_and,Bool.and_false,Bool.false_and,Bool.not_true,Bool.not_false,hs1,hs4f,decide_eq_false hs5,decide_eq_false hs6,decide_eq_false hs7,decide_eq_false hs8,decide_eq_false hs9,decide_eq_false hs10]]
 exact Zr T0 (Zj _ _ rfl (by kernel_rfl) (by kernel_rfl))
 refine Zc ?_
 by_cases hs11:(tooI q)=true
 rw [hs11]
 refine kW 178 [(1,.box 27 (cFm q))] [(1,.box 1 0),(2,iv 0),(55,bT)] (Zm rfl (Zb (Za (pM (aC (.int .i64 4)) (Ze (Zc (Zk (Zh ?_))))))))
 refine Zl Try.results33 (.tmp rfl) ?_
 exact congrArg (fun x:Int=>AV.v (.int .i64 x)) ((valE_tb hs1 hs4f hs5 hs11).symm)
 have hs11f:(tooI q)=false:=by simpa using hs11
 rw [hs11f]
 refine kW 178 [(1,.box 27 (cFm q))] [(1,.box 1 0),(2,iv 0),(55,bF)] (Zo rfl (Zn (Zc (Zb ?_))))
 refine Zu (dR (sp_build0 (z:=1) (k:=2) true rfl U22 (by kernel_rfl)) T0 T0 rfl (dA (fb 2 1 U27 1) I0 (dB (lb (Zw q.states) 57 U22) I0 rfl (dR (sp_append (n:=0) (cs:=[]) (fr:=true) (m:=q.states.length) (ds:=(q.states.map sv)) (⟨U22,by kernel_rfl,by decide⟩:Elt Try.prog 22 9 1 16) (.tmp 56) (.tmp 58) rfl (fun _ d hd=>by obtain ⟨x,_,rfl⟩:=List.mem_map.1 hd;rfl) (by have:=tooI_no hs11f;unfold maxLen;omega) (by have:=tooI_no hs11f;omega) (fun d hd=>by obtain ⟨x,_,rfl⟩:=List.mem_map.1 hd;rfl) (es:=(q.states.map sv)) (by rw [unfr_strs];rfl)) ⟨I0,I0,T0⟩ ⟨rfl,T0⟩ rfl (dA (fb 3 1 U27 1) I0 (dB (lb (Zw q.msgs) 60 U22) I0 rfl (dR (sp_append (n:=(0+q.states.length)) (cs:=(q.states.map sv)) (fr:=true) (m:=q.msgs.length) (ds:=(q.msgs.map sv)) (⟨U22,by kernel_rfl,by decide⟩:Elt Try.prog 22 9 1 16) (.tmp 59) (.tmp 61) rfl (fun _ d hd=>by obtain ⟨x,_,rfl⟩:=List.mem_map.1 hd;rfl) (by have:=tooI_no hs11f;unfold maxLen;omega) (by have:=tooI_no hs11f;omega) (fun d hd=>by obtain ⟨x,_,rfl⟩:=List.mem_map.1 hd;rfl) (es:=((q.states++q.msgs).map sv)) (by rw [unfr_strs,← List.map_append])) ⟨I0,I0,T0⟩ ⟨rfl,T0⟩ rfl (dA (fb 4 1 U27 1) I0 (dB (lb (Zw q.vals) 63 U22) I0 rfl (dR (sp_append (n:=(0+q.states.length+q.msgs.length)) (cs:=((q.states++q.msgs).map sv)) (fr:=true) (m:=q.vals.length) (ds:=(q.vals.map sv)) (⟨U22,by kernel_rfl,by decide⟩:Elt Try.prog 22 9 1 16) (.tmp 62) (.tmp 64) rfl (fun _ d hd=>by obtain ⟨x,_,rfl⟩:=List.mem_map.1 hd;rfl) (by have:=tooI_no hs11f;unfold maxLen;omega) (by have:=tooI_no hs11f;omega) (fun d hd=>by obtain ⟨x,_,rfl⟩:=List.mem_map.1 hd;rfl) (es:=((nmA q).map sv)) (by rw [unfr_strs];exact nmA_map q)) ⟨I0,I0,T0⟩ ⟨rfl,T0⟩ rfl (dM (aT 65 (.own 2)) (dE ?_)))))))))))) (by kernel_rfl)
 show ETri J w0 _ _ _
 refine kW 178 [(1,.box 27 (cFm q)),(2,.row true 9 1 (0+q.states.length+q.msgs.length+q.vals.length) ((nmA q).map sv))] [(1,.box 1 0),(2,iv 0),(3,.own 2)] (Zc (Zb (Zb (Za (pM (aC (.int .i64 0)) (kN 178 [(1,.box 27 (cFm q)),(2,.row true 9 1 (0+q.states.length+q.msgs.length+q.vals.length) ((nmA q).map sv))] [(1,.box 1 0),(2,iv 0),(3,.own 2),(4,iv 0)] (Zc ?_)))))))
 refine Y6 (nmOk (nmA q) (nmA q).length=true) (ofL [(1,.box 27 (cFm q))]) (ofT 178 [(1,.box 1 0)]) ?_ (fun NOK => ?_)
 refine ZE ?_
 refine Yp (σ:={k:Nat // k≤(nmA q).length∧nmOk (nmA q) k=true}) (fun s=>(ofL [(1,.box 27 (cFm q))],ofT 178 [(1,.box 1 0),(3,.fr (.sl 1 (0+q.states.length+q.msgs.length+q.vals.length) ((nmA q).map sv))),(4,iv s.1)])) (fun s=>(nmA q).length-s.1) ⟨0,Nat.zero_le _,rfl⟩ (Zj _ _ rfl (by kernel_rfl) (by kernel_rfl)) (fun s => ?_)
 obtain ⟨k,hk0,hs0⟩:=s
 show ETri J w0 (ofL [(1,.box 27 (cFm q))]) (ofT 178 [(1,.box 1 0),(3,.fr (.sl 1 (0+q.states.length+q.msgs.length+q.vals.length) ((nmA q).map sv))),(4,iv k)]) _
 have hT:=tooI_no hs11f
 refine Zb (Zb ?_)
 by_cases hs12:((k:Nat):Int)<(((0+q.states.length+q.msgs.length+q.vals.length):Nat):Int)
 refine Za (pM (mT 4 (iv k)) (pM (mT 3 (.fr (.sl 1 (0+q.states.length+q.msgs.length+q.vals.length) ((nmA q).map sv)))) (ZQ rfl (nS 67 U22) ⟨.inr (.inl rfl),T0⟩ T0 T0 (oC (Z5 rfl (dT hs12)) I0 I0 (Ze (Zc (Zm rfl (Zn (Zc (Zb (ZE (Zb ?_))))))))))))
 by_cases hs13:(nameB (nmA q)[k].toList)=true
 by_cases hs14:(hasT ((nmA q).take k) (nmA q)[k])=true
 refine Zu (dM (mT 3 (.fr (.sl 1 (0+q.states.length+q.msgs.length+q.vals.length) ((nmA q).map sv)))) (dM (mT 4 (iv k)) (dR (xS (k*1) 72 73 U22) ⟨.inr (.inl rfl),I0,T0⟩ T0 T0 (dA (lE (sv ((nmA q)[k])) 74 U9 (Kk (nmA q) (by omega))) I0 (dC (sc #[.tmp 75] [] (ZS (YV ((nmA q)[k]) (nmA_sizes HQ _ (List.getElem_mem (by omega)))) hs13) [sv ((nmA q)[k])] rfl rfl rfl) I0 I0 (dA (Zq rfl rfl) I0 (dM (mT 77 bF) (dM (mT 3 (.fr (.sl 1 (0+q.states.length+q.msgs.length+q.vals.length) ((nmA q).map sv)))) (dM (mT 4 (iv k)) (dR (sp_sliceSl (l:=0) (h:=k) (ds:=((nmA q).take k).map sv) (.tmp 79) none (some (.tmp 80)) rfl U22 (by kernel_rfl) [] [(.tmp 80,iv k)] (.inl ⟨rfl,rfl,rfl⟩) (.inr ⟨_,_,rfl,rfl⟩) (Nat.zero_le _) (by omega) (by simp [List.map_take])) ⟨.inr (.inl rfl),I0,T0⟩ T0 T0 (dM (mT 3 (.fr (.sl 1 (0+q.states.length+q.msgs.length+q.vals.length) ((nmA q).map sv)))) (dM (mT 4 (iv k)) (dR (xS (k*1) 82 83 U22) ⟨.inr (.inl rfl),I0,T0⟩ T0 T0 (dA (lE (sv ((nmA q)[k])) 84 U9 (Kk (nmA q) (by omega))) I0 (dD (sc #[.tmp 81,.tmp 85] [] (ZS (HasText_k (nmA_sizes HQ) (k:=k) (by omega) _) hs14) [.sl 1 (k-0) (((nmA q).take k).map sv),sv ((nmA q)[k])] rfl rfl rfl) I0 I0 I0 (dP (pk false bT bT rfl) (dE ?_))))))))))))))))) (by kernel_rfl)
 show ETri J w0 _ _ _
 refine kW 178 [(1,.box 27 (cFm q))] [(1,.box 1 0),(3,.fr (.sl 1 (0+q.states.length+q.msgs.length+q.vals.length) ((nmA q).map sv))),(4,iv k),(69,bT),(87,bT)] (Zc (Zm rfl (Zb (Za (pM (aC (.int .i64 2)) (Ze (Zc (Zk (Zv (Zh (Zh (Zv (Y1 (Zh ?_))))))))))))))
 refine Zl Try.results33 (.tmp rfl) ?_
 exact congrArg (fun x:Int=>AV.v (.int .i64 x)) (((valE_2 ⟨hs1,hs4f,hs5,hs11f⟩).trans (val2_nm (nmOk_no (k:=k) (by omega) (by omega) (.inr hs14)))).symm)
 have hs14f:(hasT ((nmA q).take k) (nmA q)[k])=false:=by simpa using hs14
 refine Zu (dM (mT 3 (.fr (.sl 1 (0+q.states.length+q.msgs.length+q.vals.length) ((nmA q).map sv)))) (dM (mT 4 (iv k)) (dR (xS (k*1) 72 73 U22) ⟨.inr (.inl rfl),I0,T0⟩ T0 T0 (dA (lE (sv ((nmA q)[k])) 74 U9 (Kk (nmA q) (by omega))) I0 (dC (sc #[.tmp 75] [] (ZS (YV ((nmA q)[k]) (nmA_sizes HQ _ (List.getElem_mem (by omega)))) hs13) [sv ((nmA q)[k])] rfl rfl rfl) I0 I0 (dA (Zq rfl rfl) I0 (dM (mT 77 bF) (dM (mT 3 (.fr (.sl 1 (0+q.states.length+q.msgs.length+q.vals.length) ((nmA q).map sv)))) (dM (mT 4 (iv k)) (dR (sp_sliceSl (l:=0) (h:=k) (ds:=((nmA q).take k).map sv) (.tmp 79) none (some (.tmp 80)) rfl U22 (by kernel_rfl) [] [(.tmp 80,iv k)] (.inl ⟨rfl,rfl,rfl⟩) (.inr ⟨_,_,rfl,rfl⟩) (Nat.zero_le _) (by omega) (by simp [List.map_take])) ⟨.inr (.inl rfl),I0,T0⟩ T0 T0 (dM (mT 3 (.fr (.sl 1 (0+q.states.length+q.msgs.length+q.vals.length) ((nmA q).map sv)))) (dM (mT 4 (iv k)) (dR (xS (k*1) 82 83 U22) ⟨.inr (.inl rfl),I0,T0⟩ T0 T0 (dA (lE (sv ((nmA q)[k])) 84 U9 (Kk (nmA q) (by omega))) I0 (dD (sc #[.tmp 81,.tmp 85] [] (ZS (HasText_k (nmA_sizes HQ) (k:=k) (by omega) _) hs14f) [.sl 1 (k-0) (((nmA q).take k).map sv),sv ((nmA q)[k])] rfl rfl rfl) I0 I0 I0 (dP (pk false bT bF rfl) (dE ?_))))))))))))))))) (by kernel_rfl)
 show ETri J w0 _ _ _
 refine kW 178 [(1,.box 27 (cFm q))] [(1,.box 1 0),(3,.fr (.sl 1 (0+q.states.length+q.msgs.length+q.vals.length) ((nmA q).map sv))),(4,iv k),(69,bT),(87,bF)] (Zc (Zo rfl (Zn (ZX (Zc (Za (pM (mT 4 (iv k)) (oC (Yj (c:=((k+1:Nat):Int)) rfl (w64 (by omega) (by omega) (by omega))) I0 I0 (pM (aT 71 (iv (k+1:Nat))) (kN 178 [(1,.box 27 (cFm q))] [(1,.box 1 0),(3,.fr (.sl 1 (0+q.states.length+q.msgs.length+q.vals.length) ((nmA q).map sv))),(4,iv (k+1:Nat)),(69,bT),(87,bF)] (Zc ?_)))))))))))
 refine ZZ ⟨k+1,by omega,nmOk_succ (by omega) hs0 hs13 hs14f⟩ (show (nmA q).length-(k+1)<(nmA q).length-k by omega) ?_
 exact Zj _ _ rfl (by kernel_rfl) (by kernel_rfl)
 have hs13f:(nameB (nmA q)[k].toList)=false:=by simpa using hs13
 refine Zu (dM (mT 3 (.fr (.sl 1 (0+q.states.length+q.msgs.length+q.vals.length) ((nmA q).map sv)))) (dM (mT 4 (iv k)) (dR (xS (k*1) 72 73 U22) ⟨.inr (.inl rfl),I0,T0⟩ T0 T0 (dA (lE (sv ((nmA q)[k])) 74 U9 (Kk (nmA q) (by omega))) I0 (dC (sc #[.tmp 75] [] (ZS (YV ((nmA q)[k]) (nmA_sizes HQ _ (List.getElem_mem (by omega)))) hs13f) [sv ((nmA q)[k])] rfl rfl rfl) I0 I0 (dA (Zq rfl rfl) I0 (dM (mT 77 bT) (dK (dK (dK (dK (dK (dK (dK (dK (dP (pk true bT (.v (.tuple #[])) rfl) (dE ?_))))))))))))))))) (by kernel_rfl)
 show ETri J w0 _ _ _
 refine kW 178 [(1,.box 27 (cFm q))] [(1,.box 1 0),(3,.fr (.sl 1 (0+q.states.length+q.msgs.length+q.vals.length) ((nmA q).map sv))),(4,iv k),(69,bT),(87,bT)] (Zc (Zm rfl (Zb (Za (pM (aC (.int .i64 2)) (Ze (Zc (Zk (Zv (Zh (Zh (Zv (Y1 (Zh ?_))))))))))))))
 refine Zl Try.results33 (.tmp rfl) ?_
 exact congrArg (fun x:Int=>AV.v (.int .i64 x)) (((valE_2 ⟨hs1,hs4f,hs5,hs11f⟩).trans (val2_nm (nmOk_no (k:=k) (by omega) (by omega) (.inl hs13f)))).symm)
 refine Za (pM (mT 4 (iv k)) (pM (mT 3 (.fr (.sl 1 (0+q.states.length+q.msgs.length+q.vals.length) ((nmA q).map sv)))) (ZQ rfl (nS 67 U22) ⟨.inr (.inl rfl),T0⟩ T0 T0 (oC (Z5 rfl (dF hs12)) I0 I0 (kN 178 [(1,.box 27 (cFm q))] [(1,.box 1 0),(3,.fr (.sl 1 (0+q.states.length+q.msgs.length+q.vals.length) ((nmA q).map sv))),(4,iv k),(69,bF)] (Zc (Zo rfl (Yn (Zy (Zy (t_hit ?_)))))))))))
 exact Zr (by have:k=(nmA q).length:=(by omega);subst this;exact hs0) (Zj _ _ rfl (by kernel_rfl) (by kernel_rfl))
 refine Zc (Zb (Zb ?_))
 refine Y6 (True) (ofL [(1,.box 27 (cFm q))]) (ofT 178 [(1,.box 1 0),(124,bv (misB q))]) ?_ (fun _ => ?_)
 by_cases hs15:q.top=1
 by_cases hs16:0<((q.leader.length:Nat):Int)
 refine Za (oA (fb 1 1 U27 1) I0 (oB (lb (iv q.top) 88 U3) I0 rfl (oC (Zs rfl (dT' hs15)) I0 I0 (pM (mT 90 bF) (qK (qK (qK (qK (qK (qK (qK (qK (qK (qK (qK (qK (qK (qK (qK (qK (qK (qK (qK ?_)))))))))))))))))))))))
 refine qK (qK (pP (pk false (.v (.tuple #[])) bF rfl) (pM (mT 113 bF) (gA (fb 1 1 U27 1) I0 (gB (lb (iv q.top) 115 U3) I0 rfl (gC (Zp rfl (dT hs15)) I0 I0 (qM (mT 117 bT) (gA (fb 8 1 U27 1) I0 (gB (lb (Zd q.leader) 119 U24) I0 rfl (gA (nS 120 U24) I0 (gC (ZK rfl (dT hs16)) I0 I0 (qP (pk true bT bF rfl) (pP (pk false bT bT rfl) (kN 178 [(1,.box 27 (cFm q))] [(1,.box 1 0),(124,bT)] ?_))))))))))))))
 rw [show (misB q)=true by simp only [misB,Bool.or_true,Bool.true_or,Bool.or_false,Bool.false_or,Bool.and_true,Bool.true_and,Bool.and_false,Bool.false_and,Bool.not_true,Bool.not_false,hs1,hs4f,decide_eq_false hs5,hs11f,decide_eq_true hs15,decide_eq_true hs16]]
 exact Zr T0 (Zj _ _ rfl (by kernel_rfl) (by kernel_rfl))
 refine Za (oA (fb 1 1 U27 1) I0 (oB (lb (iv q.top) 88 U3) I0 rfl (oC (Zs rfl (dT' hs15)) I0 I0 (pM (mT 90 bF) (qK (qK (qK (qK (qK (qK (qK (qK (qK (qK (qK (qK (qK (qK (qK (qK (qK (qK (qK ?_)))))))))))))))))))))))
 refine qK (qK (pP (pk false (.v (.tuple #[])) bF rfl) (pM (mT 113 bF) (gA (fb 1 1 U27 1) I0 (gB (lb (iv q.top) 115 U3) I0 rfl (gC (Zp rfl (dT hs15)) I0 I0 (qM (mT 117 bT) (gA (fb 8 1 U27 1) I0 (gB (lb (Zd q.leader) 119 U24) I0 rfl (gA (nS 120 U24) I0 (gC (ZK rfl (dF hs16)) I0 I0 (qP (pk true bF bF rfl) (pP (pk false bT bF rfl) (kN 178 [(1,.box 27 (cFm q))] [(1,.box 1 0),(124,bF)] ?_))))))))))))))
 rw [show (misB q)=false by simp only [misB,Bool.or_true,Bool.true_or,Bool.or_false,Bool.false_or,Bool.and_true,Bool.true_and,Bool.and_false,Bool.false_and,Bool.not_true,Bool.not_false,hs1,hs4f,decide_eq_false hs5,hs11f,decide_eq_true hs15,decide_eq_false hs16]]
 exact Zr T0 (Zj _ _ rfl (by kernel_rfl) (by kernel_rfl))
 by_cases hs17:0<((q.msgs.length:Nat):Int)
 refine Za (oA (fb 1 1 U27 1) I0 (oB (lb (iv q.top) 88 U3) I0 rfl (oC (Zs rfl (dF' hs15)) I0 I0 (pM (mT 90 bT) (gA (fb 3 1 U27 1) I0 (gB (lb (Zw q.msgs) 92 U22) I0 rfl (gA (nS 93 U22) I0 (gC (ZK rfl (dT hs17)) I0 I0 (qM (mT 95 bT) (qK (qK (qK (qK (qP (pk true bT (.v (.tuple #[])) rfl) (qM (mT 101 bT) (qK (qK (qK (qK (qP (pk true bT (.v (.tuple #[])) rfl) (qM (mT 107 bT) (qK (qK ?_)))))))))))))))))))))))
 refine qK (qP (pk true bT (.v (.tuple #[])) rfl) (pP (pk true bT bF rfl) (pM (mT 113 bT) (qK (qK (qK (qK (qK (qK (qK (qK (qK (pP (pk true bT (.v (.tuple #[])) rfl) (kN 178 [(1,.box 27 (cFm q))] [(1,.box 1 0),(124,bT)] ?_))))))))))))))
 rw [show (misB q)=true by simp only [misB,Bool.or_true,Bool.true_or,Bool.or_false,Bool.false_or,Bool.and_true,Bool.true_and,Bool.and_false,Bool.false_and,Bool.not_true,Bool.not_false,hs1,hs4f,decide_eq_false hs5,hs11f,decide_eq_false hs15,decide_eq_true hs17]]
 exact Zr T0 (Zj _ _ rfl (by kernel_rfl) (by kernel_rfl))
 by_cases hs18:0<((q.vals.length:Nat):Int)
 refine Za (oA (fb 1 1 U27 1) I0 (oB (lb (iv q.top) 88 U3) I0 rfl (oC (Zs rfl (dF' hs15)) I0 I0 (pM (mT 90 bT) (gA (fb 3 1 U27 1) I0 (gB (lb (Zw q.msgs) 92 U22) I0 rfl (gA (nS 93 U22) I0 (gC (ZK rfl (dF hs17)) I0 I0 (qM (mT 95 bF) (gA (fb 4 1 U27 1) I0 (gB (lb (Zw q.vals) 97 U22) I0 rfl (gA (nS 98 U22) I0 (gC (ZK rfl (dT hs18)) I0 I0 (qP (pk false bT bT rfl) (qM (mT 101 bT) (qK (qK (qK (qK (qP (pk true bT (.v (.tuple #[])) rfl) (qM (mT 107 bT) (qK (qK ?_)))))))))))))))))))))))
 refine qK (qP (pk true bT (.v (.tuple #[])) rfl) (pP (pk true bT bF rfl) (pM (mT 113 bT) (qK (qK (qK (qK (qK (qK (qK (qK (qK (pP (pk true bT (.v (.tuple #[])) rfl) (kN 178 [(1,.box 27 (cFm q))] [(1,.box 1 0),(124,bT)] ?_))))))))))))))
 rw [show (misB q)=true by simp only [misB,Bool.or_true,Bool.true_or,Bool.or_false,Bool.false_or,Bool.and_true,Bool.true_and,Bool.and_false,Bool.false_and,Bool.not_true,Bool.not_false,hs1,hs4f,decide_eq_false hs5,hs11f,decide_eq_false hs15,decide_eq_false hs17,decide_eq_true hs18]]
 exact Zr T0 (Zj _ _ rfl (by kernel_rfl) (by kernel_rfl))
 by_cases hs19:0<((q.res.length:Nat):Int)
 refine Za (oA (fb 1 1 U27 1) I0 (oB (lb (iv q.top) 88 U3) I0 rfl (oC (Zs rfl (dF' hs15)) I0 I0 (pM (mT 90 bT) (gA (fb 3 1 U27 1) I0 (gB (lb (Zw q.msgs) 92 U22) I0 rfl (gA (nS 93 U22) I0 (gC (ZK rfl (dF hs17)) I0 I0 (qM (mT 95 bF) (gA (fb 4 1 U27 1) I0 (gB (lb (Zw q.vals) 97 U22) I0 rfl (gA (nS 98 U22) I0 (gC (ZK rfl (dF hs18)) I0 I0 (qP (pk false bT bF rfl) (qM (mT 101 bF) (gA (fb 6 1 U27 1) I0 (gB (lb (slA 4 cLn q.res) 103 U23) I0 rfl (gA (nS 104 U23) I0 (gC (ZK rfl (dT hs19)) I0 I0 (qP (pk false bT bT rfl) (qM (mT 107 bT) (qK (qK ?_)))))))))))))))))))))))
 refine qK (qP (pk true bT (.v (.tuple #[])) rfl) (pP (pk true bT bF rfl) (pM (mT 113 bT) (qK (qK (qK (qK (qK (qK (qK (qK (qK (pP (pk true bT (.v (.tuple #[])) rfl) (kN 178 [(1,.box 27 (cFm q))] [(1,.box 1 0),(124,bT)] ?_))))))))))))))
 rw [show (misB q)=true by simp only [misB,Bool.or_true,Bool.true_or,Bool.or_false,Bool.false_or,Bool.and_true,Bool.true_and,Bool.and_false,Bool.false_and,Bool.not_true,Bool.not_false,hs1,hs4f,decide_eq_false hs5,hs11f,decide_eq_false hs15,decide_eq_false hs17,decide_eq_false hs18,decide_eq_true hs19]]
 exact Zr T0 (Zj _ _ rfl (by kernel_rfl) (by kernel_rfl))
 by_cases hs20:q.fault=0
 refine Za (oA (fb 1 1 U27 1) I0 (oB (lb (iv q.top) 88 U3) I0 rfl (oC (Zs rfl (dF' hs15)) I0 I0 (pM (mT 90 bT) (gA (fb 3 1 U27 1) I0 (gB (lb (Zw q.msgs) 92 U22) I0 rfl (gA (nS 93 U22) I0 (gC (ZK rfl (dF hs17)) I0 I0 (qM (mT 95 bF) (gA (fb 4 1 U27 1) I0 (gB (lb (Zw q.vals) 97 U22) I0 rfl (gA (nS 98 U22) I0 (gC (ZK rfl (dF hs18)) I0 I0 (qP (pk false bT bF rfl) (qM (mT 101 bF) (gA (fb 6 1 U27 1) I0 (gB (lb (slA 4 cLn q.res) 103 U23) I0 rfl (gA (nS 104 U23) I0 (gC (ZK rfl (dF hs19)) I0 I0 (qP (pk false bT bF rfl) (qM (mT 107 bF) (gA (fb 5 1 U27 1) I0 (gB (lb (iv q.fault) 109 U3) I0 rfl ?_)))))))))))))))))))))))
 refine gC (Zs rfl (dT' hs20)) I0 I0 (qP (pk false bT bF rfl) (pP (pk true bF bF rfl) (pM (mT 113 bF) (gA (fb 1 1 U27 1) I0 (gB (lb (iv q.top) 115 U3) I0 rfl (gC (Zp rfl (dF hs15)) I0 I0 (qM (mT 117 bF) (qK (qK (qK (qK (qP (pk false (.v (.tuple #[])) bF rfl) (pP (pk false bT bF rfl) (kN 178 [(1,.box 27 (cFm q))] [(1,.box 1 0),(124,bF)] ?_))))))))))))))
 rw [show (misB q)=false by simp only [misB,Bool.or_true,Bool.true_or,Bool.or_false,Bool.false_or,Bool.and_true,Bool.true_and,Bool.and_false,Bool.false_and,Bool.not_true,Bool.not_false,hs1,hs4f,decide_eq_false hs5,hs11f,decide_eq_false hs15,decide_eq_false hs17,decide_eq_false hs18,decide_eq_false hs19,decide_eq_true hs20]]
 exact Zr T0 (Zj _ _ rfl (by kernel_rfl) (by kernel_rfl))
 refine Za (oA (fb 1 1 U27 1) I0 (oB (lb (iv q.top) 88 U3) I0 rfl (oC (Zs rfl (dF' hs15)) I0 I0 (pM (mT 90 bT) (gA (fb 3 1 U27 1) I0 (gB (lb (Zw q.msgs) 92 U22) I0 rfl (gA (nS 93 U22) I0 (gC (ZK rfl (dF hs17)) I0 I0 (qM (mT 95 bF) (gA (fb 4 1 U27 1) I0 (gB (lb (Zw q.vals) 97 U22) I0 rfl (gA (nS 98 U22) I0 (gC (ZK rfl (dF hs18)) I0 I0 (qP (pk false bT bF rfl) (qM (mT 101 bF) (gA (fb 6 1 U27 1) I0 (gB (lb (slA 4 cLn q.res) 103 U23) I0 rfl (gA (nS 104 U23) I0 (gC (ZK rfl (dF hs19)) I0 I0 (qP (pk false bT bF rfl) (qM (mT 107 bF) (gA (fb 5 1 U27 1) I0 (gB (lb (iv q.fault) 109 U3) I0 rfl ?_)))))))))))))))))))))))
 refine gC (Zs rfl (dF' hs20)) I0 I0 (qP (pk false bT bT rfl) (pP (pk true bT bF rfl) (pM (mT 113 bT) (qK (qK (qK (qK (qK (qK (qK (qK (qK (pP (pk true bT (.v (.tuple #[])) rfl) (kN 178 [(1,.box 27 (cFm q))] [(1,.box 1 0),(124,bT)] ?_))))))))))))))
 rw [show (misB q)=true by simp only [misB,Bool.or_true,Bool.true_or,Bool.or_false,Bool.false_or,Bool.and_true,Bool.true_and,Bool.and_false,Bool.false_and,Bool.not_true,Bool.not_false,hs1,hs4f,decide_eq_false hs5,hs11f,decide_eq_false hs15,decide_eq_false hs17,decide_eq_false hs18,decide_eq_false hs19,decide_eq_false hs20]]
 exact Zr T0 (Zj _ _ rfl (by kernel_rfl) (by kernel_rfl))
 refine Zc ?_
 by_cases hs21:(misB q)=true
 rw [hs21]
 refine kW 178 [(1,.box 27 (cFm q))] [(1,.box 1 0),(124,bT)] (Zm rfl (Zb (Za (pM (aC (.int .i64 1)) (Ze (Zc (Zk (Zh ?_))))))))
 refine Zl Try.results33 (.tmp rfl) ?_
 exact congrArg (fun x:Int=>AV.v (.int .i64 x)) (((valE_2 ⟨hs1,hs4f,hs5,hs11f⟩).trans (val2_mis NOK hs21)).symm)
 have hs21f:(misB q)=false:=by simpa using hs21
 rw [hs21f]
 refine kW 178 [(1,.box 27 (cFm q))] [(1,.box 1 0),(124,bF)] (Zo rfl (Zn (Zc (Zb (Zb (Za (pM (aC (.int .i64 0)) (kN 178 [(1,.box 27 (cFm q))] [(1,.box 1 0),(5,iv 0)] (Zc ?_)))))))))
 refine Y6 (resB2 q q.res.length=false) (ofL [(1,.box 27 (cFm q))]) (ofT 178 [(1,.box 1 0)]) ?_ (fun RES => ?_)
 refine ZE ?_
 refine Yp (σ:={k:Nat // k≤q.res.length∧resB2 q k=false}) (fun s=>(ofL [(1,.box 27 (cFm q))],ofT 178 [(1,.box 1 0),(5,iv s.1)])) (fun s=>q.res.length-s.1) ⟨0,Nat.zero_le _,rfl⟩ (Zj _ _ rfl (by kernel_rfl) (by kernel_rfl)) (fun s => ?_)
 obtain ⟨k,hk0,hs0⟩:=s
 show ETri J w0 (ofL [(1,.box 27 (cFm q))]) (ofT 178 [(1,.box 1 0),(5,iv k)]) _
 refine Zb (Zb ?_)
 by_cases hs22:((k:Nat):Int)<((q.res.length:Nat):Int)
 refine Za (pM (mT 5 (iv k)) (oA (fb 6 1 U27 1) I0 (oB (lb (slA 4 cLn q.res) 126 U23) I0 rfl (oA (nS 127 U23) I0 (oC (Z5 rfl (dT hs22)) I0 I0 (Ze (Zc (Zm rfl (Zn (Zc (Zb (ZE (Zb ?_)))))))))))))
 by_cases hs23:(smL q.res[k].c q.res[k].n q.res[k].t q.res[k].f)=true
 refine Za (oA (fb 6 1 U27 1) I0 (oB (lb (slA 4 cLn q.res) 132 U23) I0 rfl (pM (mT 5 (iv k)) (oC (xS (k*4) 133 134 U23) I0 I0 (oA (ZF (z:=4) (.tmp 135) rfl U122 rfl (by kernel_rfl) (Kh lenLn q.res k (by omega)) rfl) I0 (oC (sc #[.tmp 136] [] (ZS (few_c q.res[k]) hs23) [.agg (cLn q.res[k])] rfl rfl rfl) I0 I0 (oA (Zq rfl rfl) I0 (Ze (Zc (Zo rfl (Zn (ZX (Zc (Za (pM (mT 5 (iv k)) (oC (Yj (c:=((k+1:Nat):Int)) rfl (w64 (by omega) (by omega) (by omega))) I0 I0 (pM (aT 131 (iv (k+1:Nat))) (kN 178 [(1,.box 27 (cFm q))] [(1,.box 1 0),(5,iv (k+1:Nat)),(129,bT),(138,bF)] (Zc ?_)))))))))))))))))))
 refine ZZ ⟨k+1,by omega,resB2_succ (by omega) hs0 hs23⟩ (show q.res.length-(k+1)<q.res.length-k by omega) ?_
 exact Zj _ _ rfl (by kernel_rfl) (by kernel_rfl)
 have hs23f:(smL q.res[k].c q.res[k].n q.res[k].t q.res[k].f)=false:=by simpa using hs23
 refine Za (oA (fb 6 1 U27 1) I0 (oB (lb (slA 4 cLn q.res) 132 U23) I0 rfl (pM (mT 5 (iv k)) (oC (xS (k*4) 133 134 U23) I0 I0 (oA (ZF (z:=4) (.tmp 135) rfl U122 rfl (by kernel_rfl) (Kh lenLn q.res k (by omega)) rfl) I0 (oC (sc #[.tmp 136] [] (ZS (few_c q.res[k]) hs23f) [.agg (cLn q.res[k])] rfl rfl rfl) I0 I0 (oA (Zq rfl rfl) I0 (Ze (Zc (Zm rfl (Zb (Za (pM (aC (.int .i64 4)) (Ze (Zc (Zk (Zv (Zh (Zh (Zv (Y1 (Zh ?_))))))))))))))))))))))
 refine Zl Try.results33 (.tmp rfl) ?_
 exact congrArg (fun x:Int=>AV.v (.int .i64 x)) (((valE_2 ⟨hs1,hs4f,hs5,hs11f⟩).trans (val2_res NOK hs21f (resB2_yes (k:=k) (by omega) hs23f))).symm)
 refine Za (pM (mT 5 (iv k)) (oA (fb 6 1 U27 1) I0 (oB (lb (slA 4 cLn q.res) 126 U23) I0 rfl (oA (nS 127 U23) I0 (oC (Z5 rfl (dF hs22)) I0 I0 (kN 178 [(1,.box 27 (cFm q))] [(1,.box 1 0),(5,iv k),(129,bF)] (Zc (Zo rfl (Yn (Zy (Zy (t_hit ?_))))))))))))
 exact Zr (by have:k=q.res.length:=(by omega);subst this;exact hs0) (Zj _ _ rfl (by kernel_rfl) (by kernel_rfl))
 refine Zc (Zb (Zb (Za (oA (fb 7 1 U27 1) I0 (oB (lb (Zd q.init) 139 U24) I0 rfl (oA (fb 2 1 U27 1) I0 (oB (lb (Zw q.states) 141 U22) I0 rfl (oA (nS 142 U22) I0 (oD (sc #[.tmp 140,.tmp 143] [] (rSet_c q.states.length HQ.lstates q.init HQ.init) [Zd q.init,iv q.states.length] rfl rfl rfl) I0 I0 I0 (pM (aT 144 (iv (setE q.states.length q.init))) (Ze (Zc (Zb ?_)))))))))))))
 by_cases hs24:setE q.states.length q.init=0
 refine Za (pM (mT 6 (iv (setE q.states.length q.init))) (oC (Zs rfl (dT' hs24)) I0 I0 (Ze (Zc (Zo rfl (Zn (Zc (Zb (Zb ?_)))))))))
 by_cases hs25:((q.init.length:Nat):Int)=0
 refine Za (oA (fb 7 1 U27 1) I0 (oB (lb (Zd q.init) 148 U24) I0 rfl (oA (nS 149 U24) I0 (oC (Zp rfl (dT hs25)) I0 I0 (Ze (Zc (Zm rfl (Zb (Za (pM (aC (.int .i64 1)) (Ze (Zc (Zk (Zh ?_))))))))))))))
 refine Zl Try.results33 (.tmp rfl) ?_
 exact congrArg (fun x:Int=>AV.v (.int .i64 x)) (((valE_2 ⟨hs1,hs4f,hs5,hs11f⟩).trans ((val2_3 NOK hs21f RES).trans (val3_n hs25))).symm)
 refine Za (oA (fb 7 1 U27 1) I0 (oB (lb (Zd q.init) 148 U24) I0 rfl (oA (nS 149 U24) I0 (oC (Zp rfl (dF hs25)) I0 I0 (Ze (Zc (Zo rfl (Zn (Zc (Zb (Zb (Za (oA (fb 8 1 U27 1) I0 (oB (lb (Zd q.leader) 152 U24) I0 rfl (oA (fb 2 1 U27 1) I0 (oB (lb (Zw q.states) 154 U22) I0 rfl (oA (nS 155 U22) I0 (oD (sc #[.tmp 153,.tmp 156] [] (rSet_c q.states.length HQ.lstates q.leader HQ.leader) [Zd q.leader,iv q.states.length] rfl rfl rfl) I0 I0 I0 (pM (aT 157 (iv (setE q.states.length q.leader))) (Ze (Zc (Zb ?_))))))))))))))))))))))
 by_cases hs26:setE q.states.length q.leader=0
 refine Za (pM (mT 7 (iv (setE q.states.length q.leader))) (oC (Zs rfl (dT' hs26)) I0 I0 (Ze (Zc (Zo rfl (Zn (Zc (Zb (Zb (Za (pM (aC (.int .i64 0)) (kN 178 [(1,.box 27 (cFm q))] [(1,.box 1 0),(8,iv 0)] (Zc ?_)))))))))))))
 refine Y6 (rulOk q q.rules.length) (ofL [(1,.box 27 (cFm q))]) (ofT 178 [(1,.box 1 0)]) ?_ (fun RUL => ?_)
 refine ZE ?_
 refine Yp (σ:={k:Nat // k≤q.rules.length∧rulOk q k}) (fun s=>(ofL [(1,.box 27 (cFm q))],ofT 178 [(1,.box 1 0),(8,iv s.1)])) (fun s=>q.rules.length-s.1) ⟨0,Nat.zero_le _,rulOk_zero q⟩ (Zj _ _ rfl (by kernel_rfl) (by kernel_rfl)) (fun s => ?_)
 obtain ⟨k,hk0,hs0⟩:=s
 show ETri J w0 (ofL [(1,.box 27 (cFm q))]) (ofT 178 [(1,.box 1 0),(8,iv k)]) _
 refine Zb (Zb ?_)
 by_cases hs27:((k:Nat):Int)<((q.rules.length:Nat):Int)
 refine Za (pM (mT 8 (iv k)) (oA (fb 9 1 U27 1) I0 (oB (lb (slA 18 cRu q.rules) 162 U25) I0 rfl (oA (nS 163 U25) I0 (oC (Z5 rfl (dT hs27)) I0 I0 (Ze (Zc (Zm rfl (Zn (Zc (Zb (ZE (Zb (Za (oB (lS (cFm q) 10 1 U27) I0 rfl (pM (mT 8 (iv k)) (oD (sc #[.tmp 168,.tmp 169] [] (rrule_c HQ (i:=k) (by omega)) [.agg (cFm q),iv k] rfl rfl rfl) I0 I0 I0 (pM (aT 170 (iv (rruleE q k q.rules[k]))) (Ze (Zc (Zb ?_)))))))))))))))))))))
 by_cases hs28:rruleE q k q.rules[k]=0
 refine Za (pM (mT 9 (iv (rruleE q k q.rules[k]))) (oC (Zs rfl (dT' hs28)) I0 I0 (Ze (Zc (Zo rfl (Zn (ZX (Zc (Za (pM (mT 8 (iv k)) (oC (Yj (c:=((k+1:Nat):Int)) rfl (w64 (by omega) (by omega) (by omega))) I0 I0 (pM (aT 167 (iv (k+1:Nat))) (kN 178 [(1,.box 27 (cFm q))] [(1,.box 1 0),(8,iv (k+1:Nat)),(9,iv (rruleE q k q.rules[k])),(165,bT),(172,bF)] (Zc ?_))))))))))))))
 refine ZZ ⟨k+1,by omega,rulOk_succ (by omega) hs0 hs28⟩ (show q.rules.length-(k+1)<q.rules.length-k by omega) ?_
 exact Zj _ _ rfl (by kernel_rfl) (by kernel_rfl)
 refine Za (pM (mT 9 (iv (rruleE q k q.rules[k]))) (oC (Zs rfl (dF' hs28)) I0 I0 (Ze (Zc (Zm rfl (Zb (Za (pM (mT 9 (iv (rruleE q k q.rules[k]))) (pM (aT 173 (iv (rruleE q k q.rules[k]))) (Ze (Zc (Zk (Zv (Zh (Zh (Zv (Y1 (Zh ?_))))))))))))))))))
 refine Zl Try.results33 (.tmp rfl) ?_
 exact congrArg (fun x:Int=>AV.v (.int .i64 x)) (((valE_2 ⟨hs1,hs4f,hs5,hs11f⟩).trans ((val2_3 NOK hs21f RES).trans (val3_r ⟨hs24,hs25⟩ hs26 hs5 (k:=k) (by omega) hs0 hs28))).symm)
 refine Za (pM (mT 8 (iv k)) (oA (fb 9 1 U27 1) I0 (oB (lb (slA 18 cRu q.rules) 162 U25) I0 rfl (oA (nS 163 U25) I0 (oC (Z5 rfl (dF hs27)) I0 I0 (kN 178 [(1,.box 27 (cFm q))] [(1,.box 1 0),(8,iv k),(165,bF)] (Zc (Zo rfl (Yn (Zy (Zy (t_hit ?_))))))))))))
 exact Zr (by have:k=q.rules.length:=(by omega);subst this;exact hs0) (Zj _ _ rfl (by kernel_rfl) (by kernel_rfl))
 refine Zc (Zb (Zb ?_))
 by_cases hs29:3<(((diffG q.rules).length:Nat):Int)
 refine Za (oB (lS (cFm q) 10 1 U27) I0 rfl (oC (sc #[.tmp 174] [] (distinct_c HQ (tooI_no hs11f).2.2.2.2 (rul_guards hs5 RUL)) [.agg (cFm q)] rfl rfl rfl) I0 I0 (ZQ rfl (nS 175 U63) ⟨.inr (.inl rfl),T0⟩ T0 T0 (oC (ZK rfl (dT hs29)) I0 I0 (kN 178 [] [(177,bT)] (Zc (Zm rfl (Zb (Za (pM (aC (.int .i64 4)) (Ze (Zc (Zk (Zh ?_))))))))))))))
 refine Zl Try.results33 (.tmp rfl) ?_
 exact congrArg (fun x:Int=>AV.v (.int .i64 x)) (((valE_2 ⟨hs1,hs4f,hs5,hs11f⟩).trans ((val2_3 NOK hs21f RES).trans (val3_d ⟨hs24,hs25⟩ hs26 hs5 RUL hs29))).symm)
 refine Za (oB (lS (cFm q) 10 1 U27) I0 rfl (oC (sc #[.tmp 174] [] (distinct_c HQ (tooI_no hs11f).2.2.2.2 (rul_guards hs5 RUL)) [.agg (cFm q)] rfl rfl rfl) I0 I0 (ZQ rfl (nS 175 U63) ⟨.inr (.inl rfl),T0⟩ T0 T0 (oC (ZK rfl (dF hs29)) I0 I0 (kN 178 [] [(177,bF)] (Zc (Zo rfl (Zn (Zc (Zb (Za (pM (aC (.int .i64 0)) (Ze (Zc (Zk ?_)))))))))))))))
 refine Zl Try.results33 (.tmp rfl) ?_
 exact congrArg (fun x:Int=>AV.v (.int .i64 x)) (((valE_2 ⟨hs1,hs4f,hs5,hs11f⟩).trans ((val2_3 NOK hs21f RES).trans (val3_0 ⟨hs24,hs25⟩ hs26 hs5 RUL hs29))).symm)
 refine Za (pM (mT 7 (iv (setE q.states.length q.leader))) (oC (Zs rfl (dF' hs26)) I0 I0 (Ze (Zc (Zm rfl (Zb (Za (pM (mT 7 (iv (setE q.states.length q.leader))) (pM (aT 160 (iv (setE q.states.length q.leader))) (Ze (Zc (Zk (Zh ?_)))))))))))))
 refine Zl Try.results33 (.tmp rfl) ?_
 exact congrArg (fun x:Int=>AV.v (.int .i64 x)) (((valE_2 ⟨hs1,hs4f,hs5,hs11f⟩).trans ((val2_3 NOK hs21f RES).trans (val3_l ⟨hs24,hs25⟩ hs26))).symm)
 refine Za (pM (mT 6 (iv (setE q.states.length q.init))) (oC (Zs rfl (dF' hs24)) I0 I0 (Ze (Zc (Zm rfl (Zb (Za (pM (mT 6 (iv (setE q.states.length q.init))) (pM (aT 147 (iv (setE q.states.length q.init))) (Ze (Zc (Zk (Zh ?_)))))))))))))
 refine Zl Try.results33 (.tmp rfl) ?_
 exact congrArg (fun x:Int=>AV.v (.int .i64 x)) (((valE_2 ⟨hs1,hs4f,hs5,hs11f⟩).trans ((val2_3 NOK hs21f RES).trans (val3_i hs24))).symm)
 have hs1f:(nameB q.nm.toList)=false:=by simpa using hs1
 refine Za (oA (fb 0 1 U27 1) I0 (oB (lb (sv q.nm) 10 U9) I0 rfl (oC (sc #[.tmp 11] [] (ZS (YV q.nm HQ.nm) hs1f) [sv q.nm] rfl rfl rfl) I0 I0 (oA (Zq rfl rfl) I0 (Ze (Zc (Zm rfl (Zb (Za (pM (aC (.int .i64 2)) (Ze (Zc (Zk (Zh ?_))))))))))))))
 refine Zl Try.results33 (.tmp rfl) ?_
 exact congrArg (fun x:Int=>AV.v (.int .i64 x)) ((valE_nm hs1f).symm)
end Go.Proofs.Ytengacodacejiaa
