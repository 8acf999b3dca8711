import Derived.Test.YtoefmdjgnabgfaaGrpimjdlhhc
import Derived.Test.YtoefmdjgnabgfaaGrpgfeekfoh
set_option linter.all false
namespace Go.Proofs.Ytoefmdjgnabgfaa
open Go.RowKit Go.Deep
variable {J : World → Prop}
set_option maxRecDepth 100000 in
set_option maxHeartbeats 6400000 in
theorem rValidate_c {q : Fm} (HQ : FmOk q) : Ctr Try.prog J 61 [.agg (cFm q)] (iv (valE q)) := by
 have hNL := nmA_len q
 have l1 := HQ.lstates
 have l2 := HQ.lmsgs
 have l3 := HQ.lvals
 have l4 := HQ.lrules
 have l5 := HQ.lres
 have l6 := HQ.linit
 have l7 := HQ.lleader
 refine ZI Try.func61 rfl (by intro X hX; simp only [List.mem_cons, List.not_mem_nil, or_false] at hX; rcases hX with rfl; exact ZD (Yo q)) (n := 178) rfl (by simp) (fun w0 => ?_)
 refine kW 178 [] [(0, .agg (cFm q))] (Zb (Za (Yl rfl (Ya (X := .agg (cFm q)) (k := 1) (.tmp 0) rfl rfl) ⟨I0, T0⟩ T0 rfl (pM (aC (.int .i64 0)) (kN 178 [(1, .box 27 (cFm q))] [(1, .box 1 0), (2, iv 0)] (Zc (Zb (Zb ?_))))))))
 by_cases hs1 : (nameB q.nm.toList) = true
 refine Za (oA (fb 0 1 U27 1) I0 (oB (lb (sv q.nm) 10 U9) I0 rfl (oC (Zm (c := .func 62) (xs := #[.tmp 11]) [] (ZJ (YF q.nm HQ.nm) hs1) rfl (by kernel_rfl) rfl (Xs := [sv q.nm]) rfl rfl rfl) I0 I0 (oA (ZC rfl rfl) I0 (kN 178 [(1, .box 27 (cFm q))] [(1, .box 1 0), (2, iv 0), (13, bv false)] (Zc (Zn rfl (Zk (Zc (Zb (Zb ?_)))))))))))
 refine Ku (True) (ofL [(1, .box 27 (cFm q))]) (ofT 178 [(1, .box 1 0), (2, iv 0), (23, bv (argB q))]) ?_ (fun _ => ?_)
 by_cases hs2 : (inB 1 4 q.top) = true
 by_cases hs3 : (inB 0 3 q.fault) = true
 refine Za (oA (fb 1 1 U27 1) I0 (oB (lb (iv q.top) 14 U3) I0 rfl (Yl rfl (Zm (c := .func 65) (xs := #[.tmp 15, .const (.int .i64 1), .const (.int .i64 4)]) [] (ZJ (ZL q.top 1 4) hs2) rfl (by kernel_rfl) rfl (Xs := [iv q.top, iv 1, iv 4]) rfl rfl rfl) ⟨I0, I0, I0, I0, T0⟩ T0 T0 (oA (ZC rfl rfl) I0 (pM (mT 17 (bv false)) (gA (fb 5 1 U27 1) I0 (gB (lb (iv q.fault) 19 U3) I0 rfl (YD rfl (Zm (c := .func 65) (xs := #[.tmp 20, .const (.int .i64 0), .const (.int .i64 3)]) [] (ZJ (ZL q.fault 0 3) hs3) rfl (by kernel_rfl) rfl (Xs := [iv q.fault, iv 0, iv 3]) rfl rfl rfl) ⟨I0, I0, I0, I0, T0⟩ T0 T0 (gA (ZC rfl rfl) I0 (pP (Zf (.tmp 18) (.const (.bool true)) (.tmp 22) false (bv true) (bv false) rfl) (kN 178 [(1, .box 27 (cFm q))] [(1, .box 1 0), (2, iv 0), (23, bv false)] ?_)))))))))))
 rw [show (argB q) = false by simp only [argB, Bool.or_true, Bool.true_or, Bool.or_false, Bool.false_or, Bool.and_true, Bool.true_and, Bool.and_false, Bool.false_and, Bool.not_true, Bool.not_false, hs1, hs2, hs3]]
 exact Z7 T0 (Zw _ _ rfl (by kernel_rfl) (by kernel_rfl))
 have hs3f : (inB 0 3 q.fault) = false := by simpa using hs3
 refine Za (oA (fb 1 1 U27 1) I0 (oB (lb (iv q.top) 14 U3) I0 rfl (Yl rfl (Zm (c := .func 65) (xs := #[.tmp 15, .const (.int .i64 1), .const (.int .i64 4)]) [] (ZJ (ZL q.top 1 4) hs2) rfl (by kernel_rfl) rfl (Xs := [iv q.top, iv 1, iv 4]) rfl rfl rfl) ⟨I0, I0, I0, I0, T0⟩ T0 T0 (oA (ZC rfl rfl) I0 (pM (mT 17 (bv false)) (gA (fb 5 1 U27 1) I0 (gB (lb (iv q.fault) 19 U3) I0 rfl (YD rfl (Zm (c := .func 65) (xs := #[.tmp 20, .const (.int .i64 0), .const (.int .i64 3)]) [] (ZJ (ZL q.fault 0 3) hs3f) rfl (by kernel_rfl) rfl (Xs := [iv q.fault, iv 0, iv 3]) rfl rfl rfl) ⟨I0, I0, I0, I0, T0⟩ T0 T0 (gA (ZC rfl rfl) I0 (pP (Zf (.tmp 18) (.const (.bool true)) (.tmp 22) false (bv true) (bv true) rfl) (kN 178 [(1, .box 27 (cFm q))] [(1, .box 1 0), (2, iv 0), (23, bv true)] ?_)))))))))))
 rw [show (argB q) = true by simp only [argB, Bool.or_true, Bool.true_or, Bool.or_false, Bool.false_or, Bool.and_true, Bool.true_and, Bool.and_false, Bool.false_and, Bool.not_true, Bool.not_false, hs1, hs2, hs3f]]
 exact Z7 T0 (Zw _ _ rfl (by kernel_rfl) (by kernel_rfl))
 have hs2f : (inB 1 4 q.top) = false := by simpa using hs2
 refine Za (oA (fb 1 1 U27 1) I0 (oB (lb (iv q.top) 14 U3) I0 rfl (Yl rfl (Zm (c := .func 65) (xs := #[.tmp 15, .const (.int .i64 1), .const (.int .i64 4)]) [] (ZJ (ZL q.top 1 4) hs2f) rfl (by kernel_rfl) rfl (Xs := [iv q.top, iv 1, iv 4]) rfl rfl rfl) ⟨I0, I0, I0, I0, T0⟩ T0 T0 (oA (ZC rfl rfl) I0 (pM (mT 17 (bv true)) (qK (qK (qK (qK (pP (Zf (.tmp 18) (.const (.bool true)) (.tmp 22) true (bv true) (.v (.tuple #[])) rfl) (kN 178 [(1, .box 27 (cFm q))] [(1, .box 1 0), (2, iv 0), (23, bv true)] ?_)))))))))))
 rw [show (argB q) = true by simp only [argB, Bool.or_true, Bool.true_or, Bool.or_false, Bool.false_or, Bool.and_true, Bool.true_and, Bool.and_false, Bool.false_and, Bool.not_true, Bool.not_false, hs1, hs2f]]
 exact Z7 T0 (Zw _ _ rfl (by kernel_rfl) (by kernel_rfl))
 refine Zc ?_
 by_cases hs4 : (argB q) = true
 rw [hs4]
 refine kW 178 [(1, .box 27 (cFm q))] [(1, .box 1 0), (2, iv 0), (23, bv true)] (Zu rfl (Zb (Za (pM (aC (.int .i64 1)) (Zv (Zc (Zt (Zd ?_))))))))
 refine Zr Try.results61 (.tmp rfl) ?_
 exact congrArg (fun x : Int => AV.v (.int .i64 x)) ((valE_ar hs1 hs4).symm)
 have hs4f : (argB q) = false := by simpa using hs4
 rw [hs4f]
 refine kW 178 [(1, .box 27 (cFm q))] [(1, .box 1 0), (2, iv 0), (23, bv false)] (Zn rfl (Zk (Zc (Zb (Zb ?_)))))
 by_cases hs5 : ((q.states.length : Nat) : Int) = 0
 refine Za (oA (fb 2 1 U27 1) I0 (oB (lb (Yj q.states) 24 U22) I0 rfl (oA (Zi (.tmp 25) rfl U22) I0 (oC (ZA rfl (dT hs5)) I0 I0 (kN 178 [(1, .box 27 (cFm q))] [(1, .box 1 0), (2, iv 0), (27, bv true)] (Zc (Zu rfl (Zb (Za (pM (aC (.int .i64 1)) (Zv ?_)))))))))))
 refine Zc (Zt (Zd ?_))
 refine Zr Try.results61 (.tmp rfl) ?_
 exact congrArg (fun x : Int => AV.v (.int .i64 x)) ((valE_st hs1 hs4f hs5).symm)
 refine Za (oA (fb 2 1 U27 1) I0 (oB (lb (Yj q.states) 24 U22) I0 rfl (oA (Zi (.tmp 25) rfl U22) I0 (oC (ZA rfl (dF hs5)) I0 I0 (kN 178 [(1, .box 27 (cFm q))] [(1, .box 1 0), (2, iv 0), (27, bv false)] (Zc (Zn rfl (Zk (Zc (Zb (Zb ?_)))))))))))
 refine Ku (True) (ofL [(1, .box 27 (cFm q))]) (ofT 178 [(1, .box 1 0), (2, iv 0), (55, bv (tooI q))]) ?_ (fun _ => ?_)
 by_cases hs6 : 6 < ((q.states.length : Nat) : Int)
 refine Za (oA (fb 2 1 U27 1) I0 (oB (lb (Yj q.states) 28 U22) I0 rfl (oA (Zi (.tmp 29) rfl U22) I0 (oC (Z9 rfl (dT hs6)) I0 I0 (pM (mT 31 (bv true)) (qK (qK (qK (qK (pP (Zf (.tmp 32) (.const (.bool true)) (.tmp 36) true (bv true) (.v (.tuple #[])) rfl) (pM (mT 37 (bv true)) ?_)))))))))))
 refine qK (qK (qK (qK (pP (Zf (.tmp 38) (.const (.bool true)) (.tmp 42) true (bv true) (.v (.tuple #[])) rfl) (pM (mT 43 (bv true)) (qK (qK (qK (qK (pP (Zf (.tmp 44) (.const (.bool true)) (.tmp 48) true (bv true) (.v (.tuple #[])) rfl) (pM (mT 49 (bv true)) ?_)))))))))))
 refine qK (qK (qK (qK (pP (Zf (.tmp 50) (.const (.bool true)) (.tmp 54) true (bv true) (.v (.tuple #[])) rfl) (kN 178 [(1, .box 27 (cFm q))] [(1, .box 1 0), (2, iv 0), (55, bv true)] ?_)))))
 rw [show (tooI q) = true by simp only [tooI, Bool.or_true, Bool.true_or, Bool.or_false, Bool.false_or, Bool.and_true, Bool.true_and, Bool.and_false, Bool.false_and, Bool.not_true, Bool.not_false, hs1, hs4f, decide_eq_false hs5, decide_eq_true hs6]]
 exact Z7 T0 (Zw _ _ rfl (by kernel_rfl) (by kernel_rfl))
 by_cases hs7 : 3 < ((q.msgs.length : Nat) : Int)
 refine Za (oA (fb 2 1 U27 1) I0 (oB (lb (Yj q.states) 28 U22) I0 rfl (oA (Zi (.tmp 29) rfl U22) I0 (oC (Z9 rfl (dF hs6)) I0 I0 (pM (mT 31 (bv false)) (gA (fb 3 1 U27 1) I0 (gB (lb (Yj q.msgs) 33 U22) I0 rfl (gA (Zi (.tmp 34) rfl U22) I0 (gC (Z9 rfl (dT hs7)) I0 I0 (pP (Zf (.tmp 32) (.const (.bool true)) (.tmp 36) false (bv true) (bv true) rfl) (pM (mT 37 (bv true)) ?_)))))))))))
 refine qK (qK (qK (qK (pP (Zf (.tmp 38) (.const (.bool true)) (.tmp 42) true (bv true) (.v (.tuple #[])) rfl) (pM (mT 43 (bv true)) (qK (qK (qK (qK (pP (Zf (.tmp 44) (.const (.bool true)) (.tmp 48) true (bv true) (.v (.tuple #[])) rfl) (pM (mT 49 (bv true)) ?_)))))))))))
 refine qK (qK (qK (qK (pP (Zf (.tmp 50) (.const (.bool true)) (.tmp 54) true (bv true) (.v (.tuple #[])) rfl) (kN 178 [(1, .box 27 (cFm q))] [(1, .box 1 0), (2, iv 0), (55, bv true)] ?_)))))
 rw [show (tooI q) = true by simp only [tooI, Bool.or_true, Bool.true_or, Bool.or_false, Bool.false_or, Bool.and_true, Bool.true_and, Bool.and_false, Bool.false_and, Bool.not_true, Bool.not_false, hs1, hs4f, decide_eq_false hs5, decide_eq_false hs6, decide_eq_true hs7]]
 exact Z7 T0 (Zw _ _ rfl (by kernel_rfl) (by kernel_rfl))
 by_cases hs8 : 3 < ((q.vals.length : Nat) : Int)
 refine Za (oA (fb 2 1 U27 1) I0 (oB (lb (Yj q.states) 28 U22) I0 rfl (oA (Zi (.tmp 29) rfl U22) I0 (oC (Z9 rfl (dF hs6)) I0 I0 (pM (mT 31 (bv false)) (gA (fb 3 1 U27 1) I0 (gB (lb (Yj q.msgs) 33 U22) I0 rfl (gA (Zi (.tmp 34) rfl U22) I0 (gC (Z9 rfl (dF hs7)) I0 I0 (pP (Zf (.tmp 32) (.const (.bool true)) (.tmp 36) false (bv true) (bv false) rfl) (pM (mT 37 (bv false)) ?_)))))))))))
 refine gA (fb 4 1 U27 1) I0 (gB (lb (Yj q.vals) 39 U22) I0 rfl (gA (Zi (.tmp 40) rfl U22) I0 (gC (Z9 rfl (dT hs8)) I0 I0 (pP (Zf (.tmp 38) (.const (.bool true)) (.tmp 42) false (bv true) (bv true) rfl) (pM (mT 43 (bv true)) (qK (qK (qK (qK (pP (Zf (.tmp 44) (.const (.bool true)) (.tmp 48) true (bv true) (.v (.tuple #[])) rfl) (pM (mT 49 (bv true)) ?_)))))))))))
 refine qK (qK (qK (qK (pP (Zf (.tmp 50) (.const (.bool true)) (.tmp 54) true (bv true) (.v (.tuple #[])) rfl) (kN 178 [(1, .box 27 (cFm q))] [(1, .box 1 0), (2, iv 0), (55, bv true)] ?_)))))
 rw [show (tooI q) = true by simp only [tooI, Bool.or_true, Bool.true_or, Bool.or_false, Bool.false_or, Bool.and_true, Bool.true_and, Bool.and_false, Bool.false_and, Bool.not_true, Bool.not_false, hs1, hs4f, decide_eq_false hs5, decide_eq_false hs6, decide_eq_false hs7, decide_eq_true hs8]]
 exact Z7 T0 (Zw _ _ rfl (by kernel_rfl) (by kernel_rfl))
 by_cases hs9 : 4 < ((q.res.length : Nat) : Int)
 refine Za (oA (fb 2 1 U27 1) I0 (oB (lb (Yj q.states) 28 U22) I0 rfl (oA (Zi (.tmp 29) rfl U22) I0 (oC (Z9 rfl (dF hs6)) I0 I0 (pM (mT 31 (bv false)) (gA (fb 3 1 U27 1) I0 (gB (lb (Yj q.msgs) 33 U22) I0 rfl (gA (Zi (.tmp 34) rfl U22) I0 (gC (Z9 rfl (dF hs7)) I0 I0 (pP (Zf (.tmp 32) (.const (.bool true)) (.tmp 36) false (bv true) (bv false) rfl) (pM (mT 37 (bv false)) ?_)))))))))))
 refine gA (fb 4 1 U27 1) I0 (gB (lb (Yj q.vals) 39 U22) I0 rfl (gA (Zi (.tmp 40) rfl U22) I0 (gC (Z9 rfl (dF hs8)) I0 I0 (pP (Zf (.tmp 38) (.const (.bool true)) (.tmp 42) false (bv true) (bv false) rfl) (pM (mT 43 (bv false)) (gA (fb 6 1 U27 1) I0 (gB (lb (slA 4 cLn q.res) 45 U23) I0 rfl (gA (Zi (.tmp 46) rfl U23) I0 (gC (Z9 rfl (dT hs9)) I0 I0 (pP (Zf (.tmp 44) (.const (.bool true)) (.tmp 48) false (bv true) (bv true) rfl) (pM (mT 49 (bv true)) ?_)))))))))))
 refine qK (qK (qK (qK (pP (Zf (.tmp 50) (.const (.bool true)) (.tmp 54) true (bv true) (.v (.tuple #[])) rfl) (kN 178 [(1, .box 27 (cFm q))] [(1, .box 1 0), (2, iv 0), (55, bv true)] ?_)))))
 rw [show (tooI q) = true by simp only [tooI, Bool.or_true, Bool.true_or, Bool.or_false, Bool.false_or, Bool.and_true, Bool.true_and, Bool.and_false, Bool.false_and, Bool.not_true, Bool.not_false, hs1, hs4f, decide_eq_false hs5, decide_eq_false hs6, decide_eq_false hs7, decide_eq_false hs8, decide_eq_true hs9]]
 exact Z7 T0 (Zw _ _ rfl (by kernel_rfl) (by kernel_rfl))
 by_cases hs10 : 8 < ((q.rules.length : Nat) : Int)
 refine Za (oA (fb 2 1 U27 1) I0 (oB (lb (Yj q.states) 28 U22) I0 rfl (oA (Zi (.tmp 29) rfl U22) I0 (oC (Z9 rfl (dF hs6)) I0 I0 (pM (mT 31 (bv false)) (gA (fb 3 1 U27 1) I0 (gB (lb (Yj q.msgs) 33 U22) I0 rfl (gA (Zi (.tmp 34) rfl U22) I0 (gC (Z9 rfl (dF hs7)) I0 I0 (pP (Zf (.tmp 32) (.const (.bool true)) (.tmp 36) false (bv true) (bv false) rfl) (pM (mT 37 (bv false)) ?_)))))))))))
 refine gA (fb 4 1 U27 1) I0 (gB (lb (Yj q.vals) 39 U22) I0 rfl (gA (Zi (.tmp 40) rfl U22) I0 (gC (Z9 rfl (dF hs8)) I0 I0 (pP (Zf (.tmp 38) (.const (.bool true)) (.tmp 42) false (bv true) (bv false) rfl) (pM (mT 43 (bv false)) (gA (fb 6 1 U27 1) I0 (gB (lb (slA 4 cLn q.res) 45 U23) I0 rfl (gA (Zi (.tmp 46) rfl U23) I0 (gC (Z9 rfl (dF hs9)) I0 I0 (pP (Zf (.tmp 44) (.const (.bool true)) (.tmp 48) false (bv true) (bv false) rfl) (pM (mT 49 (bv false)) ?_)))))))))))
 refine gA (fb 9 1 U27 1) I0 (gB (lb (slA 18 cRu q.rules) 51 U25) I0 rfl (gA (Zi (.tmp 52) rfl U25) I0 (gC (Z9 rfl (dT hs10)) I0 I0 (pP (Zf (.tmp 50) (.const (.bool true)) (.tmp 54) false (bv true) (bv true) rfl) (kN 178 [(1, .box 27 (cFm q))] [(1, .box 1 0), (2, iv 0), (55, bv true)] ?_)))))
 rw [show (tooI q) = true by simp only [tooI, Bool.or_true, Bool.true_or, Bool.or_false, Bool.false_or, Bool.and_true, Bool.true_and, Bool.and_false, Bool.false_and, Bool.not_true, Bool.not_false, hs1, hs4f, decide_eq_false hs5, decide_eq_false hs6, decide_eq_false hs7, decide_eq_false hs8, decide_eq_false hs9, decide_eq_true hs10]]
 exact Z7 T0 (Zw _ _ rfl (by kernel_rfl) (by kernel_rfl))
 refine Za (oA (fb 2 1 U27 1) I0 (oB (lb (Yj q.states) 28 U22) I0 rfl (oA (Zi (.tmp 29) rfl U22) I0 (oC (Z9 rfl (dF hs6)) I0 I0 (pM (mT 31 (bv false)) (gA (fb 3 1 U27 1) I0 (gB (lb (Yj q.msgs) 33 U22) I0 rfl (gA (Zi (.tmp 34) rfl U22) I0 (gC (Z9 rfl (dF hs7)) I0 I0 (pP (Zf (.tmp 32) (.const (.bool true)) (.tmp 36) false (bv true) (bv false) rfl) (pM (mT 37 (bv false)) ?_)))))))))))
 refine gA (fb 4 1 U27 1) I0 (gB (lb (Yj q.vals) 39 U22) I0 rfl (gA (Zi (.tmp 40) rfl U22) I0 (gC (Z9 rfl (dF hs8)) I0 I0 (pP (Zf (.tmp 38) (.const (.bool true)) (.tmp 42) false (bv true) (bv false) rfl) (pM (mT 43 (bv false)) (gA (fb 6 1 U27 1) I0 (gB (lb (slA 4 cLn q.res) 45 U23) I0 rfl (gA (Zi (.tmp 46) rfl U23) I0 (gC (Z9 rfl (dF hs9)) I0 I0 (pP (Zf (.tmp 44) (.const (.bool true)) (.tmp 48) false (bv true) (bv false) rfl) (pM (mT 49 (bv false)) ?_)))))))))))
 refine gA (fb 9 1 U27 1) I0 (gB (lb (slA 18 cRu q.rules) 51 U25) I0 rfl (gA (Zi (.tmp 52) rfl U25) I0 (gC (Z9 rfl (dF hs10)) I0 I0 (pP (Zf (.tmp 50) (.const (.bool true)) (.tmp 54) false (bv true) (bv false) rfl) (kN 178 [(1, .box 27 (cFm q))] [(1, .box 1 0), (2, iv 0), (55, bv false)] ?_)))))
 rw [show (tooI q) = false by simp only [tooI, Bool.or_true, Bool.true_or, Bool.or_false, Bool.false_or, Bool.and_true, Bool.true_and, Bool.and_false, Bool.false_and, Bool.not_true, Bool.not_false, hs1, hs4f, decide_eq_false hs5, decide_eq_false hs6, decide_eq_false hs7, decide_eq_false hs8, decide_eq_false hs9, decide_eq_false hs10]]
 exact Z7 T0 (Zw _ _ rfl (by kernel_rfl) (by kernel_rfl))
 refine Zc ?_
 by_cases hs11 : (tooI q) = true
 rw [hs11]
 refine kW 178 [(1, .box 27 (cFm q))] [(1, .box 1 0), (2, iv 0), (55, bv true)] (Zu rfl (Zb (Za (pM (aC (.int .i64 4)) (Zv (Zc (Zt (Zd ?_))))))))
 refine Zr Try.results61 (.tmp rfl) ?_
 exact congrArg (fun x : Int => AV.v (.int .i64 x)) ((valE_tb hs1 hs4f hs5 hs11).symm)
 have hs11f : (tooI q) = false := by simpa using hs11
 rw [hs11f]
 refine kW 178 [(1, .box 27 (cFm q))] [(1, .box 1 0), (2, iv 0), (55, bv false)] (Zn rfl (Zk (Zc (Zb ?_))))
 refine ZQ (dR (sp_build0 (z := 1) (k := 2) true rfl U22 (by kernel_rfl)) T0 T0 rfl (dA (fb 2 1 U27 1) I0 (dB (lb (Yj q.states) 57 U22) I0 rfl (dR (sp_append (n := 0) (cs := []) (fr := true) (m := q.states.length) (ds := (q.states.map sv)) (⟨U22, by kernel_rfl, by decide⟩ : Elt Try.prog 22 9 1 16) (.tmp 56) (.tmp 58) rfl (fun _ d hd => by obtain ⟨x, _, rfl⟩ := List.mem_map.1 hd; rfl) (by have := tooI_no hs11f; unfold maxLen; omega) (by have := tooI_no hs11f; omega) (fun d hd => by obtain ⟨x, _, rfl⟩ := List.mem_map.1 hd; rfl) (es := (q.states.map sv)) (by rw [unfr_strs]; rfl)) ⟨I0, I0, T0⟩ ⟨rfl, T0⟩ rfl (dA (fb 3 1 U27 1) I0 (dB (lb (Yj q.msgs) 60 U22) I0 rfl (dR (sp_append (n := (0 + q.states.length)) (cs := (q.states.map sv)) (fr := true) (m := q.msgs.length) (ds := (q.msgs.map sv)) (⟨U22, by kernel_rfl, by decide⟩ : Elt Try.prog 22 9 1 16) (.tmp 59) (.tmp 61) rfl (fun _ d hd => by obtain ⟨x, _, rfl⟩ := List.mem_map.1 hd; rfl) (by have := tooI_no hs11f; unfold maxLen; omega) (by have := tooI_no hs11f; omega) (fun d hd => by obtain ⟨x, _, rfl⟩ := List.mem_map.1 hd; rfl) (es := ((q.states ++ q.msgs).map sv)) (by rw [unfr_strs, ← List.map_append])) ⟨I0, I0, T0⟩ ⟨rfl, T0⟩ rfl (dA (fb 4 1 U27 1) I0 (dB (lb (Yj q.vals) 63 U22) I0 rfl (dR (sp_append (n := (0 + q.states.length + q.msgs.length)) (cs := ((q.states ++ q.msgs).map sv)) (fr := true) (m := q.vals.length) (ds := (q.vals.map sv)) (⟨U22, by kernel_rfl, by decide⟩ : Elt Try.prog 22 9 1 16) (.tmp 62) (.tmp 64) rfl (fun _ d hd => by obtain ⟨x, _, rfl⟩ := List.mem_map.1 hd; rfl) (by have := tooI_no hs11f; unfold maxLen; omega) (by have := tooI_no hs11f; omega) (fun d hd => by obtain ⟨x, _, rfl⟩ := List.mem_map.1 hd; rfl) (es := ((nmA q).map sv)) (by rw [unfr_strs]; exact nmA_map q)) ⟨I0, I0, T0⟩ ⟨rfl, T0⟩ rfl (dM (aT 65 (.own 2)) (dE ?_)))))))))))) (by kernel_rfl)
 show ETri J w0 _ _ _
 refine kW 178 [(1, .box 27 (cFm q)), (2, .row true 9 1 (0 + q.states.length + q.msgs.length + q.vals.length) ((nmA q).map sv))] [(1, .box 1 0), (2, iv 0), (3, .own 2)] (Zc (Zb (Zb (Za (pM (aC (.int .i64 0)) (kN 178 [(1, .box 27 (cFm q)), (2, .row true 9 1 (0 + q.states.length + q.msgs.length + q.vals.length) ((nmA q).map sv))] [(1, .box 1 0), (2, iv 0), (3, .own 2), (4, iv 0)] (Zc ?_)))))))
 refine Ku (nmOk (nmA q) (nmA q).length = true) (ofL [(1, .box 27 (cFm q))]) (ofT 178 [(1, .box 1 0)]) ?_ (fun NOK => ?_)
 refine Zz ?_
 refine Yb (σ := {k : Nat // k ≤ (nmA q).length ∧ nmOk (nmA q) k = true}) (fun s => (ofL [(1, .box 27 (cFm q))], ofT 178 [(1, .box 1 0), (3, .fr (.sl 1 (0 + q.states.length + q.msgs.length + q.vals.length) ((nmA q).map sv))), (4, iv s.1)])) (fun s => (nmA q).length - s.1) ⟨0, Nat.zero_le _, rfl⟩ (Zw _ _ rfl (by kernel_rfl) (by kernel_rfl)) (fun s => ?_)
 obtain ⟨k, hk0, hs0⟩ := s
 show ETri J w0 (ofL [(1, .box 27 (cFm q))]) (ofT 178 [(1, .box 1 0), (3, .fr (.sl 1 (0 + q.states.length + q.msgs.length + q.vals.length) ((nmA q).map sv))), (4, iv k)]) _
 have hT := tooI_no hs11f
 refine Zb (Zb ?_)
 by_cases hs12 : ((k : Nat) : Int) < (((0 + q.states.length + q.msgs.length + q.vals.length) : Nat) : Int)
 refine Za (pM (mT 4 (iv k)) (pM (mT 3 (.fr (.sl 1 (0 + q.states.length + q.msgs.length + q.vals.length) ((nmA q).map sv)))) (Yl rfl (Zi (.tmp 67) rfl U22) ⟨.inr (.inl rfl), T0⟩ T0 T0 (oC (ZT rfl (dT hs12)) I0 I0 (kN 178 [(1, .box 27 (cFm q))] [(1, .box 1 0), (3, .fr (.sl 1 (0 + q.states.length + q.msgs.length + q.vals.length) ((nmA q).map sv))), (4, iv k), (69, bv true)] (Zc (Zu rfl (Zk (Zc (Zb (Zz ?_)))))))))))
 refine Zb ?_
 by_cases hs13 : (nameB (nmA q)[k].toList) = true
 by_cases hs14 : (hasT ((nmA q).take k) (nmA q)[k]) = true
 refine ZQ (dM (mT 3 (.fr (.sl 1 (0 + q.states.length + q.msgs.length + q.vals.length) ((nmA q).map sv)))) (dM (mT 4 (iv k)) (dR (Zo (off := k * 1) (.tmp 72) (.tmp 73) rfl U22 (by kernel_rfl) (by omega) (by omega) rfl) ⟨.inr (.inl rfl), I0, T0⟩ T0 T0 (dA (Zp (X := sv ((nmA q)[k])) (.tmp 74) rfl U9 rfl (ZN (nmA q) (by omega))) I0 (dC (Zm (c := .func 62) (xs := #[.tmp 75]) [] (ZJ (YF ((nmA q)[k]) (nmA_sizes HQ _ (List.getElem_mem (by omega)))) hs13) rfl (by kernel_rfl) rfl (Xs := [sv ((nmA q)[k])]) rfl rfl rfl) I0 I0 (dA (ZC rfl rfl) I0 (dM (mT 77 (bv false)) (dM (mT 3 (.fr (.sl 1 (0 + q.states.length + q.msgs.length + q.vals.length) ((nmA q).map sv)))) (dM (mT 4 (iv k)) (dR (KR (l := 0) (h := k) (ds := ((nmA q).take k).map sv) (.tmp 79) none (some (.tmp 80)) rfl U22 (by kernel_rfl) [] [(.tmp 80, iv k)] (.inl ⟨rfl, rfl, rfl⟩) (.inr ⟨_, _, rfl, rfl⟩) (Nat.zero_le _) (by omega) (by simp [List.map_take])) ⟨.inr (.inl rfl), I0, T0⟩ T0 T0 (dM (mT 3 (.fr (.sl 1 (0 + q.states.length + q.msgs.length + q.vals.length) ((nmA q).map sv)))) (dM (mT 4 (iv k)) (dR (Zo (off := k * 1) (.tmp 82) (.tmp 83) rfl U22 (by kernel_rfl) (by omega) (by omega) rfl) ⟨.inr (.inl rfl), I0, T0⟩ T0 T0 (dA (Zp (X := sv ((nmA q)[k])) (.tmp 84) rfl U9 rfl (ZN (nmA q) (by omega))) I0 (dD (Zm (c := .func 88) (xs := #[.tmp 81, .tmp 85]) [] (ZJ (HasText_k (nmA_sizes HQ) (k := k) (by omega) _) hs14) rfl (by kernel_rfl) rfl (Xs := [.sl 1 (k - 0) (((nmA q).take k).map sv), sv ((nmA q)[k])]) rfl rfl rfl) I0 I0 I0 (dP (Zf (.tmp 78) (.const (.bool true)) (.tmp 86) false (bv true) (bv true) rfl) (dE ?_))))))))))))))))) (by kernel_rfl)
 show ETri J w0 _ _ _
 refine kW 178 [(1, .box 27 (cFm q))] [(1, .box 1 0), (3, .fr (.sl 1 (0 + q.states.length + q.msgs.length + q.vals.length) ((nmA q).map sv))), (4, iv k), (69, bv true), (87, bv true)] (Zc (Zu rfl (Zb (Za (pM (aC (.int .i64 2)) (Zv (Zc (Zt (Zq (Zd (Zd ?_)))))))))))
 refine Zq (Yi (Zd ?_))
 refine Zr Try.results61 (.tmp rfl) ?_
 exact congrArg (fun x : Int => AV.v (.int .i64 x)) (((valE_2 ⟨hs1, hs4f, hs5, hs11f⟩).trans (val2_nm (nmOk_no (k := k) (by omega) (by omega) (.inr hs14)))).symm)
 have hs14f : (hasT ((nmA q).take k) (nmA q)[k]) = false := by simpa using hs14
 refine ZQ (dM (mT 3 (.fr (.sl 1 (0 + q.states.length + q.msgs.length + q.vals.length) ((nmA q).map sv)))) (dM (mT 4 (iv k)) (dR (Zo (off := k * 1) (.tmp 72) (.tmp 73) rfl U22 (by kernel_rfl) (by omega) (by omega) rfl) ⟨.inr (.inl rfl), I0, T0⟩ T0 T0 (dA (Zp (X := sv ((nmA q)[k])) (.tmp 74) rfl U9 rfl (ZN (nmA q) (by omega))) I0 (dC (Zm (c := .func 62) (xs := #[.tmp 75]) [] (ZJ (YF ((nmA q)[k]) (nmA_sizes HQ _ (List.getElem_mem (by omega)))) hs13) rfl (by kernel_rfl) rfl (Xs := [sv ((nmA q)[k])]) rfl rfl rfl) I0 I0 (dA (ZC rfl rfl) I0 (dM (mT 77 (bv false)) (dM (mT 3 (.fr (.sl 1 (0 + q.states.length + q.msgs.length + q.vals.length) ((nmA q).map sv)))) (dM (mT 4 (iv k)) (dR (KR (l := 0) (h := k) (ds := ((nmA q).take k).map sv) (.tmp 79) none (some (.tmp 80)) rfl U22 (by kernel_rfl) [] [(.tmp 80, iv k)] (.inl ⟨rfl, rfl, rfl⟩) (.inr ⟨_, _, rfl, rfl⟩) (Nat.zero_le _) (by omega) (by simp [List.map_take])) ⟨.inr (.inl rfl), I0, T0⟩ T0 T0 (dM (mT 3 (.fr (.sl 1 (0 + q.states.length + q.msgs.length + q.vals.length) ((nmA q).map sv)))) (dM (mT 4 (iv k)) (dR (Zo (off := k * 1) (.tmp 82) (.tmp 83) rfl U22 (by kernel_rfl) (by omega) (by omega) rfl) ⟨.inr (.inl rfl), I0, T0⟩ T0 T0 (dA (Zp (X := sv ((nmA q)[k])) (.tmp 84) rfl U9 rfl (ZN (nmA q) (by omega))) I0 (dD (Zm (c := .func 88) (xs := #[.tmp 81, .tmp 85]) [] (ZJ (HasText_k (nmA_sizes HQ) (k := k) (by omega) _) hs14f) rfl (by kernel_rfl) rfl (Xs := [.sl 1 (k - 0) (((nmA q).take k).map sv), sv ((nmA q)[k])]) rfl rfl rfl) I0 I0 I0 (dP (Zf (.tmp 78) (.const (.bool true)) (.tmp 86) false (bv true) (bv false) rfl) (dE ?_))))))))))))))))) (by kernel_rfl)
 show ETri J w0 _ _ _
 refine kW 178 [(1, .box 27 (cFm q))] [(1, .box 1 0), (3, .fr (.sl 1 (0 + q.states.length + q.msgs.length + q.vals.length) ((nmA q).map sv))), (4, iv k), (69, bv true), (87, bv false)] (Zc (Zn rfl (Zk (ZU (Zc (Za (pM (mT 4 (iv k)) (oC (ZV (c := ((k + 1 : Nat) : Int)) rfl (w64 (by omega) (by omega) (by omega))) I0 I0 (pM (aT 71 (iv (k + 1 : Nat))) (kN 178 [(1, .box 27 (cFm q))] [(1, .box 1 0), (3, .fr (.sl 1 (0 + q.states.length + q.msgs.length + q.vals.length) ((nmA q).map sv))), (4, iv (k + 1 : Nat)), (69, bv true), (87, bv false)] (Zc ?_)))))))))))
 refine ZH ⟨k + 1, by omega, nmOk_succ (by omega) hs0 hs13 hs14f⟩ (show (nmA q).length - (k + 1) < (nmA q).length - k by omega) ?_
 exact Zw _ _ rfl (by kernel_rfl) (by kernel_rfl)
 have hs13f : (nameB (nmA q)[k].toList) = false := by simpa using hs13
 refine ZQ (dM (mT 3 (.fr (.sl 1 (0 + q.states.length + q.msgs.length + q.vals.length) ((nmA q).map sv)))) (dM (mT 4 (iv k)) (dR (Zo (off := k * 1) (.tmp 72) (.tmp 73) rfl U22 (by kernel_rfl) (by omega) (by omega) rfl) ⟨.inr (.inl rfl), I0, T0⟩ T0 T0 (dA (Zp (X := sv ((nmA q)[k])) (.tmp 74) rfl U9 rfl (ZN (nmA q) (by omega))) I0 (dC (Zm (c := .func 62) (xs := #[.tmp 75]) [] (ZJ (YF ((nmA q)[k]) (nmA_sizes HQ _ (List.getElem_mem (by omega)))) hs13f) rfl (by kernel_rfl) rfl (Xs := [sv ((nmA q)[k])]) rfl rfl rfl) I0 I0 (dA (ZC rfl rfl) I0 (dM (mT 77 (bv true)) (dK (dK (dK (dK (dK (dK (dK (dK (dP (Zf (.tmp 78) (.const (.bool true)) (.tmp 86) true (bv true) (.v (.tuple #[])) rfl) (dE ?_))))))))))))))))) (by kernel_rfl)
 show ETri J w0 _ _ _
 refine kW 178 [(1, .box 27 (cFm q))] [(1, .box 1 0), (3, .fr (.sl 1 (0 + q.states.length + q.msgs.length + q.vals.length) ((nmA q).map sv))), (4, iv k), (69, bv true), (87, bv true)] (Zc (Zu rfl (Zb (Za (pM (aC (.int .i64 2)) (Zv (Zc (Zt (Zq (Zd (Zd ?_)))))))))))
 refine Zq (Yi (Zd ?_))
 refine Zr Try.results61 (.tmp rfl) ?_
 exact congrArg (fun x : Int => AV.v (.int .i64 x)) (((valE_2 ⟨hs1, hs4f, hs5, hs11f⟩).trans (val2_nm (nmOk_no (k := k) (by omega) (by omega) (.inl hs13f)))).symm)
 refine Za (pM (mT 4 (iv k)) (pM (mT 3 (.fr (.sl 1 (0 + q.states.length + q.msgs.length + q.vals.length) ((nmA q).map sv)))) (Yl rfl (Zi (.tmp 67) rfl U22) ⟨.inr (.inl rfl), T0⟩ T0 T0 (oC (ZT rfl (dF hs12)) I0 I0 (kN 178 [(1, .box 27 (cFm q))] [(1, .box 1 0), (3, .fr (.sl 1 (0 + q.states.length + q.msgs.length + q.vals.length) ((nmA q).map sv))), (4, iv k), (69, bv false)] (Zc (Zn rfl (Z8 (Zx (Zx (YN ?_)))))))))))
 exact Z7 (by have : k = (nmA q).length := (by omega); subst this; exact hs0) (Zw _ _ rfl (by kernel_rfl) (by kernel_rfl))
 refine Zc (Zb (Zb ?_))
 refine Ku (True) (ofL [(1, .box 27 (cFm q))]) (ofT 178 [(1, .box 1 0), (124, bv (misB q))]) ?_ (fun _ => ?_)
 by_cases hs15 : q.top = 1
 by_cases hs16 : 0 < ((q.leader.length : Nat) : Int)
 refine Za (oA (fb 1 1 U27 1) I0 (oB (lb (iv q.top) 88 U3) I0 rfl (oC (ZE rfl (dT' hs15)) I0 I0 (pM (mT 90 (bv false)) (qK (qK (qK (qK (qK (qK (qK ?_)))))))))))
 refine qK (qK (qK (qK (qK (qK (qK (qK (qK (qK (qK (qK ?_)))))))))))
 refine qK (qK (pP (Zf (.tmp 91) (.tmp 112) (.const (.bool false)) false (.v (.tuple #[])) (bv false) rfl) (pM (mT 113 (bv false)) (gA (fb 1 1 U27 1) I0 (gB (lb (iv q.top) 115 U3) I0 rfl (gC (ZA rfl (dT hs15)) I0 I0 (qM (mT 117 (bv true)) (gA (fb 8 1 U27 1) I0 (gB (lb (Ze q.leader) 119 U24) I0 rfl (gA (Zi (.tmp 120) rfl U24) I0 (gC (Z9 rfl (dT hs16)) I0 I0 ?_)))))))))))
 refine qP (Zf (.tmp 118) (.tmp 122) (.const (.bool false)) true (bv true) (bv false) rfl) (pP (Zf (.tmp 114) (.const (.bool true)) (.tmp 123) false (bv true) (bv true) rfl) (kN 178 [(1, .box 27 (cFm q))] [(1, .box 1 0), (124, bv true)] ?_))
 rw [show (misB q) = true by simp only [misB, Bool.or_true, Bool.true_or, Bool.or_false, Bool.false_or, Bool.and_true, Bool.true_and, Bool.and_false, Bool.false_and, Bool.not_true, Bool.not_false, hs1, hs4f, decide_eq_false hs5, hs11f, decide_eq_true hs15, decide_eq_true hs16]]
 exact Z7 T0 (Zw _ _ rfl (by kernel_rfl) (by kernel_rfl))
 refine Za (oA (fb 1 1 U27 1) I0 (oB (lb (iv q.top) 88 U3) I0 rfl (oC (ZE rfl (dT' hs15)) I0 I0 (pM (mT 90 (bv false)) (qK (qK (qK (qK (qK (qK (qK ?_)))))))))))
 refine qK (qK (qK (qK (qK (qK (qK (qK (qK (qK (qK (qK ?_)))))))))))
 refine qK (qK (pP (Zf (.tmp 91) (.tmp 112) (.const (.bool false)) false (.v (.tuple #[])) (bv false) rfl) (pM (mT 113 (bv false)) (gA (fb 1 1 U27 1) I0 (gB (lb (iv q.top) 115 U3) I0 rfl (gC (ZA rfl (dT hs15)) I0 I0 (qM (mT 117 (bv true)) (gA (fb 8 1 U27 1) I0 (gB (lb (Ze q.leader) 119 U24) I0 rfl (gA (Zi (.tmp 120) rfl U24) I0 (gC (Z9 rfl (dF hs16)) I0 I0 ?_)))))))))))
 refine qP (Zf (.tmp 118) (.tmp 122) (.const (.bool false)) true (bv false) (bv false) rfl) (pP (Zf (.tmp 114) (.const (.bool true)) (.tmp 123) false (bv true) (bv false) rfl) (kN 178 [(1, .box 27 (cFm q))] [(1, .box 1 0), (124, bv false)] ?_))
 rw [show (misB q) = false by simp only [misB, Bool.or_true, Bool.true_or, Bool.or_false, Bool.false_or, Bool.and_true, Bool.true_and, Bool.and_false, Bool.false_and, Bool.not_true, Bool.not_false, hs1, hs4f, decide_eq_false hs5, hs11f, decide_eq_true hs15, decide_eq_false hs16]]
 exact Z7 T0 (Zw _ _ rfl (by kernel_rfl) (by kernel_rfl))
 by_cases hs17 : 0 < ((q.msgs.length : Nat) : Int)
 refine Za (oA (fb 1 1 U27 1) I0 (oB (lb (iv q.top) 88 U3) I0 rfl (oC (ZE rfl (dF' hs15)) I0 I0 (pM (mT 90 (bv true)) (gA (fb 3 1 U27 1) I0 (gB (lb (Yj q.msgs) 92 U22) I0 rfl (gA (Zi (.tmp 93) rfl U22) I0 (gC (Z9 rfl (dT hs17)) I0 I0 (qM (mT 95 (bv true)) (qK (qK ?_)))))))))))
 refine qK (qK (qP (Zf (.tmp 96) (.const (.bool true)) (.tmp 100) true (bv true) (.v (.tuple #[])) rfl) (qM (mT 101 (bv true)) (qK (qK (qK (qK (qP (Zf (.tmp 102) (.const (.bool true)) (.tmp 106) true (bv true) (.v (.tuple #[])) rfl) (qM (mT 107 (bv true)) (qK (qK ?_)))))))))))
 refine qK (qP (Zf (.tmp 108) (.const (.bool true)) (.tmp 111) true (bv true) (.v (.tuple #[])) rfl) (pP (Zf (.tmp 91) (.tmp 112) (.const (.bool false)) true (bv true) (bv false) rfl) (pM (mT 113 (bv true)) (qK (qK (qK (qK (qK (qK (qK (qK ?_)))))))))))
 refine qK (pP (Zf (.tmp 114) (.const (.bool true)) (.tmp 123) true (bv true) (.v (.tuple #[])) rfl) (kN 178 [(1, .box 27 (cFm q))] [(1, .box 1 0), (124, bv true)] ?_))
 rw [show (misB q) = true by simp only [misB, Bool.or_true, Bool.true_or, Bool.or_false, Bool.false_or, Bool.and_true, Bool.true_and, Bool.and_false, Bool.false_and, Bool.not_true, Bool.not_false, hs1, hs4f, decide_eq_false hs5, hs11f, decide_eq_false hs15, decide_eq_true hs17]]
 exact Z7 T0 (Zw _ _ rfl (by kernel_rfl) (by kernel_rfl))
 by_cases hs18 : 0 < ((q.vals.length : Nat) : Int)
 refine Za (oA (fb 1 1 U27 1) I0 (oB (lb (iv q.top) 88 U3) I0 rfl (oC (ZE rfl (dF' hs15)) I0 I0 (pM (mT 90 (bv true)) (gA (fb 3 1 U27 1) I0 (gB (lb (Yj q.msgs) 92 U22) I0 rfl (gA (Zi (.tmp 93) rfl U22) I0 (gC (Z9 rfl (dF hs17)) I0 I0 (qM (mT 95 (bv false)) (gA (fb 4 1 U27 1) I0 (gB (lb (Yj q.vals) 97 U22) I0 rfl ?_)))))))))))
 refine gA (Zi (.tmp 98) rfl U22) I0 (gC (Z9 rfl (dT hs18)) I0 I0 (qP (Zf (.tmp 96) (.const (.bool true)) (.tmp 100) false (bv true) (bv true) rfl) (qM (mT 101 (bv true)) (qK (qK (qK (qK (qP (Zf (.tmp 102) (.const (.bool true)) (.tmp 106) true (bv true) (.v (.tuple #[])) rfl) (qM (mT 107 (bv true)) (qK (qK ?_)))))))))))
 refine qK (qP (Zf (.tmp 108) (.const (.bool true)) (.tmp 111) true (bv true) (.v (.tuple #[])) rfl) (pP (Zf (.tmp 91) (.tmp 112) (.const (.bool false)) true (bv true) (bv false) rfl) (pM (mT 113 (bv true)) (qK (qK (qK (qK (qK (qK (qK (qK ?_)))))))))))
 refine qK (pP (Zf (.tmp 114) (.const (.bool true)) (.tmp 123) true (bv true) (.v (.tuple #[])) rfl) (kN 178 [(1, .box 27 (cFm q))] [(1, .box 1 0), (124, bv true)] ?_))
 rw [show (misB q) = true by simp only [misB, Bool.or_true, Bool.true_or, Bool.or_false, Bool.false_or, Bool.and_true, Bool.true_and, Bool.and_false, Bool.false_and, Bool.not_true, Bool.not_false, hs1, hs4f, decide_eq_false hs5, hs11f, decide_eq_false hs15, decide_eq_false hs17, decide_eq_true hs18]]
 exact Z7 T0 (Zw _ _ rfl (by kernel_rfl) (by kernel_rfl))
 by_cases hs19 : 0 < ((q.res.length : Nat) : Int)
 refine Za (oA (fb 1 1 U27 1) I0 (oB (lb (iv q.top) 88 U3) I0 rfl (oC (ZE rfl (dF' hs15)) I0 I0 (pM (mT 90 (bv true)) (gA (fb 3 1 U27 1) I0 (gB (lb (Yj q.msgs) 92 U22) I0 rfl (gA (Zi (.tmp 93) rfl U22) I0 (gC (Z9 rfl (dF hs17)) I0 I0 (qM (mT 95 (bv false)) (gA (fb 4 1 U27 1) I0 (gB (lb (Yj q.vals) 97 U22) I0 rfl ?_)))))))))))
 refine gA (Zi (.tmp 98) rfl U22) I0 (gC (Z9 rfl (dF hs18)) I0 I0 (qP (Zf (.tmp 96) (.const (.bool true)) (.tmp 100) false (bv true) (bv false) rfl) (qM (mT 101 (bv false)) (gA (fb 6 1 U27 1) I0 (gB (lb (slA 4 cLn q.res) 103 U23) I0 rfl (gA (Zi (.tmp 104) rfl U23) I0 (gC (Z9 rfl (dT hs19)) I0 I0 (qP (Zf (.tmp 102) (.const (.bool true)) (.tmp 106) false (bv true) (bv true) rfl) (qM (mT 107 (bv true)) (qK (qK ?_)))))))))))
 refine qK (qP (Zf (.tmp 108) (.const (.bool true)) (.tmp 111) true (bv true) (.v (.tuple #[])) rfl) (pP (Zf (.tmp 91) (.tmp 112) (.const (.bool false)) true (bv true) (bv false) rfl) (pM (mT 113 (bv true)) (qK (qK (qK (qK (qK (qK (qK (qK ?_)))))))))))
 refine qK (pP (Zf (.tmp 114) (.const (.bool true)) (.tmp 123) true (bv true) (.v (.tuple #[])) rfl) (kN 178 [(1, .box 27 (cFm q))] [(1, .box 1 0), (124, bv true)] ?_))
 rw [show (misB q) = true by simp only [misB, Bool.or_true, Bool.true_or, Bool.or_false, Bool.false_or, Bool.and_true, Bool.true_and, Bool.and_false, Bool.false_and, Bool.not_true, Bool.not_false, hs1, hs4f, decide_eq_false hs5, hs11f, decide_eq_false hs15, decide_eq_false hs17, decide_eq_false hs18, decide_eq_true hs19]]
 exact Z7 T0 (Zw _ _ rfl (by kernel_rfl) (by kernel_rfl))
 by_cases hs20 : q.fault = 0
 refine Za (oA (fb 1 1 U27 1) I0 (oB (lb (iv q.top) 88 U3) I0 rfl (oC (ZE rfl (dF' hs15)) I0 I0 (pM (mT 90 (bv true)) (gA (fb 3 1 U27 1) I0 (gB (lb (Yj q.msgs) 92 U22) I0 rfl (gA (Zi (.tmp 93) rfl U22) I0 (gC (Z9 rfl (dF hs17)) I0 I0 (qM (mT 95 (bv false)) (gA (fb 4 1 U27 1) I0 (gB (lb (Yj q.vals) 97 U22) I0 rfl ?_)))))))))))
 refine gA (Zi (.tmp 98) rfl U22) I0 (gC (Z9 rfl (dF hs18)) I0 I0 (qP (Zf (.tmp 96) (.const (.bool true)) (.tmp 100) false (bv true) (bv false) rfl) (qM (mT 101 (bv false)) (gA (fb 6 1 U27 1) I0 (gB (lb (slA 4 cLn q.res) 103 U23) I0 rfl (gA (Zi (.tmp 104) rfl U23) I0 (gC (Z9 rfl (dF hs19)) I0 I0 (qP (Zf (.tmp 102) (.const (.bool true)) (.tmp 106) false (bv true) (bv false) rfl) (qM (mT 107 (bv false)) (gA (fb 5 1 U27 1) I0 (gB (lb (iv q.fault) 109 U3) I0 rfl ?_)))))))))))
 refine gC (ZE rfl (dT' hs20)) I0 I0 (qP (Zf (.tmp 108) (.const (.bool true)) (.tmp 111) false (bv true) (bv false) rfl) (pP (Zf (.tmp 91) (.tmp 112) (.const (.bool false)) true (bv false) (bv false) rfl) (pM (mT 113 (bv false)) (gA (fb 1 1 U27 1) I0 (gB (lb (iv q.top) 115 U3) I0 rfl (gC (ZA rfl (dF hs15)) I0 I0 (qM (mT 117 (bv false)) (qK (qK (qK (qK ?_)))))))))))
 refine qP (Zf (.tmp 118) (.tmp 122) (.const (.bool false)) false (.v (.tuple #[])) (bv false) rfl) (pP (Zf (.tmp 114) (.const (.bool true)) (.tmp 123) false (bv true) (bv false) rfl) (kN 178 [(1, .box 27 (cFm q))] [(1, .box 1 0), (124, bv false)] ?_))
 rw [show (misB q) = false by simp only [misB, Bool.or_true, Bool.true_or, Bool.or_false, Bool.false_or, Bool.and_true, Bool.true_and, Bool.and_false, Bool.false_and, Bool.not_true, Bool.not_false, hs1, hs4f, decide_eq_false hs5, hs11f, decide_eq_false hs15, decide_eq_false hs17, decide_eq_false hs18, decide_eq_false hs19, decide_eq_true hs20]]
 exact Z7 T0 (Zw _ _ rfl (by kernel_rfl) (by kernel_rfl))
 refine Za (oA (fb 1 1 U27 1) I0 (oB (lb (iv q.top) 88 U3) I0 rfl (oC (ZE rfl (dF' hs15)) I0 I0 (pM (mT 90 (bv true)) (gA (fb 3 1 U27 1) I0 (gB (lb (Yj q.msgs) 92 U22) I0 rfl (gA (Zi (.tmp 93) rfl U22) I0 (gC (Z9 rfl (dF hs17)) I0 I0 (qM (mT 95 (bv false)) (gA (fb 4 1 U27 1) I0 (gB (lb (Yj q.vals) 97 U22) I0 rfl ?_)))))))))))
 refine gA (Zi (.tmp 98) rfl U22) I0 (gC (Z9 rfl (dF hs18)) I0 I0 (qP (Zf (.tmp 96) (.const (.bool true)) (.tmp 100) false (bv true) (bv false) rfl) (qM (mT 101 (bv false)) (gA (fb 6 1 U27 1) I0 (gB (lb (slA 4 cLn q.res) 103 U23) I0 rfl (gA (Zi (.tmp 104) rfl U23) I0 (gC (Z9 rfl (dF hs19)) I0 I0 (qP (Zf (.tmp 102) (.const (.bool true)) (.tmp 106) false (bv true) (bv false) rfl) (qM (mT 107 (bv false)) (gA (fb 5 1 U27 1) I0 (gB (lb (iv q.fault) 109 U3) I0 rfl ?_)))))))))))
 refine gC (ZE rfl (dF' hs20)) I0 I0 (qP (Zf (.tmp 108) (.const (.bool true)) (.tmp 111) false (bv true) (bv true) rfl) (pP (Zf (.tmp 91) (.tmp 112) (.const (.bool false)) true (bv true) (bv false) rfl) (pM (mT 113 (bv true)) (qK (qK (qK (qK (qK (qK (qK (qK ?_)))))))))))
 refine qK (pP (Zf (.tmp 114) (.const (.bool true)) (.tmp 123) true (bv true) (.v (.tuple #[])) rfl) (kN 178 [(1, .box 27 (cFm q))] [(1, .box 1 0), (124, bv true)] ?_))
 rw [show (misB q) = true by simp only [misB, Bool.or_true, Bool.true_or, Bool.or_false, Bool.false_or, Bool.and_true, Bool.true_and, Bool.and_false, Bool.false_and, Bool.not_true, Bool.not_false, hs1, hs4f, decide_eq_false hs5, hs11f, decide_eq_false hs15, decide_eq_false hs17, decide_eq_false hs18, decide_eq_false hs19, decide_eq_false hs20]]
 exact Z7 T0 (Zw _ _ rfl (by kernel_rfl) (by kernel_rfl))
 refine Zc ?_
 by_cases hs21 : (misB q) = true
 rw [hs21]
 refine kW 178 [(1, .box 27 (cFm q))] [(1, .box 1 0), (124, bv true)] (Zu rfl (Zb (Za (pM (aC (.int .i64 1)) (Zv (Zc (Zt (Zd ?_))))))))
 refine Zr Try.results61 (.tmp rfl) ?_
 exact congrArg (fun x : Int => AV.v (.int .i64 x)) (((valE_2 ⟨hs1, hs4f, hs5, hs11f⟩).trans (val2_mis NOK hs21)).symm)
 have hs21f : (misB q) = false := by simpa using hs21
 rw [hs21f]
 refine kW 178 [(1, .box 27 (cFm q))] [(1, .box 1 0), (124, bv false)] (Zn rfl (Zk (Zc (Zb (Zb (Za (pM (aC (.int .i64 0)) (kN 178 [(1, .box 27 (cFm q))] [(1, .box 1 0), (5, iv 0)] (Zc ?_)))))))))
 refine Ku (resB2 q q.res.length = false) (ofL [(1, .box 27 (cFm q))]) (ofT 178 [(1, .box 1 0)]) ?_ (fun RES => ?_)
 refine Zz ?_
 refine Yb (σ := {k : Nat // k ≤ q.res.length ∧ resB2 q k = false}) (fun s => (ofL [(1, .box 27 (cFm q))], ofT 178 [(1, .box 1 0), (5, iv s.1)])) (fun s => q.res.length - s.1) ⟨0, Nat.zero_le _, rfl⟩ (Zw _ _ rfl (by kernel_rfl) (by kernel_rfl)) (fun s => ?_)
 obtain ⟨k, hk0, hs0⟩ := s
 show ETri J w0 (ofL [(1, .box 27 (cFm q))]) (ofT 178 [(1, .box 1 0), (5, iv k)]) _
 refine Zb (Zb ?_)
 by_cases hs22 : ((k : Nat) : Int) < ((q.res.length : Nat) : Int)
 refine Za (pM (mT 5 (iv k)) (oA (fb 6 1 U27 1) I0 (oB (lb (slA 4 cLn q.res) 126 U23) I0 rfl (oA (Zi (.tmp 127) rfl U23) I0 (oC (ZT rfl (dT hs22)) I0 I0 (kN 178 [(1, .box 27 (cFm q))] [(1, .box 1 0), (5, iv k), (129, bv true)] (Zc (Zu rfl (Zk (Zc (Zb ?_)))))))))))
 refine Zz (Zb ?_)
 by_cases hs23 : (smL q.res[k].c q.res[k].n q.res[k].t q.res[k].f) = true
 refine Za (oA (fb 6 1 U27 1) I0 (oB (lb (slA 4 cLn q.res) 132 U23) I0 rfl (pM (mT 5 (iv k)) (oC (Zo (off := k * 4) (.tmp 133) (.tmp 134) rfl U23 (by kernel_rfl) (by omega) (by omega) rfl) I0 I0 (oA (Y6 (z := 4) (.tmp 135) rfl U84 rfl (by kernel_rfl) (Kq lenLn q.res k (by omega)) rfl) I0 (oC (Zm (c := .func 89) (xs := #[.tmp 136]) [] (ZJ (few_c q.res[k]) hs23) rfl (by kernel_rfl) rfl (Xs := [.agg (cLn q.res[k])]) rfl rfl rfl) I0 I0 (oA (ZC rfl rfl) I0 (kN 178 [(1, .box 27 (cFm q))] [(1, .box 1 0), (5, iv k), (129, bv true), (138, bv false)] (Zc (Zn rfl (Zk ?_)))))))))))
 refine ZU (Zc (Za (pM (mT 5 (iv k)) (oC (ZV (c := ((k + 1 : Nat) : Int)) rfl (w64 (by omega) (by omega) (by omega))) I0 I0 (pM (aT 131 (iv (k + 1 : Nat))) (kN 178 [(1, .box 27 (cFm q))] [(1, .box 1 0), (5, iv (k + 1 : Nat)), (129, bv true), (138, bv false)] (Zc ?_)))))))
 refine ZH ⟨k + 1, by omega, resB2_succ (by omega) hs0 hs23⟩ (show q.res.length - (k + 1) < q.res.length - k by omega) ?_
 exact Zw _ _ rfl (by kernel_rfl) (by kernel_rfl)
 have hs23f : (smL q.res[k].c q.res[k].n q.res[k].t q.res[k].f) = false := by simpa using hs23
 refine Za (oA (fb 6 1 U27 1) I0 (oB (lb (slA 4 cLn q.res) 132 U23) I0 rfl (pM (mT 5 (iv k)) (oC (Zo (off := k * 4) (.tmp 133) (.tmp 134) rfl U23 (by kernel_rfl) (by omega) (by omega) rfl) I0 I0 (oA (Y6 (z := 4) (.tmp 135) rfl U84 rfl (by kernel_rfl) (Kq lenLn q.res k (by omega)) rfl) I0 (oC (Zm (c := .func 89) (xs := #[.tmp 136]) [] (ZJ (few_c q.res[k]) hs23f) rfl (by kernel_rfl) rfl (Xs := [.agg (cLn q.res[k])]) rfl rfl rfl) I0 I0 (oA (ZC rfl rfl) I0 (kN 178 [(1, .box 27 (cFm q))] [(1, .box 1 0), (5, iv k), (129, bv true), (138, bv true)] (Zc (Zu rfl (Zb ?_)))))))))))
 refine Za (pM (aC (.int .i64 4)) (Zv (Zc (Zt (Zq (Zd (Zd (Zq (Yi (Zd ?_))))))))))
 refine Zr Try.results61 (.tmp rfl) ?_
 exact congrArg (fun x : Int => AV.v (.int .i64 x)) (((valE_2 ⟨hs1, hs4f, hs5, hs11f⟩).trans (val2_res NOK hs21f (resB2_yes (k := k) (by omega) hs23f))).symm)
 refine Za (pM (mT 5 (iv k)) (oA (fb 6 1 U27 1) I0 (oB (lb (slA 4 cLn q.res) 126 U23) I0 rfl (oA (Zi (.tmp 127) rfl U23) I0 (oC (ZT rfl (dF hs22)) I0 I0 (kN 178 [(1, .box 27 (cFm q))] [(1, .box 1 0), (5, iv k), (129, bv false)] (Zc (Zn rfl (Z8 (Zx (Zx ?_)))))))))))
 refine YN ?_
 exact Z7 (by have : k = q.res.length := (by omega); subst this; exact hs0) (Zw _ _ rfl (by kernel_rfl) (by kernel_rfl))
 refine Zc (Zb (Zb (Za (oA (fb 7 1 U27 1) I0 (oB (lb (Ze q.init) 139 U24) I0 rfl (oA (fb 2 1 U27 1) I0 (oB (lb (Yj q.states) 141 U22) I0 rfl (oA (Zi (.tmp 142) rfl U22) I0 (oD (Zm (c := .func 63) (xs := #[.tmp 140, .tmp 143]) [] (KV q.states.length HQ.lstates q.init HQ.init) rfl (by kernel_rfl) rfl (Xs := [Ze q.init, iv q.states.length]) rfl rfl rfl) I0 I0 I0 (pM (aT 144 (iv (setE q.states.length q.init))) (kN 178 [(1, .box 27 (cFm q))] [(1, .box 1 0), (6, iv (setE q.states.length q.init))] ?_)))))))))))
 refine Zc (Zb ?_)
 by_cases hs24 : setE q.states.length q.init = 0
 refine Za (pM (mT 6 (iv (setE q.states.length q.init))) (oC (ZE rfl (dT' hs24)) I0 I0 (kN 178 [(1, .box 27 (cFm q))] [(1, .box 1 0), (6, iv (setE q.states.length q.init)), (146, bv false)] (Zc (Zn rfl (Zk (Zc (Zb (Zb ?_)))))))))
 by_cases hs25 : ((q.init.length : Nat) : Int) = 0
 refine Za (oA (fb 7 1 U27 1) I0 (oB (lb (Ze q.init) 148 U24) I0 rfl (oA (Zi (.tmp 149) rfl U24) I0 (oC (ZA rfl (dT hs25)) I0 I0 (kN 178 [(1, .box 27 (cFm q))] [(1, .box 1 0), (151, bv true)] (Zc (Zu rfl (Zb (Za (pM (aC (.int .i64 1)) (Zv ?_)))))))))))
 refine Zc (Zt (Zd ?_))
 refine Zr Try.results61 (.tmp rfl) ?_
 exact congrArg (fun x : Int => AV.v (.int .i64 x)) (((valE_2 ⟨hs1, hs4f, hs5, hs11f⟩).trans ((val2_3 NOK hs21f RES).trans (val3_n hs25))).symm)
 refine Za (oA (fb 7 1 U27 1) I0 (oB (lb (Ze q.init) 148 U24) I0 rfl (oA (Zi (.tmp 149) rfl U24) I0 (oC (ZA rfl (dF hs25)) I0 I0 (kN 178 [(1, .box 27 (cFm q))] [(1, .box 1 0), (151, bv false)] (Zc (Zn rfl (Zk (Zc (Zb (Zb ?_)))))))))))
 refine Za (oA (fb 8 1 U27 1) I0 (oB (lb (Ze q.leader) 152 U24) I0 rfl (oA (fb 2 1 U27 1) I0 (oB (lb (Yj q.states) 154 U22) I0 rfl (oA (Zi (.tmp 155) rfl U22) I0 (oD (Zm (c := .func 63) (xs := #[.tmp 153, .tmp 156]) [] (KV q.states.length HQ.lstates q.leader HQ.leader) rfl (by kernel_rfl) rfl (Xs := [Ze q.leader, iv q.states.length]) rfl rfl rfl) I0 I0 I0 (pM (aT 157 (iv (setE q.states.length q.leader))) (kN 178 [(1, .box 27 (cFm q))] [(1, .box 1 0), (7, iv (setE q.states.length q.leader))] (Zc (Zb ?_))))))))))
 by_cases hs26 : setE q.states.length q.leader = 0
 refine Za (pM (mT 7 (iv (setE q.states.length q.leader))) (oC (ZE rfl (dT' hs26)) I0 I0 (kN 178 [(1, .box 27 (cFm q))] [(1, .box 1 0), (7, iv (setE q.states.length q.leader)), (159, bv false)] (Zc (Zn rfl (Zk (Zc (Zb (Zb (Za (pM (aC (.int .i64 0)) ?_)))))))))))
 refine kN 178 [(1, .box 27 (cFm q))] [(1, .box 1 0), (8, iv 0)] (Zc ?_)
 refine Ku (rulOk q q.rules.length) (ofL [(1, .box 27 (cFm q))]) (ofT 178 [(1, .box 1 0)]) ?_ (fun RUL => ?_)
 refine Zz ?_
 refine Yb (σ := {k : Nat // k ≤ q.rules.length ∧ rulOk q k}) (fun s => (ofL [(1, .box 27 (cFm q))], ofT 178 [(1, .box 1 0), (8, iv s.1)])) (fun s => q.rules.length - s.1) ⟨0, Nat.zero_le _, rulOk_zero q⟩ (Zw _ _ rfl (by kernel_rfl) (by kernel_rfl)) (fun s => ?_)
 obtain ⟨k, hk0, hs0⟩ := s
 show ETri J w0 (ofL [(1, .box 27 (cFm q))]) (ofT 178 [(1, .box 1 0), (8, iv k)]) _
 refine Zb (Zb ?_)
 by_cases hs27 : ((k : Nat) : Int) < ((q.rules.length : Nat) : Int)
 refine Za (pM (mT 8 (iv k)) (oA (fb 9 1 U27 1) I0 (oB (lb (slA 18 cRu q.rules) 162 U25) I0 rfl (oA (Zi (.tmp 163) rfl U25) I0 (oC (ZT rfl (dT hs27)) I0 I0 (kN 178 [(1, .box 27 (cFm q))] [(1, .box 1 0), (8, iv k), (165, bv true)] (Zc (Zu rfl (Zk (Zc (Zb ?_)))))))))))
 refine Zz (Zb (Za (oB (Zj (Y := .box 27 (cFm q)) (ds := cFm q) (z := 10) (.tmp 1) rfl U27 rfl (by kernel_rfl) (by decide) (by kernel_rfl) (by kernel_rfl)) I0 rfl (pM (mT 8 (iv k)) (oD (Zm (c := .func 90) (xs := #[.tmp 168, .tmp 169]) [] (rrule_c HQ (i := k) (by omega)) rfl (by kernel_rfl) rfl (Xs := [.agg (cFm q), iv k]) rfl rfl rfl) I0 I0 I0 (pM (aT 170 (iv (rruleE q k q.rules[k]))) (kN 178 [(1, .box 27 (cFm q))] [(1, .box 1 0), (8, iv k), (9, iv (rruleE q k q.rules[k])), (165, bv true)] (Zc (Zb ?_)))))))))
 by_cases hs28 : rruleE q k q.rules[k] = 0
 refine Za (pM (mT 9 (iv (rruleE q k q.rules[k]))) (oC (ZE rfl (dT' hs28)) I0 I0 (kN 178 [(1, .box 27 (cFm q))] [(1, .box 1 0), (8, iv k), (9, iv (rruleE q k q.rules[k])), (165, bv true), (172, bv false)] (Zc (Zn rfl (Zk (ZU (Zc (Za (pM (mT 8 (iv k)) (oC (ZV (c := ((k + 1 : Nat) : Int)) rfl (w64 (by omega) (by omega) (by omega))) I0 I0 ?_)))))))))))
 refine pM (aT 167 (iv (k + 1 : Nat))) (kN 178 [(1, .box 27 (cFm q))] [(1, .box 1 0), (8, iv (k + 1 : Nat)), (9, iv (rruleE q k q.rules[k])), (165, bv true), (172, bv false)] (Zc ?_))
 refine ZH ⟨k + 1, by omega, rulOk_succ (by omega) hs0 hs28⟩ (show q.rules.length - (k + 1) < q.rules.length - k by omega) ?_
 exact Zw _ _ rfl (by kernel_rfl) (by kernel_rfl)
 refine Za (pM (mT 9 (iv (rruleE q k q.rules[k]))) (oC (ZE rfl (dF' hs28)) I0 I0 (kN 178 [(1, .box 27 (cFm q))] [(1, .box 1 0), (8, iv k), (9, iv (rruleE q k q.rules[k])), (165, bv true), (172, bv true)] (Zc (Zu rfl (Zb (Za (pM (mT 9 (iv (rruleE q k q.rules[k]))) (pM (aT 173 (iv (rruleE q k q.rules[k]))) (Zv (Zc ?_)))))))))))
 refine Zt (Zq (Zd (Zd (Zq (Yi (Zd ?_))))))
 refine Zr Try.results61 (.tmp rfl) ?_
 exact congrArg (fun x : Int => AV.v (.int .i64 x)) (((valE_2 ⟨hs1, hs4f, hs5, hs11f⟩).trans ((val2_3 NOK hs21f RES).trans (val3_r ⟨hs24, hs25⟩ hs26 hs5 (k := k) (by omega) hs0 hs28))).symm)
 refine Za (pM (mT 8 (iv k)) (oA (fb 9 1 U27 1) I0 (oB (lb (slA 18 cRu q.rules) 162 U25) I0 rfl (oA (Zi (.tmp 163) rfl U25) I0 (oC (ZT rfl (dF hs27)) I0 I0 (kN 178 [(1, .box 27 (cFm q))] [(1, .box 1 0), (8, iv k), (165, bv false)] (Zc (Zn rfl (Z8 (Zx (Zx ?_)))))))))))
 refine YN ?_
 exact Z7 (by have : k = q.rules.length := (by omega); subst this; exact hs0) (Zw _ _ rfl (by kernel_rfl) (by kernel_rfl))
 refine Zc (Zb (Zb ?_))
 by_cases hs29 : 3 < (((diffG q.rules).length : Nat) : Int)
 refine Za (oB (Zj (Y := .box 27 (cFm q)) (ds := cFm q) (z := 10) (.tmp 1) rfl U27 rfl (by kernel_rfl) (by decide) (by kernel_rfl) (by kernel_rfl)) I0 rfl (oC (Zm (c := .func 91) (xs := #[.tmp 174]) [] (distinct_c HQ (tooI_no hs11f).2.2.2.2 (rul_guards hs5 RUL)) rfl (by kernel_rfl) rfl (Xs := [.agg (cFm q)]) rfl rfl rfl) I0 I0 (Yl rfl (Zi (.tmp 175) rfl U48) ⟨.inr (.inl rfl), T0⟩ T0 T0 (oC (Z9 rfl (dT hs29)) I0 I0 (kN 178 [] [(177, bv true)] (Zc (Zu rfl (Zb (Za (pM (aC (.int .i64 4)) (Zv ?_)))))))))))
 refine Zc (Zt (Zd ?_))
 refine Zr Try.results61 (.tmp rfl) ?_
 exact congrArg (fun x : Int => AV.v (.int .i64 x)) (((valE_2 ⟨hs1, hs4f, hs5, hs11f⟩).trans ((val2_3 NOK hs21f RES).trans (val3_d ⟨hs24, hs25⟩ hs26 hs5 RUL hs29))).symm)
 refine Za (oB (Zj (Y := .box 27 (cFm q)) (ds := cFm q) (z := 10) (.tmp 1) rfl U27 rfl (by kernel_rfl) (by decide) (by kernel_rfl) (by kernel_rfl)) I0 rfl (oC (Zm (c := .func 91) (xs := #[.tmp 174]) [] (distinct_c HQ (tooI_no hs11f).2.2.2.2 (rul_guards hs5 RUL)) rfl (by kernel_rfl) rfl (Xs := [.agg (cFm q)]) rfl rfl rfl) I0 I0 (Yl rfl (Zi (.tmp 175) rfl U48) ⟨.inr (.inl rfl), T0⟩ T0 T0 (oC (Z9 rfl (dF hs29)) I0 I0 (kN 178 [] [(177, bv false)] (Zc (Zn rfl (Zk (Zc (Zb (Za ?_)))))))))))
 refine pM (aC (.int .i64 0)) (Zv (Zc (Zt ?_)))
 refine Zr Try.results61 (.tmp rfl) ?_
 exact congrArg (fun x : Int => AV.v (.int .i64 x)) (((valE_2 ⟨hs1, hs4f, hs5, hs11f⟩).trans ((val2_3 NOK hs21f RES).trans (val3_0 ⟨hs24, hs25⟩ hs26 hs5 RUL hs29))).symm)
 refine Za (pM (mT 7 (iv (setE q.states.length q.leader))) (oC (ZE rfl (dF' hs26)) I0 I0 (kN 178 [(1, .box 27 (cFm q))] [(1, .box 1 0), (7, iv (setE q.states.length q.leader)), (159, bv true)] (Zc (Zu rfl (Zb (Za (pM (mT 7 (iv (setE q.states.length q.leader))) (pM (aT 160 (iv (setE q.states.length q.leader))) (Zv (Zc ?_)))))))))))
 refine Zt (Zd ?_)
 refine Zr Try.results61 (.tmp rfl) ?_
 exact congrArg (fun x : Int => AV.v (.int .i64 x)) (((valE_2 ⟨hs1, hs4f, hs5, hs11f⟩).trans ((val2_3 NOK hs21f RES).trans (val3_l ⟨hs24, hs25⟩ hs26))).symm)
 refine Za (pM (mT 6 (iv (setE q.states.length q.init))) (oC (ZE rfl (dF' hs24)) I0 I0 (kN 178 [(1, .box 27 (cFm q))] [(1, .box 1 0), (6, iv (setE q.states.length q.init)), (146, bv true)] (Zc (Zu rfl (Zb (Za (pM (mT 6 (iv (setE q.states.length q.init))) (pM (aT 147 (iv (setE q.states.length q.init))) (Zv (Zc ?_)))))))))))
 refine Zt (Zd ?_)
 refine Zr Try.results61 (.tmp rfl) ?_
 exact congrArg (fun x : Int => AV.v (.int .i64 x)) (((valE_2 ⟨hs1, hs4f, hs5, hs11f⟩).trans ((val2_3 NOK hs21f RES).trans (val3_i hs24))).symm)
 have hs1f : (nameB q.nm.toList) = false := by simpa using hs1
 refine Za (oA (fb 0 1 U27 1) I0 (oB (lb (sv q.nm) 10 U9) I0 rfl (oC (Zm (c := .func 62) (xs := #[.tmp 11]) [] (ZJ (YF q.nm HQ.nm) hs1f) rfl (by kernel_rfl) rfl (Xs := [sv q.nm]) rfl rfl rfl) I0 I0 (oA (ZC rfl rfl) I0 (kN 178 [(1, .box 27 (cFm q))] [(1, .box 1 0), (2, iv 0), (13, bv true)] (Zc (Zu rfl (Zb (Za (pM (aC (.int .i64 2)) (Zv ?_)))))))))))
 refine Zc (Zt (Zd ?_))
 refine Zr Try.results61 (.tmp rfl) ?_
 exact congrArg (fun x : Int => AV.v (.int .i64 x)) ((valE_nm hs1f).symm)
end Go.Proofs.Ytoefmdjgnabgfaa
