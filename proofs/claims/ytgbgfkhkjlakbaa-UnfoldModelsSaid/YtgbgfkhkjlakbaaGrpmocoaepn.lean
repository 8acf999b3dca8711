import Derived.Test.YtgbgfkhkjlakbaaGrppfapbbki
set_option linter.all false
namespace Go.Proofs.Ytgbgfkhkjlakbaa
open Go.RowKit Go.Deep
variable {J : World → Prop}
set_option linter.unusedSimpArgs false in
set_option linter.unusedVariables false in
set_option maxRecDepth 100000 in
set_option maxHeartbeats 6400000 in
theorem rValidate_c {q : Fm} (HQ : FmOk q) : Ctr Try.prog J 56 [.agg (cFm q)] (iv (valE q)) := by
 have hNL := nmA_len q
 have l1 := HQ.lstates
 have l2 := HQ.lmsgs
 have l3 := HQ.lvals
 have l4 := HQ.lrules
 have l5 := HQ.lres
 have l6 := HQ.linit
 have l7 := HQ.lleader
 refine ctr_of_tri Try.func56 rfl (by intro X hX; simp only [List.mem_cons, List.not_mem_nil, or_false] at hX; rcases hX with rfl; exact plain_agg (plain_fm q)) (n := 178) rfl (by simp) (fun w0 => ?_)
 refine kW 178 [] [(0, .agg (cFm q))] ?_
 refine tri_seq ?_
 refine tri_region ?_
 refine t_op rfl (sp_box (X := .agg (cFm q)) (k := 1) (.tmp 0) rfl rfl) ⟨I0, T0⟩ T0 rfl ?_
 refine oA (sp_assign (.const (.int .i64 0)) (iv 0) rfl) I0 ?_
 refine kN 178 [(1, .box 27 (cFm q))] [(1, .box 1 0), (2, iv 0)] ?_
 refine t_then ?_
 refine tri_seq ?_
 refine tri_seq ?_
 by_cases hs1 : (nameB q.nm.toList) = true
 refine tri_region ?_
 refine oA (fB 0 (.tmp 1) rfl Try.underlying27 rfl 1 rfl) I0 ?_
 refine oB (lB (.box 27 (cFm q)) (sv q.nm) (.tmp 10) rfl Try.underlying9 rfl rfl) I0 rfl ?_
 refine oC (sp_call (c := .func 66) (xs := #[.tmp 11]) [] (ctr_b (rValidName_c q.nm HQ.nm) hs1) rfl (by kernel_rfl) rfl (Xs := [sv q.nm]) rfl rfl rfl) I0 I0 ?_
 refine oA (sp_not rfl rfl) I0 ?_
 refine kN 178 [(1, .box 27 (cFm q))] [(1, .box 1 0), (2, iv 0), (13, bv false)] ?_
 refine t_then ?_
 refine t_condF rfl ?_
 refine tri_skip ?_
 refine t_then ?_
 refine tri_seq ?_
 refine tri_seq ?_
 refine t_cut (True) (ofL [(1, .box 27 (cFm q))]) (ofT 178 [(1, .box 1 0), (2, iv 0), (23, bv (argB q))]) ?_ (fun _ => ?_)
 by_cases hs2 : (inB 1 4 q.top) = true
 by_cases hs3 : (inB 0 3 q.fault) = true
 refine tri_region ?_
 refine oA (fB 1 (.tmp 1) rfl Try.underlying27 rfl 1 rfl) I0 ?_
 refine oB (lB (.box 27 (cFm q)) (iv q.top) (.tmp 14) rfl Try.underlying3 rfl rfl) I0 rfl ?_
 refine t_op rfl (sp_call (c := .func 69) (xs := #[.tmp 15, .const (.int .i64 1), .const (.int .i64 4)]) [] (ctr_b (within_c q.top 1 4) hs2) rfl (by kernel_rfl) rfl (Xs := [iv q.top, iv 1, iv 4]) rfl rfl rfl) ⟨I0, I0, I0, I0, T0⟩ T0 T0 ?_
 refine oA (sp_not rfl rfl) I0 ?_
 refine oA (sp_move (.tmp 17) (bv false) rfl) I0 ?_
 refine gA (fB 5 (.tmp 1) rfl Try.underlying27 rfl 1 rfl) I0 ?_
 refine gB (lB (.box 27 (cFm q)) (iv q.fault) (.tmp 19) rfl Try.underlying3 rfl rfl) I0 rfl ?_
 refine t_opG rfl (sp_call (c := .func 69) (xs := #[.tmp 20, .const (.int .i64 0), .const (.int .i64 3)]) [] (ctr_b (within_c q.fault 0 3) hs3) rfl (by kernel_rfl) rfl (Xs := [iv q.fault, iv 0, iv 3]) rfl rfl rfl) ⟨I0, I0, I0, I0, T0⟩ T0 T0 ?_
 refine gA (sp_not rfl rfl) I0 ?_
 refine oD (sp_pick (.tmp 18) (.const (.bool true)) (.tmp 22) false (bv true) (bv false) rfl) I0 I0 I0 ?_
 refine kN 178 [(1, .box 27 (cFm q))] [(1, .box 1 0), (2, iv 0), (23, bv false)] ?_
 rw [show (argB q) = false by simp only [argB, Bool.or_true, Bool.true_or, Bool.or_false, Bool.false_or, Bool.and_true, Bool.true_and, Bool.and_false, Bool.false_and, Bool.not_true, Bool.not_false, hs1, hs2, hs3]]
 exact t_meet T0 (wk_keep _ _ rfl (by kernel_rfl) (by kernel_rfl))
 have hs3f : (inB 0 3 q.fault) = false := by simpa using hs3
 refine tri_region ?_
 refine oA (fB 1 (.tmp 1) rfl Try.underlying27 rfl 1 rfl) I0 ?_
 refine oB (lB (.box 27 (cFm q)) (iv q.top) (.tmp 14) rfl Try.underlying3 rfl rfl) I0 rfl ?_
 refine t_op rfl (sp_call (c := .func 69) (xs := #[.tmp 15, .const (.int .i64 1), .const (.int .i64 4)]) [] (ctr_b (within_c q.top 1 4) hs2) rfl (by kernel_rfl) rfl (Xs := [iv q.top, iv 1, iv 4]) rfl rfl rfl) ⟨I0, I0, I0, I0, T0⟩ T0 T0 ?_
 refine oA (sp_not rfl rfl) I0 ?_
 refine oA (sp_move (.tmp 17) (bv false) rfl) I0 ?_
 refine gA (fB 5 (.tmp 1) rfl Try.underlying27 rfl 1 rfl) I0 ?_
 refine gB (lB (.box 27 (cFm q)) (iv q.fault) (.tmp 19) rfl Try.underlying3 rfl rfl) I0 rfl ?_
 refine t_opG rfl (sp_call (c := .func 69) (xs := #[.tmp 20, .const (.int .i64 0), .const (.int .i64 3)]) [] (ctr_b (within_c q.fault 0 3) hs3f) rfl (by kernel_rfl) rfl (Xs := [iv q.fault, iv 0, iv 3]) rfl rfl rfl) ⟨I0, I0, I0, I0, T0⟩ T0 T0 ?_
 refine gA (sp_not rfl rfl) I0 ?_
 refine oD (sp_pick (.tmp 18) (.const (.bool true)) (.tmp 22) false (bv true) (bv true) rfl) I0 I0 I0 ?_
 refine kN 178 [(1, .box 27 (cFm q))] [(1, .box 1 0), (2, iv 0), (23, bv true)] ?_
 rw [show (argB q) = true by simp only [argB, Bool.or_true, Bool.true_or, Bool.or_false, Bool.false_or, Bool.and_true, Bool.true_and, Bool.and_false, Bool.false_and, Bool.not_true, Bool.not_false, hs1, hs2, hs3f]]
 exact t_meet T0 (wk_keep _ _ rfl (by kernel_rfl) (by kernel_rfl))
 have hs2f : (inB 1 4 q.top) = false := by simpa using hs2
 refine tri_region ?_
 refine oA (fB 1 (.tmp 1) rfl Try.underlying27 rfl 1 rfl) I0 ?_
 refine oB (lB (.box 27 (cFm q)) (iv q.top) (.tmp 14) rfl Try.underlying3 rfl rfl) I0 rfl ?_
 refine t_op rfl (sp_call (c := .func 69) (xs := #[.tmp 15, .const (.int .i64 1), .const (.int .i64 4)]) [] (ctr_b (within_c q.top 1 4) hs2f) rfl (by kernel_rfl) rfl (Xs := [iv q.top, iv 1, iv 4]) rfl rfl rfl) ⟨I0, I0, I0, I0, T0⟩ T0 T0 ?_
 refine oA (sp_not rfl rfl) I0 ?_
 refine oA (sp_move (.tmp 17) (bv true) rfl) I0 ?_
 refine t_skip rfl ?_
 refine t_skip rfl ?_
 refine t_skip rfl ?_
 refine t_skip rfl ?_
 refine oD (sp_pick (.tmp 18) (.const (.bool true)) (.tmp 22) true (bv true) (.v (.tuple #[])) rfl) I0 I0 I0 ?_
 refine kN 178 [(1, .box 27 (cFm q))] [(1, .box 1 0), (2, iv 0), (23, bv true)] ?_
 rw [show (argB q) = true by simp only [argB, Bool.or_true, Bool.true_or, Bool.or_false, Bool.false_or, Bool.and_true, Bool.true_and, Bool.and_false, Bool.false_and, Bool.not_true, Bool.not_false, hs1, hs2f]]
 exact t_meet T0 (wk_keep _ _ rfl (by kernel_rfl) (by kernel_rfl))
 refine t_then ?_
 by_cases hs4 : (argB q) = true
 rw [hs4]
 refine kW 178 [(1, .box 27 (cFm q))] [(1, .box 1 0), (2, iv 0), (23, bv true)] ?_
 refine t_condT rfl ?_
 refine tri_seq ?_
 refine tri_region ?_
 refine oA (sp_assign (.const (.int .i64 1)) (iv 1) rfl) I0 ?_
 refine kN 178 [(1, .box 27 (cFm q))] [(1, .box 1 0), (2, iv 1)] ?_
 refine t_then ?_
 refine tri_ret ?_
 refine t_then_ret ?_
 refine tri_end1 Try.results56 (.tmp rfl) ?_
 exact congrArg (fun x : Int => AV.v (.int .i64 x)) ((valE_ar hs1 hs4).symm)
 have hs4f : (argB q) = false := by simpa using hs4
 rw [hs4f]
 refine kW 178 [(1, .box 27 (cFm q))] [(1, .box 1 0), (2, iv 0), (23, bv false)] ?_
 refine t_condF rfl ?_
 refine tri_skip ?_
 refine t_then ?_
 refine tri_seq ?_
 refine tri_seq ?_
 by_cases hs5 : ((q.states.length : Nat) : Int) = 0
 refine tri_region ?_
 refine oA (fB 2 (.tmp 1) rfl Try.underlying27 rfl 1 rfl) I0 ?_
 refine oB (lB (.box 27 (cFm q)) (strsA q.states) (.tmp 24) rfl Try.underlying22 rfl rfl) I0 rfl ?_
 refine oA (sp_lenSl (.tmp 25) rfl Try.underlying22) I0 ?_
 refine oC (sp_eql rfl (dT hs5)) I0 I0 ?_
 refine kN 178 [(1, .box 27 (cFm q))] [(1, .box 1 0), (2, iv 0), (27, bv true)] ?_
 refine t_then ?_
 refine t_condT rfl ?_
 refine tri_seq ?_
 refine tri_region ?_
 refine oA (sp_assign (.const (.int .i64 1)) (iv 1) rfl) I0 ?_
 refine kN 178 [(1, .box 27 (cFm q))] [(1, .box 1 0), (2, iv 1)] ?_
 refine t_then ?_
 refine tri_ret ?_
 refine t_then_ret ?_
 refine tri_end1 Try.results56 (.tmp rfl) ?_
 exact congrArg (fun x : Int => AV.v (.int .i64 x)) ((valE_st hs1 hs4f hs5).symm)
 refine tri_region ?_
 refine oA (fB 2 (.tmp 1) rfl Try.underlying27 rfl 1 rfl) I0 ?_
 refine oB (lB (.box 27 (cFm q)) (strsA q.states) (.tmp 24) rfl Try.underlying22 rfl rfl) I0 rfl ?_
 refine oA (sp_lenSl (.tmp 25) rfl Try.underlying22) I0 ?_
 refine oC (sp_eql rfl (dF hs5)) I0 I0 ?_
 refine kN 178 [(1, .box 27 (cFm q))] [(1, .box 1 0), (2, iv 0), (27, bv false)] ?_
 refine t_then ?_
 refine t_condF rfl ?_
 refine tri_skip ?_
 refine t_then ?_
 refine tri_seq ?_
 refine tri_seq ?_
 refine t_cut (True) (ofL [(1, .box 27 (cFm q))]) (ofT 178 [(1, .box 1 0), (2, iv 0), (55, bv (tooI q))]) ?_ (fun _ => ?_)
 by_cases hs6 : 6 < ((q.states.length : Nat) : Int)
 refine tri_region ?_
 refine oA (fB 2 (.tmp 1) rfl Try.underlying27 rfl 1 rfl) I0 ?_
 refine oB (lB (.box 27 (cFm q)) (strsA q.states) (.tmp 28) rfl Try.underlying22 rfl rfl) I0 rfl ?_
 refine oA (sp_lenSl (.tmp 29) rfl Try.underlying22) I0 ?_
 refine oC (sp_gtr rfl (dT hs6)) I0 I0 ?_
 refine oA (sp_move (.tmp 31) (bv true) rfl) I0 ?_
 refine t_skip rfl ?_
 refine t_skip rfl ?_
 refine t_skip rfl ?_
 refine t_skip rfl ?_
 refine oD (sp_pick (.tmp 32) (.const (.bool true)) (.tmp 36) true (bv true) (.v (.tuple #[])) rfl) I0 I0 I0 ?_
 refine oA (sp_move (.tmp 37) (bv true) rfl) I0 ?_
 refine t_skip rfl ?_
 refine t_skip rfl ?_
 refine t_skip rfl ?_
 refine t_skip rfl ?_
 refine oD (sp_pick (.tmp 38) (.const (.bool true)) (.tmp 42) true (bv true) (.v (.tuple #[])) rfl) I0 I0 I0 ?_
 refine oA (sp_move (.tmp 43) (bv true) rfl) I0 ?_
 refine t_skip rfl ?_
 refine t_skip rfl ?_
 refine t_skip rfl ?_
 refine t_skip rfl ?_
 refine oD (sp_pick (.tmp 44) (.const (.bool true)) (.tmp 48) true (bv true) (.v (.tuple #[])) rfl) I0 I0 I0 ?_
 refine oA (sp_move (.tmp 49) (bv true) rfl) I0 ?_
 refine t_skip rfl ?_
 refine t_skip rfl ?_
 refine t_skip rfl ?_
 refine t_skip rfl ?_
 refine oD (sp_pick (.tmp 50) (.const (.bool true)) (.tmp 54) true (bv true) (.v (.tuple #[])) rfl) I0 I0 I0 ?_
 refine kN 178 [(1, .box 27 (cFm q))] [(1, .box 1 0), (2, iv 0), (55, bv true)] ?_
 rw [show (tooI q) = true by simp only [tooI, Bool.or_true, Bool.true_or, Bool.or_false, Bool.false_or, Bool.and_true, Bool.true_and, Bool.and_false, Bool.false_and, Bool.not_true, Bool.not_false, hs1, hs4f, decide_eq_false hs5, decide_eq_true hs6]]
 exact t_meet T0 (wk_keep _ _ rfl (by kernel_rfl) (by kernel_rfl))
 by_cases hs7 : 3 < ((q.msgs.length : Nat) : Int)
 refine tri_region ?_
 refine oA (fB 2 (.tmp 1) rfl Try.underlying27 rfl 1 rfl) I0 ?_
 refine oB (lB (.box 27 (cFm q)) (strsA q.states) (.tmp 28) rfl Try.underlying22 rfl rfl) I0 rfl ?_
 refine oA (sp_lenSl (.tmp 29) rfl Try.underlying22) I0 ?_
 refine oC (sp_gtr rfl (dF hs6)) I0 I0 ?_
 refine oA (sp_move (.tmp 31) (bv false) rfl) I0 ?_
 refine gA (fB 3 (.tmp 1) rfl Try.underlying27 rfl 1 rfl) I0 ?_
 refine gB (lB (.box 27 (cFm q)) (strsA q.msgs) (.tmp 33) rfl Try.underlying22 rfl rfl) I0 rfl ?_
 refine gA (sp_lenSl (.tmp 34) rfl Try.underlying22) I0 ?_
 refine gC (sp_gtr rfl (dT hs7)) I0 I0 ?_
 refine oD (sp_pick (.tmp 32) (.const (.bool true)) (.tmp 36) false (bv true) (bv true) rfl) I0 I0 I0 ?_
 refine oA (sp_move (.tmp 37) (bv true) rfl) I0 ?_
 refine t_skip rfl ?_
 refine t_skip rfl ?_
 refine t_skip rfl ?_
 refine t_skip rfl ?_
 refine oD (sp_pick (.tmp 38) (.const (.bool true)) (.tmp 42) true (bv true) (.v (.tuple #[])) rfl) I0 I0 I0 ?_
 refine oA (sp_move (.tmp 43) (bv true) rfl) I0 ?_
 refine t_skip rfl ?_
 refine t_skip rfl ?_
 refine t_skip rfl ?_
 refine t_skip rfl ?_
 refine oD (sp_pick (.tmp 44) (.const (.bool true)) (.tmp 48) true (bv true) (.v (.tuple #[])) rfl) I0 I0 I0 ?_
 refine oA (sp_move (.tmp 49) (bv true) rfl) I0 ?_
 refine t_skip rfl ?_
 refine t_skip rfl ?_
 refine t_skip rfl ?_
 refine t_skip rfl ?_
 refine oD (sp_pick (.tmp 50) (.const (.bool true)) (.tmp 54) true (bv true) (.v (.tuple #[])) rfl) I0 I0 I0 ?_
 refine kN 178 [(1, .box 27 (cFm q))] [(1, .box 1 0), (2, iv 0), (55, bv true)] ?_
 rw [show (tooI q) = true by simp only [tooI, Bool.or_true, Bool.true_or, Bool.or_false, Bool.false_or, Bool.and_true, Bool.true_and, Bool.and_false, Bool.false_and, Bool.not_true, Bool.not_false, hs1, hs4f, decide_eq_false hs5, decide_eq_false hs6, decide_eq_true hs7]]
 exact t_meet T0 (wk_keep _ _ rfl (by kernel_rfl) (by kernel_rfl))
 by_cases hs8 : 3 < ((q.vals.length : Nat) : Int)
 refine tri_region ?_
 refine oA (fB 2 (.tmp 1) rfl Try.underlying27 rfl 1 rfl) I0 ?_
 refine oB (lB (.box 27 (cFm q)) (strsA q.states) (.tmp 28) rfl Try.underlying22 rfl rfl) I0 rfl ?_
 refine oA (sp_lenSl (.tmp 29) rfl Try.underlying22) I0 ?_
 refine oC (sp_gtr rfl (dF hs6)) I0 I0 ?_
 refine oA (sp_move (.tmp 31) (bv false) rfl) I0 ?_
 refine gA (fB 3 (.tmp 1) rfl Try.underlying27 rfl 1 rfl) I0 ?_
 refine gB (lB (.box 27 (cFm q)) (strsA q.msgs) (.tmp 33) rfl Try.underlying22 rfl rfl) I0 rfl ?_
 refine gA (sp_lenSl (.tmp 34) rfl Try.underlying22) I0 ?_
 refine gC (sp_gtr rfl (dF hs7)) I0 I0 ?_
 refine oD (sp_pick (.tmp 32) (.const (.bool true)) (.tmp 36) false (bv true) (bv false) rfl) I0 I0 I0 ?_
 refine oA (sp_move (.tmp 37) (bv false) rfl) I0 ?_
 refine gA (fB 4 (.tmp 1) rfl Try.underlying27 rfl 1 rfl) I0 ?_
 refine gB (lB (.box 27 (cFm q)) (strsA q.vals) (.tmp 39) rfl Try.underlying22 rfl rfl) I0 rfl ?_
 refine gA (sp_lenSl (.tmp 40) rfl Try.underlying22) I0 ?_
 refine gC (sp_gtr rfl (dT hs8)) I0 I0 ?_
 refine oD (sp_pick (.tmp 38) (.const (.bool true)) (.tmp 42) false (bv true) (bv true) rfl) I0 I0 I0 ?_
 refine oA (sp_move (.tmp 43) (bv true) rfl) I0 ?_
 refine t_skip rfl ?_
 refine t_skip rfl ?_
 refine t_skip rfl ?_
 refine t_skip rfl ?_
 refine oD (sp_pick (.tmp 44) (.const (.bool true)) (.tmp 48) true (bv true) (.v (.tuple #[])) rfl) I0 I0 I0 ?_
 refine oA (sp_move (.tmp 49) (bv true) rfl) I0 ?_
 refine t_skip rfl ?_
 refine t_skip rfl ?_
 refine t_skip rfl ?_
 refine t_skip rfl ?_
 refine oD (sp_pick (.tmp 50) (.const (.bool true)) (.tmp 54) true (bv true) (.v (.tuple #[])) rfl) I0 I0 I0 ?_
 refine kN 178 [(1, .box 27 (cFm q))] [(1, .box 1 0), (2, iv 0), (55, bv true)] ?_
 rw [show (tooI q) = true by simp only [tooI, Bool.or_true, Bool.true_or, Bool.or_false, Bool.false_or, Bool.and_true, Bool.true_and, Bool.and_false, Bool.false_and, Bool.not_true, Bool.not_false, hs1, hs4f, decide_eq_false hs5, decide_eq_false hs6, decide_eq_false hs7, decide_eq_true hs8]]
 exact t_meet T0 (wk_keep _ _ rfl (by kernel_rfl) (by kernel_rfl))
 by_cases hs9 : 4 < ((q.res.length : Nat) : Int)
 refine tri_region ?_
 refine oA (fB 2 (.tmp 1) rfl Try.underlying27 rfl 1 rfl) I0 ?_
 refine oB (lB (.box 27 (cFm q)) (strsA q.states) (.tmp 28) rfl Try.underlying22 rfl rfl) I0 rfl ?_
 refine oA (sp_lenSl (.tmp 29) rfl Try.underlying22) I0 ?_
 refine oC (sp_gtr rfl (dF hs6)) I0 I0 ?_
 refine oA (sp_move (.tmp 31) (bv false) rfl) I0 ?_
 refine gA (fB 3 (.tmp 1) rfl Try.underlying27 rfl 1 rfl) I0 ?_
 refine gB (lB (.box 27 (cFm q)) (strsA q.msgs) (.tmp 33) rfl Try.underlying22 rfl rfl) I0 rfl ?_
 refine gA (sp_lenSl (.tmp 34) rfl Try.underlying22) I0 ?_
 refine gC (sp_gtr rfl (dF hs7)) I0 I0 ?_
 refine oD (sp_pick (.tmp 32) (.const (.bool true)) (.tmp 36) false (bv true) (bv false) rfl) I0 I0 I0 ?_
 refine oA (sp_move (.tmp 37) (bv false) rfl) I0 ?_
 refine gA (fB 4 (.tmp 1) rfl Try.underlying27 rfl 1 rfl) I0 ?_
 refine gB (lB (.box 27 (cFm q)) (strsA q.vals) (.tmp 39) rfl Try.underlying22 rfl rfl) I0 rfl ?_
 refine gA (sp_lenSl (.tmp 40) rfl Try.underlying22) I0 ?_
 refine gC (sp_gtr rfl (dF hs8)) I0 I0 ?_
 refine oD (sp_pick (.tmp 38) (.const (.bool true)) (.tmp 42) false (bv true) (bv false) rfl) I0 I0 I0 ?_
 refine oA (sp_move (.tmp 43) (bv false) rfl) I0 ?_
 refine gA (fB 6 (.tmp 1) rfl Try.underlying27 rfl 1 rfl) I0 ?_
 refine gB (lB (.box 27 (cFm q)) (slA 4 cLn q.res) (.tmp 45) rfl Try.underlying23 rfl rfl) I0 rfl ?_
 refine gA (sp_lenSl (.tmp 46) rfl Try.underlying23) I0 ?_
 refine gC (sp_gtr rfl (dT hs9)) I0 I0 ?_
 refine oD (sp_pick (.tmp 44) (.const (.bool true)) (.tmp 48) false (bv true) (bv true) rfl) I0 I0 I0 ?_
 refine oA (sp_move (.tmp 49) (bv true) rfl) I0 ?_
 refine t_skip rfl ?_
 refine t_skip rfl ?_
 refine t_skip rfl ?_
 refine t_skip rfl ?_
 refine oD (sp_pick (.tmp 50) (.const (.bool true)) (.tmp 54) true (bv true) (.v (.tuple #[])) rfl) I0 I0 I0 ?_
 refine kN 178 [(1, .box 27 (cFm q))] [(1, .box 1 0), (2, iv 0), (55, bv true)] ?_
 rw [show (tooI q) = true by simp only [tooI, Bool.or_true, Bool.true_or, Bool.or_false, Bool.false_or, Bool.and_true, Bool.true_and, Bool.and_false, Bool.false_and, Bool.not_true, Bool.not_false, hs1, hs4f, decide_eq_false hs5, decide_eq_false hs6, decide_eq_false hs7, decide_eq_false hs8, decide_eq_true hs9]]
 exact t_meet T0 (wk_keep _ _ rfl (by kernel_rfl) (by kernel_rfl))
 by_cases hs10 : 8 < ((q.rules.length : Nat) : Int)
 refine tri_region ?_
 refine oA (fB 2 (.tmp 1) rfl Try.underlying27 rfl 1 rfl) I0 ?_
 refine oB (lB (.box 27 (cFm q)) (strsA q.states) (.tmp 28) rfl Try.underlying22 rfl rfl) I0 rfl ?_
 refine oA (sp_lenSl (.tmp 29) rfl Try.underlying22) I0 ?_
 refine oC (sp_gtr rfl (dF hs6)) I0 I0 ?_
 refine oA (sp_move (.tmp 31) (bv false) rfl) I0 ?_
 refine gA (fB 3 (.tmp 1) rfl Try.underlying27 rfl 1 rfl) I0 ?_
 refine gB (lB (.box 27 (cFm q)) (strsA q.msgs) (.tmp 33) rfl Try.underlying22 rfl rfl) I0 rfl ?_
 refine gA (sp_lenSl (.tmp 34) rfl Try.underlying22) I0 ?_
 refine gC (sp_gtr rfl (dF hs7)) I0 I0 ?_
 refine oD (sp_pick (.tmp 32) (.const (.bool true)) (.tmp 36) false (bv true) (bv false) rfl) I0 I0 I0 ?_
 refine oA (sp_move (.tmp 37) (bv false) rfl) I0 ?_
 refine gA (fB 4 (.tmp 1) rfl Try.underlying27 rfl 1 rfl) I0 ?_
 refine gB (lB (.box 27 (cFm q)) (strsA q.vals) (.tmp 39) rfl Try.underlying22 rfl rfl) I0 rfl ?_
 refine gA (sp_lenSl (.tmp 40) rfl Try.underlying22) I0 ?_
 refine gC (sp_gtr rfl (dF hs8)) I0 I0 ?_
 refine oD (sp_pick (.tmp 38) (.const (.bool true)) (.tmp 42) false (bv true) (bv false) rfl) I0 I0 I0 ?_
 refine oA (sp_move (.tmp 43) (bv false) rfl) I0 ?_
 refine gA (fB 6 (.tmp 1) rfl Try.underlying27 rfl 1 rfl) I0 ?_
 refine gB (lB (.box 27 (cFm q)) (slA 4 cLn q.res) (.tmp 45) rfl Try.underlying23 rfl rfl) I0 rfl ?_
 refine gA (sp_lenSl (.tmp 46) rfl Try.underlying23) I0 ?_
 refine gC (sp_gtr rfl (dF hs9)) I0 I0 ?_
 refine oD (sp_pick (.tmp 44) (.const (.bool true)) (.tmp 48) false (bv true) (bv false) rfl) I0 I0 I0 ?_
 refine oA (sp_move (.tmp 49) (bv false) rfl) I0 ?_
 refine gA (fB 9 (.tmp 1) rfl Try.underlying27 rfl 1 rfl) I0 ?_
 refine gB (lB (.box 27 (cFm q)) (slA 18 cRu q.rules) (.tmp 51) rfl Try.underlying25 rfl rfl) I0 rfl ?_
 refine gA (sp_lenSl (.tmp 52) rfl Try.underlying25) I0 ?_
 refine gC (sp_gtr rfl (dT hs10)) I0 I0 ?_
 refine oD (sp_pick (.tmp 50) (.const (.bool true)) (.tmp 54) false (bv true) (bv true) rfl) I0 I0 I0 ?_
 refine kN 178 [(1, .box 27 (cFm q))] [(1, .box 1 0), (2, iv 0), (55, bv true)] ?_
 rw [show (tooI q) = true by simp only [tooI, Bool.or_true, Bool.true_or, Bool.or_false, Bool.false_or, Bool.and_true, Bool.true_and, Bool.and_false, Bool.false_and, Bool.not_true, Bool.not_false, hs1, hs4f, decide_eq_false hs5, decide_eq_false hs6, decide_eq_false hs7, decide_eq_false hs8, decide_eq_false hs9, decide_eq_true hs10]]
 exact t_meet T0 (wk_keep _ _ rfl (by kernel_rfl) (by kernel_rfl))
 refine tri_region ?_
 refine oA (fB 2 (.tmp 1) rfl Try.underlying27 rfl 1 rfl) I0 ?_
 refine oB (lB (.box 27 (cFm q)) (strsA q.states) (.tmp 28) rfl Try.underlying22 rfl rfl) I0 rfl ?_
 refine oA (sp_lenSl (.tmp 29) rfl Try.underlying22) I0 ?_
 refine oC (sp_gtr rfl (dF hs6)) I0 I0 ?_
 refine oA (sp_move (.tmp 31) (bv false) rfl) I0 ?_
 refine gA (fB 3 (.tmp 1) rfl Try.underlying27 rfl 1 rfl) I0 ?_
 refine gB (lB (.box 27 (cFm q)) (strsA q.msgs) (.tmp 33) rfl Try.underlying22 rfl rfl) I0 rfl ?_
 refine gA (sp_lenSl (.tmp 34) rfl Try.underlying22) I0 ?_
 refine gC (sp_gtr rfl (dF hs7)) I0 I0 ?_
 refine oD (sp_pick (.tmp 32) (.const (.bool true)) (.tmp 36) false (bv true) (bv false) rfl) I0 I0 I0 ?_
 refine oA (sp_move (.tmp 37) (bv false) rfl) I0 ?_
 refine gA (fB 4 (.tmp 1) rfl Try.underlying27 rfl 1 rfl) I0 ?_
 refine gB (lB (.box 27 (cFm q)) (strsA q.vals) (.tmp 39) rfl Try.underlying22 rfl rfl) I0 rfl ?_
 refine gA (sp_lenSl (.tmp 40) rfl Try.underlying22) I0 ?_
 refine gC (sp_gtr rfl (dF hs8)) I0 I0 ?_
 refine oD (sp_pick (.tmp 38) (.const (.bool true)) (.tmp 42) false (bv true) (bv false) rfl) I0 I0 I0 ?_
 refine oA (sp_move (.tmp 43) (bv false) rfl) I0 ?_
 refine gA (fB 6 (.tmp 1) rfl Try.underlying27 rfl 1 rfl) I0 ?_
 refine gB (lB (.box 27 (cFm q)) (slA 4 cLn q.res) (.tmp 45) rfl Try.underlying23 rfl rfl) I0 rfl ?_
 refine gA (sp_lenSl (.tmp 46) rfl Try.underlying23) I0 ?_
 refine gC (sp_gtr rfl (dF hs9)) I0 I0 ?_
 refine oD (sp_pick (.tmp 44) (.const (.bool true)) (.tmp 48) false (bv true) (bv false) rfl) I0 I0 I0 ?_
 refine oA (sp_move (.tmp 49) (bv false) rfl) I0 ?_
 refine gA (fB 9 (.tmp 1) rfl Try.underlying27 rfl 1 rfl) I0 ?_
 refine gB (lB (.box 27 (cFm q)) (slA 18 cRu q.rules) (.tmp 51) rfl Try.underlying25 rfl rfl) I0 rfl ?_
 refine gA (sp_lenSl (.tmp 52) rfl Try.underlying25) I0 ?_
 refine gC (sp_gtr rfl (dF hs10)) I0 I0 ?_
 refine oD (sp_pick (.tmp 50) (.const (.bool true)) (.tmp 54) false (bv true) (bv false) rfl) I0 I0 I0 ?_
 refine kN 178 [(1, .box 27 (cFm q))] [(1, .box 1 0), (2, iv 0), (55, bv false)] ?_
 rw [show (tooI q) = false by simp only [tooI, Bool.or_true, Bool.true_or, Bool.or_false, Bool.false_or, Bool.and_true, Bool.true_and, Bool.and_false, Bool.false_and, Bool.not_true, Bool.not_false, hs1, hs4f, decide_eq_false hs5, decide_eq_false hs6, decide_eq_false hs7, decide_eq_false hs8, decide_eq_false hs9, decide_eq_false hs10]]
 exact t_meet T0 (wk_keep _ _ rfl (by kernel_rfl) (by kernel_rfl))
 refine t_then ?_
 by_cases hs11 : (tooI q) = true
 rw [hs11]
 refine kW 178 [(1, .box 27 (cFm q))] [(1, .box 1 0), (2, iv 0), (55, bv true)] ?_
 refine t_condT rfl ?_
 refine tri_seq ?_
 refine tri_region ?_
 refine oA (sp_assign (.const (.int .i64 4)) (iv 4) rfl) I0 ?_
 refine kN 178 [(1, .box 27 (cFm q))] [(1, .box 1 0), (2, iv 4)] ?_
 refine t_then ?_
 refine tri_ret ?_
 refine t_then_ret ?_
 refine tri_end1 Try.results56 (.tmp rfl) ?_
 exact congrArg (fun x : Int => AV.v (.int .i64 x)) ((valE_tb hs1 hs4f hs5 hs11).symm)
 have hs11f : (tooI q) = false := by simpa using hs11
 rw [hs11f]
 refine kW 178 [(1, .box 27 (cFm q))] [(1, .box 1 0), (2, iv 0), (55, bv false)] ?_
 refine t_condF rfl ?_
 refine tri_skip ?_
 refine t_then ?_
 refine tri_seq ?_
 refine tri_draw [⟨[], [], .own 2, .new 2 (.row true 9 1 0 [])⟩, ⟨[(.tmp 1, .box 1 0)], [], .box 1 2, .no⟩, ⟨[(.tmp 57, .box 1 2)], [(1, .box 27 (cFm q))], strsA q.states, .no⟩, ⟨[(.tmp 56, .own 2), (.tmp 58, strsA q.states)], [(2, .row true 9 1 0 [])], .own 2, .ap 2 (.row true 9 1 (0 + q.states.length) (q.states.map sv))⟩, ⟨[(.tmp 1, .box 1 0)], [], .box 1 3, .no⟩, ⟨[(.tmp 60, .box 1 3)], [(1, .box 27 (cFm q))], strsA q.msgs, .no⟩, ⟨[(.tmp 59, .own 2), (.tmp 61, strsA q.msgs)], [(2, .row true 9 1 (0 + q.states.length) (q.states.map sv))], .own 2, .ap 2 (.row true 9 1 (0 + q.states.length + q.msgs.length) ((q.states ++ q.msgs).map sv))⟩, ⟨[(.tmp 1, .box 1 0)], [], .box 1 4, .no⟩, ⟨[(.tmp 63, .box 1 4)], [(1, .box 27 (cFm q))], strsA q.vals, .no⟩, ⟨[(.tmp 62, .own 2), (.tmp 64, strsA q.vals)], [(2, .row true 9 1 (0 + q.states.length + q.msgs.length) ((q.states ++ q.msgs).map sv))], .own 2, .ap 2 (.row true 9 1 (0 + q.states.length + q.msgs.length + q.vals.length) ((nmA q).map sv))⟩, ⟨[(.tmp 65, .own 2)], [], .own 2, .no⟩] (by kernel_rfl) (by kernel_rfl) ?_
 refine ⟨app_yes rfl (sp_build0 (z := 1) (k := 2) true rfl Try.underlying22 (by kernel_rfl)) T0 T0 rfl, ?_⟩
 refine ⟨app_yes rfl (fB 2 (.tmp 1) rfl Try.underlying27 rfl 1 rfl) ⟨I0, T0⟩ T0 T0, ?_⟩
 refine ⟨app_yes rfl (lB (.box 27 (cFm q)) (strsA q.states) (.tmp 57) rfl Try.underlying22 rfl rfl) ⟨I0, T0⟩ ⟨rfl, T0⟩ T0, ?_⟩
 refine ⟨app_yes rfl (sp_append (n := 0) (cs := []) (fr := true) (m := q.states.length) (ds := (q.states.map sv)) (⟨Try.underlying22, by kernel_rfl, by decide⟩ : Elt Try.prog 22 9 1 16) (.tmp 56) (.tmp 58) rfl (fun _ d hd => by obtain ⟨x, _, rfl⟩ := List.mem_map.1 hd; rfl) (by have := tooI_no hs11f; unfold maxLen; omega) (by have := tooI_no hs11f; omega) (fun d hd => by obtain ⟨x, _, rfl⟩ := List.mem_map.1 hd; rfl) (es := (q.states.map sv)) (by rw [unfr_strs]; rfl)) ⟨I0, I0, T0⟩ ⟨rfl, T0⟩ rfl, ?_⟩
 refine ⟨app_yes rfl (fB 3 (.tmp 1) rfl Try.underlying27 rfl 1 rfl) ⟨I0, T0⟩ T0 T0, ?_⟩
 refine ⟨app_yes rfl (lB (.box 27 (cFm q)) (strsA q.msgs) (.tmp 60) rfl Try.underlying22 rfl rfl) ⟨I0, T0⟩ ⟨rfl, T0⟩ T0, ?_⟩
 refine ⟨app_yes rfl (sp_append (n := (0 + q.states.length)) (cs := (q.states.map sv)) (fr := true) (m := q.msgs.length) (ds := (q.msgs.map sv)) (⟨Try.underlying22, by kernel_rfl, by decide⟩ : Elt Try.prog 22 9 1 16) (.tmp 59) (.tmp 61) rfl (fun _ d hd => by obtain ⟨x, _, rfl⟩ := List.mem_map.1 hd; rfl) (by have := tooI_no hs11f; unfold maxLen; omega) (by have := tooI_no hs11f; omega) (fun d hd => by obtain ⟨x, _, rfl⟩ := List.mem_map.1 hd; rfl) (es := ((q.states ++ q.msgs).map sv)) (by rw [unfr_strs, ← List.map_append])) ⟨I0, I0, T0⟩ ⟨rfl, T0⟩ rfl, ?_⟩
 refine ⟨app_yes rfl (fB 4 (.tmp 1) rfl Try.underlying27 rfl 1 rfl) ⟨I0, T0⟩ T0 T0, ?_⟩
 refine ⟨app_yes rfl (lB (.box 27 (cFm q)) (strsA q.vals) (.tmp 63) rfl Try.underlying22 rfl rfl) ⟨I0, T0⟩ ⟨rfl, T0⟩ T0, ?_⟩
 refine ⟨app_yes rfl (sp_append (n := (0 + q.states.length + q.msgs.length)) (cs := ((q.states ++ q.msgs).map sv)) (fr := true) (m := q.vals.length) (ds := (q.vals.map sv)) (⟨Try.underlying22, by kernel_rfl, by decide⟩ : Elt Try.prog 22 9 1 16) (.tmp 62) (.tmp 64) rfl (fun _ d hd => by obtain ⟨x, _, rfl⟩ := List.mem_map.1 hd; rfl) (by have := tooI_no hs11f; unfold maxLen; omega) (by have := tooI_no hs11f; omega) (fun d hd => by obtain ⟨x, _, rfl⟩ := List.mem_map.1 hd; rfl) (es := ((nmA q).map sv)) (by rw [unfr_strs]; exact nmA_map q)) ⟨I0, I0, T0⟩ ⟨rfl, T0⟩ rfl, ?_⟩
 refine ⟨app_yes rfl (sp_assign (.tmp 65) (.own 2) rfl) ⟨I0, T0⟩ T0 T0, ?_⟩
 show ETri J w0 _ _ _
 refine kW 178 [(1, .box 27 (cFm q)), (2, .row true 9 1 (0 + q.states.length + q.msgs.length + q.vals.length) ((nmA q).map sv))] [(1, .box 1 0), (2, iv 0), (3, .own 2)] ?_
 refine t_then ?_
 refine tri_seq ?_
 refine tri_seq ?_
 refine tri_region ?_
 refine oA (sp_assign (.const (.int .i64 0)) (iv 0) rfl) I0 ?_
 refine kN 178 [(1, .box 27 (cFm q)), (2, .row true 9 1 (0 + q.states.length + q.msgs.length + q.vals.length) ((nmA q).map sv))] [(1, .box 1 0), (2, iv 0), (3, .own 2), (4, iv 0)] ?_
 refine t_then ?_
 refine t_cut (nmOk (nmA q) (nmA q).length = true) (ofL [(1, .box 27 (cFm q))]) (ofT 178 [(1, .box 1 0)]) ?_ (fun NOK => ?_)
 refine tri_block ?_
 refine tri_loop (σ := {k : Nat // k ≤ (nmA q).length ∧ nmOk (nmA q) k = true}) (fun s => (ofL [(1, .box 27 (cFm q))], ofT 178 [(1, .box 1 0), (3, .fr (.sl 1 (0 + q.states.length + q.msgs.length + q.vals.length) ((nmA q).map sv))), (4, iv s.1)])) (fun s => (nmA q).length - s.1) ⟨0, Nat.zero_le _, rfl⟩ (wk_keep _ _ rfl (by kernel_rfl) (by kernel_rfl)) (fun s => ?_)
 obtain ⟨k, hk0, hs0⟩ := s
 show ETri J w0 (ofL [(1, .box 27 (cFm q))]) (ofT 178 [(1, .box 1 0), (3, .fr (.sl 1 (0 + q.states.length + q.msgs.length + q.vals.length) ((nmA q).map sv))), (4, iv k)]) _
 have hT := tooI_no hs11f
 refine tri_seq ?_
 refine tri_seq ?_
 by_cases hs12 : ((k : Nat) : Int) < (((0 + q.states.length + q.msgs.length + q.vals.length) : Nat) : Int)
 refine tri_region ?_
 refine oA (sp_move (.tmp 4) (iv k) rfl) I0 ?_
 refine oA (sp_move (.tmp 3) (.fr (.sl 1 (0 + q.states.length + q.msgs.length + q.vals.length) ((nmA q).map sv))) rfl) I0 ?_
 refine t_op rfl (sp_lenSl (.tmp 67) rfl Try.underlying22) ⟨.inr (.inl rfl), T0⟩ T0 T0 ?_
 refine oC (sp_lss rfl (dT hs12)) I0 I0 ?_
 refine kN 178 [(1, .box 27 (cFm q))] [(1, .box 1 0), (3, .fr (.sl 1 (0 + q.states.length + q.msgs.length + q.vals.length) ((nmA q).map sv))), (4, iv k), (69, bv true)] ?_
 refine t_then ?_
 refine t_condT rfl ?_
 refine tri_skip ?_
 refine t_then ?_
 refine tri_seq ?_
 refine tri_block ?_
 refine tri_seq ?_
 by_cases hs13 : (nameB (nmA q)[k].toList) = true
 by_cases hs14 : (hasT ((nmA q).take k) (nmA q)[k]) = true
 refine tri_draw [⟨[(.tmp 3, .fr (.sl 1 (0 + q.states.length + q.msgs.length + q.vals.length) ((nmA q).map sv)))], [], .fr (.sl 1 (0 + q.states.length + q.msgs.length + q.vals.length) ((nmA q).map sv)), .no⟩, ⟨[(.tmp 4, iv k)], [], iv k, .no⟩, ⟨[(.tmp 72, .sl 1 (0 + q.states.length + q.msgs.length + q.vals.length) ((nmA q).map sv)), (.tmp 73, iv k)], [], .el ((nmA q).map sv) (k * 1), .no⟩, ⟨[(.tmp 74, .el ((nmA q).map sv) (k * 1))], [], sv ((nmA q)[k]), .no⟩, ⟨[(.func 66, .v (.func (.func 66) #[] #[])), (.tmp 75, sv ((nmA q)[k]))], [], bv true, .no⟩, ⟨[(.tmp 76, bv true)], [], bv false, .no⟩, ⟨[(.tmp 77, bv false)], [], bv false, .no⟩, ⟨[(.tmp 3, .fr (.sl 1 (0 + q.states.length + q.msgs.length + q.vals.length) ((nmA q).map sv)))], [], .fr (.sl 1 (0 + q.states.length + q.msgs.length + q.vals.length) ((nmA q).map sv)), .no⟩, ⟨[(.tmp 4, iv k)], [], iv k, .no⟩, ⟨[(.tmp 79, .sl 1 (0 + q.states.length + q.msgs.length + q.vals.length) ((nmA q).map sv)), (.tmp 80, iv k)], [], .sl 1 (k - 0) (((nmA q).take k).map sv), .no⟩, ⟨[(.tmp 3, .fr (.sl 1 (0 + q.states.length + q.msgs.length + q.vals.length) ((nmA q).map sv)))], [], .fr (.sl 1 (0 + q.states.length + q.msgs.length + q.vals.length) ((nmA q).map sv)), .no⟩, ⟨[(.tmp 4, iv k)], [], iv k, .no⟩, ⟨[(.tmp 82, .sl 1 (0 + q.states.length + q.msgs.length + q.vals.length) ((nmA q).map sv)), (.tmp 83, iv k)], [], .el ((nmA q).map sv) (k * 1), .no⟩, ⟨[(.tmp 84, .el ((nmA q).map sv) (k * 1))], [], sv ((nmA q)[k]), .no⟩, ⟨[(.func 88, .v (.func (.func 88) #[] #[])), (.tmp 81, .sl 1 (k - 0) (((nmA q).take k).map sv)), (.tmp 85, sv ((nmA q)[k]))], [], bv true, .no⟩, ⟨[(.tmp 78, bv false), (.const (.bool true), bv true), (.tmp 86, bv true)], [], bv true, .no⟩] (by kernel_rfl) (by kernel_rfl) ?_
 refine ⟨app_yes rfl (sp_move (.tmp 3) (.fr (.sl 1 (0 + q.states.length + q.msgs.length + q.vals.length) ((nmA q).map sv))) rfl) ⟨I0, T0⟩ T0 T0, ?_⟩
 refine ⟨app_yes rfl (sp_move (.tmp 4) (iv k) rfl) ⟨I0, T0⟩ T0 T0, ?_⟩
 refine ⟨app_yes rfl (sp_indexSl (off := k * 1) (.tmp 72) (.tmp 73) rfl Try.underlying22 (by kernel_rfl) (by omega) (by omega) rfl) ⟨.inr (.inl rfl), I0, T0⟩ T0 T0, ?_⟩
 refine ⟨app_yes rfl (sp_loadEl1 (X := sv ((nmA q)[k])) (.tmp 74) rfl Try.underlying9 rfl (map_at1 (nmA q) (by omega))) ⟨I0, T0⟩ T0 T0, ?_⟩
 refine ⟨app_yes rfl (sp_call (c := .func 66) (xs := #[.tmp 75]) [] (ctr_b (rValidName_c ((nmA q)[k]) (nmA_sizes HQ _ (List.getElem_mem (by omega)))) hs13) rfl (by kernel_rfl) rfl (Xs := [sv ((nmA q)[k])]) rfl rfl rfl) ⟨I0, I0, T0⟩ T0 T0, ?_⟩
 refine ⟨app_yes rfl (sp_not rfl rfl) ⟨I0, T0⟩ T0 T0, ?_⟩
 refine ⟨app_yes rfl (sp_move (.tmp 77) (bv false) rfl) ⟨I0, T0⟩ T0 T0, ?_⟩
 refine ⟨app_yes rfl (sp_move (.tmp 3) (.fr (.sl 1 (0 + q.states.length + q.msgs.length + q.vals.length) ((nmA q).map sv))) rfl) ⟨I0, T0⟩ T0 T0, ?_⟩
 refine ⟨app_yes rfl (sp_move (.tmp 4) (iv k) rfl) ⟨I0, T0⟩ T0 T0, ?_⟩
 refine ⟨app_yes rfl (sp_sliceSl (l := 0) (h := k) (ds := ((nmA q).take k).map sv) (.tmp 79) none (some (.tmp 80)) rfl Try.underlying22 (by kernel_rfl) [] [(.tmp 80, iv k)] (.inl ⟨rfl, rfl, rfl⟩) (.inr ⟨_, _, rfl, rfl⟩) (Nat.zero_le _) (by omega) (by simp [List.map_take])) ⟨.inr (.inl rfl), I0, T0⟩ T0 T0, ?_⟩
 refine ⟨app_yes rfl (sp_move (.tmp 3) (.fr (.sl 1 (0 + q.states.length + q.msgs.length + q.vals.length) ((nmA q).map sv))) rfl) ⟨I0, T0⟩ T0 T0, ?_⟩
 refine ⟨app_yes rfl (sp_move (.tmp 4) (iv k) rfl) ⟨I0, T0⟩ T0 T0, ?_⟩
 refine ⟨app_yes rfl (sp_indexSl (off := k * 1) (.tmp 82) (.tmp 83) rfl Try.underlying22 (by kernel_rfl) (by omega) (by omega) rfl) ⟨.inr (.inl rfl), I0, T0⟩ T0 T0, ?_⟩
 refine ⟨app_yes rfl (sp_loadEl1 (X := sv ((nmA q)[k])) (.tmp 84) rfl Try.underlying9 rfl (map_at1 (nmA q) (by omega))) ⟨I0, T0⟩ T0 T0, ?_⟩
 refine ⟨app_yes rfl (sp_call (c := .func 88) (xs := #[.tmp 81, .tmp 85]) [] (ctr_b (HasText_k (nmA_sizes HQ) (k := k) (by omega) _) hs14) rfl (by kernel_rfl) rfl (Xs := [.sl 1 (k - 0) (((nmA q).take k).map sv), sv ((nmA q)[k])]) rfl rfl rfl) ⟨I0, I0, I0, T0⟩ T0 T0, ?_⟩
 refine ⟨app_yes rfl (sp_pick (.tmp 78) (.const (.bool true)) (.tmp 86) false (bv true) (bv true) rfl) ⟨I0, I0, I0, T0⟩ T0 T0, ?_⟩
 show ETri J w0 _ _ _
 refine kW 178 [(1, .box 27 (cFm q))] [(1, .box 1 0), (3, .fr (.sl 1 (0 + q.states.length + q.msgs.length + q.vals.length) ((nmA q).map sv))), (4, iv k), (69, bv true), (87, bv true)] ?_
 refine t_then ?_
 refine t_condT rfl ?_
 refine tri_seq ?_
 refine tri_region ?_
 refine oA (sp_assign (.const (.int .i64 2)) (iv 2) rfl) I0 ?_
 refine kN 178 [(1, .box 27 (cFm q))] [(1, .box 1 0), (2, iv 2), (3, .fr (.sl 1 (0 + q.states.length + q.msgs.length + q.vals.length) ((nmA q).map sv))), (4, iv k), (69, bv true), (87, bv true)] ?_
 refine t_then ?_
 refine tri_ret ?_
 refine t_block_ret ?_
 refine t_then_ret ?_
 refine t_then_ret ?_
 refine t_block_ret ?_
 refine t_cut_ret ?_
 refine t_then_ret ?_
 refine tri_end1 Try.results56 (.tmp rfl) ?_
 exact congrArg (fun x : Int => AV.v (.int .i64 x)) (((valE_2 ⟨hs1, hs4f, hs5, hs11f⟩).trans (val2_nm (nmOk_no (k := k) (by omega) (by omega) (.inr hs14)))).symm)
 have hs14f : (hasT ((nmA q).take k) (nmA q)[k]) = false := by simpa using hs14
 refine tri_draw [⟨[(.tmp 3, .fr (.sl 1 (0 + q.states.length + q.msgs.length + q.vals.length) ((nmA q).map sv)))], [], .fr (.sl 1 (0 + q.states.length + q.msgs.length + q.vals.length) ((nmA q).map sv)), .no⟩, ⟨[(.tmp 4, iv k)], [], iv k, .no⟩, ⟨[(.tmp 72, .sl 1 (0 + q.states.length + q.msgs.length + q.vals.length) ((nmA q).map sv)), (.tmp 73, iv k)], [], .el ((nmA q).map sv) (k * 1), .no⟩, ⟨[(.tmp 74, .el ((nmA q).map sv) (k * 1))], [], sv ((nmA q)[k]), .no⟩, ⟨[(.func 66, .v (.func (.func 66) #[] #[])), (.tmp 75, sv ((nmA q)[k]))], [], bv true, .no⟩, ⟨[(.tmp 76, bv true)], [], bv false, .no⟩, ⟨[(.tmp 77, bv false)], [], bv false, .no⟩, ⟨[(.tmp 3, .fr (.sl 1 (0 + q.states.length + q.msgs.length + q.vals.length) ((nmA q).map sv)))], [], .fr (.sl 1 (0 + q.states.length + q.msgs.length + q.vals.length) ((nmA q).map sv)), .no⟩, ⟨[(.tmp 4, iv k)], [], iv k, .no⟩, ⟨[(.tmp 79, .sl 1 (0 + q.states.length + q.msgs.length + q.vals.length) ((nmA q).map sv)), (.tmp 80, iv k)], [], .sl 1 (k - 0) (((nmA q).take k).map sv), .no⟩, ⟨[(.tmp 3, .fr (.sl 1 (0 + q.states.length + q.msgs.length + q.vals.length) ((nmA q).map sv)))], [], .fr (.sl 1 (0 + q.states.length + q.msgs.length + q.vals.length) ((nmA q).map sv)), .no⟩, ⟨[(.tmp 4, iv k)], [], iv k, .no⟩, ⟨[(.tmp 82, .sl 1 (0 + q.states.length + q.msgs.length + q.vals.length) ((nmA q).map sv)), (.tmp 83, iv k)], [], .el ((nmA q).map sv) (k * 1), .no⟩, ⟨[(.tmp 84, .el ((nmA q).map sv) (k * 1))], [], sv ((nmA q)[k]), .no⟩, ⟨[(.func 88, .v (.func (.func 88) #[] #[])), (.tmp 81, .sl 1 (k - 0) (((nmA q).take k).map sv)), (.tmp 85, sv ((nmA q)[k]))], [], bv false, .no⟩, ⟨[(.tmp 78, bv false), (.const (.bool true), bv true), (.tmp 86, bv false)], [], bv false, .no⟩] (by kernel_rfl) (by kernel_rfl) ?_
 refine ⟨app_yes rfl (sp_move (.tmp 3) (.fr (.sl 1 (0 + q.states.length + q.msgs.length + q.vals.length) ((nmA q).map sv))) rfl) ⟨I0, T0⟩ T0 T0, ?_⟩
 refine ⟨app_yes rfl (sp_move (.tmp 4) (iv k) rfl) ⟨I0, T0⟩ T0 T0, ?_⟩
 refine ⟨app_yes rfl (sp_indexSl (off := k * 1) (.tmp 72) (.tmp 73) rfl Try.underlying22 (by kernel_rfl) (by omega) (by omega) rfl) ⟨.inr (.inl rfl), I0, T0⟩ T0 T0, ?_⟩
 refine ⟨app_yes rfl (sp_loadEl1 (X := sv ((nmA q)[k])) (.tmp 74) rfl Try.underlying9 rfl (map_at1 (nmA q) (by omega))) ⟨I0, T0⟩ T0 T0, ?_⟩
 refine ⟨app_yes rfl (sp_call (c := .func 66) (xs := #[.tmp 75]) [] (ctr_b (rValidName_c ((nmA q)[k]) (nmA_sizes HQ _ (List.getElem_mem (by omega)))) hs13) rfl (by kernel_rfl) rfl (Xs := [sv ((nmA q)[k])]) rfl rfl rfl) ⟨I0, I0, T0⟩ T0 T0, ?_⟩
 refine ⟨app_yes rfl (sp_not rfl rfl) ⟨I0, T0⟩ T0 T0, ?_⟩
 refine ⟨app_yes rfl (sp_move (.tmp 77) (bv false) rfl) ⟨I0, T0⟩ T0 T0, ?_⟩
 refine ⟨app_yes rfl (sp_move (.tmp 3) (.fr (.sl 1 (0 + q.states.length + q.msgs.length + q.vals.length) ((nmA q).map sv))) rfl) ⟨I0, T0⟩ T0 T0, ?_⟩
 refine ⟨app_yes rfl (sp_move (.tmp 4) (iv k) rfl) ⟨I0, T0⟩ T0 T0, ?_⟩
 refine ⟨app_yes rfl (sp_sliceSl (l := 0) (h := k) (ds := ((nmA q).take k).map sv) (.tmp 79) none (some (.tmp 80)) rfl Try.underlying22 (by kernel_rfl) [] [(.tmp 80, iv k)] (.inl ⟨rfl, rfl, rfl⟩) (.inr ⟨_, _, rfl, rfl⟩) (Nat.zero_le _) (by omega) (by simp [List.map_take])) ⟨.inr (.inl rfl), I0, T0⟩ T0 T0, ?_⟩
 refine ⟨app_yes rfl (sp_move (.tmp 3) (.fr (.sl 1 (0 + q.states.length + q.msgs.length + q.vals.length) ((nmA q).map sv))) rfl) ⟨I0, T0⟩ T0 T0, ?_⟩
 refine ⟨app_yes rfl (sp_move (.tmp 4) (iv k) rfl) ⟨I0, T0⟩ T0 T0, ?_⟩
 refine ⟨app_yes rfl (sp_indexSl (off := k * 1) (.tmp 82) (.tmp 83) rfl Try.underlying22 (by kernel_rfl) (by omega) (by omega) rfl) ⟨.inr (.inl rfl), I0, T0⟩ T0 T0, ?_⟩
 refine ⟨app_yes rfl (sp_loadEl1 (X := sv ((nmA q)[k])) (.tmp 84) rfl Try.underlying9 rfl (map_at1 (nmA q) (by omega))) ⟨I0, T0⟩ T0 T0, ?_⟩
 refine ⟨app_yes rfl (sp_call (c := .func 88) (xs := #[.tmp 81, .tmp 85]) [] (ctr_b (HasText_k (nmA_sizes HQ) (k := k) (by omega) _) hs14f) rfl (by kernel_rfl) rfl (Xs := [.sl 1 (k - 0) (((nmA q).take k).map sv), sv ((nmA q)[k])]) rfl rfl rfl) ⟨I0, I0, I0, T0⟩ T0 T0, ?_⟩
 refine ⟨app_yes rfl (sp_pick (.tmp 78) (.const (.bool true)) (.tmp 86) false (bv true) (bv false) rfl) ⟨I0, I0, I0, T0⟩ T0 T0, ?_⟩
 show ETri J w0 _ _ _
 refine kW 178 [(1, .box 27 (cFm q))] [(1, .box 1 0), (3, .fr (.sl 1 (0 + q.states.length + q.msgs.length + q.vals.length) ((nmA q).map sv))), (4, iv k), (69, bv true), (87, bv false)] ?_
 refine t_then ?_
 refine t_condF rfl ?_
 refine tri_skip ?_
 refine t_block ?_
 refine t_then ?_
 refine tri_region ?_
 refine oA (sp_move (.tmp 4) (iv k) rfl) I0 ?_
 refine oC (sp_add (c := ((k + 1 : Nat) : Int)) rfl (w64 (by omega) (by omega) (by omega))) I0 I0 ?_
 refine oA (sp_assign (.tmp 71) (iv (k + 1 : Nat)) rfl) I0 ?_
 refine kN 178 [(1, .box 27 (cFm q))] [(1, .box 1 0), (3, .fr (.sl 1 (0 + q.states.length + q.msgs.length + q.vals.length) ((nmA q).map sv))), (4, iv (k + 1 : Nat)), (69, bv true), (87, bv false)] ?_
 refine t_then ?_
 refine tri_again ⟨k + 1, by omega, nmOk_succ (by omega) hs0 hs13 hs14f⟩ (show (nmA q).length - (k + 1) < (nmA q).length - k by omega) ?_
 exact wk_keep _ _ rfl (by kernel_rfl) (by kernel_rfl)
 have hs13f : (nameB (nmA q)[k].toList) = false := by simpa using hs13
 refine tri_draw [⟨[(.tmp 3, .fr (.sl 1 (0 + q.states.length + q.msgs.length + q.vals.length) ((nmA q).map sv)))], [], .fr (.sl 1 (0 + q.states.length + q.msgs.length + q.vals.length) ((nmA q).map sv)), .no⟩, ⟨[(.tmp 4, iv k)], [], iv k, .no⟩, ⟨[(.tmp 72, .sl 1 (0 + q.states.length + q.msgs.length + q.vals.length) ((nmA q).map sv)), (.tmp 73, iv k)], [], .el ((nmA q).map sv) (k * 1), .no⟩, ⟨[(.tmp 74, .el ((nmA q).map sv) (k * 1))], [], sv ((nmA q)[k]), .no⟩, ⟨[(.func 66, .v (.func (.func 66) #[] #[])), (.tmp 75, sv ((nmA q)[k]))], [], bv false, .no⟩, ⟨[(.tmp 76, bv false)], [], bv true, .no⟩, ⟨[(.tmp 77, bv true)], [], bv true, .no⟩, ⟨[], [], .v undef, .no⟩, ⟨[], [], .v undef, .no⟩, ⟨[], [], .v undef, .no⟩, ⟨[], [], .v undef, .no⟩, ⟨[], [], .v undef, .no⟩, ⟨[], [], .v undef, .no⟩, ⟨[], [], .v undef, .no⟩, ⟨[], [], .v undef, .no⟩, ⟨[(.tmp 78, bv true), (.const (.bool true), bv true), (.tmp 86, .v (.tuple #[]))], [], bv true, .no⟩] (by kernel_rfl) (by kernel_rfl) ?_
 refine ⟨app_yes rfl (sp_move (.tmp 3) (.fr (.sl 1 (0 + q.states.length + q.msgs.length + q.vals.length) ((nmA q).map sv))) rfl) ⟨I0, T0⟩ T0 T0, ?_⟩
 refine ⟨app_yes rfl (sp_move (.tmp 4) (iv k) rfl) ⟨I0, T0⟩ T0 T0, ?_⟩
 refine ⟨app_yes rfl (sp_indexSl (off := k * 1) (.tmp 72) (.tmp 73) rfl Try.underlying22 (by kernel_rfl) (by omega) (by omega) rfl) ⟨.inr (.inl rfl), I0, T0⟩ T0 T0, ?_⟩
 refine ⟨app_yes rfl (sp_loadEl1 (X := sv ((nmA q)[k])) (.tmp 74) rfl Try.underlying9 rfl (map_at1 (nmA q) (by omega))) ⟨I0, T0⟩ T0 T0, ?_⟩
 refine ⟨app_yes rfl (sp_call (c := .func 66) (xs := #[.tmp 75]) [] (ctr_b (rValidName_c ((nmA q)[k]) (nmA_sizes HQ _ (List.getElem_mem (by omega)))) hs13f) rfl (by kernel_rfl) rfl (Xs := [sv ((nmA q)[k])]) rfl rfl rfl) ⟨I0, I0, T0⟩ T0 T0, ?_⟩
 refine ⟨app_yes rfl (sp_not rfl rfl) ⟨I0, T0⟩ T0 T0, ?_⟩
 refine ⟨app_yes rfl (sp_move (.tmp 77) (bv true) rfl) ⟨I0, T0⟩ T0 T0, ?_⟩
 refine ⟨app_no rfl, ?_⟩
 refine ⟨app_no rfl, ?_⟩
 refine ⟨app_no rfl, ?_⟩
 refine ⟨app_no rfl, ?_⟩
 refine ⟨app_no rfl, ?_⟩
 refine ⟨app_no rfl, ?_⟩
 refine ⟨app_no rfl, ?_⟩
 refine ⟨app_no rfl, ?_⟩
 refine ⟨app_yes rfl (sp_pick (.tmp 78) (.const (.bool true)) (.tmp 86) true (bv true) (.v (.tuple #[])) rfl) ⟨I0, I0, I0, T0⟩ T0 T0, ?_⟩
 show ETri J w0 _ _ _
 refine kW 178 [(1, .box 27 (cFm q))] [(1, .box 1 0), (3, .fr (.sl 1 (0 + q.states.length + q.msgs.length + q.vals.length) ((nmA q).map sv))), (4, iv k), (69, bv true), (87, bv true)] ?_
 refine t_then ?_
 refine t_condT rfl ?_
 refine tri_seq ?_
 refine tri_region ?_
 refine oA (sp_assign (.const (.int .i64 2)) (iv 2) rfl) I0 ?_
 refine kN 178 [(1, .box 27 (cFm q))] [(1, .box 1 0), (2, iv 2), (3, .fr (.sl 1 (0 + q.states.length + q.msgs.length + q.vals.length) ((nmA q).map sv))), (4, iv k), (69, bv true), (87, bv true)] ?_
 refine t_then ?_
 refine tri_ret ?_
 refine t_block_ret ?_
 refine t_then_ret ?_
 refine t_then_ret ?_
 refine t_block_ret ?_
 refine t_cut_ret ?_
 refine t_then_ret ?_
 refine tri_end1 Try.results56 (.tmp rfl) ?_
 exact congrArg (fun x : Int => AV.v (.int .i64 x)) (((valE_2 ⟨hs1, hs4f, hs5, hs11f⟩).trans (val2_nm (nmOk_no (k := k) (by omega) (by omega) (.inl hs13f)))).symm)
 refine tri_region ?_
 refine oA (sp_move (.tmp 4) (iv k) rfl) I0 ?_
 refine oA (sp_move (.tmp 3) (.fr (.sl 1 (0 + q.states.length + q.msgs.length + q.vals.length) ((nmA q).map sv))) rfl) I0 ?_
 refine t_op rfl (sp_lenSl (.tmp 67) rfl Try.underlying22) ⟨.inr (.inl rfl), T0⟩ T0 T0 ?_
 refine oC (sp_lss rfl (dF hs12)) I0 I0 ?_
 refine kN 178 [(1, .box 27 (cFm q))] [(1, .box 1 0), (3, .fr (.sl 1 (0 + q.states.length + q.msgs.length + q.vals.length) ((nmA q).map sv))), (4, iv k), (69, bv false)] ?_
 refine t_then ?_
 refine t_condF rfl ?_
 refine tri_exit ?_
 refine t_then_exit ?_
 refine t_then_exit ?_
 refine t_hit ?_
 exact t_meet (by have : k = (nmA q).length := (by omega); subst this; exact hs0) (wk_keep _ _ rfl (by kernel_rfl) (by kernel_rfl))
 refine t_then ?_
 refine tri_seq ?_
 refine tri_seq ?_
 refine t_cut (True) (ofL [(1, .box 27 (cFm q))]) (ofT 178 [(1, .box 1 0), (124, bv (misB q))]) ?_ (fun _ => ?_)
 by_cases hs15 : q.top = 1
 by_cases hs16 : 0 < ((q.leader.length : Nat) : Int)
 refine tri_region ?_
 refine oA (fB 1 (.tmp 1) rfl Try.underlying27 rfl 1 rfl) I0 ?_
 refine oB (lB (.box 27 (cFm q)) (iv q.top) (.tmp 88) rfl Try.underlying3 rfl rfl) I0 rfl ?_
 refine oC (sp_neq rfl (dT' hs15)) I0 I0 ?_
 refine oA (sp_move (.tmp 90) (bv false) rfl) I0 ?_
 refine t_skip rfl ?_
 refine t_skip rfl ?_
 refine t_skip rfl ?_
 refine t_skip rfl ?_
 refine t_skip rfl ?_
 refine t_skip rfl ?_
 refine t_skip rfl ?_
 refine t_skip rfl ?_
 refine t_skip rfl ?_
 refine t_skip rfl ?_
 refine t_skip rfl ?_
 refine t_skip rfl ?_
 refine t_skip rfl ?_
 refine t_skip rfl ?_
 refine t_skip rfl ?_
 refine t_skip rfl ?_
 refine t_skip rfl ?_
 refine t_skip rfl ?_
 refine t_skip rfl ?_
 refine t_skip rfl ?_
 refine t_skip rfl ?_
 refine oD (sp_pick (.tmp 91) (.tmp 112) (.const (.bool false)) false (.v (.tuple #[])) (bv false) rfl) I0 I0 I0 ?_
 refine oA (sp_move (.tmp 113) (bv false) rfl) I0 ?_
 refine gA (fB 1 (.tmp 1) rfl Try.underlying27 rfl 1 rfl) I0 ?_
 refine gB (lB (.box 27 (cFm q)) (iv q.top) (.tmp 115) rfl Try.underlying3 rfl rfl) I0 rfl ?_
 refine gC (sp_eql rfl (dT hs15)) I0 I0 ?_
 refine gA (sp_move (.tmp 117) (bv true) rfl) I0 ?_
 refine gA (fB 8 (.tmp 1) rfl Try.underlying27 rfl 1 rfl) I0 ?_
 refine gB (lB (.box 27 (cFm q)) (intsA q.leader) (.tmp 119) rfl Try.underlying24 rfl rfl) I0 rfl ?_
 refine gA (sp_lenSl (.tmp 120) rfl Try.underlying24) I0 ?_
 refine gC (sp_gtr rfl (dT hs16)) I0 I0 ?_
 refine gD (sp_pick (.tmp 118) (.tmp 122) (.const (.bool false)) true (bv true) (bv false) rfl) I0 I0 I0 ?_
 refine oD (sp_pick (.tmp 114) (.const (.bool true)) (.tmp 123) false (bv true) (bv true) rfl) I0 I0 I0 ?_
 refine kN 178 [(1, .box 27 (cFm q))] [(1, .box 1 0), (124, bv true)] ?_
 rw [show (misB q) = true by simp only [misB, Bool.or_true, Bool.true_or, Bool.or_false, Bool.false_or, Bool.and_true, Bool.true_and, Bool.and_false, Bool.false_and, Bool.not_true, Bool.not_false, hs1, hs4f, decide_eq_false hs5, hs11f, decide_eq_true hs15, decide_eq_true hs16]]
 exact t_meet T0 (wk_keep _ _ rfl (by kernel_rfl) (by kernel_rfl))
 refine tri_region ?_
 refine oA (fB 1 (.tmp 1) rfl Try.underlying27 rfl 1 rfl) I0 ?_
 refine oB (lB (.box 27 (cFm q)) (iv q.top) (.tmp 88) rfl Try.underlying3 rfl rfl) I0 rfl ?_
 refine oC (sp_neq rfl (dT' hs15)) I0 I0 ?_
 refine oA (sp_move (.tmp 90) (bv false) rfl) I0 ?_
 refine t_skip rfl ?_
 refine t_skip rfl ?_
 refine t_skip rfl ?_
 refine t_skip rfl ?_
 refine t_skip rfl ?_
 refine t_skip rfl ?_
 refine t_skip rfl ?_
 refine t_skip rfl ?_
 refine t_skip rfl ?_
 refine t_skip rfl ?_
 refine t_skip rfl ?_
 refine t_skip rfl ?_
 refine t_skip rfl ?_
 refine t_skip rfl ?_
 refine t_skip rfl ?_
 refine t_skip rfl ?_
 refine t_skip rfl ?_
 refine t_skip rfl ?_
 refine t_skip rfl ?_
 refine t_skip rfl ?_
 refine t_skip rfl ?_
 refine oD (sp_pick (.tmp 91) (.tmp 112) (.const (.bool false)) false (.v (.tuple #[])) (bv false) rfl) I0 I0 I0 ?_
 refine oA (sp_move (.tmp 113) (bv false) rfl) I0 ?_
 refine gA (fB 1 (.tmp 1) rfl Try.underlying27 rfl 1 rfl) I0 ?_
 refine gB (lB (.box 27 (cFm q)) (iv q.top) (.tmp 115) rfl Try.underlying3 rfl rfl) I0 rfl ?_
 refine gC (sp_eql rfl (dT hs15)) I0 I0 ?_
 refine gA (sp_move (.tmp 117) (bv true) rfl) I0 ?_
 refine gA (fB 8 (.tmp 1) rfl Try.underlying27 rfl 1 rfl) I0 ?_
 refine gB (lB (.box 27 (cFm q)) (intsA q.leader) (.tmp 119) rfl Try.underlying24 rfl rfl) I0 rfl ?_
 refine gA (sp_lenSl (.tmp 120) rfl Try.underlying24) I0 ?_
 refine gC (sp_gtr rfl (dF hs16)) I0 I0 ?_
 refine gD (sp_pick (.tmp 118) (.tmp 122) (.const (.bool false)) true (bv false) (bv false) rfl) I0 I0 I0 ?_
 refine oD (sp_pick (.tmp 114) (.const (.bool true)) (.tmp 123) false (bv true) (bv false) rfl) I0 I0 I0 ?_
 refine kN 178 [(1, .box 27 (cFm q))] [(1, .box 1 0), (124, bv false)] ?_
 rw [show (misB q) = false by simp only [misB, Bool.or_true, Bool.true_or, Bool.or_false, Bool.false_or, Bool.and_true, Bool.true_and, Bool.and_false, Bool.false_and, Bool.not_true, Bool.not_false, hs1, hs4f, decide_eq_false hs5, hs11f, decide_eq_true hs15, decide_eq_false hs16]]
 exact t_meet T0 (wk_keep _ _ rfl (by kernel_rfl) (by kernel_rfl))
 by_cases hs17 : 0 < ((q.msgs.length : Nat) : Int)
 refine tri_region ?_
 refine oA (fB 1 (.tmp 1) rfl Try.underlying27 rfl 1 rfl) I0 ?_
 refine oB (lB (.box 27 (cFm q)) (iv q.top) (.tmp 88) rfl Try.underlying3 rfl rfl) I0 rfl ?_
 refine oC (sp_neq rfl (dF' hs15)) I0 I0 ?_
 refine oA (sp_move (.tmp 90) (bv true) rfl) I0 ?_
 refine gA (fB 3 (.tmp 1) rfl Try.underlying27 rfl 1 rfl) I0 ?_
 refine gB (lB (.box 27 (cFm q)) (strsA q.msgs) (.tmp 92) rfl Try.underlying22 rfl rfl) I0 rfl ?_
 refine gA (sp_lenSl (.tmp 93) rfl Try.underlying22) I0 ?_
 refine gC (sp_gtr rfl (dT hs17)) I0 I0 ?_
 refine gA (sp_move (.tmp 95) (bv true) rfl) I0 ?_
 refine t_skip rfl ?_
 refine t_skip rfl ?_
 refine t_skip rfl ?_
 refine t_skip rfl ?_
 refine gD (sp_pick (.tmp 96) (.const (.bool true)) (.tmp 100) true (bv true) (.v (.tuple #[])) rfl) I0 I0 I0 ?_
 refine gA (sp_move (.tmp 101) (bv true) rfl) I0 ?_
 refine t_skip rfl ?_
 refine t_skip rfl ?_
 refine t_skip rfl ?_
 refine t_skip rfl ?_
 refine gD (sp_pick (.tmp 102) (.const (.bool true)) (.tmp 106) true (bv true) (.v (.tuple #[])) rfl) I0 I0 I0 ?_
 refine gA (sp_move (.tmp 107) (bv true) rfl) I0 ?_
 refine t_skip rfl ?_
 refine t_skip rfl ?_
 refine t_skip rfl ?_
 refine gD (sp_pick (.tmp 108) (.const (.bool true)) (.tmp 111) true (bv true) (.v (.tuple #[])) rfl) I0 I0 I0 ?_
 refine oD (sp_pick (.tmp 91) (.tmp 112) (.const (.bool false)) true (bv true) (bv false) rfl) I0 I0 I0 ?_
 refine oA (sp_move (.tmp 113) (bv true) rfl) I0 ?_
 refine t_skip rfl ?_
 refine t_skip rfl ?_
 refine t_skip rfl ?_
 refine t_skip rfl ?_
 refine t_skip rfl ?_
 refine t_skip rfl ?_
 refine t_skip rfl ?_
 refine t_skip rfl ?_
 refine t_skip rfl ?_
 refine oD (sp_pick (.tmp 114) (.const (.bool true)) (.tmp 123) true (bv true) (.v (.tuple #[])) rfl) I0 I0 I0 ?_
 refine kN 178 [(1, .box 27 (cFm q))] [(1, .box 1 0), (124, bv true)] ?_
 rw [show (misB q) = true by simp only [misB, Bool.or_true, Bool.true_or, Bool.or_false, Bool.false_or, Bool.and_true, Bool.true_and, Bool.and_false, Bool.false_and, Bool.not_true, Bool.not_false, hs1, hs4f, decide_eq_false hs5, hs11f, decide_eq_false hs15, decide_eq_true hs17]]
 exact t_meet T0 (wk_keep _ _ rfl (by kernel_rfl) (by kernel_rfl))
 by_cases hs18 : 0 < ((q.vals.length : Nat) : Int)
 refine tri_region ?_
 refine oA (fB 1 (.tmp 1) rfl Try.underlying27 rfl 1 rfl) I0 ?_
 refine oB (lB (.box 27 (cFm q)) (iv q.top) (.tmp 88) rfl Try.underlying3 rfl rfl) I0 rfl ?_
 refine oC (sp_neq rfl (dF' hs15)) I0 I0 ?_
 refine oA (sp_move (.tmp 90) (bv true) rfl) I0 ?_
 refine gA (fB 3 (.tmp 1) rfl Try.underlying27 rfl 1 rfl) I0 ?_
 refine gB (lB (.box 27 (cFm q)) (strsA q.msgs) (.tmp 92) rfl Try.underlying22 rfl rfl) I0 rfl ?_
 refine gA (sp_lenSl (.tmp 93) rfl Try.underlying22) I0 ?_
 refine gC (sp_gtr rfl (dF hs17)) I0 I0 ?_
 refine gA (sp_move (.tmp 95) (bv false) rfl) I0 ?_
 refine gA (fB 4 (.tmp 1) rfl Try.underlying27 rfl 1 rfl) I0 ?_
 refine gB (lB (.box 27 (cFm q)) (strsA q.vals) (.tmp 97) rfl Try.underlying22 rfl rfl) I0 rfl ?_
 refine gA (sp_lenSl (.tmp 98) rfl Try.underlying22) I0 ?_
 refine gC (sp_gtr rfl (dT hs18)) I0 I0 ?_
 refine gD (sp_pick (.tmp 96) (.const (.bool true)) (.tmp 100) false (bv true) (bv true) rfl) I0 I0 I0 ?_
 refine gA (sp_move (.tmp 101) (bv true) rfl) I0 ?_
 refine t_skip rfl ?_
 refine t_skip rfl ?_
 refine t_skip rfl ?_
 refine t_skip rfl ?_
 refine gD (sp_pick (.tmp 102) (.const (.bool true)) (.tmp 106) true (bv true) (.v (.tuple #[])) rfl) I0 I0 I0 ?_
 refine gA (sp_move (.tmp 107) (bv true) rfl) I0 ?_
 refine t_skip rfl ?_
 refine t_skip rfl ?_
 refine t_skip rfl ?_
 refine gD (sp_pick (.tmp 108) (.const (.bool true)) (.tmp 111) true (bv true) (.v (.tuple #[])) rfl) I0 I0 I0 ?_
 refine oD (sp_pick (.tmp 91) (.tmp 112) (.const (.bool false)) true (bv true) (bv false) rfl) I0 I0 I0 ?_
 refine oA (sp_move (.tmp 113) (bv true) rfl) I0 ?_
 refine t_skip rfl ?_
 refine t_skip rfl ?_
 refine t_skip rfl ?_
 refine t_skip rfl ?_
 refine t_skip rfl ?_
 refine t_skip rfl ?_
 refine t_skip rfl ?_
 refine t_skip rfl ?_
 refine t_skip rfl ?_
 refine oD (sp_pick (.tmp 114) (.const (.bool true)) (.tmp 123) true (bv true) (.v (.tuple #[])) rfl) I0 I0 I0 ?_
 refine kN 178 [(1, .box 27 (cFm q))] [(1, .box 1 0), (124, bv true)] ?_
 rw [show (misB q) = true by simp only [misB, Bool.or_true, Bool.true_or, Bool.or_false, Bool.false_or, Bool.and_true, Bool.true_and, Bool.and_false, Bool.false_and, Bool.not_true, Bool.not_false, hs1, hs4f, decide_eq_false hs5, hs11f, decide_eq_false hs15, decide_eq_false hs17, decide_eq_true hs18]]
 exact t_meet T0 (wk_keep _ _ rfl (by kernel_rfl) (by kernel_rfl))
 by_cases hs19 : 0 < ((q.res.length : Nat) : Int)
 refine tri_region ?_
 refine oA (fB 1 (.tmp 1) rfl Try.underlying27 rfl 1 rfl) I0 ?_
 refine oB (lB (.box 27 (cFm q)) (iv q.top) (.tmp 88) rfl Try.underlying3 rfl rfl) I0 rfl ?_
 refine oC (sp_neq rfl (dF' hs15)) I0 I0 ?_
 refine oA (sp_move (.tmp 90) (bv true) rfl) I0 ?_
 refine gA (fB 3 (.tmp 1) rfl Try.underlying27 rfl 1 rfl) I0 ?_
 refine gB (lB (.box 27 (cFm q)) (strsA q.msgs) (.tmp 92) rfl Try.underlying22 rfl rfl) I0 rfl ?_
 refine gA (sp_lenSl (.tmp 93) rfl Try.underlying22) I0 ?_
 refine gC (sp_gtr rfl (dF hs17)) I0 I0 ?_
 refine gA (sp_move (.tmp 95) (bv false) rfl) I0 ?_
 refine gA (fB 4 (.tmp 1) rfl Try.underlying27 rfl 1 rfl) I0 ?_
 refine gB (lB (.box 27 (cFm q)) (strsA q.vals) (.tmp 97) rfl Try.underlying22 rfl rfl) I0 rfl ?_
 refine gA (sp_lenSl (.tmp 98) rfl Try.underlying22) I0 ?_
 refine gC (sp_gtr rfl (dF hs18)) I0 I0 ?_
 refine gD (sp_pick (.tmp 96) (.const (.bool true)) (.tmp 100) false (bv true) (bv false) rfl) I0 I0 I0 ?_
 refine gA (sp_move (.tmp 101) (bv false) rfl) I0 ?_
 refine gA (fB 6 (.tmp 1) rfl Try.underlying27 rfl 1 rfl) I0 ?_
 refine gB (lB (.box 27 (cFm q)) (slA 4 cLn q.res) (.tmp 103) rfl Try.underlying23 rfl rfl) I0 rfl ?_
 refine gA (sp_lenSl (.tmp 104) rfl Try.underlying23) I0 ?_
 refine gC (sp_gtr rfl (dT hs19)) I0 I0 ?_
 refine gD (sp_pick (.tmp 102) (.const (.bool true)) (.tmp 106) false (bv true) (bv true) rfl) I0 I0 I0 ?_
 refine gA (sp_move (.tmp 107) (bv true) rfl) I0 ?_
 refine t_skip rfl ?_
 refine t_skip rfl ?_
 refine t_skip rfl ?_
 refine gD (sp_pick (.tmp 108) (.const (.bool true)) (.tmp 111) true (bv true) (.v (.tuple #[])) rfl) I0 I0 I0 ?_
 refine oD (sp_pick (.tmp 91) (.tmp 112) (.const (.bool false)) true (bv true) (bv false) rfl) I0 I0 I0 ?_
 refine oA (sp_move (.tmp 113) (bv true) rfl) I0 ?_
 refine t_skip rfl ?_
 refine t_skip rfl ?_
 refine t_skip rfl ?_
 refine t_skip rfl ?_
 refine t_skip rfl ?_
 refine t_skip rfl ?_
 refine t_skip rfl ?_
 refine t_skip rfl ?_
 refine t_skip rfl ?_
 refine oD (sp_pick (.tmp 114) (.const (.bool true)) (.tmp 123) true (bv true) (.v (.tuple #[])) rfl) I0 I0 I0 ?_
 refine kN 178 [(1, .box 27 (cFm q))] [(1, .box 1 0), (124, bv true)] ?_
 rw [show (misB q) = true by simp only [misB, Bool.or_true, Bool.true_or, Bool.or_false, Bool.false_or, Bool.and_true, Bool.true_and, Bool.and_false, Bool.false_and, Bool.not_true, Bool.not_false, hs1, hs4f, decide_eq_false hs5, hs11f, decide_eq_false hs15, decide_eq_false hs17, decide_eq_false hs18, decide_eq_true hs19]]
 exact t_meet T0 (wk_keep _ _ rfl (by kernel_rfl) (by kernel_rfl))
 by_cases hs20 : q.fault = 0
 refine tri_region ?_
 refine oA (fB 1 (.tmp 1) rfl Try.underlying27 rfl 1 rfl) I0 ?_
 refine oB (lB (.box 27 (cFm q)) (iv q.top) (.tmp 88) rfl Try.underlying3 rfl rfl) I0 rfl ?_
 refine oC (sp_neq rfl (dF' hs15)) I0 I0 ?_
 refine oA (sp_move (.tmp 90) (bv true) rfl) I0 ?_
 refine gA (fB 3 (.tmp 1) rfl Try.underlying27 rfl 1 rfl) I0 ?_
 refine gB (lB (.box 27 (cFm q)) (strsA q.msgs) (.tmp 92) rfl Try.underlying22 rfl rfl) I0 rfl ?_
 refine gA (sp_lenSl (.tmp 93) rfl Try.underlying22) I0 ?_
 refine gC (sp_gtr rfl (dF hs17)) I0 I0 ?_
 refine gA (sp_move (.tmp 95) (bv false) rfl) I0 ?_
 refine gA (fB 4 (.tmp 1) rfl Try.underlying27 rfl 1 rfl) I0 ?_
 refine gB (lB (.box 27 (cFm q)) (strsA q.vals) (.tmp 97) rfl Try.underlying22 rfl rfl) I0 rfl ?_
 refine gA (sp_lenSl (.tmp 98) rfl Try.underlying22) I0 ?_
 refine gC (sp_gtr rfl (dF hs18)) I0 I0 ?_
 refine gD (sp_pick (.tmp 96) (.const (.bool true)) (.tmp 100) false (bv true) (bv false) rfl) I0 I0 I0 ?_
 refine gA (sp_move (.tmp 101) (bv false) rfl) I0 ?_
 refine gA (fB 6 (.tmp 1) rfl Try.underlying27 rfl 1 rfl) I0 ?_
 refine gB (lB (.box 27 (cFm q)) (slA 4 cLn q.res) (.tmp 103) rfl Try.underlying23 rfl rfl) I0 rfl ?_
 refine gA (sp_lenSl (.tmp 104) rfl Try.underlying23) I0 ?_
 refine gC (sp_gtr rfl (dF hs19)) I0 I0 ?_
 refine gD (sp_pick (.tmp 102) (.const (.bool true)) (.tmp 106) false (bv true) (bv false) rfl) I0 I0 I0 ?_
 refine gA (sp_move (.tmp 107) (bv false) rfl) I0 ?_
 refine gA (fB 5 (.tmp 1) rfl Try.underlying27 rfl 1 rfl) I0 ?_
 refine gB (lB (.box 27 (cFm q)) (iv q.fault) (.tmp 109) rfl Try.underlying3 rfl rfl) I0 rfl ?_
 refine gC (sp_neq rfl (dT' hs20)) I0 I0 ?_
 refine gD (sp_pick (.tmp 108) (.const (.bool true)) (.tmp 111) false (bv true) (bv false) rfl) I0 I0 I0 ?_
 refine oD (sp_pick (.tmp 91) (.tmp 112) (.const (.bool false)) true (bv false) (bv false) rfl) I0 I0 I0 ?_
 refine oA (sp_move (.tmp 113) (bv false) rfl) I0 ?_
 refine gA (fB 1 (.tmp 1) rfl Try.underlying27 rfl 1 rfl) I0 ?_
 refine gB (lB (.box 27 (cFm q)) (iv q.top) (.tmp 115) rfl Try.underlying3 rfl rfl) I0 rfl ?_
 refine gC (sp_eql rfl (dF hs15)) I0 I0 ?_
 refine gA (sp_move (.tmp 117) (bv false) rfl) I0 ?_
 refine t_skip rfl ?_
 refine t_skip rfl ?_
 refine t_skip rfl ?_
 refine t_skip rfl ?_
 refine gD (sp_pick (.tmp 118) (.tmp 122) (.const (.bool false)) false (.v (.tuple #[])) (bv false) rfl) I0 I0 I0 ?_
 refine oD (sp_pick (.tmp 114) (.const (.bool true)) (.tmp 123) false (bv true) (bv false) rfl) I0 I0 I0 ?_
 refine kN 178 [(1, .box 27 (cFm q))] [(1, .box 1 0), (124, bv false)] ?_
 rw [show (misB q) = false by simp only [misB, Bool.or_true, Bool.true_or, Bool.or_false, Bool.false_or, Bool.and_true, Bool.true_and, Bool.and_false, Bool.false_and, Bool.not_true, Bool.not_false, hs1, hs4f, decide_eq_false hs5, hs11f, decide_eq_false hs15, decide_eq_false hs17, decide_eq_false hs18, decide_eq_false hs19, decide_eq_true hs20]]
 exact t_meet T0 (wk_keep _ _ rfl (by kernel_rfl) (by kernel_rfl))
 refine tri_region ?_
 refine oA (fB 1 (.tmp 1) rfl Try.underlying27 rfl 1 rfl) I0 ?_
 refine oB (lB (.box 27 (cFm q)) (iv q.top) (.tmp 88) rfl Try.underlying3 rfl rfl) I0 rfl ?_
 refine oC (sp_neq rfl (dF' hs15)) I0 I0 ?_
 refine oA (sp_move (.tmp 90) (bv true) rfl) I0 ?_
 refine gA (fB 3 (.tmp 1) rfl Try.underlying27 rfl 1 rfl) I0 ?_
 refine gB (lB (.box 27 (cFm q)) (strsA q.msgs) (.tmp 92) rfl Try.underlying22 rfl rfl) I0 rfl ?_
 refine gA (sp_lenSl (.tmp 93) rfl Try.underlying22) I0 ?_
 refine gC (sp_gtr rfl (dF hs17)) I0 I0 ?_
 refine gA (sp_move (.tmp 95) (bv false) rfl) I0 ?_
 refine gA (fB 4 (.tmp 1) rfl Try.underlying27 rfl 1 rfl) I0 ?_
 refine gB (lB (.box 27 (cFm q)) (strsA q.vals) (.tmp 97) rfl Try.underlying22 rfl rfl) I0 rfl ?_
 refine gA (sp_lenSl (.tmp 98) rfl Try.underlying22) I0 ?_
 refine gC (sp_gtr rfl (dF hs18)) I0 I0 ?_
 refine gD (sp_pick (.tmp 96) (.const (.bool true)) (.tmp 100) false (bv true) (bv false) rfl) I0 I0 I0 ?_
 refine gA (sp_move (.tmp 101) (bv false) rfl) I0 ?_
 refine gA (fB 6 (.tmp 1) rfl Try.underlying27 rfl 1 rfl) I0 ?_
 refine gB (lB (.box 27 (cFm q)) (slA 4 cLn q.res) (.tmp 103) rfl Try.underlying23 rfl rfl) I0 rfl ?_
 refine gA (sp_lenSl (.tmp 104) rfl Try.underlying23) I0 ?_
 refine gC (sp_gtr rfl (dF hs19)) I0 I0 ?_
 refine gD (sp_pick (.tmp 102) (.const (.bool true)) (.tmp 106) false (bv true) (bv false) rfl) I0 I0 I0 ?_
 refine gA (sp_move (.tmp 107) (bv false) rfl) I0 ?_
 refine gA (fB 5 (.tmp 1) rfl Try.underlying27 rfl 1 rfl) I0 ?_
 refine gB (lB (.box 27 (cFm q)) (iv q.fault) (.tmp 109) rfl Try.underlying3 rfl rfl) I0 rfl ?_
 refine gC (sp_neq rfl (dF' hs20)) I0 I0 ?_
 refine gD (sp_pick (.tmp 108) (.const (.bool true)) (.tmp 111) false (bv true) (bv true) rfl) I0 I0 I0 ?_
 refine oD (sp_pick (.tmp 91) (.tmp 112) (.const (.bool false)) true (bv true) (bv false) rfl) I0 I0 I0 ?_
 refine oA (sp_move (.tmp 113) (bv true) rfl) I0 ?_
 refine t_skip rfl ?_
 refine t_skip rfl ?_
 refine t_skip rfl ?_
 refine t_skip rfl ?_
 refine t_skip rfl ?_
 refine t_skip rfl ?_
 refine t_skip rfl ?_
 refine t_skip rfl ?_
 refine t_skip rfl ?_
 refine oD (sp_pick (.tmp 114) (.const (.bool true)) (.tmp 123) true (bv true) (.v (.tuple #[])) rfl) I0 I0 I0 ?_
 refine kN 178 [(1, .box 27 (cFm q))] [(1, .box 1 0), (124, bv true)] ?_
 rw [show (misB q) = true by simp only [misB, Bool.or_true, Bool.true_or, Bool.or_false, Bool.false_or, Bool.and_true, Bool.true_and, Bool.and_false, Bool.false_and, Bool.not_true, Bool.not_false, hs1, hs4f, decide_eq_false hs5, hs11f, decide_eq_false hs15, decide_eq_false hs17, decide_eq_false hs18, decide_eq_false hs19, decide_eq_false hs20]]
 exact t_meet T0 (wk_keep _ _ rfl (by kernel_rfl) (by kernel_rfl))
 refine t_then ?_
 by_cases hs21 : (misB q) = true
 rw [hs21]
 refine kW 178 [(1, .box 27 (cFm q))] [(1, .box 1 0), (124, bv true)] ?_
 refine t_condT rfl ?_
 refine tri_seq ?_
 refine tri_region ?_
 refine oA (sp_assign (.const (.int .i64 1)) (iv 1) rfl) I0 ?_
 refine kN 178 [(1, .box 27 (cFm q))] [(1, .box 1 0), (2, iv 1)] ?_
 refine t_then ?_
 refine tri_ret ?_
 refine t_then_ret ?_
 refine tri_end1 Try.results56 (.tmp rfl) ?_
 exact congrArg (fun x : Int => AV.v (.int .i64 x)) (((valE_2 ⟨hs1, hs4f, hs5, hs11f⟩).trans (val2_mis NOK hs21)).symm)
 have hs21f : (misB q) = false := by simpa using hs21
 rw [hs21f]
 refine kW 178 [(1, .box 27 (cFm q))] [(1, .box 1 0), (124, bv false)] ?_
 refine t_condF rfl ?_
 refine tri_skip ?_
 refine t_then ?_
 refine tri_seq ?_
 refine tri_seq ?_
 refine tri_region ?_
 refine oA (sp_assign (.const (.int .i64 0)) (iv 0) rfl) I0 ?_
 refine kN 178 [(1, .box 27 (cFm q))] [(1, .box 1 0), (5, iv 0)] ?_
 refine t_then ?_
 refine t_cut (resB2 q q.res.length = false) (ofL [(1, .box 27 (cFm q))]) (ofT 178 [(1, .box 1 0)]) ?_ (fun RES => ?_)
 refine tri_block ?_
 refine tri_loop (σ := {k : Nat // k ≤ q.res.length ∧ resB2 q k = false}) (fun s => (ofL [(1, .box 27 (cFm q))], ofT 178 [(1, .box 1 0), (5, iv s.1)])) (fun s => q.res.length - s.1) ⟨0, Nat.zero_le _, rfl⟩ (wk_keep _ _ rfl (by kernel_rfl) (by kernel_rfl)) (fun s => ?_)
 obtain ⟨k, hk0, hs0⟩ := s
 show ETri J w0 (ofL [(1, .box 27 (cFm q))]) (ofT 178 [(1, .box 1 0), (5, iv k)]) _
 refine tri_seq ?_
 refine tri_seq ?_
 by_cases hs22 : ((k : Nat) : Int) < ((q.res.length : Nat) : Int)
 refine tri_region ?_
 refine oA (sp_move (.tmp 5) (iv k) rfl) I0 ?_
 refine oA (fB 6 (.tmp 1) rfl Try.underlying27 rfl 1 rfl) I0 ?_
 refine oB (lB (.box 27 (cFm q)) (slA 4 cLn q.res) (.tmp 126) rfl Try.underlying23 rfl rfl) I0 rfl ?_
 refine oA (sp_lenSl (.tmp 127) rfl Try.underlying23) I0 ?_
 refine oC (sp_lss rfl (dT hs22)) I0 I0 ?_
 refine kN 178 [(1, .box 27 (cFm q))] [(1, .box 1 0), (5, iv k), (129, bv true)] ?_
 refine t_then ?_
 refine t_condT rfl ?_
 refine tri_skip ?_
 refine t_then ?_
 refine tri_seq ?_
 refine tri_block ?_
 refine tri_seq ?_
 by_cases hs23 : (smL q.res[k].c q.res[k].n q.res[k].t q.res[k].f) = true
 refine tri_region ?_
 refine oA (fB 6 (.tmp 1) rfl Try.underlying27 rfl 1 rfl) I0 ?_
 refine oB (lB (.box 27 (cFm q)) (slA 4 cLn q.res) (.tmp 132) rfl Try.underlying23 rfl rfl) I0 rfl ?_
 refine oA (sp_move (.tmp 5) (iv k) rfl) I0 ?_
 refine oC (sp_indexSl (off := k * 4) (.tmp 133) (.tmp 134) rfl Try.underlying23 (by kernel_rfl) (by omega) (by omega) rfl) I0 I0 ?_
 refine oA (sp_loadElS (z := 4) (.tmp 135) rfl Try.underlying104 rfl (by kernel_rfl) (flat_take lenLn q.res k (by omega)) rfl) I0 ?_
 refine oC (sp_call (c := .func 89) (xs := #[.tmp 136]) [] (ctr_b (few_c q.res[k]) hs23) rfl (by kernel_rfl) rfl (Xs := [.agg (cLn q.res[k])]) rfl rfl rfl) I0 I0 ?_
 refine oA (sp_not rfl rfl) I0 ?_
 refine kN 178 [(1, .box 27 (cFm q))] [(1, .box 1 0), (5, iv k), (129, bv true), (138, bv false)] ?_
 refine t_then ?_
 refine t_condF rfl ?_
 refine tri_skip ?_
 refine t_block ?_
 refine t_then ?_
 refine tri_region ?_
 refine oA (sp_move (.tmp 5) (iv k) rfl) I0 ?_
 refine oC (sp_add (c := ((k + 1 : Nat) : Int)) rfl (w64 (by omega) (by omega) (by omega))) I0 I0 ?_
 refine oA (sp_assign (.tmp 131) (iv (k + 1 : Nat)) rfl) I0 ?_
 refine kN 178 [(1, .box 27 (cFm q))] [(1, .box 1 0), (5, iv (k + 1 : Nat)), (129, bv true), (138, bv false)] ?_
 refine t_then ?_
 refine tri_again ⟨k + 1, by omega, resB2_succ (by omega) hs0 hs23⟩ (show q.res.length - (k + 1) < q.res.length - k by omega) ?_
 exact wk_keep _ _ rfl (by kernel_rfl) (by kernel_rfl)
 have hs23f : (smL q.res[k].c q.res[k].n q.res[k].t q.res[k].f) = false := by simpa using hs23
 refine tri_region ?_
 refine oA (fB 6 (.tmp 1) rfl Try.underlying27 rfl 1 rfl) I0 ?_
 refine oB (lB (.box 27 (cFm q)) (slA 4 cLn q.res) (.tmp 132) rfl Try.underlying23 rfl rfl) I0 rfl ?_
 refine oA (sp_move (.tmp 5) (iv k) rfl) I0 ?_
 refine oC (sp_indexSl (off := k * 4) (.tmp 133) (.tmp 134) rfl Try.underlying23 (by kernel_rfl) (by omega) (by omega) rfl) I0 I0 ?_
 refine oA (sp_loadElS (z := 4) (.tmp 135) rfl Try.underlying104 rfl (by kernel_rfl) (flat_take lenLn q.res k (by omega)) rfl) I0 ?_
 refine oC (sp_call (c := .func 89) (xs := #[.tmp 136]) [] (ctr_b (few_c q.res[k]) hs23f) rfl (by kernel_rfl) rfl (Xs := [.agg (cLn q.res[k])]) rfl rfl rfl) I0 I0 ?_
 refine oA (sp_not rfl rfl) I0 ?_
 refine kN 178 [(1, .box 27 (cFm q))] [(1, .box 1 0), (5, iv k), (129, bv true), (138, bv true)] ?_
 refine t_then ?_
 refine t_condT rfl ?_
 refine tri_seq ?_
 refine tri_region ?_
 refine oA (sp_assign (.const (.int .i64 4)) (iv 4) rfl) I0 ?_
 refine kN 178 [(1, .box 27 (cFm q))] [(1, .box 1 0), (2, iv 4), (5, iv k), (129, bv true), (138, bv true)] ?_
 refine t_then ?_
 refine tri_ret ?_
 refine t_block_ret ?_
 refine t_then_ret ?_
 refine t_then_ret ?_
 refine t_block_ret ?_
 refine t_cut_ret ?_
 refine t_then_ret ?_
 refine tri_end1 Try.results56 (.tmp rfl) ?_
 exact congrArg (fun x : Int => AV.v (.int .i64 x)) (((valE_2 ⟨hs1, hs4f, hs5, hs11f⟩).trans (val2_res NOK hs21f (resB2_yes (k := k) (by omega) hs23f))).symm)
 refine tri_region ?_
 refine oA (sp_move (.tmp 5) (iv k) rfl) I0 ?_
 refine oA (fB 6 (.tmp 1) rfl Try.underlying27 rfl 1 rfl) I0 ?_
 refine oB (lB (.box 27 (cFm q)) (slA 4 cLn q.res) (.tmp 126) rfl Try.underlying23 rfl rfl) I0 rfl ?_
 refine oA (sp_lenSl (.tmp 127) rfl Try.underlying23) I0 ?_
 refine oC (sp_lss rfl (dF hs22)) I0 I0 ?_
 refine kN 178 [(1, .box 27 (cFm q))] [(1, .box 1 0), (5, iv k), (129, bv false)] ?_
 refine t_then ?_
 refine t_condF rfl ?_
 refine tri_exit ?_
 refine t_then_exit ?_
 refine t_then_exit ?_
 refine t_hit ?_
 exact t_meet (by have : k = q.res.length := (by omega); subst this; exact hs0) (wk_keep _ _ rfl (by kernel_rfl) (by kernel_rfl))
 refine t_then ?_
 refine tri_seq ?_
 refine tri_seq ?_
 refine tri_region ?_
 refine oA (fB 7 (.tmp 1) rfl Try.underlying27 rfl 1 rfl) I0 ?_
 refine oB (lB (.box 27 (cFm q)) (intsA q.init) (.tmp 139) rfl Try.underlying24 rfl rfl) I0 rfl ?_
 refine oA (fB 2 (.tmp 1) rfl Try.underlying27 rfl 1 rfl) I0 ?_
 refine oB (lB (.box 27 (cFm q)) (strsA q.states) (.tmp 141) rfl Try.underlying22 rfl rfl) I0 rfl ?_
 refine oA (sp_lenSl (.tmp 142) rfl Try.underlying22) I0 ?_
 refine oD (sp_call (c := .func 67) (xs := #[.tmp 140, .tmp 143]) [] (rSet_c q.states.length HQ.lstates q.init HQ.init) rfl (by kernel_rfl) rfl (Xs := [intsA q.init, iv q.states.length]) rfl rfl rfl) I0 I0 I0 ?_
 refine oA (sp_assign (.tmp 144) (iv (setE q.states.length q.init)) rfl) I0 ?_
 refine kN 178 [(1, .box 27 (cFm q))] [(1, .box 1 0), (6, iv (setE q.states.length q.init))] ?_
 refine t_then ?_
 refine tri_seq ?_
 by_cases hs24 : setE q.states.length q.init = 0
 refine tri_region ?_
 refine oA (sp_move (.tmp 6) (iv (setE q.states.length q.init)) rfl) I0 ?_
 refine oC (sp_neq rfl (dT' hs24)) I0 I0 ?_
 refine kN 178 [(1, .box 27 (cFm q))] [(1, .box 1 0), (6, iv (setE q.states.length q.init)), (146, bv false)] ?_
 refine t_then ?_
 refine t_condF rfl ?_
 refine tri_skip ?_
 refine t_then ?_
 refine tri_seq ?_
 refine tri_seq ?_
 by_cases hs25 : ((q.init.length : Nat) : Int) = 0
 refine tri_region ?_
 refine oA (fB 7 (.tmp 1) rfl Try.underlying27 rfl 1 rfl) I0 ?_
 refine oB (lB (.box 27 (cFm q)) (intsA q.init) (.tmp 148) rfl Try.underlying24 rfl rfl) I0 rfl ?_
 refine oA (sp_lenSl (.tmp 149) rfl Try.underlying24) I0 ?_
 refine oC (sp_eql rfl (dT hs25)) I0 I0 ?_
 refine kN 178 [(1, .box 27 (cFm q))] [(1, .box 1 0), (151, bv true)] ?_
 refine t_then ?_
 refine t_condT rfl ?_
 refine tri_seq ?_
 refine tri_region ?_
 refine oA (sp_assign (.const (.int .i64 1)) (iv 1) rfl) I0 ?_
 refine kN 178 [(1, .box 27 (cFm q))] [(1, .box 1 0), (2, iv 1)] ?_
 refine t_then ?_
 refine tri_ret ?_
 refine t_then_ret ?_
 refine tri_end1 Try.results56 (.tmp rfl) ?_
 exact congrArg (fun x : Int => AV.v (.int .i64 x)) (((valE_2 ⟨hs1, hs4f, hs5, hs11f⟩).trans ((val2_3 NOK hs21f RES).trans (val3_n hs25))).symm)
 refine tri_region ?_
 refine oA (fB 7 (.tmp 1) rfl Try.underlying27 rfl 1 rfl) I0 ?_
 refine oB (lB (.box 27 (cFm q)) (intsA q.init) (.tmp 148) rfl Try.underlying24 rfl rfl) I0 rfl ?_
 refine oA (sp_lenSl (.tmp 149) rfl Try.underlying24) I0 ?_
 refine oC (sp_eql rfl (dF hs25)) I0 I0 ?_
 refine kN 178 [(1, .box 27 (cFm q))] [(1, .box 1 0), (151, bv false)] ?_
 refine t_then ?_
 refine t_condF rfl ?_
 refine tri_skip ?_
 refine t_then ?_
 refine tri_seq ?_
 refine tri_seq ?_
 refine tri_region ?_
 refine oA (fB 8 (.tmp 1) rfl Try.underlying27 rfl 1 rfl) I0 ?_
 refine oB (lB (.box 27 (cFm q)) (intsA q.leader) (.tmp 152) rfl Try.underlying24 rfl rfl) I0 rfl ?_
 refine oA (fB 2 (.tmp 1) rfl Try.underlying27 rfl 1 rfl) I0 ?_
 refine oB (lB (.box 27 (cFm q)) (strsA q.states) (.tmp 154) rfl Try.underlying22 rfl rfl) I0 rfl ?_
 refine oA (sp_lenSl (.tmp 155) rfl Try.underlying22) I0 ?_
 refine oD (sp_call (c := .func 67) (xs := #[.tmp 153, .tmp 156]) [] (rSet_c q.states.length HQ.lstates q.leader HQ.leader) rfl (by kernel_rfl) rfl (Xs := [intsA q.leader, iv q.states.length]) rfl rfl rfl) I0 I0 I0 ?_
 refine oA (sp_assign (.tmp 157) (iv (setE q.states.length q.leader)) rfl) I0 ?_
 refine kN 178 [(1, .box 27 (cFm q))] [(1, .box 1 0), (7, iv (setE q.states.length q.leader))] ?_
 refine t_then ?_
 refine tri_seq ?_
 by_cases hs26 : setE q.states.length q.leader = 0
 refine tri_region ?_
 refine oA (sp_move (.tmp 7) (iv (setE q.states.length q.leader)) rfl) I0 ?_
 refine oC (sp_neq rfl (dT' hs26)) I0 I0 ?_
 refine kN 178 [(1, .box 27 (cFm q))] [(1, .box 1 0), (7, iv (setE q.states.length q.leader)), (159, bv false)] ?_
 refine t_then ?_
 refine t_condF rfl ?_
 refine tri_skip ?_
 refine t_then ?_
 refine tri_seq ?_
 refine tri_seq ?_
 refine tri_region ?_
 refine oA (sp_assign (.const (.int .i64 0)) (iv 0) rfl) I0 ?_
 refine kN 178 [(1, .box 27 (cFm q))] [(1, .box 1 0), (8, iv 0)] ?_
 refine t_then ?_
 refine t_cut (rulOk q q.rules.length) (ofL [(1, .box 27 (cFm q))]) (ofT 178 [(1, .box 1 0)]) ?_ (fun RUL => ?_)
 refine tri_block ?_
 refine tri_loop (σ := {k : Nat // k ≤ q.rules.length ∧ rulOk q k}) (fun s => (ofL [(1, .box 27 (cFm q))], ofT 178 [(1, .box 1 0), (8, iv s.1)])) (fun s => q.rules.length - s.1) ⟨0, Nat.zero_le _, rulOk_zero q⟩ (wk_keep _ _ rfl (by kernel_rfl) (by kernel_rfl)) (fun s => ?_)
 obtain ⟨k, hk0, hs0⟩ := s
 show ETri J w0 (ofL [(1, .box 27 (cFm q))]) (ofT 178 [(1, .box 1 0), (8, iv k)]) _
 refine tri_seq ?_
 refine tri_seq ?_
 by_cases hs27 : ((k : Nat) : Int) < ((q.rules.length : Nat) : Int)
 refine tri_region ?_
 refine oA (sp_move (.tmp 8) (iv k) rfl) I0 ?_
 refine oA (fB 9 (.tmp 1) rfl Try.underlying27 rfl 1 rfl) I0 ?_
 refine oB (lB (.box 27 (cFm q)) (slA 18 cRu q.rules) (.tmp 162) rfl Try.underlying25 rfl rfl) I0 rfl ?_
 refine oA (sp_lenSl (.tmp 163) rfl Try.underlying25) I0 ?_
 refine oC (sp_lss rfl (dT hs27)) I0 I0 ?_
 refine kN 178 [(1, .box 27 (cFm q))] [(1, .box 1 0), (8, iv k), (165, bv true)] ?_
 refine t_then ?_
 refine t_condT rfl ?_
 refine tri_skip ?_
 refine t_then ?_
 refine tri_seq ?_
 refine tri_block ?_
 refine tri_seq ?_
 refine tri_region ?_
 refine oB (sp_loadBoxS (Y := .box 27 (cFm q)) (ds := cFm q) (z := 10) (.tmp 1) rfl Try.underlying27 rfl (by kernel_rfl) (by decide) (by kernel_rfl) (by kernel_rfl)) I0 rfl ?_
 refine oA (sp_move (.tmp 8) (iv k) rfl) I0 ?_
 refine oD (sp_call (c := .func 90) (xs := #[.tmp 168, .tmp 169]) [] (rrule_c HQ (i := k) (by omega)) rfl (by kernel_rfl) rfl (Xs := [.agg (cFm q), iv k]) rfl rfl rfl) I0 I0 I0 ?_
 refine oA (sp_assign (.tmp 170) (iv (rruleE q k q.rules[k])) rfl) I0 ?_
 refine kN 178 [(1, .box 27 (cFm q))] [(1, .box 1 0), (8, iv k), (9, iv (rruleE q k q.rules[k])), (165, bv true)] ?_
 refine t_then ?_
 refine tri_seq ?_
 by_cases hs28 : rruleE q k q.rules[k] = 0
 refine tri_region ?_
 refine oA (sp_move (.tmp 9) (iv (rruleE q k q.rules[k])) rfl) I0 ?_
 refine oC (sp_neq rfl (dT' hs28)) I0 I0 ?_
 refine kN 178 [(1, .box 27 (cFm q))] [(1, .box 1 0), (8, iv k), (9, iv (rruleE q k q.rules[k])), (165, bv true), (172, bv false)] ?_
 refine t_then ?_
 refine t_condF rfl ?_
 refine tri_skip ?_
 refine t_block ?_
 refine t_then ?_
 refine tri_region ?_
 refine oA (sp_move (.tmp 8) (iv k) rfl) I0 ?_
 refine oC (sp_add (c := ((k + 1 : Nat) : Int)) rfl (w64 (by omega) (by omega) (by omega))) I0 I0 ?_
 refine oA (sp_assign (.tmp 167) (iv (k + 1 : Nat)) rfl) I0 ?_
 refine kN 178 [(1, .box 27 (cFm q))] [(1, .box 1 0), (8, iv (k + 1 : Nat)), (9, iv (rruleE q k q.rules[k])), (165, bv true), (172, bv false)] ?_
 refine t_then ?_
 refine tri_again ⟨k + 1, by omega, rulOk_succ (by omega) hs0 hs28⟩ (show q.rules.length - (k + 1) < q.rules.length - k by omega) ?_
 exact wk_keep _ _ rfl (by kernel_rfl) (by kernel_rfl)
 refine tri_region ?_
 refine oA (sp_move (.tmp 9) (iv (rruleE q k q.rules[k])) rfl) I0 ?_
 refine oC (sp_neq rfl (dF' hs28)) I0 I0 ?_
 refine kN 178 [(1, .box 27 (cFm q))] [(1, .box 1 0), (8, iv k), (9, iv (rruleE q k q.rules[k])), (165, bv true), (172, bv true)] ?_
 refine t_then ?_
 refine t_condT rfl ?_
 refine tri_seq ?_
 refine tri_region ?_
 refine oA (sp_move (.tmp 9) (iv (rruleE q k q.rules[k])) rfl) I0 ?_
 refine oA (sp_assign (.tmp 173) (iv (rruleE q k q.rules[k])) rfl) I0 ?_
 refine kN 178 [(1, .box 27 (cFm q))] [(1, .box 1 0), (2, iv (rruleE q k q.rules[k])), (8, iv k), (9, iv (rruleE q k q.rules[k])), (165, bv true), (172, bv true)] ?_
 refine t_then ?_
 refine tri_ret ?_
 refine t_block_ret ?_
 refine t_then_ret ?_
 refine t_then_ret ?_
 refine t_block_ret ?_
 refine t_cut_ret ?_
 refine t_then_ret ?_
 refine tri_end1 Try.results56 (.tmp rfl) ?_
 exact congrArg (fun x : Int => AV.v (.int .i64 x)) (((valE_2 ⟨hs1, hs4f, hs5, hs11f⟩).trans ((val2_3 NOK hs21f RES).trans (val3_r ⟨hs24, hs25⟩ hs26 hs5 (k := k) (by omega) hs0 hs28))).symm)
 refine tri_region ?_
 refine oA (sp_move (.tmp 8) (iv k) rfl) I0 ?_
 refine oA (fB 9 (.tmp 1) rfl Try.underlying27 rfl 1 rfl) I0 ?_
 refine oB (lB (.box 27 (cFm q)) (slA 18 cRu q.rules) (.tmp 162) rfl Try.underlying25 rfl rfl) I0 rfl ?_
 refine oA (sp_lenSl (.tmp 163) rfl Try.underlying25) I0 ?_
 refine oC (sp_lss rfl (dF hs27)) I0 I0 ?_
 refine kN 178 [(1, .box 27 (cFm q))] [(1, .box 1 0), (8, iv k), (165, bv false)] ?_
 refine t_then ?_
 refine t_condF rfl ?_
 refine tri_exit ?_
 refine t_then_exit ?_
 refine t_then_exit ?_
 refine t_hit ?_
 exact t_meet (by have : k = q.rules.length := (by omega); subst this; exact hs0) (wk_keep _ _ rfl (by kernel_rfl) (by kernel_rfl))
 refine t_then ?_
 refine tri_seq ?_
 refine tri_seq ?_
 by_cases hs29 : 3 < (((diffG q.rules).length : Nat) : Int)
 refine tri_region ?_
 refine oB (sp_loadBoxS (Y := .box 27 (cFm q)) (ds := cFm q) (z := 10) (.tmp 1) rfl Try.underlying27 rfl (by kernel_rfl) (by decide) (by kernel_rfl) (by kernel_rfl)) I0 rfl ?_
 refine oC (sp_call (c := .func 91) (xs := #[.tmp 174]) [] (distinct_c HQ (tooI_no hs11f).2.2.2.2 (rul_guards hs5 RUL)) rfl (by kernel_rfl) rfl (Xs := [.agg (cFm q)]) rfl rfl rfl) I0 I0 ?_
 refine t_op rfl (sp_lenSl (.tmp 175) rfl Try.underlying57) ⟨.inr (.inl rfl), T0⟩ T0 T0 ?_
 refine oC (sp_gtr rfl (dT hs29)) I0 I0 ?_
 refine kN 178 [] [(177, bv true)] ?_
 refine t_then ?_
 refine t_condT rfl ?_
 refine tri_seq ?_
 refine tri_region ?_
 refine oA (sp_assign (.const (.int .i64 4)) (iv 4) rfl) I0 ?_
 refine kN 178 [] [(2, iv 4)] ?_
 refine t_then ?_
 refine tri_ret ?_
 refine t_then_ret ?_
 refine tri_end1 Try.results56 (.tmp rfl) ?_
 exact congrArg (fun x : Int => AV.v (.int .i64 x)) (((valE_2 ⟨hs1, hs4f, hs5, hs11f⟩).trans ((val2_3 NOK hs21f RES).trans (val3_d ⟨hs24, hs25⟩ hs26 hs5 RUL hs29))).symm)
 refine tri_region ?_
 refine oB (sp_loadBoxS (Y := .box 27 (cFm q)) (ds := cFm q) (z := 10) (.tmp 1) rfl Try.underlying27 rfl (by kernel_rfl) (by decide) (by kernel_rfl) (by kernel_rfl)) I0 rfl ?_
 refine oC (sp_call (c := .func 91) (xs := #[.tmp 174]) [] (distinct_c HQ (tooI_no hs11f).2.2.2.2 (rul_guards hs5 RUL)) rfl (by kernel_rfl) rfl (Xs := [.agg (cFm q)]) rfl rfl rfl) I0 I0 ?_
 refine t_op rfl (sp_lenSl (.tmp 175) rfl Try.underlying57) ⟨.inr (.inl rfl), T0⟩ T0 T0 ?_
 refine oC (sp_gtr rfl (dF hs29)) I0 I0 ?_
 refine kN 178 [] [(177, bv false)] ?_
 refine t_then ?_
 refine t_condF rfl ?_
 refine tri_skip ?_
 refine t_then ?_
 refine tri_seq ?_
 refine tri_region ?_
 refine oA (sp_assign (.const (.int .i64 0)) (iv 0) rfl) I0 ?_
 refine kN 178 [] [(2, iv 0)] ?_
 refine t_then ?_
 refine tri_ret ?_
 refine tri_end1 Try.results56 (.tmp rfl) ?_
 exact congrArg (fun x : Int => AV.v (.int .i64 x)) (((valE_2 ⟨hs1, hs4f, hs5, hs11f⟩).trans ((val2_3 NOK hs21f RES).trans (val3_0 ⟨hs24, hs25⟩ hs26 hs5 RUL hs29))).symm)
 refine tri_region ?_
 refine oA (sp_move (.tmp 7) (iv (setE q.states.length q.leader)) rfl) I0 ?_
 refine oC (sp_neq rfl (dF' hs26)) I0 I0 ?_
 refine kN 178 [(1, .box 27 (cFm q))] [(1, .box 1 0), (7, iv (setE q.states.length q.leader)), (159, bv true)] ?_
 refine t_then ?_
 refine t_condT rfl ?_
 refine tri_seq ?_
 refine tri_region ?_
 refine oA (sp_move (.tmp 7) (iv (setE q.states.length q.leader)) rfl) I0 ?_
 refine oA (sp_assign (.tmp 160) (iv (setE q.states.length q.leader)) rfl) I0 ?_
 refine kN 178 [(1, .box 27 (cFm q))] [(1, .box 1 0), (2, iv (setE q.states.length q.leader))] ?_
 refine t_then ?_
 refine tri_ret ?_
 refine t_then_ret ?_
 refine tri_end1 Try.results56 (.tmp rfl) ?_
 exact congrArg (fun x : Int => AV.v (.int .i64 x)) (((valE_2 ⟨hs1, hs4f, hs5, hs11f⟩).trans ((val2_3 NOK hs21f RES).trans (val3_l ⟨hs24, hs25⟩ hs26))).symm)
 refine tri_region ?_
 refine oA (sp_move (.tmp 6) (iv (setE q.states.length q.init)) rfl) I0 ?_
 refine oC (sp_neq rfl (dF' hs24)) I0 I0 ?_
 refine kN 178 [(1, .box 27 (cFm q))] [(1, .box 1 0), (6, iv (setE q.states.length q.init)), (146, bv true)] ?_
 refine t_then ?_
 refine t_condT rfl ?_
 refine tri_seq ?_
 refine tri_region ?_
 refine oA (sp_move (.tmp 6) (iv (setE q.states.length q.init)) rfl) I0 ?_
 refine oA (sp_assign (.tmp 147) (iv (setE q.states.length q.init)) rfl) I0 ?_
 refine kN 178 [(1, .box 27 (cFm q))] [(1, .box 1 0), (2, iv (setE q.states.length q.init))] ?_
 refine t_then ?_
 refine tri_ret ?_
 refine t_then_ret ?_
 refine tri_end1 Try.results56 (.tmp rfl) ?_
 exact congrArg (fun x : Int => AV.v (.int .i64 x)) (((valE_2 ⟨hs1, hs4f, hs5, hs11f⟩).trans ((val2_3 NOK hs21f RES).trans (val3_i hs24))).symm)
 have hs1f : (nameB q.nm.toList) = false := by simpa using hs1
 refine tri_region ?_
 refine oA (fB 0 (.tmp 1) rfl Try.underlying27 rfl 1 rfl) I0 ?_
 refine oB (lB (.box 27 (cFm q)) (sv q.nm) (.tmp 10) rfl Try.underlying9 rfl rfl) I0 rfl ?_
 refine oC (sp_call (c := .func 66) (xs := #[.tmp 11]) [] (ctr_b (rValidName_c q.nm HQ.nm) hs1f) rfl (by kernel_rfl) rfl (Xs := [sv q.nm]) rfl rfl rfl) I0 I0 ?_
 refine oA (sp_not rfl rfl) I0 ?_
 refine kN 178 [(1, .box 27 (cFm q))] [(1, .box 1 0), (2, iv 0), (13, bv true)] ?_
 refine t_then ?_
 refine t_condT rfl ?_
 refine tri_seq ?_
 refine tri_region ?_
 refine oA (sp_assign (.const (.int .i64 2)) (iv 2) rfl) I0 ?_
 refine kN 178 [(1, .box 27 (cFm q))] [(1, .box 1 0), (2, iv 2)] ?_
 refine t_then ?_
 refine tri_ret ?_
 refine t_then_ret ?_
 refine tri_end1 Try.results56 (.tmp rfl) ?_
 exact congrArg (fun x : Int => AV.v (.int .i64 x)) ((valE_nm hs1f).symm)
end Go.Proofs.Ytgbgfkhkjlakbaa
