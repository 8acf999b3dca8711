import Derived.Test.YtmpbfdfjcfanoaaDoorGrpgajbhcgj
import Derived.Test.YtmpbfdfjcfanoaaDoorGrpajjobmgg
set_option linter.all false
/-
  Classify OF THE REFERENCE; THE WALK OF ProtocolClasses.
-/
namespace Go.Proofs.YtmpbfdfjcfanoaaDoor
open Go.RowKit Go.Deep
variable {J : World → Prop}
set_option linter.unusedSimpArgs false in
set_option linter.unusedVariables false in
set_option maxRecDepth 100000 in
set_option maxHeartbeats 6400000 in
theorem rClassify_c {q : Fm} (HQ : FmOk q) : Ctr Tryd.prog J 20 [.agg (cFm q)] (.tup [.agg (clA q), iv (valE q)]) := by
 have l4 := HQ.lrules
 refine ctr_of_tri Tryd.func20 rfl (by intro X hX; simp only [List.mem_cons, List.not_mem_nil, or_false] at hX; rcases hX with rfl; exact plain_agg (plain_fm q)) (n := 105) rfl (by simp) (fun w0 => ?_)
 refine tri_wk (wk_keep [] [(0, .agg (cFm q))] (n := 105) rfl (by kernel_rfl) (by kernel_rfl)) ?_
 refine tri_seq ?_
 refine tri_region ?_
 refine t_op rfl (sp_box (X := .agg (cFm q)) (k := 1) (.tmp 0) rfl rfl) ⟨.inl rfl, trivial⟩ trivial rfl ?_
 refine t_op rfl (sp_alloc (z := .agg #[.bool false, .bool false, .bool false, .bool false, .bool false]) (k := 2) rfl (by kernel_rfl)) trivial trivial rfl ?_
 refine t_op rfl (sp_assign (.const (.int .i64 0)) (iv 0) rfl) ⟨.inl rfl, trivial⟩ trivial trivial ?_
 refine tri_nil ?_
 refine tri_wk (wk_keep [(1, .box 27 (cFm q)), (2, .box 40 [bv false, bv false, bv false, bv false, bv false])] [(1, .box 1 0), (2, .box 2 0), (3, iv 0)] (n := 105) rfl (by kernel_rfl) (by kernel_rfl)) ?_
 refine t_then ?_
 refine tri_seq ?_
 refine tri_seq ?_
 refine tri_region ?_
 refine t_op rfl (sp_loadBoxS (Y := .box 27 (cFm q)) (ds := cFm q) (z := 10) (.tmp 1) rfl Tryd.underlying27 rfl (by kernel_rfl) (by decide) (by kernel_rfl) (by kernel_rfl)) ⟨.inl rfl, trivial⟩ ⟨rfl, trivial⟩ trivial ?_
 refine t_op rfl (sp_call (c := .func 17) (xs := #[.tmp 10]) [] (rValidate_c HQ) rfl (by kernel_rfl) rfl (Xs := [.agg (cFm q)]) rfl rfl rfl) ⟨.inl rfl, .inl rfl, trivial⟩ trivial trivial ?_
 refine t_op rfl (sp_assign (.tmp 11) (iv (valE q)) rfl) ⟨.inl rfl, trivial⟩ trivial trivial ?_
 refine tri_nil ?_
 refine tri_wk (wk_keep [(1, .box 27 (cFm q)), (2, .box 40 [bv false, bv false, bv false, bv false, bv false])] [(1, .box 1 0), (2, .box 2 0), (3, iv 0), (4, iv (valE q))] (n := 105) rfl (by kernel_rfl) (by kernel_rfl)) ?_
 refine t_then ?_
 refine tri_seq ?_
 by_cases hs1 : valE q = 0
 refine tri_region ?_
 refine t_op rfl (sp_move (.tmp 4) (iv (valE q)) rfl) ⟨.inl rfl, trivial⟩ trivial trivial ?_
 refine t_op rfl (sp_neq rfl (dT' hs1)) ⟨.inl rfl, .inl rfl, trivial⟩ trivial trivial ?_
 refine tri_nil ?_
 refine tri_wk (wk_keep [(1, .box 27 (cFm q)), (2, .box 40 [bv false, bv false, bv false, bv false, bv false])] [(1, .box 1 0), (2, .box 2 0), (3, iv 0), (4, iv (valE q)), (13, bv false)] (n := 105) rfl (by kernel_rfl) (by kernel_rfl)) ?_
 refine t_then ?_
 refine t_condF rfl ?_
 refine tri_skip ?_
 refine t_then ?_
 refine tri_seq ?_
 refine tri_region ?_
 refine t_op rfl (sp_fieldBox (off' := 1) (.tmp 1) rfl Tryd.underlying27 rfl (z := 1) (by kernel_rfl) (by decide) rfl) ⟨.inl rfl, trivial⟩ trivial trivial ?_
 refine t_op rfl (sp_loadBox1 (Y := .box 27 (cFm q)) (X := iv q.top) (.tmp 16) rfl Tryd.underlying3 rfl rfl) ⟨.inl rfl, trivial⟩ ⟨rfl, trivial⟩ trivial ?_
 refine t_op rfl (sp_eql rfl rfl) ⟨.inl rfl, .inl rfl, trivial⟩ trivial trivial ?_
 refine t_op rfl (sp_assign (.tmp 18) (bv (decide (q.top = 1))) rfl) ⟨.inl rfl, trivial⟩ trivial trivial ?_
 refine tri_nil ?_
 refine tri_wk (wk_keep [(1, .box 27 (cFm q)), (2, .box 40 [bv false, bv false, bv false, bv false, bv false])] [(1, .box 1 0), (2, .box 2 0), (3, iv 0), (5, bv (decide (q.top = 1)))] (n := 105) rfl (by kernel_rfl) (by kernel_rfl)) ?_
 refine t_then ?_
 refine tri_seq ?_
 refine t_cut (True) (ofL [(1, .box 27 (cFm q)), (2, .box 40 [bv false, bv false, bv false, bv false, bv false])]) (ofT 105 [(1, .box 1 0), (2, .box 2 0), (3, iv 0), (5, bv (decide (q.top = 1))), (6, bv (plI q))]) ?_ (fun _ => ?_)
 by_cases hs2 : q.top = 1
 rw [dT hs2]
 refine tri_wk (wk_keep [(1, .box 27 (cFm q)), (2, .box 40 [bv false, bv false, bv false, bv false, bv false])] [(1, .box 1 0), (2, .box 2 0), (3, iv 0), (5, bv true)] (n := 105) rfl (by kernel_rfl) (by kernel_rfl)) ?_
 by_cases hs3 : q.fault = 0
 by_cases hs4 : ((q.msgs.length : Nat) : Int) = 0
 refine tri_region ?_
 refine t_op rfl (sp_move (.tmp 5) (bv true) rfl) ⟨.inl rfl, trivial⟩ trivial trivial ?_
 refine t_op rfl (sp_move (.tmp 19) (bv true) rfl) ⟨.inl rfl, trivial⟩ trivial trivial ?_
 refine t_opG rfl (sp_fieldBox (off' := 5) (.tmp 1) rfl Tryd.underlying27 rfl (z := 1) (by kernel_rfl) (by decide) rfl) ⟨.inl rfl, trivial⟩ trivial trivial ?_
 refine t_opG rfl (sp_loadBox1 (Y := .box 27 (cFm q)) (X := iv q.fault) (.tmp 21) rfl Tryd.underlying3 rfl rfl) ⟨.inl rfl, trivial⟩ ⟨rfl, trivial⟩ trivial ?_
 refine t_opG rfl (sp_eql rfl (dT hs3)) ⟨.inl rfl, .inl rfl, trivial⟩ trivial trivial ?_
 refine t_op rfl (sp_pick (.tmp 20) (.tmp 23) (.const (.bool false)) true (bv true) (bv false) rfl) ⟨.inl rfl, .inl rfl, .inl rfl, trivial⟩ trivial trivial ?_
 refine t_op rfl (sp_move (.tmp 24) (bv true) rfl) ⟨.inl rfl, trivial⟩ trivial trivial ?_
 refine t_opG rfl (sp_fieldBox (off' := 3) (.tmp 1) rfl Tryd.underlying27 rfl (z := 1) (by kernel_rfl) (by decide) rfl) ⟨.inl rfl, trivial⟩ trivial trivial ?_
 refine t_opG rfl (sp_loadBox1 (Y := .box 27 (cFm q)) (X := strsA q.msgs) (.tmp 26) rfl Tryd.underlying22 rfl rfl) ⟨.inl rfl, trivial⟩ ⟨rfl, trivial⟩ trivial ?_
 refine t_opG rfl (sp_lenSl (.tmp 27) rfl Tryd.underlying22) ⟨.inl rfl, trivial⟩ trivial trivial ?_
 refine t_opG rfl (sp_eql rfl (dT hs4)) ⟨.inl rfl, .inl rfl, trivial⟩ trivial trivial ?_
 refine t_op rfl (sp_pick (.tmp 25) (.tmp 29) (.const (.bool false)) true (bv true) (bv false) rfl) ⟨.inl rfl, .inl rfl, .inl rfl, trivial⟩ trivial trivial ?_
 refine t_op rfl (sp_move (.tmp 30) (bv true) rfl) ⟨.inl rfl, trivial⟩ trivial trivial ?_
 refine t_opG rfl (sp_fieldBox (off' := 6) (.tmp 1) rfl Tryd.underlying27 rfl (z := 1) (by kernel_rfl) (by decide) rfl) ⟨.inl rfl, trivial⟩ trivial trivial ?_
 refine t_opG rfl (sp_loadBox1 (Y := .box 27 (cFm q)) (X := slA 4 cLn q.res) (.tmp 32) rfl Tryd.underlying23 rfl rfl) ⟨.inl rfl, trivial⟩ ⟨rfl, trivial⟩ trivial ?_
 refine t_opG rfl (sp_lenSl (.tmp 33) rfl Tryd.underlying23) ⟨.inl rfl, trivial⟩ trivial trivial ?_
 refine t_opG rfl (sp_eql rfl rfl) ⟨.inl rfl, .inl rfl, trivial⟩ trivial trivial ?_
 refine t_op rfl (sp_pick (.tmp 31) (.tmp 35) (.const (.bool false)) true (bv (decide (((q.res.length : Nat) : Int) = 0))) (bv false) rfl) ⟨.inl rfl, .inl rfl, .inl rfl, trivial⟩ trivial trivial ?_
 refine t_op rfl (sp_assign (.tmp 36) (bv (decide (((q.res.length : Nat) : Int) = 0))) rfl) ⟨.inl rfl, trivial⟩ trivial trivial ?_
 refine tri_nil ?_
 refine tri_wk (wk_keep [(1, .box 27 (cFm q)), (2, .box 40 [bv false, bv false, bv false, bv false, bv false])] [(1, .box 1 0), (2, .box 2 0), (3, iv 0), (5, bv true), (6, bv (decide (((q.res.length : Nat) : Int) = 0)))] (n := 105) rfl (by kernel_rfl) (by kernel_rfl)) ?_
 rw [show (plI q) = (decide (((q.res.length : Nat) : Int) = 0)) by simp only [plI, Bool.or_true, Bool.true_or, Bool.or_false, Bool.false_or, Bool.and_true, Bool.true_and, Bool.and_false, Bool.false_and, Bool.not_true, Bool.not_false, decide_eq_true hs1, decide_eq_true hs2, decide_eq_true hs3, decide_eq_true hs4]]
 exact t_meet trivial (wk_keep _ _ rfl (by kernel_rfl) (by kernel_rfl))
 refine tri_region ?_
 refine t_op rfl (sp_move (.tmp 5) (bv true) rfl) ⟨.inl rfl, trivial⟩ trivial trivial ?_
 refine t_op rfl (sp_move (.tmp 19) (bv true) rfl) ⟨.inl rfl, trivial⟩ trivial trivial ?_
 refine t_opG rfl (sp_fieldBox (off' := 5) (.tmp 1) rfl Tryd.underlying27 rfl (z := 1) (by kernel_rfl) (by decide) rfl) ⟨.inl rfl, trivial⟩ trivial trivial ?_
 refine t_opG rfl (sp_loadBox1 (Y := .box 27 (cFm q)) (X := iv q.fault) (.tmp 21) rfl Tryd.underlying3 rfl rfl) ⟨.inl rfl, trivial⟩ ⟨rfl, trivial⟩ trivial ?_
 refine t_opG rfl (sp_eql rfl (dT hs3)) ⟨.inl rfl, .inl rfl, trivial⟩ trivial trivial ?_
 refine t_op rfl (sp_pick (.tmp 20) (.tmp 23) (.const (.bool false)) true (bv true) (bv false) rfl) ⟨.inl rfl, .inl rfl, .inl rfl, trivial⟩ trivial trivial ?_
 refine t_op rfl (sp_move (.tmp 24) (bv true) rfl) ⟨.inl rfl, trivial⟩ trivial trivial ?_
 refine t_opG rfl (sp_fieldBox (off' := 3) (.tmp 1) rfl Tryd.underlying27 rfl (z := 1) (by kernel_rfl) (by decide) rfl) ⟨.inl rfl, trivial⟩ trivial trivial ?_
 refine t_opG rfl (sp_loadBox1 (Y := .box 27 (cFm q)) (X := strsA q.msgs) (.tmp 26) rfl Tryd.underlying22 rfl rfl) ⟨.inl rfl, trivial⟩ ⟨rfl, trivial⟩ trivial ?_
 refine t_opG rfl (sp_lenSl (.tmp 27) rfl Tryd.underlying22) ⟨.inl rfl, trivial⟩ trivial trivial ?_
 refine t_opG rfl (sp_eql rfl (dF hs4)) ⟨.inl rfl, .inl rfl, trivial⟩ trivial trivial ?_
 refine t_op rfl (sp_pick (.tmp 25) (.tmp 29) (.const (.bool false)) true (bv false) (bv false) rfl) ⟨.inl rfl, .inl rfl, .inl rfl, trivial⟩ trivial trivial ?_
 refine t_op rfl (sp_move (.tmp 30) (bv false) rfl) ⟨.inl rfl, trivial⟩ trivial trivial ?_
 refine t_skip rfl ?_
 refine t_skip rfl ?_
 refine t_skip rfl ?_
 refine t_skip rfl ?_
 refine t_op rfl (sp_pick (.tmp 31) (.tmp 35) (.const (.bool false)) false (.v (.tuple #[])) (bv false) rfl) ⟨.inl rfl, .inl rfl, .inl rfl, trivial⟩ trivial trivial ?_
 refine t_op rfl (sp_assign (.tmp 36) (bv false) rfl) ⟨.inl rfl, trivial⟩ trivial trivial ?_
 refine tri_nil ?_
 refine tri_wk (wk_keep [(1, .box 27 (cFm q)), (2, .box 40 [bv false, bv false, bv false, bv false, bv false])] [(1, .box 1 0), (2, .box 2 0), (3, iv 0), (5, bv true), (6, bv false)] (n := 105) rfl (by kernel_rfl) (by kernel_rfl)) ?_
 rw [show (plI q) = false by simp only [plI, Bool.or_true, Bool.true_or, Bool.or_false, Bool.false_or, Bool.and_true, Bool.true_and, Bool.and_false, Bool.false_and, Bool.not_true, Bool.not_false, decide_eq_true hs1, decide_eq_true hs2, decide_eq_true hs3, decide_eq_false hs4]]
 exact t_meet trivial (wk_keep _ _ rfl (by kernel_rfl) (by kernel_rfl))
 refine tri_region ?_
 refine t_op rfl (sp_move (.tmp 5) (bv true) rfl) ⟨.inl rfl, trivial⟩ trivial trivial ?_
 refine t_op rfl (sp_move (.tmp 19) (bv true) rfl) ⟨.inl rfl, trivial⟩ trivial trivial ?_
 refine t_opG rfl (sp_fieldBox (off' := 5) (.tmp 1) rfl Tryd.underlying27 rfl (z := 1) (by kernel_rfl) (by decide) rfl) ⟨.inl rfl, trivial⟩ trivial trivial ?_
 refine t_opG rfl (sp_loadBox1 (Y := .box 27 (cFm q)) (X := iv q.fault) (.tmp 21) rfl Tryd.underlying3 rfl rfl) ⟨.inl rfl, trivial⟩ ⟨rfl, trivial⟩ trivial ?_
 refine t_opG rfl (sp_eql rfl (dF hs3)) ⟨.inl rfl, .inl rfl, trivial⟩ trivial trivial ?_
 refine t_op rfl (sp_pick (.tmp 20) (.tmp 23) (.const (.bool false)) true (bv false) (bv false) rfl) ⟨.inl rfl, .inl rfl, .inl rfl, trivial⟩ trivial trivial ?_
 refine t_op rfl (sp_move (.tmp 24) (bv false) rfl) ⟨.inl rfl, trivial⟩ trivial trivial ?_
 refine t_skip rfl ?_
 refine t_skip rfl ?_
 refine t_skip rfl ?_
 refine t_skip rfl ?_
 refine t_op rfl (sp_pick (.tmp 25) (.tmp 29) (.const (.bool false)) false (.v (.tuple #[])) (bv false) rfl) ⟨.inl rfl, .inl rfl, .inl rfl, trivial⟩ trivial trivial ?_
 refine t_op rfl (sp_move (.tmp 30) (bv false) rfl) ⟨.inl rfl, trivial⟩ trivial trivial ?_
 refine t_skip rfl ?_
 refine t_skip rfl ?_
 refine t_skip rfl ?_
 refine t_skip rfl ?_
 refine t_op rfl (sp_pick (.tmp 31) (.tmp 35) (.const (.bool false)) false (.v (.tuple #[])) (bv false) rfl) ⟨.inl rfl, .inl rfl, .inl rfl, trivial⟩ trivial trivial ?_
 refine t_op rfl (sp_assign (.tmp 36) (bv false) rfl) ⟨.inl rfl, trivial⟩ trivial trivial ?_
 refine tri_nil ?_
 refine tri_wk (wk_keep [(1, .box 27 (cFm q)), (2, .box 40 [bv false, bv false, bv false, bv false, bv false])] [(1, .box 1 0), (2, .box 2 0), (3, iv 0), (5, bv true), (6, bv false)] (n := 105) rfl (by kernel_rfl) (by kernel_rfl)) ?_
 rw [show (plI q) = false by simp only [plI, Bool.or_true, Bool.true_or, Bool.or_false, Bool.false_or, Bool.and_true, Bool.true_and, Bool.and_false, Bool.false_and, Bool.not_true, Bool.not_false, decide_eq_true hs1, decide_eq_true hs2, decide_eq_false hs3]]
 exact t_meet trivial (wk_keep _ _ rfl (by kernel_rfl) (by kernel_rfl))
 rw [dF hs2]
 refine tri_wk (wk_keep [(1, .box 27 (cFm q)), (2, .box 40 [bv false, bv false, bv false, bv false, bv false])] [(1, .box 1 0), (2, .box 2 0), (3, iv 0), (5, bv false)] (n := 105) rfl (by kernel_rfl) (by kernel_rfl)) ?_
 refine tri_region ?_
 refine t_op rfl (sp_move (.tmp 5) (bv false) rfl) ⟨.inl rfl, trivial⟩ trivial trivial ?_
 refine t_op rfl (sp_move (.tmp 19) (bv false) rfl) ⟨.inl rfl, trivial⟩ trivial trivial ?_
 refine t_skip rfl ?_
 refine t_skip rfl ?_
 refine t_skip rfl ?_
 refine t_op rfl (sp_pick (.tmp 20) (.tmp 23) (.const (.bool false)) false (.v (.tuple #[])) (bv false) rfl) ⟨.inl rfl, .inl rfl, .inl rfl, trivial⟩ trivial trivial ?_
 refine t_op rfl (sp_move (.tmp 24) (bv false) rfl) ⟨.inl rfl, trivial⟩ trivial trivial ?_
 refine t_skip rfl ?_
 refine t_skip rfl ?_
 refine t_skip rfl ?_
 refine t_skip rfl ?_
 refine t_op rfl (sp_pick (.tmp 25) (.tmp 29) (.const (.bool false)) false (.v (.tuple #[])) (bv false) rfl) ⟨.inl rfl, .inl rfl, .inl rfl, trivial⟩ trivial trivial ?_
 refine t_op rfl (sp_move (.tmp 30) (bv false) rfl) ⟨.inl rfl, trivial⟩ trivial trivial ?_
 refine t_skip rfl ?_
 refine t_skip rfl ?_
 refine t_skip rfl ?_
 refine t_skip rfl ?_
 refine t_op rfl (sp_pick (.tmp 31) (.tmp 35) (.const (.bool false)) false (.v (.tuple #[])) (bv false) rfl) ⟨.inl rfl, .inl rfl, .inl rfl, trivial⟩ trivial trivial ?_
 refine t_op rfl (sp_assign (.tmp 36) (bv false) rfl) ⟨.inl rfl, trivial⟩ trivial trivial ?_
 refine tri_nil ?_
 refine tri_wk (wk_keep [(1, .box 27 (cFm q)), (2, .box 40 [bv false, bv false, bv false, bv false, bv false])] [(1, .box 1 0), (2, .box 2 0), (3, iv 0), (5, bv false), (6, bv false)] (n := 105) rfl (by kernel_rfl) (by kernel_rfl)) ?_
 rw [show (plI q) = false by simp only [plI, Bool.or_true, Bool.true_or, Bool.or_false, Bool.false_or, Bool.and_true, Bool.true_and, Bool.and_false, Bool.false_and, Bool.not_true, Bool.not_false, decide_eq_true hs1, decide_eq_false hs2]]
 exact t_meet trivial (wk_keep _ _ rfl (by kernel_rfl) (by kernel_rfl))
 refine t_then ?_
 refine tri_seq ?_
 refine t_cut (True) (ofL [(1, .box 27 (cFm q)), (2, .box 40 [bv false, bv false, bv false, bv false, bv false]), (3, .box 40 [bv (thI0 q), bv (plI q), bv (woI q), bv (trI q), bv (moI q)])]) (ofT 105 [(1, .box 1 0), (2, .box 2 0), (3, iv 0), (7, .box 3 0)]) ?_ (fun _ => ?_)
 by_cases hs5 : q.top = 1
 rw [dT hs5]
 refine tri_wk (wk_keep [(1, .box 27 (cFm q)), (2, .box 40 [bv false, bv false, bv false, bv false, bv false])] [(1, .box 1 0), (2, .box 2 0), (3, iv 0), (5, bv true), (6, bv (plI q))] (n := 105) rfl (by kernel_rfl) (by kernel_rfl)) ?_
 by_cases hs6 : (plI q) = true
 rw [hs6]
 refine tri_wk (wk_keep [(1, .box 27 (cFm q)), (2, .box 40 [bv false, bv false, bv false, bv false, bv false])] [(1, .box 1 0), (2, .box 2 0), (3, iv 0), (5, bv true), (6, bv true)] (n := 105) rfl (by kernel_rfl) (by kernel_rfl)) ?_
 by_cases hs7 : q.top = 2
 refine tri_region ?_
 refine t_op rfl (sp_move (.tmp 5) (bv true) rfl) ⟨.inl rfl, trivial⟩ trivial trivial ?_
 refine t_op rfl (sp_move (.tmp 37) (bv true) rfl) ⟨.inl rfl, trivial⟩ trivial trivial ?_
 refine t_opG rfl (sp_fieldBox (off' := 4) (.tmp 1) rfl Tryd.underlying27 rfl (z := 1) (by kernel_rfl) (by decide) rfl) ⟨.inl rfl, trivial⟩ trivial trivial ?_
 refine t_opG rfl (sp_loadBox1 (Y := .box 27 (cFm q)) (X := strsA q.vals) (.tmp 39) rfl Tryd.underlying22 rfl rfl) ⟨.inl rfl, trivial⟩ ⟨rfl, trivial⟩ trivial ?_
 refine t_opG rfl (sp_lenSl (.tmp 40) rfl Tryd.underlying22) ⟨.inl rfl, trivial⟩ trivial trivial ?_
 refine t_opG rfl (sp_eql rfl rfl) ⟨.inl rfl, .inl rfl, trivial⟩ trivial trivial ?_
 refine t_op rfl (sp_pick (.tmp 38) (.tmp 42) (.const (.bool false)) true (bv (decide (((q.vals.length : Nat) : Int) = 0))) (bv false) rfl) ⟨.inl rfl, .inl rfl, .inl rfl, trivial⟩ trivial trivial ?_
 refine t_op rfl (sp_move (.tmp 6) (bv true) rfl) ⟨.inl rfl, trivial⟩ trivial trivial ?_
 refine t_op rfl (sp_move (.tmp 6) (bv true) rfl) ⟨.inl rfl, trivial⟩ trivial trivial ?_
 refine t_op rfl (sp_move (.tmp 45) (bv true) rfl) ⟨.inl rfl, trivial⟩ trivial trivial ?_
 refine t_opG rfl (sp_fieldBox (off' := 2) (.tmp 1) rfl Tryd.underlying27 rfl (z := 1) (by kernel_rfl) (by decide) rfl) ⟨.inl rfl, trivial⟩ trivial trivial ?_
 refine t_opG rfl (sp_loadBox1 (Y := .box 27 (cFm q)) (X := strsA q.states) (.tmp 47) rfl Tryd.underlying22 rfl rfl) ⟨.inl rfl, trivial⟩ ⟨rfl, trivial⟩ trivial ?_
 refine t_opG rfl (sp_lenSl (.tmp 48) rfl Tryd.underlying22) ⟨.inl rfl, trivial⟩ trivial trivial ?_
 refine t_opG rfl (sp_leq rfl rfl) ⟨.inl rfl, .inl rfl, trivial⟩ trivial trivial ?_
 refine t_op rfl (sp_pick (.tmp 46) (.tmp 50) (.const (.bool false)) true (bv (decide (((q.states.length : Nat) : Int) ≤ 4))) (bv false) rfl) ⟨.inl rfl, .inl rfl, .inl rfl, trivial⟩ trivial trivial ?_
 refine t_op rfl (sp_fieldBox (off' := 1) (.tmp 1) rfl Tryd.underlying27 rfl (z := 1) (by kernel_rfl) (by decide) rfl) ⟨.inl rfl, trivial⟩ trivial trivial ?_
 refine t_op rfl (sp_loadBox1 (Y := .box 27 (cFm q)) (X := iv q.top) (.tmp 52) rfl Tryd.underlying3 rfl rfl) ⟨.inl rfl, trivial⟩ ⟨rfl, trivial⟩ trivial ?_
 refine t_op rfl (sp_eql rfl (dT hs7)) ⟨.inl rfl, .inl rfl, trivial⟩ trivial trivial ?_
 refine t_op rfl (sp_move (.tmp 54) (bv true) rfl) ⟨.inl rfl, trivial⟩ trivial trivial ?_
 refine t_skip rfl ?_
 refine t_skip rfl ?_
 refine t_skip rfl ?_
 refine t_op rfl (sp_pick (.tmp 55) (.const (.bool true)) (.tmp 58) true (bv true) (.v (.tuple #[])) rfl) ⟨.inl rfl, .inl rfl, .inl rfl, trivial⟩ trivial trivial ?_
 refine t_op rfl (sp_fieldBox (off' := 1) (.tmp 1) rfl Tryd.underlying27 rfl (z := 1) (by kernel_rfl) (by decide) rfl) ⟨.inl rfl, trivial⟩ trivial trivial ?_
 refine t_op rfl (sp_loadBox1 (Y := .box 27 (cFm q)) (X := iv q.top) (.tmp 60) rfl Tryd.underlying3 rfl rfl) ⟨.inl rfl, trivial⟩ ⟨rfl, trivial⟩ trivial ?_
 refine t_op rfl (sp_eql rfl rfl) ⟨.inl rfl, .inl rfl, trivial⟩ trivial trivial ?_
 refine t_op rfl (sp_bld [(.tmp 43, .bool (decide (((q.vals.length : Nat) : Int) = 0))), (.tmp 44, .bool true), (.tmp 51, .bool (decide (((q.states.length : Nat) : Int) ≤ 4))), (.tmp 59, .bool true), (.tmp 62, .bool (decide (q.top = 4)))] #[.bool (decide (((q.vals.length : Nat) : Int) = 0)), .bool true, .bool true, .bool (decide (q.top = 4)), .bool (decide (((q.states.length : Nat) : Int) ≤ 4))] rfl rfl (by kernel_rfl) rfl) ⟨.inl rfl, .inl rfl, .inl rfl, .inl rfl, .inl rfl, trivial⟩ trivial trivial ?_
 refine t_op rfl (sp_alloc (z := .agg #[.bool false, .bool false, .bool false, .bool false, .bool false]) (k := 3) rfl (by kernel_rfl)) trivial trivial rfl ?_
 refine t_op rfl (sp_storeBox (T0 := 40) (X := .agg [bv (decide (((q.vals.length : Nat) : Int) = 0)), bv true, bv true, bv (decide (q.top = 4)), bv (decide (((q.states.length : Nat) : Int) ≤ 4))]) (cs := [bv false, bv false, bv false, bv false, bv false]) (ds := [bv (decide (((q.vals.length : Nat) : Int) = 0)), bv true, bv true, bv (decide (q.top = 4)), bv (decide (((q.states.length : Nat) : Int) ≤ 4))]) (z := 5) (.tmp 7) (.tmp 63) rfl (by kernel_rfl) (by kernel_rfl) (by kernel_rfl) (of_decide_eq_true (by kernel_rfl)) (by kernel_rfl)) ⟨.inl rfl, .inl rfl, trivial⟩ ⟨rfl, trivial⟩ rfl ?_
 refine tri_nil ?_
 refine tri_wk (wk_keep [(1, .box 27 (cFm q)), (2, .box 40 [bv false, bv false, bv false, bv false, bv false]), (3, .box 40 [bv (decide (((q.vals.length : Nat) : Int) = 0)), bv true, bv true, bv (decide (q.top = 4)), bv (decide (((q.states.length : Nat) : Int) ≤ 4))])] [(1, .box 1 0), (2, .box 2 0), (3, iv 0), (7, .box 3 0)] (n := 105) rfl (by kernel_rfl) (by kernel_rfl)) ?_
 try rw [show (thI0 q) = (decide (((q.vals.length : Nat) : Int) = 0)) by simp only [thI0, Bool.or_true, Bool.true_or, Bool.or_false, Bool.false_or, Bool.and_true, Bool.true_and, Bool.and_false, Bool.false_and, Bool.not_true, Bool.not_false, decide_eq_true hs1, decide_eq_true hs5, hs6, decide_eq_true hs7]]
 try rw [show (plI q) = true by simp only [plI, Bool.or_true, Bool.true_or, Bool.or_false, Bool.false_or, Bool.and_true, Bool.true_and, Bool.and_false, Bool.false_and, Bool.not_true, Bool.not_false, decide_eq_true hs1, decide_eq_true hs5, hs6, decide_eq_true hs7]]
 try rw [show (woI q) = true by simp only [woI, Bool.or_true, Bool.true_or, Bool.or_false, Bool.false_or, Bool.and_true, Bool.true_and, Bool.and_false, Bool.false_and, Bool.not_true, Bool.not_false, decide_eq_true hs1, decide_eq_true hs5, hs6, decide_eq_true hs7]]
 try rw [show (trI q) = (decide (q.top = 4)) by simp only [trI, Bool.or_true, Bool.true_or, Bool.or_false, Bool.false_or, Bool.and_true, Bool.true_and, Bool.and_false, Bool.false_and, Bool.not_true, Bool.not_false, decide_eq_true hs1, decide_eq_true hs5, hs6, decide_eq_true hs7]]
 try rw [show (moI q) = (decide (((q.states.length : Nat) : Int) ≤ 4)) by simp only [moI, Bool.or_true, Bool.true_or, Bool.or_false, Bool.false_or, Bool.and_true, Bool.true_and, Bool.and_false, Bool.false_and, Bool.not_true, Bool.not_false, decide_eq_true hs1, decide_eq_true hs5, hs6, decide_eq_true hs7]]
 exact t_meet trivial (wk_keep _ _ rfl (by kernel_rfl) (by kernel_rfl))
 refine tri_region ?_
 refine t_op rfl (sp_move (.tmp 5) (bv true) rfl) ⟨.inl rfl, trivial⟩ trivial trivial ?_
 refine t_op rfl (sp_move (.tmp 37) (bv true) rfl) ⟨.inl rfl, trivial⟩ trivial trivial ?_
 refine t_opG rfl (sp_fieldBox (off' := 4) (.tmp 1) rfl Tryd.underlying27 rfl (z := 1) (by kernel_rfl) (by decide) rfl) ⟨.inl rfl, trivial⟩ trivial trivial ?_
 refine t_opG rfl (sp_loadBox1 (Y := .box 27 (cFm q)) (X := strsA q.vals) (.tmp 39) rfl Tryd.underlying22 rfl rfl) ⟨.inl rfl, trivial⟩ ⟨rfl, trivial⟩ trivial ?_
 refine t_opG rfl (sp_lenSl (.tmp 40) rfl Tryd.underlying22) ⟨.inl rfl, trivial⟩ trivial trivial ?_
 refine t_opG rfl (sp_eql rfl rfl) ⟨.inl rfl, .inl rfl, trivial⟩ trivial trivial ?_
 refine t_op rfl (sp_pick (.tmp 38) (.tmp 42) (.const (.bool false)) true (bv (decide (((q.vals.length : Nat) : Int) = 0))) (bv false) rfl) ⟨.inl rfl, .inl rfl, .inl rfl, trivial⟩ trivial trivial ?_
 refine t_op rfl (sp_move (.tmp 6) (bv true) rfl) ⟨.inl rfl, trivial⟩ trivial trivial ?_
 refine t_op rfl (sp_move (.tmp 6) (bv true) rfl) ⟨.inl rfl, trivial⟩ trivial trivial ?_
 refine t_op rfl (sp_move (.tmp 45) (bv true) rfl) ⟨.inl rfl, trivial⟩ trivial trivial ?_
 refine t_opG rfl (sp_fieldBox (off' := 2) (.tmp 1) rfl Tryd.underlying27 rfl (z := 1) (by kernel_rfl) (by decide) rfl) ⟨.inl rfl, trivial⟩ trivial trivial ?_
 refine t_opG rfl (sp_loadBox1 (Y := .box 27 (cFm q)) (X := strsA q.states) (.tmp 47) rfl Tryd.underlying22 rfl rfl) ⟨.inl rfl, trivial⟩ ⟨rfl, trivial⟩ trivial ?_
 refine t_opG rfl (sp_lenSl (.tmp 48) rfl Tryd.underlying22) ⟨.inl rfl, trivial⟩ trivial trivial ?_
 refine t_opG rfl (sp_leq rfl rfl) ⟨.inl rfl, .inl rfl, trivial⟩ trivial trivial ?_
 refine t_op rfl (sp_pick (.tmp 46) (.tmp 50) (.const (.bool false)) true (bv (decide (((q.states.length : Nat) : Int) ≤ 4))) (bv false) rfl) ⟨.inl rfl, .inl rfl, .inl rfl, trivial⟩ trivial trivial ?_
 refine t_op rfl (sp_fieldBox (off' := 1) (.tmp 1) rfl Tryd.underlying27 rfl (z := 1) (by kernel_rfl) (by decide) rfl) ⟨.inl rfl, trivial⟩ trivial trivial ?_
 refine t_op rfl (sp_loadBox1 (Y := .box 27 (cFm q)) (X := iv q.top) (.tmp 52) rfl Tryd.underlying3 rfl rfl) ⟨.inl rfl, trivial⟩ ⟨rfl, trivial⟩ trivial ?_
 refine t_op rfl (sp_eql rfl (dF hs7)) ⟨.inl rfl, .inl rfl, trivial⟩ trivial trivial ?_
 refine t_op rfl (sp_move (.tmp 54) (bv false) rfl) ⟨.inl rfl, trivial⟩ trivial trivial ?_
 refine t_opG rfl (sp_fieldBox (off' := 1) (.tmp 1) rfl Tryd.underlying27 rfl (z := 1) (by kernel_rfl) (by decide) rfl) ⟨.inl rfl, trivial⟩ trivial trivial ?_
 refine t_opG rfl (sp_loadBox1 (Y := .box 27 (cFm q)) (X := iv q.top) (.tmp 56) rfl Tryd.underlying3 rfl rfl) ⟨.inl rfl, trivial⟩ ⟨rfl, trivial⟩ trivial ?_
 refine t_opG rfl (sp_eql rfl rfl) ⟨.inl rfl, .inl rfl, trivial⟩ trivial trivial ?_
 refine t_op rfl (sp_pick (.tmp 55) (.const (.bool true)) (.tmp 58) false (bv true) (bv (decide (q.top = 3))) rfl) ⟨.inl rfl, .inl rfl, .inl rfl, trivial⟩ trivial trivial ?_
 refine t_op rfl (sp_fieldBox (off' := 1) (.tmp 1) rfl Tryd.underlying27 rfl (z := 1) (by kernel_rfl) (by decide) rfl) ⟨.inl rfl, trivial⟩ trivial trivial ?_
 refine t_op rfl (sp_loadBox1 (Y := .box 27 (cFm q)) (X := iv q.top) (.tmp 60) rfl Tryd.underlying3 rfl rfl) ⟨.inl rfl, trivial⟩ ⟨rfl, trivial⟩ trivial ?_
 refine t_op rfl (sp_eql rfl rfl) ⟨.inl rfl, .inl rfl, trivial⟩ trivial trivial ?_
 refine t_op rfl (sp_bld [(.tmp 43, .bool (decide (((q.vals.length : Nat) : Int) = 0))), (.tmp 44, .bool true), (.tmp 51, .bool (decide (((q.states.length : Nat) : Int) ≤ 4))), (.tmp 59, .bool (decide (q.top = 3))), (.tmp 62, .bool (decide (q.top = 4)))] #[.bool (decide (((q.vals.length : Nat) : Int) = 0)), .bool true, .bool (decide (q.top = 3)), .bool (decide (q.top = 4)), .bool (decide (((q.states.length : Nat) : Int) ≤ 4))] rfl rfl (by kernel_rfl) rfl) ⟨.inl rfl, .inl rfl, .inl rfl, .inl rfl, .inl rfl, trivial⟩ trivial trivial ?_
 refine t_op rfl (sp_alloc (z := .agg #[.bool false, .bool false, .bool false, .bool false, .bool false]) (k := 3) rfl (by kernel_rfl)) trivial trivial rfl ?_
 refine t_op rfl (sp_storeBox (T0 := 40) (X := .agg [bv (decide (((q.vals.length : Nat) : Int) = 0)), bv true, bv (decide (q.top = 3)), bv (decide (q.top = 4)), bv (decide (((q.states.length : Nat) : Int) ≤ 4))]) (cs := [bv false, bv false, bv false, bv false, bv false]) (ds := [bv (decide (((q.vals.length : Nat) : Int) = 0)), bv true, bv (decide (q.top = 3)), bv (decide (q.top = 4)), bv (decide (((q.states.length : Nat) : Int) ≤ 4))]) (z := 5) (.tmp 7) (.tmp 63) rfl (by kernel_rfl) (by kernel_rfl) (by kernel_rfl) (of_decide_eq_true (by kernel_rfl)) (by kernel_rfl)) ⟨.inl rfl, .inl rfl, trivial⟩ ⟨rfl, trivial⟩ rfl ?_
 refine tri_nil ?_
 refine tri_wk (wk_keep [(1, .box 27 (cFm q)), (2, .box 40 [bv false, bv false, bv false, bv false, bv false]), (3, .box 40 [bv (decide (((q.vals.length : Nat) : Int) = 0)), bv true, bv (decide (q.top = 3)), bv (decide (q.top = 4)), bv (decide (((q.states.length : Nat) : Int) ≤ 4))])] [(1, .box 1 0), (2, .box 2 0), (3, iv 0), (7, .box 3 0)] (n := 105) rfl (by kernel_rfl) (by kernel_rfl)) ?_
 try rw [show (thI0 q) = (decide (((q.vals.length : Nat) : Int) = 0)) by simp only [thI0, Bool.or_true, Bool.true_or, Bool.or_false, Bool.false_or, Bool.and_true, Bool.true_and, Bool.and_false, Bool.false_and, Bool.not_true, Bool.not_false, decide_eq_true hs1, decide_eq_true hs5, hs6, decide_eq_false hs7]]
 try rw [show (plI q) = true by simp only [plI, Bool.or_true, Bool.true_or, Bool.or_false, Bool.false_or, Bool.and_true, Bool.true_and, Bool.and_false, Bool.false_and, Bool.not_true, Bool.not_false, decide_eq_true hs1, decide_eq_true hs5, hs6, decide_eq_false hs7]]
 try rw [show (woI q) = (decide (q.top = 3)) by simp only [woI, Bool.or_true, Bool.true_or, Bool.or_false, Bool.false_or, Bool.and_true, Bool.true_and, Bool.and_false, Bool.false_and, Bool.not_true, Bool.not_false, decide_eq_true hs1, decide_eq_true hs5, hs6, decide_eq_false hs7]]
 try rw [show (trI q) = (decide (q.top = 4)) by simp only [trI, Bool.or_true, Bool.true_or, Bool.or_false, Bool.false_or, Bool.and_true, Bool.true_and, Bool.and_false, Bool.false_and, Bool.not_true, Bool.not_false, decide_eq_true hs1, decide_eq_true hs5, hs6, decide_eq_false hs7]]
 try rw [show (moI q) = (decide (((q.states.length : Nat) : Int) ≤ 4)) by simp only [moI, Bool.or_true, Bool.true_or, Bool.or_false, Bool.false_or, Bool.and_true, Bool.true_and, Bool.and_false, Bool.false_and, Bool.not_true, Bool.not_false, decide_eq_true hs1, decide_eq_true hs5, hs6, decide_eq_false hs7]]
 exact t_meet trivial (wk_keep _ _ rfl (by kernel_rfl) (by kernel_rfl))
 have hs6f : (plI q) = false := by simpa using hs6
 rw [hs6f]
 refine tri_wk (wk_keep [(1, .box 27 (cFm q)), (2, .box 40 [bv false, bv false, bv false, bv false, bv false])] [(1, .box 1 0), (2, .box 2 0), (3, iv 0), (5, bv true), (6, bv false)] (n := 105) rfl (by kernel_rfl) (by kernel_rfl)) ?_
 by_cases hs8 : q.top = 2
 refine tri_region ?_
 refine t_op rfl (sp_move (.tmp 5) (bv true) rfl) ⟨.inl rfl, trivial⟩ trivial trivial ?_
 refine t_op rfl (sp_move (.tmp 37) (bv true) rfl) ⟨.inl rfl, trivial⟩ trivial trivial ?_
 refine t_opG rfl (sp_fieldBox (off' := 4) (.tmp 1) rfl Tryd.underlying27 rfl (z := 1) (by kernel_rfl) (by decide) rfl) ⟨.inl rfl, trivial⟩ trivial trivial ?_
 refine t_opG rfl (sp_loadBox1 (Y := .box 27 (cFm q)) (X := strsA q.vals) (.tmp 39) rfl Tryd.underlying22 rfl rfl) ⟨.inl rfl, trivial⟩ ⟨rfl, trivial⟩ trivial ?_
 refine t_opG rfl (sp_lenSl (.tmp 40) rfl Tryd.underlying22) ⟨.inl rfl, trivial⟩ trivial trivial ?_
 refine t_opG rfl (sp_eql rfl rfl) ⟨.inl rfl, .inl rfl, trivial⟩ trivial trivial ?_
 refine t_op rfl (sp_pick (.tmp 38) (.tmp 42) (.const (.bool false)) true (bv (decide (((q.vals.length : Nat) : Int) = 0))) (bv false) rfl) ⟨.inl rfl, .inl rfl, .inl rfl, trivial⟩ trivial trivial ?_
 refine t_op rfl (sp_move (.tmp 6) (bv false) rfl) ⟨.inl rfl, trivial⟩ trivial trivial ?_
 refine t_op rfl (sp_move (.tmp 6) (bv false) rfl) ⟨.inl rfl, trivial⟩ trivial trivial ?_
 refine t_op rfl (sp_move (.tmp 45) (bv false) rfl) ⟨.inl rfl, trivial⟩ trivial trivial ?_
 refine t_skip rfl ?_
 refine t_skip rfl ?_
 refine t_skip rfl ?_
 refine t_skip rfl ?_
 refine t_op rfl (sp_pick (.tmp 46) (.tmp 50) (.const (.bool false)) false (.v (.tuple #[])) (bv false) rfl) ⟨.inl rfl, .inl rfl, .inl rfl, trivial⟩ trivial trivial ?_
 refine t_op rfl (sp_fieldBox (off' := 1) (.tmp 1) rfl Tryd.underlying27 rfl (z := 1) (by kernel_rfl) (by decide) rfl) ⟨.inl rfl, trivial⟩ trivial trivial ?_
 refine t_op rfl (sp_loadBox1 (Y := .box 27 (cFm q)) (X := iv q.top) (.tmp 52) rfl Tryd.underlying3 rfl rfl) ⟨.inl rfl, trivial⟩ ⟨rfl, trivial⟩ trivial ?_
 refine t_op rfl (sp_eql rfl (dT hs8)) ⟨.inl rfl, .inl rfl, trivial⟩ trivial trivial ?_
 refine t_op rfl (sp_move (.tmp 54) (bv true) rfl) ⟨.inl rfl, trivial⟩ trivial trivial ?_
 refine t_skip rfl ?_
 refine t_skip rfl ?_
 refine t_skip rfl ?_
 refine t_op rfl (sp_pick (.tmp 55) (.const (.bool true)) (.tmp 58) true (bv true) (.v (.tuple #[])) rfl) ⟨.inl rfl, .inl rfl, .inl rfl, trivial⟩ trivial trivial ?_
 refine t_op rfl (sp_fieldBox (off' := 1) (.tmp 1) rfl Tryd.underlying27 rfl (z := 1) (by kernel_rfl) (by decide) rfl) ⟨.inl rfl, trivial⟩ trivial trivial ?_
 refine t_op rfl (sp_loadBox1 (Y := .box 27 (cFm q)) (X := iv q.top) (.tmp 60) rfl Tryd.underlying3 rfl rfl) ⟨.inl rfl, trivial⟩ ⟨rfl, trivial⟩ trivial ?_
 refine t_op rfl (sp_eql rfl rfl) ⟨.inl rfl, .inl rfl, trivial⟩ trivial trivial ?_
 refine t_op rfl (sp_bld [(.tmp 43, .bool (decide (((q.vals.length : Nat) : Int) = 0))), (.tmp 44, .bool false), (.tmp 51, .bool false), (.tmp 59, .bool true), (.tmp 62, .bool (decide (q.top = 4)))] #[.bool (decide (((q.vals.length : Nat) : Int) = 0)), .bool false, .bool true, .bool (decide (q.top = 4)), .bool false] rfl rfl (by kernel_rfl) rfl) ⟨.inl rfl, .inl rfl, .inl rfl, .inl rfl, .inl rfl, trivial⟩ trivial trivial ?_
 refine t_op rfl (sp_alloc (z := .agg #[.bool false, .bool false, .bool false, .bool false, .bool false]) (k := 3) rfl (by kernel_rfl)) trivial trivial rfl ?_
 refine t_op rfl (sp_storeBox (T0 := 40) (X := .agg [bv (decide (((q.vals.length : Nat) : Int) = 0)), bv false, bv true, bv (decide (q.top = 4)), bv false]) (cs := [bv false, bv false, bv false, bv false, bv false]) (ds := [bv (decide (((q.vals.length : Nat) : Int) = 0)), bv false, bv true, bv (decide (q.top = 4)), bv false]) (z := 5) (.tmp 7) (.tmp 63) rfl (by kernel_rfl) (by kernel_rfl) (by kernel_rfl) (of_decide_eq_true (by kernel_rfl)) (by kernel_rfl)) ⟨.inl rfl, .inl rfl, trivial⟩ ⟨rfl, trivial⟩ rfl ?_
 refine tri_nil ?_
 refine tri_wk (wk_keep [(1, .box 27 (cFm q)), (2, .box 40 [bv false, bv false, bv false, bv false, bv false]), (3, .box 40 [bv (decide (((q.vals.length : Nat) : Int) = 0)), bv false, bv true, bv (decide (q.top = 4)), bv false])] [(1, .box 1 0), (2, .box 2 0), (3, iv 0), (7, .box 3 0)] (n := 105) rfl (by kernel_rfl) (by kernel_rfl)) ?_
 try rw [show (thI0 q) = (decide (((q.vals.length : Nat) : Int) = 0)) by simp only [thI0, Bool.or_true, Bool.true_or, Bool.or_false, Bool.false_or, Bool.and_true, Bool.true_and, Bool.and_false, Bool.false_and, Bool.not_true, Bool.not_false, decide_eq_true hs1, decide_eq_true hs5, hs6f, decide_eq_true hs8]]
 try rw [show (plI q) = false by simp only [plI, Bool.or_true, Bool.true_or, Bool.or_false, Bool.false_or, Bool.and_true, Bool.true_and, Bool.and_false, Bool.false_and, Bool.not_true, Bool.not_false, decide_eq_true hs1, decide_eq_true hs5, hs6f, decide_eq_true hs8]]
 try rw [show (woI q) = true by simp only [woI, Bool.or_true, Bool.true_or, Bool.or_false, Bool.false_or, Bool.and_true, Bool.true_and, Bool.and_false, Bool.false_and, Bool.not_true, Bool.not_false, decide_eq_true hs1, decide_eq_true hs5, hs6f, decide_eq_true hs8]]
 try rw [show (trI q) = (decide (q.top = 4)) by simp only [trI, Bool.or_true, Bool.true_or, Bool.or_false, Bool.false_or, Bool.and_true, Bool.true_and, Bool.and_false, Bool.false_and, Bool.not_true, Bool.not_false, decide_eq_true hs1, decide_eq_true hs5, hs6f, decide_eq_true hs8]]
 try rw [show (moI q) = false by simp only [moI, Bool.or_true, Bool.true_or, Bool.or_false, Bool.false_or, Bool.and_true, Bool.true_and, Bool.and_false, Bool.false_and, Bool.not_true, Bool.not_false, decide_eq_true hs1, decide_eq_true hs5, hs6f, decide_eq_true hs8]]
 exact t_meet trivial (wk_keep _ _ rfl (by kernel_rfl) (by kernel_rfl))
 refine tri_region ?_
 refine t_op rfl (sp_move (.tmp 5) (bv true) rfl) ⟨.inl rfl, trivial⟩ trivial trivial ?_
 refine t_op rfl (sp_move (.tmp 37) (bv true) rfl) ⟨.inl rfl, trivial⟩ trivial trivial ?_
 refine t_opG rfl (sp_fieldBox (off' := 4) (.tmp 1) rfl Tryd.underlying27 rfl (z := 1) (by kernel_rfl) (by decide) rfl) ⟨.inl rfl, trivial⟩ trivial trivial ?_
 refine t_opG rfl (sp_loadBox1 (Y := .box 27 (cFm q)) (X := strsA q.vals) (.tmp 39) rfl Tryd.underlying22 rfl rfl) ⟨.inl rfl, trivial⟩ ⟨rfl, trivial⟩ trivial ?_
 refine t_opG rfl (sp_lenSl (.tmp 40) rfl Tryd.underlying22) ⟨.inl rfl, trivial⟩ trivial trivial ?_
 refine t_opG rfl (sp_eql rfl rfl) ⟨.inl rfl, .inl rfl, trivial⟩ trivial trivial ?_
 refine t_op rfl (sp_pick (.tmp 38) (.tmp 42) (.const (.bool false)) true (bv (decide (((q.vals.length : Nat) : Int) = 0))) (bv false) rfl) ⟨.inl rfl, .inl rfl, .inl rfl, trivial⟩ trivial trivial ?_
 refine t_op rfl (sp_move (.tmp 6) (bv false) rfl) ⟨.inl rfl, trivial⟩ trivial trivial ?_
 refine t_op rfl (sp_move (.tmp 6) (bv false) rfl) ⟨.inl rfl, trivial⟩ trivial trivial ?_
 refine t_op rfl (sp_move (.tmp 45) (bv false) rfl) ⟨.inl rfl, trivial⟩ trivial trivial ?_
 refine t_skip rfl ?_
 refine t_skip rfl ?_
 refine t_skip rfl ?_
 refine t_skip rfl ?_
 refine t_op rfl (sp_pick (.tmp 46) (.tmp 50) (.const (.bool false)) false (.v (.tuple #[])) (bv false) rfl) ⟨.inl rfl, .inl rfl, .inl rfl, trivial⟩ trivial trivial ?_
 refine t_op rfl (sp_fieldBox (off' := 1) (.tmp 1) rfl Tryd.underlying27 rfl (z := 1) (by kernel_rfl) (by decide) rfl) ⟨.inl rfl, trivial⟩ trivial trivial ?_
 refine t_op rfl (sp_loadBox1 (Y := .box 27 (cFm q)) (X := iv q.top) (.tmp 52) rfl Tryd.underlying3 rfl rfl) ⟨.inl rfl, trivial⟩ ⟨rfl, trivial⟩ trivial ?_
 refine t_op rfl (sp_eql rfl (dF hs8)) ⟨.inl rfl, .inl rfl, trivial⟩ trivial trivial ?_
 refine t_op rfl (sp_move (.tmp 54) (bv false) rfl) ⟨.inl rfl, trivial⟩ trivial trivial ?_
 refine t_opG rfl (sp_fieldBox (off' := 1) (.tmp 1) rfl Tryd.underlying27 rfl (z := 1) (by kernel_rfl) (by decide) rfl) ⟨.inl rfl, trivial⟩ trivial trivial ?_
 refine t_opG rfl (sp_loadBox1 (Y := .box 27 (cFm q)) (X := iv q.top) (.tmp 56) rfl Tryd.underlying3 rfl rfl) ⟨.inl rfl, trivial⟩ ⟨rfl, trivial⟩ trivial ?_
 refine t_opG rfl (sp_eql rfl rfl) ⟨.inl rfl, .inl rfl, trivial⟩ trivial trivial ?_
 refine t_op rfl (sp_pick (.tmp 55) (.const (.bool true)) (.tmp 58) false (bv true) (bv (decide (q.top = 3))) rfl) ⟨.inl rfl, .inl rfl, .inl rfl, trivial⟩ trivial trivial ?_
 refine t_op rfl (sp_fieldBox (off' := 1) (.tmp 1) rfl Tryd.underlying27 rfl (z := 1) (by kernel_rfl) (by decide) rfl) ⟨.inl rfl, trivial⟩ trivial trivial ?_
 refine t_op rfl (sp_loadBox1 (Y := .box 27 (cFm q)) (X := iv q.top) (.tmp 60) rfl Tryd.underlying3 rfl rfl) ⟨.inl rfl, trivial⟩ ⟨rfl, trivial⟩ trivial ?_
 refine t_op rfl (sp_eql rfl rfl) ⟨.inl rfl, .inl rfl, trivial⟩ trivial trivial ?_
 refine t_op rfl (sp_bld [(.tmp 43, .bool (decide (((q.vals.length : Nat) : Int) = 0))), (.tmp 44, .bool false), (.tmp 51, .bool false), (.tmp 59, .bool (decide (q.top = 3))), (.tmp 62, .bool (decide (q.top = 4)))] #[.bool (decide (((q.vals.length : Nat) : Int) = 0)), .bool false, .bool (decide (q.top = 3)), .bool (decide (q.top = 4)), .bool false] rfl rfl (by kernel_rfl) rfl) ⟨.inl rfl, .inl rfl, .inl rfl, .inl rfl, .inl rfl, trivial⟩ trivial trivial ?_
 refine t_op rfl (sp_alloc (z := .agg #[.bool false, .bool false, .bool false, .bool false, .bool false]) (k := 3) rfl (by kernel_rfl)) trivial trivial rfl ?_
 refine t_op rfl (sp_storeBox (T0 := 40) (X := .agg [bv (decide (((q.vals.length : Nat) : Int) = 0)), bv false, bv (decide (q.top = 3)), bv (decide (q.top = 4)), bv false]) (cs := [bv false, bv false, bv false, bv false, bv false]) (ds := [bv (decide (((q.vals.length : Nat) : Int) = 0)), bv false, bv (decide (q.top = 3)), bv (decide (q.top = 4)), bv false]) (z := 5) (.tmp 7) (.tmp 63) rfl (by kernel_rfl) (by kernel_rfl) (by kernel_rfl) (of_decide_eq_true (by kernel_rfl)) (by kernel_rfl)) ⟨.inl rfl, .inl rfl, trivial⟩ ⟨rfl, trivial⟩ rfl ?_
 refine tri_nil ?_
 refine tri_wk (wk_keep [(1, .box 27 (cFm q)), (2, .box 40 [bv false, bv false, bv false, bv false, bv false]), (3, .box 40 [bv (decide (((q.vals.length : Nat) : Int) = 0)), bv false, bv (decide (q.top = 3)), bv (decide (q.top = 4)), bv false])] [(1, .box 1 0), (2, .box 2 0), (3, iv 0), (7, .box 3 0)] (n := 105) rfl (by kernel_rfl) (by kernel_rfl)) ?_
 try rw [show (thI0 q) = (decide (((q.vals.length : Nat) : Int) = 0)) by simp only [thI0, Bool.or_true, Bool.true_or, Bool.or_false, Bool.false_or, Bool.and_true, Bool.true_and, Bool.and_false, Bool.false_and, Bool.not_true, Bool.not_false, decide_eq_true hs1, decide_eq_true hs5, hs6f, decide_eq_false hs8]]
 try rw [show (plI q) = false by simp only [plI, Bool.or_true, Bool.true_or, Bool.or_false, Bool.false_or, Bool.and_true, Bool.true_and, Bool.and_false, Bool.false_and, Bool.not_true, Bool.not_false, decide_eq_true hs1, decide_eq_true hs5, hs6f, decide_eq_false hs8]]
 try rw [show (woI q) = (decide (q.top = 3)) by simp only [woI, Bool.or_true, Bool.true_or, Bool.or_false, Bool.false_or, Bool.and_true, Bool.true_and, Bool.and_false, Bool.false_and, Bool.not_true, Bool.not_false, decide_eq_true hs1, decide_eq_true hs5, hs6f, decide_eq_false hs8]]
 try rw [show (trI q) = (decide (q.top = 4)) by simp only [trI, Bool.or_true, Bool.true_or, Bool.or_false, Bool.false_or, Bool.and_true, Bool.true_and, Bool.and_false, Bool.false_and, Bool.not_true, Bool.not_false, decide_eq_true hs1, decide_eq_true hs5, hs6f, decide_eq_false hs8]]
 try rw [show (moI q) = false by simp only [moI, Bool.or_true, Bool.true_or, Bool.or_false, Bool.false_or, Bool.and_true, Bool.true_and, Bool.and_false, Bool.false_and, Bool.not_true, Bool.not_false, decide_eq_true hs1, decide_eq_true hs5, hs6f, decide_eq_false hs8]]
 exact t_meet trivial (wk_keep _ _ rfl (by kernel_rfl) (by kernel_rfl))
 rw [dF hs5]
 refine tri_wk (wk_keep [(1, .box 27 (cFm q)), (2, .box 40 [bv false, bv false, bv false, bv false, bv false])] [(1, .box 1 0), (2, .box 2 0), (3, iv 0), (5, bv false), (6, bv (plI q))] (n := 105) rfl (by kernel_rfl) (by kernel_rfl)) ?_
 by_cases hs9 : (plI q) = true
 rw [hs9]
 refine tri_wk (wk_keep [(1, .box 27 (cFm q)), (2, .box 40 [bv false, bv false, bv false, bv false, bv false])] [(1, .box 1 0), (2, .box 2 0), (3, iv 0), (5, bv false), (6, bv true)] (n := 105) rfl (by kernel_rfl) (by kernel_rfl)) ?_
 by_cases hs10 : q.top = 2
 refine tri_region ?_
 refine t_op rfl (sp_move (.tmp 5) (bv false) rfl) ⟨.inl rfl, trivial⟩ trivial trivial ?_
 refine t_op rfl (sp_move (.tmp 37) (bv false) rfl) ⟨.inl rfl, trivial⟩ trivial trivial ?_
 refine t_skip rfl ?_
 refine t_skip rfl ?_
 refine t_skip rfl ?_
 refine t_skip rfl ?_
 refine t_op rfl (sp_pick (.tmp 38) (.tmp 42) (.const (.bool false)) false (.v (.tuple #[])) (bv false) rfl) ⟨.inl rfl, .inl rfl, .inl rfl, trivial⟩ trivial trivial ?_
 refine t_op rfl (sp_move (.tmp 6) (bv true) rfl) ⟨.inl rfl, trivial⟩ trivial trivial ?_
 refine t_op rfl (sp_move (.tmp 6) (bv true) rfl) ⟨.inl rfl, trivial⟩ trivial trivial ?_
 refine t_op rfl (sp_move (.tmp 45) (bv true) rfl) ⟨.inl rfl, trivial⟩ trivial trivial ?_
 refine t_opG rfl (sp_fieldBox (off' := 2) (.tmp 1) rfl Tryd.underlying27 rfl (z := 1) (by kernel_rfl) (by decide) rfl) ⟨.inl rfl, trivial⟩ trivial trivial ?_
 refine t_opG rfl (sp_loadBox1 (Y := .box 27 (cFm q)) (X := strsA q.states) (.tmp 47) rfl Tryd.underlying22 rfl rfl) ⟨.inl rfl, trivial⟩ ⟨rfl, trivial⟩ trivial ?_
 refine t_opG rfl (sp_lenSl (.tmp 48) rfl Tryd.underlying22) ⟨.inl rfl, trivial⟩ trivial trivial ?_
 refine t_opG rfl (sp_leq rfl rfl) ⟨.inl rfl, .inl rfl, trivial⟩ trivial trivial ?_
 refine t_op rfl (sp_pick (.tmp 46) (.tmp 50) (.const (.bool false)) true (bv (decide (((q.states.length : Nat) : Int) ≤ 4))) (bv false) rfl) ⟨.inl rfl, .inl rfl, .inl rfl, trivial⟩ trivial trivial ?_
 refine t_op rfl (sp_fieldBox (off' := 1) (.tmp 1) rfl Tryd.underlying27 rfl (z := 1) (by kernel_rfl) (by decide) rfl) ⟨.inl rfl, trivial⟩ trivial trivial ?_
 refine t_op rfl (sp_loadBox1 (Y := .box 27 (cFm q)) (X := iv q.top) (.tmp 52) rfl Tryd.underlying3 rfl rfl) ⟨.inl rfl, trivial⟩ ⟨rfl, trivial⟩ trivial ?_
 refine t_op rfl (sp_eql rfl (dT hs10)) ⟨.inl rfl, .inl rfl, trivial⟩ trivial trivial ?_
 refine t_op rfl (sp_move (.tmp 54) (bv true) rfl) ⟨.inl rfl, trivial⟩ trivial trivial ?_
 refine t_skip rfl ?_
 refine t_skip rfl ?_
 refine t_skip rfl ?_
 refine t_op rfl (sp_pick (.tmp 55) (.const (.bool true)) (.tmp 58) true (bv true) (.v (.tuple #[])) rfl) ⟨.inl rfl, .inl rfl, .inl rfl, trivial⟩ trivial trivial ?_
 refine t_op rfl (sp_fieldBox (off' := 1) (.tmp 1) rfl Tryd.underlying27 rfl (z := 1) (by kernel_rfl) (by decide) rfl) ⟨.inl rfl, trivial⟩ trivial trivial ?_
 refine t_op rfl (sp_loadBox1 (Y := .box 27 (cFm q)) (X := iv q.top) (.tmp 60) rfl Tryd.underlying3 rfl rfl) ⟨.inl rfl, trivial⟩ ⟨rfl, trivial⟩ trivial ?_
 refine t_op rfl (sp_eql rfl rfl) ⟨.inl rfl, .inl rfl, trivial⟩ trivial trivial ?_
 refine t_op rfl (sp_bld [(.tmp 43, .bool false), (.tmp 44, .bool true), (.tmp 51, .bool (decide (((q.states.length : Nat) : Int) ≤ 4))), (.tmp 59, .bool true), (.tmp 62, .bool (decide (q.top = 4)))] #[.bool false, .bool true, .bool true, .bool (decide (q.top = 4)), .bool (decide (((q.states.length : Nat) : Int) ≤ 4))] rfl rfl (by kernel_rfl) rfl) ⟨.inl rfl, .inl rfl, .inl rfl, .inl rfl, .inl rfl, trivial⟩ trivial trivial ?_
 refine t_op rfl (sp_alloc (z := .agg #[.bool false, .bool false, .bool false, .bool false, .bool false]) (k := 3) rfl (by kernel_rfl)) trivial trivial rfl ?_
 refine t_op rfl (sp_storeBox (T0 := 40) (X := .agg [bv false, bv true, bv true, bv (decide (q.top = 4)), bv (decide (((q.states.length : Nat) : Int) ≤ 4))]) (cs := [bv false, bv false, bv false, bv false, bv false]) (ds := [bv false, bv true, bv true, bv (decide (q.top = 4)), bv (decide (((q.states.length : Nat) : Int) ≤ 4))]) (z := 5) (.tmp 7) (.tmp 63) rfl (by kernel_rfl) (by kernel_rfl) (by kernel_rfl) (of_decide_eq_true (by kernel_rfl)) (by kernel_rfl)) ⟨.inl rfl, .inl rfl, trivial⟩ ⟨rfl, trivial⟩ rfl ?_
 refine tri_nil ?_
 refine tri_wk (wk_keep [(1, .box 27 (cFm q)), (2, .box 40 [bv false, bv false, bv false, bv false, bv false]), (3, .box 40 [bv false, bv true, bv true, bv (decide (q.top = 4)), bv (decide (((q.states.length : Nat) : Int) ≤ 4))])] [(1, .box 1 0), (2, .box 2 0), (3, iv 0), (7, .box 3 0)] (n := 105) rfl (by kernel_rfl) (by kernel_rfl)) ?_
 try rw [show (thI0 q) = false by simp only [thI0, Bool.or_true, Bool.true_or, Bool.or_false, Bool.false_or, Bool.and_true, Bool.true_and, Bool.and_false, Bool.false_and, Bool.not_true, Bool.not_false, decide_eq_true hs1, decide_eq_false hs5, hs9, decide_eq_true hs10]]
 try rw [show (plI q) = true by simp only [plI, Bool.or_true, Bool.true_or, Bool.or_false, Bool.false_or, Bool.and_true, Bool.true_and, Bool.and_false, Bool.false_and, Bool.not_true, Bool.not_false, decide_eq_true hs1, decide_eq_false hs5, hs9, decide_eq_true hs10]]
 try rw [show (woI q) = true by simp only [woI, Bool.or_true, Bool.true_or, Bool.or_false, Bool.false_or, Bool.and_true, Bool.true_and, Bool.and_false, Bool.false_and, Bool.not_true, Bool.not_false, decide_eq_true hs1, decide_eq_false hs5, hs9, decide_eq_true hs10]]
 try rw [show (trI q) = (decide (q.top = 4)) by simp only [trI, Bool.or_true, Bool.true_or, Bool.or_false, Bool.false_or, Bool.and_true, Bool.true_and, Bool.and_false, Bool.false_and, Bool.not_true, Bool.not_false, decide_eq_true hs1, decide_eq_false hs5, hs9, decide_eq_true hs10]]
 try rw [show (moI q) = (decide (((q.states.length : Nat) : Int) ≤ 4)) by simp only [moI, Bool.or_true, Bool.true_or, Bool.or_false, Bool.false_or, Bool.and_true, Bool.true_and, Bool.and_false, Bool.false_and, Bool.not_true, Bool.not_false, decide_eq_true hs1, decide_eq_false hs5, hs9, decide_eq_true hs10]]
 exact t_meet trivial (wk_keep _ _ rfl (by kernel_rfl) (by kernel_rfl))
 refine tri_region ?_
 refine t_op rfl (sp_move (.tmp 5) (bv false) rfl) ⟨.inl rfl, trivial⟩ trivial trivial ?_
 refine t_op rfl (sp_move (.tmp 37) (bv false) rfl) ⟨.inl rfl, trivial⟩ trivial trivial ?_
 refine t_skip rfl ?_
 refine t_skip rfl ?_
 refine t_skip rfl ?_
 refine t_skip rfl ?_
 refine t_op rfl (sp_pick (.tmp 38) (.tmp 42) (.const (.bool false)) false (.v (.tuple #[])) (bv false) rfl) ⟨.inl rfl, .inl rfl, .inl rfl, trivial⟩ trivial trivial ?_
 refine t_op rfl (sp_move (.tmp 6) (bv true) rfl) ⟨.inl rfl, trivial⟩ trivial trivial ?_
 refine t_op rfl (sp_move (.tmp 6) (bv true) rfl) ⟨.inl rfl, trivial⟩ trivial trivial ?_
 refine t_op rfl (sp_move (.tmp 45) (bv true) rfl) ⟨.inl rfl, trivial⟩ trivial trivial ?_
 refine t_opG rfl (sp_fieldBox (off' := 2) (.tmp 1) rfl Tryd.underlying27 rfl (z := 1) (by kernel_rfl) (by decide) rfl) ⟨.inl rfl, trivial⟩ trivial trivial ?_
 refine t_opG rfl (sp_loadBox1 (Y := .box 27 (cFm q)) (X := strsA q.states) (.tmp 47) rfl Tryd.underlying22 rfl rfl) ⟨.inl rfl, trivial⟩ ⟨rfl, trivial⟩ trivial ?_
 refine t_opG rfl (sp_lenSl (.tmp 48) rfl Tryd.underlying22) ⟨.inl rfl, trivial⟩ trivial trivial ?_
 refine t_opG rfl (sp_leq rfl rfl) ⟨.inl rfl, .inl rfl, trivial⟩ trivial trivial ?_
 refine t_op rfl (sp_pick (.tmp 46) (.tmp 50) (.const (.bool false)) true (bv (decide (((q.states.length : Nat) : Int) ≤ 4))) (bv false) rfl) ⟨.inl rfl, .inl rfl, .inl rfl, trivial⟩ trivial trivial ?_
 refine t_op rfl (sp_fieldBox (off' := 1) (.tmp 1) rfl Tryd.underlying27 rfl (z := 1) (by kernel_rfl) (by decide) rfl) ⟨.inl rfl, trivial⟩ trivial trivial ?_
 refine t_op rfl (sp_loadBox1 (Y := .box 27 (cFm q)) (X := iv q.top) (.tmp 52) rfl Tryd.underlying3 rfl rfl) ⟨.inl rfl, trivial⟩ ⟨rfl, trivial⟩ trivial ?_
 refine t_op rfl (sp_eql rfl (dF hs10)) ⟨.inl rfl, .inl rfl, trivial⟩ trivial trivial ?_
 refine t_op rfl (sp_move (.tmp 54) (bv false) rfl) ⟨.inl rfl, trivial⟩ trivial trivial ?_
 refine t_opG rfl (sp_fieldBox (off' := 1) (.tmp 1) rfl Tryd.underlying27 rfl (z := 1) (by kernel_rfl) (by decide) rfl) ⟨.inl rfl, trivial⟩ trivial trivial ?_
 refine t_opG rfl (sp_loadBox1 (Y := .box 27 (cFm q)) (X := iv q.top) (.tmp 56) rfl Tryd.underlying3 rfl rfl) ⟨.inl rfl, trivial⟩ ⟨rfl, trivial⟩ trivial ?_
 refine t_opG rfl (sp_eql rfl rfl) ⟨.inl rfl, .inl rfl, trivial⟩ trivial trivial ?_
 refine t_op rfl (sp_pick (.tmp 55) (.const (.bool true)) (.tmp 58) false (bv true) (bv (decide (q.top = 3))) rfl) ⟨.inl rfl, .inl rfl, .inl rfl, trivial⟩ trivial trivial ?_
 refine t_op rfl (sp_fieldBox (off' := 1) (.tmp 1) rfl Tryd.underlying27 rfl (z := 1) (by kernel_rfl) (by decide) rfl) ⟨.inl rfl, trivial⟩ trivial trivial ?_
 refine t_op rfl (sp_loadBox1 (Y := .box 27 (cFm q)) (X := iv q.top) (.tmp 60) rfl Tryd.underlying3 rfl rfl) ⟨.inl rfl, trivial⟩ ⟨rfl, trivial⟩ trivial ?_
 refine t_op rfl (sp_eql rfl rfl) ⟨.inl rfl, .inl rfl, trivial⟩ trivial trivial ?_
 refine t_op rfl (sp_bld [(.tmp 43, .bool false), (.tmp 44, .bool true), (.tmp 51, .bool (decide (((q.states.length : Nat) : Int) ≤ 4))), (.tmp 59, .bool (decide (q.top = 3))), (.tmp 62, .bool (decide (q.top = 4)))] #[.bool false, .bool true, .bool (decide (q.top = 3)), .bool (decide (q.top = 4)), .bool (decide (((q.states.length : Nat) : Int) ≤ 4))] rfl rfl (by kernel_rfl) rfl) ⟨.inl rfl, .inl rfl, .inl rfl, .inl rfl, .inl rfl, trivial⟩ trivial trivial ?_
 refine t_op rfl (sp_alloc (z := .agg #[.bool false, .bool false, .bool false, .bool false, .bool false]) (k := 3) rfl (by kernel_rfl)) trivial trivial rfl ?_
 refine t_op rfl (sp_storeBox (T0 := 40) (X := .agg [bv false, bv true, bv (decide (q.top = 3)), bv (decide (q.top = 4)), bv (decide (((q.states.length : Nat) : Int) ≤ 4))]) (cs := [bv false, bv false, bv false, bv false, bv false]) (ds := [bv false, bv true, bv (decide (q.top = 3)), bv (decide (q.top = 4)), bv (decide (((q.states.length : Nat) : Int) ≤ 4))]) (z := 5) (.tmp 7) (.tmp 63) rfl (by kernel_rfl) (by kernel_rfl) (by kernel_rfl) (of_decide_eq_true (by kernel_rfl)) (by kernel_rfl)) ⟨.inl rfl, .inl rfl, trivial⟩ ⟨rfl, trivial⟩ rfl ?_
 refine tri_nil ?_
 refine tri_wk (wk_keep [(1, .box 27 (cFm q)), (2, .box 40 [bv false, bv false, bv false, bv false, bv false]), (3, .box 40 [bv false, bv true, bv (decide (q.top = 3)), bv (decide (q.top = 4)), bv (decide (((q.states.length : Nat) : Int) ≤ 4))])] [(1, .box 1 0), (2, .box 2 0), (3, iv 0), (7, .box 3 0)] (n := 105) rfl (by kernel_rfl) (by kernel_rfl)) ?_
 try rw [show (thI0 q) = false by simp only [thI0, Bool.or_true, Bool.true_or, Bool.or_false, Bool.false_or, Bool.and_true, Bool.true_and, Bool.and_false, Bool.false_and, Bool.not_true, Bool.not_false, decide_eq_true hs1, decide_eq_false hs5, hs9, decide_eq_false hs10]]
 try rw [show (plI q) = true by simp only [plI, Bool.or_true, Bool.true_or, Bool.or_false, Bool.false_or, Bool.and_true, Bool.true_and, Bool.and_false, Bool.false_and, Bool.not_true, Bool.not_false, decide_eq_true hs1, decide_eq_false hs5, hs9, decide_eq_false hs10]]
 try rw [show (woI q) = (decide (q.top = 3)) by simp only [woI, Bool.or_true, Bool.true_or, Bool.or_false, Bool.false_or, Bool.and_true, Bool.true_and, Bool.and_false, Bool.false_and, Bool.not_true, Bool.not_false, decide_eq_true hs1, decide_eq_false hs5, hs9, decide_eq_false hs10]]
 try rw [show (trI q) = (decide (q.top = 4)) by simp only [trI, Bool.or_true, Bool.true_or, Bool.or_false, Bool.false_or, Bool.and_true, Bool.true_and, Bool.and_false, Bool.false_and, Bool.not_true, Bool.not_false, decide_eq_true hs1, decide_eq_false hs5, hs9, decide_eq_false hs10]]
 try rw [show (moI q) = (decide (((q.states.length : Nat) : Int) ≤ 4)) by simp only [moI, Bool.or_true, Bool.true_or, Bool.or_false, Bool.false_or, Bool.and_true, Bool.true_and, Bool.and_false, Bool.false_and, Bool.not_true, Bool.not_false, decide_eq_true hs1, decide_eq_false hs5, hs9, decide_eq_false hs10]]
 exact t_meet trivial (wk_keep _ _ rfl (by kernel_rfl) (by kernel_rfl))
 have hs9f : (plI q) = false := by simpa using hs9
 rw [hs9f]
 refine tri_wk (wk_keep [(1, .box 27 (cFm q)), (2, .box 40 [bv false, bv false, bv false, bv false, bv false])] [(1, .box 1 0), (2, .box 2 0), (3, iv 0), (5, bv false), (6, bv false)] (n := 105) rfl (by kernel_rfl) (by kernel_rfl)) ?_
 by_cases hs11 : q.top = 2
 refine tri_region ?_
 refine t_op rfl (sp_move (.tmp 5) (bv false) rfl) ⟨.inl rfl, trivial⟩ trivial trivial ?_
 refine t_op rfl (sp_move (.tmp 37) (bv false) rfl) ⟨.inl rfl, trivial⟩ trivial trivial ?_
 refine t_skip rfl ?_
 refine t_skip rfl ?_
 refine t_skip rfl ?_
 refine t_skip rfl ?_
 refine t_op rfl (sp_pick (.tmp 38) (.tmp 42) (.const (.bool false)) false (.v (.tuple #[])) (bv false) rfl) ⟨.inl rfl, .inl rfl, .inl rfl, trivial⟩ trivial trivial ?_
 refine t_op rfl (sp_move (.tmp 6) (bv false) rfl) ⟨.inl rfl, trivial⟩ trivial trivial ?_
 refine t_op rfl (sp_move (.tmp 6) (bv false) rfl) ⟨.inl rfl, trivial⟩ trivial trivial ?_
 refine t_op rfl (sp_move (.tmp 45) (bv false) rfl) ⟨.inl rfl, trivial⟩ trivial trivial ?_
 refine t_skip rfl ?_
 refine t_skip rfl ?_
 refine t_skip rfl ?_
 refine t_skip rfl ?_
 refine t_op rfl (sp_pick (.tmp 46) (.tmp 50) (.const (.bool false)) false (.v (.tuple #[])) (bv false) rfl) ⟨.inl rfl, .inl rfl, .inl rfl, trivial⟩ trivial trivial ?_
 refine t_op rfl (sp_fieldBox (off' := 1) (.tmp 1) rfl Tryd.underlying27 rfl (z := 1) (by kernel_rfl) (by decide) rfl) ⟨.inl rfl, trivial⟩ trivial trivial ?_
 refine t_op rfl (sp_loadBox1 (Y := .box 27 (cFm q)) (X := iv q.top) (.tmp 52) rfl Tryd.underlying3 rfl rfl) ⟨.inl rfl, trivial⟩ ⟨rfl, trivial⟩ trivial ?_
 refine t_op rfl (sp_eql rfl (dT hs11)) ⟨.inl rfl, .inl rfl, trivial⟩ trivial trivial ?_
 refine t_op rfl (sp_move (.tmp 54) (bv true) rfl) ⟨.inl rfl, trivial⟩ trivial trivial ?_
 refine t_skip rfl ?_
 refine t_skip rfl ?_
 refine t_skip rfl ?_
 refine t_op rfl (sp_pick (.tmp 55) (.const (.bool true)) (.tmp 58) true (bv true) (.v (.tuple #[])) rfl) ⟨.inl rfl, .inl rfl, .inl rfl, trivial⟩ trivial trivial ?_
 refine t_op rfl (sp_fieldBox (off' := 1) (.tmp 1) rfl Tryd.underlying27 rfl (z := 1) (by kernel_rfl) (by decide) rfl) ⟨.inl rfl, trivial⟩ trivial trivial ?_
 refine t_op rfl (sp_loadBox1 (Y := .box 27 (cFm q)) (X := iv q.top) (.tmp 60) rfl Tryd.underlying3 rfl rfl) ⟨.inl rfl, trivial⟩ ⟨rfl, trivial⟩ trivial ?_
 refine t_op rfl (sp_eql rfl rfl) ⟨.inl rfl, .inl rfl, trivial⟩ trivial trivial ?_
 refine t_op rfl (sp_bld [(.tmp 43, .bool false), (.tmp 44, .bool false), (.tmp 51, .bool false), (.tmp 59, .bool true), (.tmp 62, .bool (decide (q.top = 4)))] #[.bool false, .bool false, .bool true, .bool (decide (q.top = 4)), .bool false] rfl rfl (by kernel_rfl) rfl) ⟨.inl rfl, .inl rfl, .inl rfl, .inl rfl, .inl rfl, trivial⟩ trivial trivial ?_
 refine t_op rfl (sp_alloc (z := .agg #[.bool false, .bool false, .bool false, .bool false, .bool false]) (k := 3) rfl (by kernel_rfl)) trivial trivial rfl ?_
 refine t_op rfl (sp_storeBox (T0 := 40) (X := .agg [bv false, bv false, bv true, bv (decide (q.top = 4)), bv false]) (cs := [bv false, bv false, bv false, bv false, bv false]) (ds := [bv false, bv false, bv true, bv (decide (q.top = 4)), bv false]) (z := 5) (.tmp 7) (.tmp 63) rfl (by kernel_rfl) (by kernel_rfl) (by kernel_rfl) (of_decide_eq_true (by kernel_rfl)) (by kernel_rfl)) ⟨.inl rfl, .inl rfl, trivial⟩ ⟨rfl, trivial⟩ rfl ?_
 refine tri_nil ?_
 refine tri_wk (wk_keep [(1, .box 27 (cFm q)), (2, .box 40 [bv false, bv false, bv false, bv false, bv false]), (3, .box 40 [bv false, bv false, bv true, bv (decide (q.top = 4)), bv false])] [(1, .box 1 0), (2, .box 2 0), (3, iv 0), (7, .box 3 0)] (n := 105) rfl (by kernel_rfl) (by kernel_rfl)) ?_
 try rw [show (thI0 q) = false by simp only [thI0, Bool.or_true, Bool.true_or, Bool.or_false, Bool.false_or, Bool.and_true, Bool.true_and, Bool.and_false, Bool.false_and, Bool.not_true, Bool.not_false, decide_eq_true hs1, decide_eq_false hs5, hs9f, decide_eq_true hs11]]
 try rw [show (plI q) = false by simp only [plI, Bool.or_true, Bool.true_or, Bool.or_false, Bool.false_or, Bool.and_true, Bool.true_and, Bool.and_false, Bool.false_and, Bool.not_true, Bool.not_false, decide_eq_true hs1, decide_eq_false hs5, hs9f, decide_eq_true hs11]]
 try rw [show (woI q) = true by simp only [woI, Bool.or_true, Bool.true_or, Bool.or_false, Bool.false_or, Bool.and_true, Bool.true_and, Bool.and_false, Bool.false_and, Bool.not_true, Bool.not_false, decide_eq_true hs1, decide_eq_false hs5, hs9f, decide_eq_true hs11]]
 try rw [show (trI q) = (decide (q.top = 4)) by simp only [trI, Bool.or_true, Bool.true_or, Bool.or_false, Bool.false_or, Bool.and_true, Bool.true_and, Bool.and_false, Bool.false_and, Bool.not_true, Bool.not_false, decide_eq_true hs1, decide_eq_false hs5, hs9f, decide_eq_true hs11]]
 try rw [show (moI q) = false by simp only [moI, Bool.or_true, Bool.true_or, Bool.or_false, Bool.false_or, Bool.and_true, Bool.true_and, Bool.and_false, Bool.false_and, Bool.not_true, Bool.not_false, decide_eq_true hs1, decide_eq_false hs5, hs9f, decide_eq_true hs11]]
 exact t_meet trivial (wk_keep _ _ rfl (by kernel_rfl) (by kernel_rfl))
 refine tri_region ?_
 refine t_op rfl (sp_move (.tmp 5) (bv false) rfl) ⟨.inl rfl, trivial⟩ trivial trivial ?_
 refine t_op rfl (sp_move (.tmp 37) (bv false) rfl) ⟨.inl rfl, trivial⟩ trivial trivial ?_
 refine t_skip rfl ?_
 refine t_skip rfl ?_
 refine t_skip rfl ?_
 refine t_skip rfl ?_
 refine t_op rfl (sp_pick (.tmp 38) (.tmp 42) (.const (.bool false)) false (.v (.tuple #[])) (bv false) rfl) ⟨.inl rfl, .inl rfl, .inl rfl, trivial⟩ trivial trivial ?_
 refine t_op rfl (sp_move (.tmp 6) (bv false) rfl) ⟨.inl rfl, trivial⟩ trivial trivial ?_
 refine t_op rfl (sp_move (.tmp 6) (bv false) rfl) ⟨.inl rfl, trivial⟩ trivial trivial ?_
 refine t_op rfl (sp_move (.tmp 45) (bv false) rfl) ⟨.inl rfl, trivial⟩ trivial trivial ?_
 refine t_skip rfl ?_
 refine t_skip rfl ?_
 refine t_skip rfl ?_
 refine t_skip rfl ?_
 refine t_op rfl (sp_pick (.tmp 46) (.tmp 50) (.const (.bool false)) false (.v (.tuple #[])) (bv false) rfl) ⟨.inl rfl, .inl rfl, .inl rfl, trivial⟩ trivial trivial ?_
 refine t_op rfl (sp_fieldBox (off' := 1) (.tmp 1) rfl Tryd.underlying27 rfl (z := 1) (by kernel_rfl) (by decide) rfl) ⟨.inl rfl, trivial⟩ trivial trivial ?_
 refine t_op rfl (sp_loadBox1 (Y := .box 27 (cFm q)) (X := iv q.top) (.tmp 52) rfl Tryd.underlying3 rfl rfl) ⟨.inl rfl, trivial⟩ ⟨rfl, trivial⟩ trivial ?_
 refine t_op rfl (sp_eql rfl (dF hs11)) ⟨.inl rfl, .inl rfl, trivial⟩ trivial trivial ?_
 refine t_op rfl (sp_move (.tmp 54) (bv false) rfl) ⟨.inl rfl, trivial⟩ trivial trivial ?_
 refine t_opG rfl (sp_fieldBox (off' := 1) (.tmp 1) rfl Tryd.underlying27 rfl (z := 1) (by kernel_rfl) (by decide) rfl) ⟨.inl rfl, trivial⟩ trivial trivial ?_
 refine t_opG rfl (sp_loadBox1 (Y := .box 27 (cFm q)) (X := iv q.top) (.tmp 56) rfl Tryd.underlying3 rfl rfl) ⟨.inl rfl, trivial⟩ ⟨rfl, trivial⟩ trivial ?_
 refine t_opG rfl (sp_eql rfl rfl) ⟨.inl rfl, .inl rfl, trivial⟩ trivial trivial ?_
 refine t_op rfl (sp_pick (.tmp 55) (.const (.bool true)) (.tmp 58) false (bv true) (bv (decide (q.top = 3))) rfl) ⟨.inl rfl, .inl rfl, .inl rfl, trivial⟩ trivial trivial ?_
 refine t_op rfl (sp_fieldBox (off' := 1) (.tmp 1) rfl Tryd.underlying27 rfl (z := 1) (by kernel_rfl) (by decide) rfl) ⟨.inl rfl, trivial⟩ trivial trivial ?_
 refine t_op rfl (sp_loadBox1 (Y := .box 27 (cFm q)) (X := iv q.top) (.tmp 60) rfl Tryd.underlying3 rfl rfl) ⟨.inl rfl, trivial⟩ ⟨rfl, trivial⟩ trivial ?_
 refine t_op rfl (sp_eql rfl rfl) ⟨.inl rfl, .inl rfl, trivial⟩ trivial trivial ?_
 refine t_op rfl (sp_bld [(.tmp 43, .bool false), (.tmp 44, .bool false), (.tmp 51, .bool false), (.tmp 59, .bool (decide (q.top = 3))), (.tmp 62, .bool (decide (q.top = 4)))] #[.bool false, .bool false, .bool (decide (q.top = 3)), .bool (decide (q.top = 4)), .bool false] rfl rfl (by kernel_rfl) rfl) ⟨.inl rfl, .inl rfl, .inl rfl, .inl rfl, .inl rfl, trivial⟩ trivial trivial ?_
 refine t_op rfl (sp_alloc (z := .agg #[.bool false, .bool false, .bool false, .bool false, .bool false]) (k := 3) rfl (by kernel_rfl)) trivial trivial rfl ?_
 refine t_op rfl (sp_storeBox (T0 := 40) (X := .agg [bv false, bv false, bv (decide (q.top = 3)), bv (decide (q.top = 4)), bv false]) (cs := [bv false, bv false, bv false, bv false, bv false]) (ds := [bv false, bv false, bv (decide (q.top = 3)), bv (decide (q.top = 4)), bv false]) (z := 5) (.tmp 7) (.tmp 63) rfl (by kernel_rfl) (by kernel_rfl) (by kernel_rfl) (of_decide_eq_true (by kernel_rfl)) (by kernel_rfl)) ⟨.inl rfl, .inl rfl, trivial⟩ ⟨rfl, trivial⟩ rfl ?_
 refine tri_nil ?_
 refine tri_wk (wk_keep [(1, .box 27 (cFm q)), (2, .box 40 [bv false, bv false, bv false, bv false, bv false]), (3, .box 40 [bv false, bv false, bv (decide (q.top = 3)), bv (decide (q.top = 4)), bv false])] [(1, .box 1 0), (2, .box 2 0), (3, iv 0), (7, .box 3 0)] (n := 105) rfl (by kernel_rfl) (by kernel_rfl)) ?_
 try rw [show (thI0 q) = false by simp only [thI0, Bool.or_true, Bool.true_or, Bool.or_false, Bool.false_or, Bool.and_true, Bool.true_and, Bool.and_false, Bool.false_and, Bool.not_true, Bool.not_false, decide_eq_true hs1, decide_eq_false hs5, hs9f, decide_eq_false hs11]]
 try rw [show (plI q) = false by simp only [plI, Bool.or_true, Bool.true_or, Bool.or_false, Bool.false_or, Bool.and_true, Bool.true_and, Bool.and_false, Bool.false_and, Bool.not_true, Bool.not_false, decide_eq_true hs1, decide_eq_false hs5, hs9f, decide_eq_false hs11]]
 try rw [show (woI q) = (decide (q.top = 3)) by simp only [woI, Bool.or_true, Bool.true_or, Bool.or_false, Bool.false_or, Bool.and_true, Bool.true_and, Bool.and_false, Bool.false_and, Bool.not_true, Bool.not_false, decide_eq_true hs1, decide_eq_false hs5, hs9f, decide_eq_false hs11]]
 try rw [show (trI q) = (decide (q.top = 4)) by simp only [trI, Bool.or_true, Bool.true_or, Bool.or_false, Bool.false_or, Bool.and_true, Bool.true_and, Bool.and_false, Bool.false_and, Bool.not_true, Bool.not_false, decide_eq_true hs1, decide_eq_false hs5, hs9f, decide_eq_false hs11]]
 try rw [show (moI q) = false by simp only [moI, Bool.or_true, Bool.true_or, Bool.or_false, Bool.false_or, Bool.and_true, Bool.true_and, Bool.and_false, Bool.false_and, Bool.not_true, Bool.not_false, decide_eq_true hs1, decide_eq_false hs5, hs9f, decide_eq_false hs11]]
 exact t_meet trivial (wk_keep _ _ rfl (by kernel_rfl) (by kernel_rfl))
 refine t_then ?_
 refine tri_seq ?_
 refine tri_seq ?_
 refine tri_region ?_
 refine t_op rfl (sp_assign (.const (.int .i64 0)) (iv 0) rfl) ⟨.inl rfl, trivial⟩ trivial trivial ?_
 refine tri_nil ?_
 refine tri_wk (wk_keep [(1, .box 27 (cFm q)), (2, .box 40 [bv false, bv false, bv false, bv false, bv false]), (3, .box 40 [bv (thI0 q), bv (plI q), bv (woI q), bv (trI q), bv (moI q)])] [(1, .box 1 0), (2, .box 2 0), (3, iv 0), (7, .box 3 0), (8, iv 0)] (n := 105) rfl (by kernel_rfl) (by kernel_rfl)) ?_
 refine t_then ?_
 refine tri_block ?_
 rw [← cT_zero, ← cC_zero]
 refine tri_loop (σ := {k : Nat // k ≤ q.rules.length}) (fun s => (ofL [(1, .box 27 (cFm q)), (2, .box 40 [bv false, bv false, bv false, bv false, bv false]), (3, .box 40 [bv (cT q s.1), bv (cC q s.1), bv (woI q), bv (trI q), bv (moI q)])], ofT 105 [(1, .box 1 0), (2, .box 2 0), (3, iv 0), (7, .box 3 0), (8, iv s.1)])) (fun s => q.rules.length - s.1) ⟨0, Nat.zero_le _⟩ (wk_keep _ _ rfl (by kernel_rfl) (by kernel_rfl)) (fun s => ?_)
 obtain ⟨k, hk0⟩ := s
 show ETri J w0 (ofL [(1, .box 27 (cFm q)), (2, .box 40 [bv false, bv false, bv false, bv false, bv false]), (3, .box 40 [bv (cT q k), bv (cC q k), bv (woI q), bv (trI q), bv (moI q)])]) (ofT 105 [(1, .box 1 0), (2, .box 2 0), (3, iv 0), (7, .box 3 0), (8, iv k)]) _
 refine tri_seq ?_
 refine tri_seq ?_
 by_cases hs12 : ((k : Nat) : Int) < ((q.rules.length : Nat) : Int)
 refine tri_region ?_
 refine t_op rfl (sp_move (.tmp 8) (iv k) rfl) ⟨.inl rfl, trivial⟩ trivial trivial ?_
 refine t_op rfl (sp_fieldBox (off' := 9) (.tmp 1) rfl Tryd.underlying27 rfl (z := 1) (by kernel_rfl) (by decide) rfl) ⟨.inl rfl, trivial⟩ trivial trivial ?_
 refine t_op rfl (sp_loadBox1 (Y := .box 27 (cFm q)) (X := slA 18 cRu q.rules) (.tmp 65) rfl Tryd.underlying25 rfl rfl) ⟨.inl rfl, trivial⟩ ⟨rfl, trivial⟩ trivial ?_
 refine t_op rfl (sp_lenSl (.tmp 66) rfl Tryd.underlying25) ⟨.inl rfl, trivial⟩ trivial trivial ?_
 refine t_op rfl (sp_lss rfl (dT hs12)) ⟨.inl rfl, .inl rfl, trivial⟩ trivial trivial ?_
 refine tri_nil ?_
 refine tri_wk (wk_keep [(1, .box 27 (cFm q)), (2, .box 40 [bv false, bv false, bv false, bv false, bv false]), (3, .box 40 [bv (cT q k), bv (cC q k), bv (woI q), bv (trI q), bv (moI q)])] [(1, .box 1 0), (2, .box 2 0), (3, iv 0), (7, .box 3 0), (8, iv k), (68, bv true)] (n := 105) rfl (by kernel_rfl) (by kernel_rfl)) ?_
 refine t_then ?_
 refine t_condT rfl ?_
 refine tri_skip ?_
 refine t_then ?_
 refine tri_seq ?_
 refine tri_block ?_
 refine tri_seq ?_
 refine tri_region ?_
 refine t_op rfl (sp_fieldBox (off' := 9) (.tmp 1) rfl Tryd.underlying27 rfl (z := 1) (by kernel_rfl) (by decide) rfl) ⟨.inl rfl, trivial⟩ trivial trivial ?_
 refine t_op rfl (sp_loadBox1 (Y := .box 27 (cFm q)) (X := slA 18 cRu q.rules) (.tmp 71) rfl Tryd.underlying25 rfl rfl) ⟨.inl rfl, trivial⟩ ⟨rfl, trivial⟩ trivial ?_
 refine t_op rfl (sp_move (.tmp 8) (iv k) rfl) ⟨.inl rfl, trivial⟩ trivial trivial ?_
 refine t_op rfl (sp_indexSl (off := k * 18) (.tmp 72) (.tmp 73) rfl Tryd.underlying25 (by kernel_rfl) (by omega) (by omega) rfl) ⟨.inl rfl, .inl rfl, trivial⟩ trivial trivial ?_
 refine t_op rfl (sp_loadElS (z := 18) (.tmp 74) rfl Tryd.underlying76 rfl (by kernel_rfl) (flat_take lenRu q.rules k (by omega)) rfl) ⟨.inl rfl, trivial⟩ trivial trivial ?_
 refine t_op rfl (sp_alloc (z := .agg #[.string (⟨#[]⟩), .int .i64 0, .int .i64 0, .int .i64 0, .int .i64 0, .int .i64 0, .slice none 0 0, .slice none 0 0, .slice none 0 0, .slice none 0 0, .int .i64 0, .int .i64 0, .slice none 0 0, .int .i64 0, .slice none 0 0, .slice none 0 0, .slice none 0 0, .int .i64 0]) (k := 4) rfl (by kernel_rfl)) trivial trivial rfl ?_
 refine t_op rfl (sp_storeBox (T0 := 76) (X := .agg (cRu q.rules[k])) (cs := [sv (⟨#[]⟩), iv 0, iv 0, iv 0, iv 0, iv 0, .v (.slice none 0 0), .v (.slice none 0 0), .v (.slice none 0 0), .v (.slice none 0 0), iv 0, iv 0, .v (.slice none 0 0), iv 0, .v (.slice none 0 0), .v (.slice none 0 0), .v (.slice none 0 0), iv 0]) (ds := cRu q.rules[k]) (z := 18) (.tmp 9) (.tmp 75) rfl (by kernel_rfl) (by kernel_rfl) (by kernel_rfl) (of_decide_eq_true (by kernel_rfl)) (by kernel_rfl)) ⟨.inl rfl, .inl rfl, trivial⟩ ⟨rfl, trivial⟩ rfl ?_
 refine tri_nil ?_
 refine tri_wk (wk_keep [(1, .box 27 (cFm q)), (2, .box 40 [bv false, bv false, bv false, bv false, bv false]), (3, .box 40 [bv (cT q k), bv (cC q k), bv (woI q), bv (trI q), bv (moI q)]), (4, .box 76 (cRu q.rules[k]))] [(1, .box 1 0), (2, .box 2 0), (3, iv 0), (7, .box 3 0), (8, iv k), (9, .box 4 0), (68, bv true)] (n := 105) rfl (by kernel_rfl) (by kernel_rfl)) ?_
 refine t_then ?_
 refine tri_seq ?_
 refine tri_seq ?_
 refine t_cut (True) (ofL [(1, .box 27 (cFm q)), (2, .box 40 [bv false, bv false, bv false, bv false, bv false]), (3, .box 40 [bv (cT q k), bv (cC q k), bv (woI q), bv (trI q), bv (moI q)]), (4, .box 76 (cRu q.rules[k]))]) (ofT 105 [(1, .box 1 0), (2, .box 2 0), (3, iv 0), (7, .box 3 0), (8, iv k), (9, .box 4 0), (68, bv true), (97, bv (noI q.rules[k]))]) ?_ (fun _ => ?_)
 by_cases hs13 : q.rules[k].kind = 1
 by_cases hs14 : q.rules[k].to ≤ q.rules[k].frm
 refine tri_region ?_
 refine t_op rfl (sp_fieldBox (off' := 1) (.tmp 9) rfl Tryd.underlying76 rfl (z := 1) (by kernel_rfl) (by decide) rfl) ⟨.inl rfl, trivial⟩ trivial trivial ?_
 refine t_op rfl (sp_loadBox1 (Y := .box 76 (cRu q.rules[k])) (X := iv q.rules[k].kind) (.tmp 76) rfl Tryd.underlying3 rfl rfl) ⟨.inl rfl, trivial⟩ ⟨rfl, trivial⟩ trivial ?_
 refine t_op rfl (sp_neq rfl (dT' hs13)) ⟨.inl rfl, .inl rfl, trivial⟩ trivial trivial ?_
 refine t_op rfl (sp_move (.tmp 78) (bv false) rfl) ⟨.inl rfl, trivial⟩ trivial trivial ?_
 refine t_opG rfl (sp_fieldBox (off' := 2) (.tmp 9) rfl Tryd.underlying76 rfl (z := 1) (by kernel_rfl) (by decide) rfl) ⟨.inl rfl, trivial⟩ trivial trivial ?_
 refine t_opG rfl (sp_loadBox1 (Y := .box 76 (cRu q.rules[k])) (X := iv q.rules[k].frm) (.tmp 80) rfl Tryd.underlying3 rfl rfl) ⟨.inl rfl, trivial⟩ ⟨rfl, trivial⟩ trivial ?_
 refine t_opG rfl (sp_fieldBox (off' := 3) (.tmp 9) rfl Tryd.underlying76 rfl (z := 1) (by kernel_rfl) (by decide) rfl) ⟨.inl rfl, trivial⟩ trivial trivial ?_
 refine t_opG rfl (sp_loadBox1 (Y := .box 76 (cRu q.rules[k])) (X := iv q.rules[k].to) (.tmp 82) rfl Tryd.underlying3 rfl rfl) ⟨.inl rfl, trivial⟩ ⟨rfl, trivial⟩ trivial ?_
 refine t_opG rfl (sp_geq rfl (dT hs14)) ⟨.inl rfl, .inl rfl, trivial⟩ trivial trivial ?_
 refine t_op rfl (sp_pick (.tmp 79) (.const (.bool true)) (.tmp 84) false (bv true) (bv true) rfl) ⟨.inl rfl, .inl rfl, .inl rfl, trivial⟩ trivial trivial ?_
 refine t_op rfl (sp_move (.tmp 85) (bv true) rfl) ⟨.inl rfl, trivial⟩ trivial trivial ?_
 refine t_skip rfl ?_
 refine t_skip rfl ?_
 refine t_skip rfl ?_
 refine t_skip rfl ?_
 refine t_op rfl (sp_pick (.tmp 86) (.const (.bool true)) (.tmp 90) true (bv true) (.v (.tuple #[])) rfl) ⟨.inl rfl, .inl rfl, .inl rfl, trivial⟩ trivial trivial ?_
 refine t_op rfl (sp_move (.tmp 91) (bv true) rfl) ⟨.inl rfl, trivial⟩ trivial trivial ?_
 refine t_skip rfl ?_
 refine t_skip rfl ?_
 refine t_skip rfl ?_
 refine t_skip rfl ?_
 refine t_op rfl (sp_pick (.tmp 92) (.const (.bool true)) (.tmp 96) true (bv true) (.v (.tuple #[])) rfl) ⟨.inl rfl, .inl rfl, .inl rfl, trivial⟩ trivial trivial ?_
 refine tri_nil ?_
 refine tri_wk (wk_keep [(1, .box 27 (cFm q)), (2, .box 40 [bv false, bv false, bv false, bv false, bv false]), (3, .box 40 [bv (cT q k), bv (cC q k), bv (woI q), bv (trI q), bv (moI q)]), (4, .box 76 (cRu q.rules[k]))] [(1, .box 1 0), (2, .box 2 0), (3, iv 0), (7, .box 3 0), (8, iv k), (9, .box 4 0), (68, bv true), (97, bv true)] (n := 105) rfl (by kernel_rfl) (by kernel_rfl)) ?_
 rw [show (noI q.rules[k]) = true by simp only [noI, Bool.or_true, Bool.true_or, Bool.or_false, Bool.false_or, Bool.and_true, Bool.true_and, Bool.and_false, Bool.false_and, Bool.not_true, Bool.not_false, decide_eq_true hs1, decide_eq_true hs12, decide_eq_true hs13, decide_eq_true hs14]]
 exact t_meet trivial (wk_keep _ _ rfl (by kernel_rfl) (by kernel_rfl))
 by_cases hs15 : 0 < ((q.rules[k].ex.length : Nat) : Int)
 refine tri_region ?_
 refine t_op rfl (sp_fieldBox (off' := 1) (.tmp 9) rfl Tryd.underlying76 rfl (z := 1) (by kernel_rfl) (by decide) rfl) ⟨.inl rfl, trivial⟩ trivial trivial ?_
 refine t_op rfl (sp_loadBox1 (Y := .box 76 (cRu q.rules[k])) (X := iv q.rules[k].kind) (.tmp 76) rfl Tryd.underlying3 rfl rfl) ⟨.inl rfl, trivial⟩ ⟨rfl, trivial⟩ trivial ?_
 refine t_op rfl (sp_neq rfl (dT' hs13)) ⟨.inl rfl, .inl rfl, trivial⟩ trivial trivial ?_
 refine t_op rfl (sp_move (.tmp 78) (bv false) rfl) ⟨.inl rfl, trivial⟩ trivial trivial ?_
 refine t_opG rfl (sp_fieldBox (off' := 2) (.tmp 9) rfl Tryd.underlying76 rfl (z := 1) (by kernel_rfl) (by decide) rfl) ⟨.inl rfl, trivial⟩ trivial trivial ?_
 refine t_opG rfl (sp_loadBox1 (Y := .box 76 (cRu q.rules[k])) (X := iv q.rules[k].frm) (.tmp 80) rfl Tryd.underlying3 rfl rfl) ⟨.inl rfl, trivial⟩ ⟨rfl, trivial⟩ trivial ?_
 refine t_opG rfl (sp_fieldBox (off' := 3) (.tmp 9) rfl Tryd.underlying76 rfl (z := 1) (by kernel_rfl) (by decide) rfl) ⟨.inl rfl, trivial⟩ trivial trivial ?_
 refine t_opG rfl (sp_loadBox1 (Y := .box 76 (cRu q.rules[k])) (X := iv q.rules[k].to) (.tmp 82) rfl Tryd.underlying3 rfl rfl) ⟨.inl rfl, trivial⟩ ⟨rfl, trivial⟩ trivial ?_
 refine t_opG rfl (sp_geq rfl (dF hs14)) ⟨.inl rfl, .inl rfl, trivial⟩ trivial trivial ?_
 refine t_op rfl (sp_pick (.tmp 79) (.const (.bool true)) (.tmp 84) false (bv true) (bv false) rfl) ⟨.inl rfl, .inl rfl, .inl rfl, trivial⟩ trivial trivial ?_
 refine t_op rfl (sp_move (.tmp 85) (bv false) rfl) ⟨.inl rfl, trivial⟩ trivial trivial ?_
 refine t_opG rfl (sp_fieldBox (off' := 8) (.tmp 9) rfl Tryd.underlying76 rfl (z := 1) (by kernel_rfl) (by decide) rfl) ⟨.inl rfl, trivial⟩ trivial trivial ?_
 refine t_opG rfl (sp_loadBox1 (Y := .box 76 (cRu q.rules[k])) (X := intsA q.rules[k].ex) (.tmp 87) rfl Tryd.underlying24 rfl rfl) ⟨.inl rfl, trivial⟩ ⟨rfl, trivial⟩ trivial ?_
 refine t_opG rfl (sp_lenSl (.tmp 88) rfl Tryd.underlying24) ⟨.inl rfl, trivial⟩ trivial trivial ?_
 refine t_opG rfl (sp_gtr rfl (dT hs15)) ⟨.inl rfl, .inl rfl, trivial⟩ trivial trivial ?_
 refine t_op rfl (sp_pick (.tmp 86) (.const (.bool true)) (.tmp 90) false (bv true) (bv true) rfl) ⟨.inl rfl, .inl rfl, .inl rfl, trivial⟩ trivial trivial ?_
 refine t_op rfl (sp_move (.tmp 91) (bv true) rfl) ⟨.inl rfl, trivial⟩ trivial trivial ?_
 refine t_skip rfl ?_
 refine t_skip rfl ?_
 refine t_skip rfl ?_
 refine t_skip rfl ?_
 refine t_op rfl (sp_pick (.tmp 92) (.const (.bool true)) (.tmp 96) true (bv true) (.v (.tuple #[])) rfl) ⟨.inl rfl, .inl rfl, .inl rfl, trivial⟩ trivial trivial ?_
 refine tri_nil ?_
 refine tri_wk (wk_keep [(1, .box 27 (cFm q)), (2, .box 40 [bv false, bv false, bv false, bv false, bv false]), (3, .box 40 [bv (cT q k), bv (cC q k), bv (woI q), bv (trI q), bv (moI q)]), (4, .box 76 (cRu q.rules[k]))] [(1, .box 1 0), (2, .box 2 0), (3, iv 0), (7, .box 3 0), (8, iv k), (9, .box 4 0), (68, bv true), (97, bv true)] (n := 105) rfl (by kernel_rfl) (by kernel_rfl)) ?_
 rw [show (noI q.rules[k]) = true by simp only [noI, Bool.or_true, Bool.true_or, Bool.or_false, Bool.false_or, Bool.and_true, Bool.true_and, Bool.and_false, Bool.false_and, Bool.not_true, Bool.not_false, decide_eq_true hs1, decide_eq_true hs12, decide_eq_true hs13, decide_eq_false hs14, decide_eq_true hs15]]
 exact t_meet trivial (wk_keep _ _ rfl (by kernel_rfl) (by kernel_rfl))
 by_cases hs16 : 0 < ((q.rules[k].fa.length : Nat) : Int)
 refine tri_region ?_
 refine t_op rfl (sp_fieldBox (off' := 1) (.tmp 9) rfl Tryd.underlying76 rfl (z := 1) (by kernel_rfl) (by decide) rfl) ⟨.inl rfl, trivial⟩ trivial trivial ?_
 refine t_op rfl (sp_loadBox1 (Y := .box 76 (cRu q.rules[k])) (X := iv q.rules[k].kind) (.tmp 76) rfl Tryd.underlying3 rfl rfl) ⟨.inl rfl, trivial⟩ ⟨rfl, trivial⟩ trivial ?_
 refine t_op rfl (sp_neq rfl (dT' hs13)) ⟨.inl rfl, .inl rfl, trivial⟩ trivial trivial ?_
 refine t_op rfl (sp_move (.tmp 78) (bv false) rfl) ⟨.inl rfl, trivial⟩ trivial trivial ?_
 refine t_opG rfl (sp_fieldBox (off' := 2) (.tmp 9) rfl Tryd.underlying76 rfl (z := 1) (by kernel_rfl) (by decide) rfl) ⟨.inl rfl, trivial⟩ trivial trivial ?_
 refine t_opG rfl (sp_loadBox1 (Y := .box 76 (cRu q.rules[k])) (X := iv q.rules[k].frm) (.tmp 80) rfl Tryd.underlying3 rfl rfl) ⟨.inl rfl, trivial⟩ ⟨rfl, trivial⟩ trivial ?_
 refine t_opG rfl (sp_fieldBox (off' := 3) (.tmp 9) rfl Tryd.underlying76 rfl (z := 1) (by kernel_rfl) (by decide) rfl) ⟨.inl rfl, trivial⟩ trivial trivial ?_
 refine t_opG rfl (sp_loadBox1 (Y := .box 76 (cRu q.rules[k])) (X := iv q.rules[k].to) (.tmp 82) rfl Tryd.underlying3 rfl rfl) ⟨.inl rfl, trivial⟩ ⟨rfl, trivial⟩ trivial ?_
 refine t_opG rfl (sp_geq rfl (dF hs14)) ⟨.inl rfl, .inl rfl, trivial⟩ trivial trivial ?_
 refine t_op rfl (sp_pick (.tmp 79) (.const (.bool true)) (.tmp 84) false (bv true) (bv false) rfl) ⟨.inl rfl, .inl rfl, .inl rfl, trivial⟩ trivial trivial ?_
 refine t_op rfl (sp_move (.tmp 85) (bv false) rfl) ⟨.inl rfl, trivial⟩ trivial trivial ?_
 refine t_opG rfl (sp_fieldBox (off' := 8) (.tmp 9) rfl Tryd.underlying76 rfl (z := 1) (by kernel_rfl) (by decide) rfl) ⟨.inl rfl, trivial⟩ trivial trivial ?_
 refine t_opG rfl (sp_loadBox1 (Y := .box 76 (cRu q.rules[k])) (X := intsA q.rules[k].ex) (.tmp 87) rfl Tryd.underlying24 rfl rfl) ⟨.inl rfl, trivial⟩ ⟨rfl, trivial⟩ trivial ?_
 refine t_opG rfl (sp_lenSl (.tmp 88) rfl Tryd.underlying24) ⟨.inl rfl, trivial⟩ trivial trivial ?_
 refine t_opG rfl (sp_gtr rfl (dF hs15)) ⟨.inl rfl, .inl rfl, trivial⟩ trivial trivial ?_
 refine t_op rfl (sp_pick (.tmp 86) (.const (.bool true)) (.tmp 90) false (bv true) (bv false) rfl) ⟨.inl rfl, .inl rfl, .inl rfl, trivial⟩ trivial trivial ?_
 refine t_op rfl (sp_move (.tmp 91) (bv false) rfl) ⟨.inl rfl, trivial⟩ trivial trivial ?_
 refine t_opG rfl (sp_fieldBox (off' := 9) (.tmp 9) rfl Tryd.underlying76 rfl (z := 1) (by kernel_rfl) (by decide) rfl) ⟨.inl rfl, trivial⟩ trivial trivial ?_
 refine t_opG rfl (sp_loadBox1 (Y := .box 76 (cRu q.rules[k])) (X := intsA q.rules[k].fa) (.tmp 93) rfl Tryd.underlying24 rfl rfl) ⟨.inl rfl, trivial⟩ ⟨rfl, trivial⟩ trivial ?_
 refine t_opG rfl (sp_lenSl (.tmp 94) rfl Tryd.underlying24) ⟨.inl rfl, trivial⟩ trivial trivial ?_
 refine t_opG rfl (sp_gtr rfl (dT hs16)) ⟨.inl rfl, .inl rfl, trivial⟩ trivial trivial ?_
 refine t_op rfl (sp_pick (.tmp 92) (.const (.bool true)) (.tmp 96) false (bv true) (bv true) rfl) ⟨.inl rfl, .inl rfl, .inl rfl, trivial⟩ trivial trivial ?_
 refine tri_nil ?_
 refine tri_wk (wk_keep [(1, .box 27 (cFm q)), (2, .box 40 [bv false, bv false, bv false, bv false, bv false]), (3, .box 40 [bv (cT q k), bv (cC q k), bv (woI q), bv (trI q), bv (moI q)]), (4, .box 76 (cRu q.rules[k]))] [(1, .box 1 0), (2, .box 2 0), (3, iv 0), (7, .box 3 0), (8, iv k), (9, .box 4 0), (68, bv true), (97, bv true)] (n := 105) rfl (by kernel_rfl) (by kernel_rfl)) ?_
 rw [show (noI q.rules[k]) = true by simp only [noI, Bool.or_true, Bool.true_or, Bool.or_false, Bool.false_or, Bool.and_true, Bool.true_and, Bool.and_false, Bool.false_and, Bool.not_true, Bool.not_false, decide_eq_true hs1, decide_eq_true hs12, decide_eq_true hs13, decide_eq_false hs14, decide_eq_false hs15, decide_eq_true hs16]]
 exact t_meet trivial (wk_keep _ _ rfl (by kernel_rfl) (by kernel_rfl))
 refine tri_region ?_
 refine t_op rfl (sp_fieldBox (off' := 1) (.tmp 9) rfl Tryd.underlying76 rfl (z := 1) (by kernel_rfl) (by decide) rfl) ⟨.inl rfl, trivial⟩ trivial trivial ?_
 refine t_op rfl (sp_loadBox1 (Y := .box 76 (cRu q.rules[k])) (X := iv q.rules[k].kind) (.tmp 76) rfl Tryd.underlying3 rfl rfl) ⟨.inl rfl, trivial⟩ ⟨rfl, trivial⟩ trivial ?_
 refine t_op rfl (sp_neq rfl (dT' hs13)) ⟨.inl rfl, .inl rfl, trivial⟩ trivial trivial ?_
 refine t_op rfl (sp_move (.tmp 78) (bv false) rfl) ⟨.inl rfl, trivial⟩ trivial trivial ?_
 refine t_opG rfl (sp_fieldBox (off' := 2) (.tmp 9) rfl Tryd.underlying76 rfl (z := 1) (by kernel_rfl) (by decide) rfl) ⟨.inl rfl, trivial⟩ trivial trivial ?_
 refine t_opG rfl (sp_loadBox1 (Y := .box 76 (cRu q.rules[k])) (X := iv q.rules[k].frm) (.tmp 80) rfl Tryd.underlying3 rfl rfl) ⟨.inl rfl, trivial⟩ ⟨rfl, trivial⟩ trivial ?_
 refine t_opG rfl (sp_fieldBox (off' := 3) (.tmp 9) rfl Tryd.underlying76 rfl (z := 1) (by kernel_rfl) (by decide) rfl) ⟨.inl rfl, trivial⟩ trivial trivial ?_
 refine t_opG rfl (sp_loadBox1 (Y := .box 76 (cRu q.rules[k])) (X := iv q.rules[k].to) (.tmp 82) rfl Tryd.underlying3 rfl rfl) ⟨.inl rfl, trivial⟩ ⟨rfl, trivial⟩ trivial ?_
 refine t_opG rfl (sp_geq rfl (dF hs14)) ⟨.inl rfl, .inl rfl, trivial⟩ trivial trivial ?_
 refine t_op rfl (sp_pick (.tmp 79) (.const (.bool true)) (.tmp 84) false (bv true) (bv false) rfl) ⟨.inl rfl, .inl rfl, .inl rfl, trivial⟩ trivial trivial ?_
 refine t_op rfl (sp_move (.tmp 85) (bv false) rfl) ⟨.inl rfl, trivial⟩ trivial trivial ?_
 refine t_opG rfl (sp_fieldBox (off' := 8) (.tmp 9) rfl Tryd.underlying76 rfl (z := 1) (by kernel_rfl) (by decide) rfl) ⟨.inl rfl, trivial⟩ trivial trivial ?_
 refine t_opG rfl (sp_loadBox1 (Y := .box 76 (cRu q.rules[k])) (X := intsA q.rules[k].ex) (.tmp 87) rfl Tryd.underlying24 rfl rfl) ⟨.inl rfl, trivial⟩ ⟨rfl, trivial⟩ trivial ?_
 refine t_opG rfl (sp_lenSl (.tmp 88) rfl Tryd.underlying24) ⟨.inl rfl, trivial⟩ trivial trivial ?_
 refine t_opG rfl (sp_gtr rfl (dF hs15)) ⟨.inl rfl, .inl rfl, trivial⟩ trivial trivial ?_
 refine t_op rfl (sp_pick (.tmp 86) (.const (.bool true)) (.tmp 90) false (bv true) (bv false) rfl) ⟨.inl rfl, .inl rfl, .inl rfl, trivial⟩ trivial trivial ?_
 refine t_op rfl (sp_move (.tmp 91) (bv false) rfl) ⟨.inl rfl, trivial⟩ trivial trivial ?_
 refine t_opG rfl (sp_fieldBox (off' := 9) (.tmp 9) rfl Tryd.underlying76 rfl (z := 1) (by kernel_rfl) (by decide) rfl) ⟨.inl rfl, trivial⟩ trivial trivial ?_
 refine t_opG rfl (sp_loadBox1 (Y := .box 76 (cRu q.rules[k])) (X := intsA q.rules[k].fa) (.tmp 93) rfl Tryd.underlying24 rfl rfl) ⟨.inl rfl, trivial⟩ ⟨rfl, trivial⟩ trivial ?_
 refine t_opG rfl (sp_lenSl (.tmp 94) rfl Tryd.underlying24) ⟨.inl rfl, trivial⟩ trivial trivial ?_
 refine t_opG rfl (sp_gtr rfl (dF hs16)) ⟨.inl rfl, .inl rfl, trivial⟩ trivial trivial ?_
 refine t_op rfl (sp_pick (.tmp 92) (.const (.bool true)) (.tmp 96) false (bv true) (bv false) rfl) ⟨.inl rfl, .inl rfl, .inl rfl, trivial⟩ trivial trivial ?_
 refine tri_nil ?_
 refine tri_wk (wk_keep [(1, .box 27 (cFm q)), (2, .box 40 [bv false, bv false, bv false, bv false, bv false]), (3, .box 40 [bv (cT q k), bv (cC q k), bv (woI q), bv (trI q), bv (moI q)]), (4, .box 76 (cRu q.rules[k]))] [(1, .box 1 0), (2, .box 2 0), (3, iv 0), (7, .box 3 0), (8, iv k), (9, .box 4 0), (68, bv true), (97, bv false)] (n := 105) rfl (by kernel_rfl) (by kernel_rfl)) ?_
 rw [show (noI q.rules[k]) = false by simp only [noI, Bool.or_true, Bool.true_or, Bool.or_false, Bool.false_or, Bool.and_true, Bool.true_and, Bool.and_false, Bool.false_and, Bool.not_true, Bool.not_false, decide_eq_true hs1, decide_eq_true hs12, decide_eq_true hs13, decide_eq_false hs14, decide_eq_false hs15, decide_eq_false hs16]]
 exact t_meet trivial (wk_keep _ _ rfl (by kernel_rfl) (by kernel_rfl))
 refine tri_region ?_
 refine t_op rfl (sp_fieldBox (off' := 1) (.tmp 9) rfl Tryd.underlying76 rfl (z := 1) (by kernel_rfl) (by decide) rfl) ⟨.inl rfl, trivial⟩ trivial trivial ?_
 refine t_op rfl (sp_loadBox1 (Y := .box 76 (cRu q.rules[k])) (X := iv q.rules[k].kind) (.tmp 76) rfl Tryd.underlying3 rfl rfl) ⟨.inl rfl, trivial⟩ ⟨rfl, trivial⟩ trivial ?_
 refine t_op rfl (sp_neq rfl (dF' hs13)) ⟨.inl rfl, .inl rfl, trivial⟩ trivial trivial ?_
 refine t_op rfl (sp_move (.tmp 78) (bv true) rfl) ⟨.inl rfl, trivial⟩ trivial trivial ?_
 refine t_skip rfl ?_
 refine t_skip rfl ?_
 refine t_skip rfl ?_
 refine t_skip rfl ?_
 refine t_skip rfl ?_
 refine t_op rfl (sp_pick (.tmp 79) (.const (.bool true)) (.tmp 84) true (bv true) (.v (.tuple #[])) rfl) ⟨.inl rfl, .inl rfl, .inl rfl, trivial⟩ trivial trivial ?_
 refine t_op rfl (sp_move (.tmp 85) (bv true) rfl) ⟨.inl rfl, trivial⟩ trivial trivial ?_
 refine t_skip rfl ?_
 refine t_skip rfl ?_
 refine t_skip rfl ?_
 refine t_skip rfl ?_
 refine t_op rfl (sp_pick (.tmp 86) (.const (.bool true)) (.tmp 90) true (bv true) (.v (.tuple #[])) rfl) ⟨.inl rfl, .inl rfl, .inl rfl, trivial⟩ trivial trivial ?_
 refine t_op rfl (sp_move (.tmp 91) (bv true) rfl) ⟨.inl rfl, trivial⟩ trivial trivial ?_
 refine t_skip rfl ?_
 refine t_skip rfl ?_
 refine t_skip rfl ?_
 refine t_skip rfl ?_
 refine t_op rfl (sp_pick (.tmp 92) (.const (.bool true)) (.tmp 96) true (bv true) (.v (.tuple #[])) rfl) ⟨.inl rfl, .inl rfl, .inl rfl, trivial⟩ trivial trivial ?_
 refine tri_nil ?_
 refine tri_wk (wk_keep [(1, .box 27 (cFm q)), (2, .box 40 [bv false, bv false, bv false, bv false, bv false]), (3, .box 40 [bv (cT q k), bv (cC q k), bv (woI q), bv (trI q), bv (moI q)]), (4, .box 76 (cRu q.rules[k]))] [(1, .box 1 0), (2, .box 2 0), (3, iv 0), (7, .box 3 0), (8, iv k), (9, .box 4 0), (68, bv true), (97, bv true)] (n := 105) rfl (by kernel_rfl) (by kernel_rfl)) ?_
 rw [show (noI q.rules[k]) = true by simp only [noI, Bool.or_true, Bool.true_or, Bool.or_false, Bool.false_or, Bool.and_true, Bool.true_and, Bool.and_false, Bool.false_and, Bool.not_true, Bool.not_false, decide_eq_true hs1, decide_eq_true hs12, decide_eq_false hs13]]
 exact t_meet trivial (wk_keep _ _ rfl (by kernel_rfl) (by kernel_rfl))
 refine t_then ?_
 by_cases hs17 : (noI q.rules[k]) = true
 rw [hs17]
 refine tri_wk (wk_keep [(1, .box 27 (cFm q)), (2, .box 40 [bv false, bv false, bv false, bv false, bv false]), (3, .box 40 [bv (cT q k), bv (cC q k), bv (woI q), bv (trI q), bv (moI q)]), (4, .box 76 (cRu q.rules[k]))] [(1, .box 1 0), (2, .box 2 0), (3, iv 0), (7, .box 3 0), (8, iv k), (9, .box 4 0), (68, bv true), (97, bv true)] (n := 105) rfl (by kernel_rfl) (by kernel_rfl)) ?_
 refine t_condT rfl ?_
 refine tri_region ?_
 refine t_op rfl (sp_fieldBox (off' := 0) (.tmp 7) rfl Tryd.underlying40 rfl (z := 1) (by kernel_rfl) (by decide) rfl) ⟨.inl rfl, trivial⟩ trivial trivial ?_
 refine t_op rfl (sp_storeBox (T0 := 40) (X := bv false) (cs := [bv (cT q k), bv (cC q k), bv (woI q), bv (trI q), bv (moI q)]) (ds := [bv false, bv (cC q k), bv (woI q), bv (trI q), bv (moI q)]) (z := 1) (.tmp 98) (.const (.bool false)) rfl (by kernel_rfl) (by kernel_rfl) (by kernel_rfl) (of_decide_eq_true (by kernel_rfl)) (by kernel_rfl)) ⟨.inl rfl, .inl rfl, trivial⟩ ⟨rfl, trivial⟩ rfl ?_
 refine tri_nil ?_
 refine tri_wk (wk_keep [(1, .box 27 (cFm q)), (2, .box 40 [bv false, bv false, bv false, bv false, bv false]), (3, .box 40 [bv false, bv (cC q k), bv (woI q), bv (trI q), bv (moI q)]), (4, .box 76 (cRu q.rules[k]))] [(1, .box 1 0), (2, .box 2 0), (3, iv 0), (7, .box 3 0), (8, iv k), (9, .box 4 0), (68, bv true), (97, bv true)] (n := 105) rfl (by kernel_rfl) (by kernel_rfl)) ?_
 refine t_then ?_
 refine tri_seq ?_
 by_cases hs18 : 0 < ((q.rules[k].fa.length : Nat) : Int)
 refine tri_region ?_
 refine t_op rfl (sp_fieldBox (off' := 9) (.tmp 9) rfl Tryd.underlying76 rfl (z := 1) (by kernel_rfl) (by decide) rfl) ⟨.inl rfl, trivial⟩ trivial trivial ?_
 refine t_op rfl (sp_loadBox1 (Y := .box 76 (cRu q.rules[k])) (X := intsA q.rules[k].fa) (.tmp 99) rfl Tryd.underlying24 rfl rfl) ⟨.inl rfl, trivial⟩ ⟨rfl, trivial⟩ trivial ?_
 refine t_op rfl (sp_lenSl (.tmp 100) rfl Tryd.underlying24) ⟨.inl rfl, trivial⟩ trivial trivial ?_
 refine t_op rfl (sp_gtr rfl (dT hs18)) ⟨.inl rfl, .inl rfl, trivial⟩ trivial trivial ?_
 refine tri_nil ?_
 refine tri_wk (wk_keep [(1, .box 27 (cFm q)), (2, .box 40 [bv false, bv false, bv false, bv false, bv false]), (3, .box 40 [bv false, bv (cC q k), bv (woI q), bv (trI q), bv (moI q)]), (4, .box 76 (cRu q.rules[k]))] [(1, .box 1 0), (2, .box 2 0), (3, iv 0), (7, .box 3 0), (8, iv k), (9, .box 4 0), (68, bv true), (97, bv true), (102, bv true)] (n := 105) rfl (by kernel_rfl) (by kernel_rfl)) ?_
 refine t_then ?_
 refine t_condT rfl ?_
 refine tri_region ?_
 refine t_op rfl (sp_fieldBox (off' := 1) (.tmp 7) rfl Tryd.underlying40 rfl (z := 1) (by kernel_rfl) (by decide) rfl) ⟨.inl rfl, trivial⟩ trivial trivial ?_
 refine t_op rfl (sp_storeBox (T0 := 40) (X := bv false) (cs := [bv false, bv (cC q k), bv (woI q), bv (trI q), bv (moI q)]) (ds := [bv false, bv false, bv (woI q), bv (trI q), bv (moI q)]) (z := 1) (.tmp 103) (.const (.bool false)) rfl (by kernel_rfl) (by kernel_rfl) (by kernel_rfl) (of_decide_eq_true (by kernel_rfl)) (by kernel_rfl)) ⟨.inl rfl, .inl rfl, trivial⟩ ⟨rfl, trivial⟩ rfl ?_
 refine tri_nil ?_
 refine tri_wk (wk_keep [(1, .box 27 (cFm q)), (2, .box 40 [bv false, bv false, bv false, bv false, bv false]), (3, .box 40 [bv false, bv false, bv (woI q), bv (trI q), bv (moI q)]), (4, .box 76 (cRu q.rules[k]))] [(1, .box 1 0), (2, .box 2 0), (3, iv 0), (7, .box 3 0), (8, iv k), (9, .box 4 0), (68, bv true), (97, bv true), (102, bv true)] (n := 105) rfl (by kernel_rfl) (by kernel_rfl)) ?_
 refine t_block ?_
 refine t_then ?_
 refine tri_region ?_
 refine t_op rfl (sp_move (.tmp 8) (iv k) rfl) ⟨.inl rfl, trivial⟩ trivial trivial ?_
 refine t_op rfl (sp_add (c := ((k + 1 : Nat) : Int)) rfl (w64 (by omega) (by omega) (by omega))) ⟨.inl rfl, .inl rfl, trivial⟩ trivial trivial ?_
 refine t_op rfl (sp_assign (.tmp 70) (iv (k + 1 : Nat)) rfl) ⟨.inl rfl, trivial⟩ trivial trivial ?_
 refine tri_nil ?_
 refine tri_wk (wk_keep [(1, .box 27 (cFm q)), (2, .box 40 [bv false, bv false, bv false, bv false, bv false]), (3, .box 40 [bv false, bv false, bv (woI q), bv (trI q), bv (moI q)]), (4, .box 76 (cRu q.rules[k]))] [(1, .box 1 0), (2, .box 2 0), (3, iv 0), (7, .box 3 0), (8, iv (k + 1 : Nat)), (9, .box 4 0), (68, bv true), (97, bv true), (102, bv true)] (n := 105) rfl (by kernel_rfl) (by kernel_rfl)) ?_
 refine t_then ?_
 refine tri_again ⟨k + 1, by omega⟩ (show q.rules.length - (k + 1) < q.rules.length - k by omega) ?_
 show Wk _ _ (ofL [(1, .box 27 (cFm q)), (2, .box 40 [bv false, bv false, bv false, bv false, bv false]), (3, .box 40 [bv (cT q (k + 1)), bv (cC q (k + 1)), bv (woI q), bv (trI q), bv (moI q)])]) (ofT 105 [(1, .box 1 0), (2, .box 2 0), (3, iv 0), (7, .box 3 0), (8, iv ((k + 1) : Nat))])
 rw [cT_t (by omega) hs17, cC_t (by omega) hs18]
 exact wk_keep _ _ rfl (by kernel_rfl) (by kernel_rfl)
 refine tri_region ?_
 refine t_op rfl (sp_fieldBox (off' := 9) (.tmp 9) rfl Tryd.underlying76 rfl (z := 1) (by kernel_rfl) (by decide) rfl) ⟨.inl rfl, trivial⟩ trivial trivial ?_
 refine t_op rfl (sp_loadBox1 (Y := .box 76 (cRu q.rules[k])) (X := intsA q.rules[k].fa) (.tmp 99) rfl Tryd.underlying24 rfl rfl) ⟨.inl rfl, trivial⟩ ⟨rfl, trivial⟩ trivial ?_
 refine t_op rfl (sp_lenSl (.tmp 100) rfl Tryd.underlying24) ⟨.inl rfl, trivial⟩ trivial trivial ?_
 refine t_op rfl (sp_gtr rfl (dF hs18)) ⟨.inl rfl, .inl rfl, trivial⟩ trivial trivial ?_
 refine tri_nil ?_
 refine tri_wk (wk_keep [(1, .box 27 (cFm q)), (2, .box 40 [bv false, bv false, bv false, bv false, bv false]), (3, .box 40 [bv false, bv (cC q k), bv (woI q), bv (trI q), bv (moI q)]), (4, .box 76 (cRu q.rules[k]))] [(1, .box 1 0), (2, .box 2 0), (3, iv 0), (7, .box 3 0), (8, iv k), (9, .box 4 0), (68, bv true), (97, bv true), (102, bv false)] (n := 105) rfl (by kernel_rfl) (by kernel_rfl)) ?_
 refine t_then ?_
 refine t_condF rfl ?_
 refine tri_skip ?_
 refine t_block ?_
 refine t_then ?_
 refine tri_region ?_
 refine t_op rfl (sp_move (.tmp 8) (iv k) rfl) ⟨.inl rfl, trivial⟩ trivial trivial ?_
 refine t_op rfl (sp_add (c := ((k + 1 : Nat) : Int)) rfl (w64 (by omega) (by omega) (by omega))) ⟨.inl rfl, .inl rfl, trivial⟩ trivial trivial ?_
 refine t_op rfl (sp_assign (.tmp 70) (iv (k + 1 : Nat)) rfl) ⟨.inl rfl, trivial⟩ trivial trivial ?_
 refine tri_nil ?_
 refine tri_wk (wk_keep [(1, .box 27 (cFm q)), (2, .box 40 [bv false, bv false, bv false, bv false, bv false]), (3, .box 40 [bv false, bv (cC q k), bv (woI q), bv (trI q), bv (moI q)]), (4, .box 76 (cRu q.rules[k]))] [(1, .box 1 0), (2, .box 2 0), (3, iv 0), (7, .box 3 0), (8, iv (k + 1 : Nat)), (9, .box 4 0), (68, bv true), (97, bv true), (102, bv false)] (n := 105) rfl (by kernel_rfl) (by kernel_rfl)) ?_
 refine t_then ?_
 refine tri_again ⟨k + 1, by omega⟩ (show q.rules.length - (k + 1) < q.rules.length - k by omega) ?_
 show Wk _ _ (ofL [(1, .box 27 (cFm q)), (2, .box 40 [bv false, bv false, bv false, bv false, bv false]), (3, .box 40 [bv (cT q (k + 1)), bv (cC q (k + 1)), bv (woI q), bv (trI q), bv (moI q)])]) (ofT 105 [(1, .box 1 0), (2, .box 2 0), (3, iv 0), (7, .box 3 0), (8, iv ((k + 1) : Nat))])
 rw [cT_t (by omega) hs17, cC_f (by omega) hs18]
 exact wk_keep _ _ rfl (by kernel_rfl) (by kernel_rfl)
 have hs17f : (noI q.rules[k]) = false := by simpa using hs17
 rw [hs17f]
 refine tri_wk (wk_keep [(1, .box 27 (cFm q)), (2, .box 40 [bv false, bv false, bv false, bv false, bv false]), (3, .box 40 [bv (cT q k), bv (cC q k), bv (woI q), bv (trI q), bv (moI q)]), (4, .box 76 (cRu q.rules[k]))] [(1, .box 1 0), (2, .box 2 0), (3, iv 0), (7, .box 3 0), (8, iv k), (9, .box 4 0), (68, bv true), (97, bv false)] (n := 105) rfl (by kernel_rfl) (by kernel_rfl)) ?_
 refine t_condF rfl ?_
 refine tri_skip ?_
 refine t_then ?_
 refine tri_seq ?_
 by_cases hs19 : 0 < ((q.rules[k].fa.length : Nat) : Int)
 refine tri_region ?_
 refine t_op rfl (sp_fieldBox (off' := 9) (.tmp 9) rfl Tryd.underlying76 rfl (z := 1) (by kernel_rfl) (by decide) rfl) ⟨.inl rfl, trivial⟩ trivial trivial ?_
 refine t_op rfl (sp_loadBox1 (Y := .box 76 (cRu q.rules[k])) (X := intsA q.rules[k].fa) (.tmp 99) rfl Tryd.underlying24 rfl rfl) ⟨.inl rfl, trivial⟩ ⟨rfl, trivial⟩ trivial ?_
 refine t_op rfl (sp_lenSl (.tmp 100) rfl Tryd.underlying24) ⟨.inl rfl, trivial⟩ trivial trivial ?_
 refine t_op rfl (sp_gtr rfl (dT hs19)) ⟨.inl rfl, .inl rfl, trivial⟩ trivial trivial ?_
 refine tri_nil ?_
 refine tri_wk (wk_keep [(1, .box 27 (cFm q)), (2, .box 40 [bv false, bv false, bv false, bv false, bv false]), (3, .box 40 [bv (cT q k), bv (cC q k), bv (woI q), bv (trI q), bv (moI q)]), (4, .box 76 (cRu q.rules[k]))] [(1, .box 1 0), (2, .box 2 0), (3, iv 0), (7, .box 3 0), (8, iv k), (9, .box 4 0), (68, bv true), (97, bv false), (102, bv true)] (n := 105) rfl (by kernel_rfl) (by kernel_rfl)) ?_
 refine t_then ?_
 refine t_condT rfl ?_
 refine tri_region ?_
 refine t_op rfl (sp_fieldBox (off' := 1) (.tmp 7) rfl Tryd.underlying40 rfl (z := 1) (by kernel_rfl) (by decide) rfl) ⟨.inl rfl, trivial⟩ trivial trivial ?_
 refine t_op rfl (sp_storeBox (T0 := 40) (X := bv false) (cs := [bv (cT q k), bv (cC q k), bv (woI q), bv (trI q), bv (moI q)]) (ds := [bv (cT q k), bv false, bv (woI q), bv (trI q), bv (moI q)]) (z := 1) (.tmp 103) (.const (.bool false)) rfl (by kernel_rfl) (by kernel_rfl) (by kernel_rfl) (of_decide_eq_true (by kernel_rfl)) (by kernel_rfl)) ⟨.inl rfl, .inl rfl, trivial⟩ ⟨rfl, trivial⟩ rfl ?_
 refine tri_nil ?_
 refine tri_wk (wk_keep [(1, .box 27 (cFm q)), (2, .box 40 [bv false, bv false, bv false, bv false, bv false]), (3, .box 40 [bv (cT q k), bv false, bv (woI q), bv (trI q), bv (moI q)]), (4, .box 76 (cRu q.rules[k]))] [(1, .box 1 0), (2, .box 2 0), (3, iv 0), (7, .box 3 0), (8, iv k), (9, .box 4 0), (68, bv true), (97, bv false), (102, bv true)] (n := 105) rfl (by kernel_rfl) (by kernel_rfl)) ?_
 refine t_block ?_
 refine t_then ?_
 refine tri_region ?_
 refine t_op rfl (sp_move (.tmp 8) (iv k) rfl) ⟨.inl rfl, trivial⟩ trivial trivial ?_
 refine t_op rfl (sp_add (c := ((k + 1 : Nat) : Int)) rfl (w64 (by omega) (by omega) (by omega))) ⟨.inl rfl, .inl rfl, trivial⟩ trivial trivial ?_
 refine t_op rfl (sp_assign (.tmp 70) (iv (k + 1 : Nat)) rfl) ⟨.inl rfl, trivial⟩ trivial trivial ?_
 refine tri_nil ?_
 refine tri_wk (wk_keep [(1, .box 27 (cFm q)), (2, .box 40 [bv false, bv false, bv false, bv false, bv false]), (3, .box 40 [bv (cT q k), bv false, bv (woI q), bv (trI q), bv (moI q)]), (4, .box 76 (cRu q.rules[k]))] [(1, .box 1 0), (2, .box 2 0), (3, iv 0), (7, .box 3 0), (8, iv (k + 1 : Nat)), (9, .box 4 0), (68, bv true), (97, bv false), (102, bv true)] (n := 105) rfl (by kernel_rfl) (by kernel_rfl)) ?_
 refine t_then ?_
 refine tri_again ⟨k + 1, by omega⟩ (show q.rules.length - (k + 1) < q.rules.length - k by omega) ?_
 show Wk _ _ (ofL [(1, .box 27 (cFm q)), (2, .box 40 [bv false, bv false, bv false, bv false, bv false]), (3, .box 40 [bv (cT q (k + 1)), bv (cC q (k + 1)), bv (woI q), bv (trI q), bv (moI q)])]) (ofT 105 [(1, .box 1 0), (2, .box 2 0), (3, iv 0), (7, .box 3 0), (8, iv ((k + 1) : Nat))])
 rw [cT_f (by omega) hs17f, cC_t (by omega) hs19]
 exact wk_keep _ _ rfl (by kernel_rfl) (by kernel_rfl)
 refine tri_region ?_
 refine t_op rfl (sp_fieldBox (off' := 9) (.tmp 9) rfl Tryd.underlying76 rfl (z := 1) (by kernel_rfl) (by decide) rfl) ⟨.inl rfl, trivial⟩ trivial trivial ?_
 refine t_op rfl (sp_loadBox1 (Y := .box 76 (cRu q.rules[k])) (X := intsA q.rules[k].fa) (.tmp 99) rfl Tryd.underlying24 rfl rfl) ⟨.inl rfl, trivial⟩ ⟨rfl, trivial⟩ trivial ?_
 refine t_op rfl (sp_lenSl (.tmp 100) rfl Tryd.underlying24) ⟨.inl rfl, trivial⟩ trivial trivial ?_
 refine t_op rfl (sp_gtr rfl (dF hs19)) ⟨.inl rfl, .inl rfl, trivial⟩ trivial trivial ?_
 refine tri_nil ?_
 refine tri_wk (wk_keep [(1, .box 27 (cFm q)), (2, .box 40 [bv false, bv false, bv false, bv false, bv false]), (3, .box 40 [bv (cT q k), bv (cC q k), bv (woI q), bv (trI q), bv (moI q)]), (4, .box 76 (cRu q.rules[k]))] [(1, .box 1 0), (2, .box 2 0), (3, iv 0), (7, .box 3 0), (8, iv k), (9, .box 4 0), (68, bv true), (97, bv false), (102, bv false)] (n := 105) rfl (by kernel_rfl) (by kernel_rfl)) ?_
 refine t_then ?_
 refine t_condF rfl ?_
 refine tri_skip ?_
 refine t_block ?_
 refine t_then ?_
 refine tri_region ?_
 refine t_op rfl (sp_move (.tmp 8) (iv k) rfl) ⟨.inl rfl, trivial⟩ trivial trivial ?_
 refine t_op rfl (sp_add (c := ((k + 1 : Nat) : Int)) rfl (w64 (by omega) (by omega) (by omega))) ⟨.inl rfl, .inl rfl, trivial⟩ trivial trivial ?_
 refine t_op rfl (sp_assign (.tmp 70) (iv (k + 1 : Nat)) rfl) ⟨.inl rfl, trivial⟩ trivial trivial ?_
 refine tri_nil ?_
 refine tri_wk (wk_keep [(1, .box 27 (cFm q)), (2, .box 40 [bv false, bv false, bv false, bv false, bv false]), (3, .box 40 [bv (cT q k), bv (cC q k), bv (woI q), bv (trI q), bv (moI q)]), (4, .box 76 (cRu q.rules[k]))] [(1, .box 1 0), (2, .box 2 0), (3, iv 0), (7, .box 3 0), (8, iv (k + 1 : Nat)), (9, .box 4 0), (68, bv true), (97, bv false), (102, bv false)] (n := 105) rfl (by kernel_rfl) (by kernel_rfl)) ?_
 refine t_then ?_
 refine tri_again ⟨k + 1, by omega⟩ (show q.rules.length - (k + 1) < q.rules.length - k by omega) ?_
 show Wk _ _ (ofL [(1, .box 27 (cFm q)), (2, .box 40 [bv false, bv false, bv false, bv false, bv false]), (3, .box 40 [bv (cT q (k + 1)), bv (cC q (k + 1)), bv (woI q), bv (trI q), bv (moI q)])]) (ofT 105 [(1, .box 1 0), (2, .box 2 0), (3, iv 0), (7, .box 3 0), (8, iv ((k + 1) : Nat))])
 rw [cT_f (by omega) hs17f, cC_f (by omega) hs19]
 exact wk_keep _ _ rfl (by kernel_rfl) (by kernel_rfl)
 refine tri_region ?_
 refine t_op rfl (sp_move (.tmp 8) (iv k) rfl) ⟨.inl rfl, trivial⟩ trivial trivial ?_
 refine t_op rfl (sp_fieldBox (off' := 9) (.tmp 1) rfl Tryd.underlying27 rfl (z := 1) (by kernel_rfl) (by decide) rfl) ⟨.inl rfl, trivial⟩ trivial trivial ?_
 refine t_op rfl (sp_loadBox1 (Y := .box 27 (cFm q)) (X := slA 18 cRu q.rules) (.tmp 65) rfl Tryd.underlying25 rfl rfl) ⟨.inl rfl, trivial⟩ ⟨rfl, trivial⟩ trivial ?_
 refine t_op rfl (sp_lenSl (.tmp 66) rfl Tryd.underlying25) ⟨.inl rfl, trivial⟩ trivial trivial ?_
 refine t_op rfl (sp_lss rfl (dF hs12)) ⟨.inl rfl, .inl rfl, trivial⟩ trivial trivial ?_
 refine tri_nil ?_
 refine tri_wk (wk_keep [(1, .box 27 (cFm q)), (2, .box 40 [bv false, bv false, bv false, bv false, bv false]), (3, .box 40 [bv (cT q k), bv (cC q k), bv (woI q), bv (trI q), bv (moI q)])] [(1, .box 1 0), (2, .box 2 0), (3, iv 0), (7, .box 3 0), (8, iv k), (68, bv false)] (n := 105) rfl (by kernel_rfl) (by kernel_rfl)) ?_
 refine t_then ?_
 refine t_condF rfl ?_
 refine tri_exit ?_
 refine t_then_exit ?_
 refine t_then_exit ?_
 refine t_hit ?_
 refine t_then ?_
 refine tri_seq ?_
 refine tri_region ?_
 refine t_op rfl (sp_loadBoxS (Y := .box 40 [bv (cT q k), bv (cC q k), bv (woI q), bv (trI q), bv (moI q)]) (ds := [bv (cT q k), bv (cC q k), bv (woI q), bv (trI q), bv (moI q)]) (z := 5) (.tmp 7) rfl Tryd.underlying40 rfl (by kernel_rfl) (by decide) (by kernel_rfl) (by kernel_rfl)) ⟨.inl rfl, trivial⟩ ⟨rfl, trivial⟩ trivial ?_
 refine t_op rfl (sp_storeBox (T0 := 40) (X := .agg [bv (cT q k), bv (cC q k), bv (woI q), bv (trI q), bv (moI q)]) (cs := [bv false, bv false, bv false, bv false, bv false]) (ds := [bv (cT q k), bv (cC q k), bv (woI q), bv (trI q), bv (moI q)]) (z := 5) (.tmp 2) (.tmp 104) rfl (by kernel_rfl) (by kernel_rfl) (by kernel_rfl) (of_decide_eq_true (by kernel_rfl)) (by kernel_rfl)) ⟨.inl rfl, .inl rfl, trivial⟩ ⟨rfl, trivial⟩ rfl ?_
 refine t_op rfl (sp_assign (.const (.int .i64 0)) (iv 0) rfl) ⟨.inl rfl, trivial⟩ trivial trivial ?_
 refine tri_nil ?_
 refine tri_wk (wk_keep [(2, .box 40 [bv (cT q k), bv (cC q k), bv (woI q), bv (trI q), bv (moI q)])] [(2, .box 2 0), (3, iv 0)] (n := 105) rfl (by kernel_rfl) (by kernel_rfl)) ?_
 refine t_then ?_
 refine tri_ret ?_
 refine tri_end2 Tryd.results20 (.cellS rfl rfl Tryd.underlying40 rfl (z := 5) (by kernel_rfl) rfl (by decide)) (.tmp rfl) ?_
 exact cls_end hs1 (by omega)
 refine tri_region ?_
 refine t_op rfl (sp_move (.tmp 4) (iv (valE q)) rfl) ⟨.inl rfl, trivial⟩ trivial trivial ?_
 refine t_op rfl (sp_neq rfl (dF' hs1)) ⟨.inl rfl, .inl rfl, trivial⟩ trivial trivial ?_
 refine tri_nil ?_
 refine tri_wk (wk_keep [(1, .box 27 (cFm q)), (2, .box 40 [bv false, bv false, bv false, bv false, bv false])] [(1, .box 1 0), (2, .box 2 0), (3, iv 0), (4, iv (valE q)), (13, bv true)] (n := 105) rfl (by kernel_rfl) (by kernel_rfl)) ?_
 refine t_then ?_
 refine t_condT rfl ?_
 refine tri_seq ?_
 refine tri_region ?_
 refine t_op rfl (sp_bld [] #[.bool false, .bool false, .bool false, .bool false, .bool false] rfl rfl (by kernel_rfl) rfl) trivial trivial trivial ?_
 refine t_op rfl (sp_move (.tmp 4) (iv (valE q)) rfl) ⟨.inl rfl, trivial⟩ trivial trivial ?_
 refine t_op rfl (sp_storeBox (T0 := 40) (X := .agg [bv false, bv false, bv false, bv false, bv false]) (cs := [bv false, bv false, bv false, bv false, bv false]) (ds := [bv false, bv false, bv false, bv false, bv false]) (z := 5) (.tmp 2) (.tmp 14) rfl (by kernel_rfl) (by kernel_rfl) (by kernel_rfl) (of_decide_eq_true (by kernel_rfl)) (by kernel_rfl)) ⟨.inl rfl, .inl rfl, trivial⟩ ⟨rfl, trivial⟩ rfl ?_
 refine t_op rfl (sp_assign (.tmp 15) (iv (valE q)) rfl) ⟨.inl rfl, trivial⟩ trivial trivial ?_
 refine tri_nil ?_
 refine tri_wk (wk_keep [(1, .box 27 (cFm q)), (2, .box 40 [bv false, bv false, bv false, bv false, bv false])] [(1, .box 1 0), (2, .box 2 0), (3, iv (valE q))] (n := 105) rfl (by kernel_rfl) (by kernel_rfl)) ?_
 refine t_then ?_
 refine tri_ret ?_
 refine t_then_ret ?_
 refine tri_end2 Tryd.results20 (.cellS rfl rfl Tryd.underlying40 rfl (z := 5) (by kernel_rfl) rfl (by decide)) (.tmp rfl) ?_
 exact cls_err hs1
set_option linter.unusedSimpArgs false in
set_option linter.unusedVariables false in
set_option maxRecDepth 100000 in
set_option maxHeartbeats 6400000 in
theorem lawClasses_c {q : Fm} (HQ : FmOk q) : Ctr Tryd.prog TabW 5 [.agg (cFm q)] (bv true) := by
 refine ctr_of_tri Tryd.func5 rfl (by intro X hX; simp only [List.mem_cons, List.not_mem_nil, or_false] at hX; rcases hX with rfl; exact plain_agg (plain_fm q)) (n := 61) rfl (by simp) (fun w0 => ?_)
 refine tri_wk (wk_keep [] [(0, .agg (cFm q))] (n := 61) rfl (by kernel_rfl) (by kernel_rfl)) ?_
 refine tri_seq ?_
 refine tri_region ?_
 refine t_op rfl (sp_box (X := .agg (cFm q)) (k := 1) (.tmp 0) rfl rfl) ⟨.inl rfl, trivial⟩ trivial rfl ?_
 refine t_op rfl (sp_assign (.const (.bool false)) (bv false) rfl) ⟨.inl rfl, trivial⟩ trivial trivial ?_
 refine tri_nil ?_
 refine tri_wk (wk_keep [(1, .box 27 (cFm q))] [(1, .box 1 0), (2, bv false)] (n := 61) rfl (by kernel_rfl) (by kernel_rfl)) ?_
 refine t_then ?_
 refine tri_seq ?_
 refine tri_seq ?_
 by_cases hs1 : (bigF q) = true
 refine tri_region ?_
 refine t_op rfl (sp_loadBoxS (Y := .box 27 (cFm q)) (ds := cFm q) (z := 10) (.tmp 1) rfl Tryd.underlying27 rfl (by kernel_rfl) (by decide) (by kernel_rfl) (by kernel_rfl)) ⟨.inl rfl, trivial⟩ ⟨rfl, trivial⟩ trivial ?_
 refine t_op rfl (sp_call (c := .func 13) (xs := #[.tmp 7]) [] (ctr_b (Big_c HQ) hs1) rfl (by kernel_rfl) rfl (Xs := [.agg (cFm q)]) rfl rfl rfl) ⟨.inl rfl, .inl rfl, trivial⟩ trivial trivial ?_
 refine tri_nil ?_
 refine tri_wk (wk_keep [(1, .box 27 (cFm q))] [(1, .box 1 0), (2, bv false), (8, bv true)] (n := 61) rfl (by kernel_rfl) (by kernel_rfl)) ?_
 refine t_then ?_
 refine t_condT rfl ?_
 refine tri_seq ?_
 refine tri_region ?_
 refine t_op rfl (sp_call (c := .func 14) (xs := #[]) [] known_c rfl (by kernel_rfl) rfl (Xs := []) rfl rfl rfl) ⟨.inl rfl, trivial⟩ trivial trivial ?_
 refine t_op rfl (sp_assign (.tmp 9) (bv true) rfl) ⟨.inl rfl, trivial⟩ trivial trivial ?_
 refine tri_nil ?_
 refine tri_wk (wk_keep [(1, .box 27 (cFm q))] [(1, .box 1 0), (2, bv true)] (n := 61) rfl (by kernel_rfl) (by kernel_rfl)) ?_
 refine t_then ?_
 refine tri_ret ?_
 refine t_then_ret ?_
 refine tri_end1 Tryd.results5 (.tmp rfl) ?_
 exact rfl
 have hs1f : (bigF q) = false := by simpa using hs1
 refine tri_region ?_
 refine t_op rfl (sp_loadBoxS (Y := .box 27 (cFm q)) (ds := cFm q) (z := 10) (.tmp 1) rfl Tryd.underlying27 rfl (by kernel_rfl) (by decide) (by kernel_rfl) (by kernel_rfl)) ⟨.inl rfl, trivial⟩ ⟨rfl, trivial⟩ trivial ?_
 refine t_op rfl (sp_call (c := .func 13) (xs := #[.tmp 7]) [] (ctr_b (Big_c HQ) hs1f) rfl (by kernel_rfl) rfl (Xs := [.agg (cFm q)]) rfl rfl rfl) ⟨.inl rfl, .inl rfl, trivial⟩ trivial trivial ?_
 refine tri_nil ?_
 refine tri_wk (wk_keep [(1, .box 27 (cFm q))] [(1, .box 1 0), (2, bv false), (8, bv false)] (n := 61) rfl (by kernel_rfl) (by kernel_rfl)) ?_
 refine t_then ?_
 refine t_condF rfl ?_
 refine tri_skip ?_
 refine t_then ?_
 refine tri_seq ?_
 refine tri_region ?_
 refine t_op rfl (sp_loadBoxS (Y := .box 27 (cFm q)) (ds := cFm q) (z := 10) (.tmp 1) rfl Tryd.underlying27 rfl (by kernel_rfl) (by decide) (by kernel_rfl) (by kernel_rfl)) ⟨.inl rfl, trivial⟩ ⟨rfl, trivial⟩ trivial ?_
 refine t_op rfl (sp_call (c := .func 19) (xs := #[.tmp 11]) [] (qClassify_c HQ) rfl (by kernel_rfl) rfl (Xs := [.agg (cFm q)]) rfl rfl rfl) ⟨.inl rfl, .inl rfl, trivial⟩ trivial trivial ?_
 refine t_op rfl (sp_move (.tmp 12) (.tup [.fr (.agg [bv (decide (valE q = 0) && clTh q), bv (decide (valE q = 0) && clCo q), bv (decide (valE q = 0) && clWo q), bv (decide (valE q = 0) && clTr q), bv (decide (valE q = 0) && clMo q)]), iv (valE q)]) rfl) ⟨.inl rfl, trivial⟩ trivial trivial ?_
 refine t_op rfl (sp_extract (X := .fr (.agg [bv (decide (valE q = 0) && clTh q), bv (decide (valE q = 0) && clCo q), bv (decide (valE q = 0) && clWo q), bv (decide (valE q = 0) && clTr q), bv (decide (valE q = 0) && clMo q)])) (.tmp 10) rfl rfl) ⟨.inl rfl, trivial⟩ trivial trivial ?_
 refine t_op rfl (sp_extract (X := iv (valE q)) (.tmp 10) rfl rfl) ⟨.inl rfl, trivial⟩ trivial trivial ?_
 refine t_op rfl (sp_alloc (z := .agg #[.bool false, .bool false, .bool false, .bool false, .bool false]) (k := 2) rfl (by kernel_rfl)) trivial trivial rfl ?_
 refine t_op rfl (sp_storeBox (T0 := 37) (X := .agg [bv (decide (valE q = 0) && clTh q), bv (decide (valE q = 0) && clCo q), bv (decide (valE q = 0) && clWo q), bv (decide (valE q = 0) && clTr q), bv (decide (valE q = 0) && clMo q)]) (cs := [bv false, bv false, bv false, bv false, bv false]) (ds := [bv (decide (valE q = 0) && clTh q), bv (decide (valE q = 0) && clCo q), bv (decide (valE q = 0) && clWo q), bv (decide (valE q = 0) && clTr q), bv (decide (valE q = 0) && clMo q)]) (z := 5) (.tmp 3) (.tmp 13) rfl (by kernel_rfl) (by kernel_rfl) (by kernel_rfl) (of_decide_eq_true (by kernel_rfl)) (by kernel_rfl)) ⟨.inl rfl, .inr (.inr ⟨_, rfl, rfl⟩), trivial⟩ ⟨rfl, trivial⟩ rfl ?_
 refine t_op rfl (sp_assign (.tmp 14) (iv (valE q)) rfl) ⟨.inl rfl, trivial⟩ trivial trivial ?_
 refine tri_nil ?_
 refine tri_wk (wk_keep [(1, .box 27 (cFm q)), (2, .box 37 [bv (decide (valE q = 0) && clTh q), bv (decide (valE q = 0) && clCo q), bv (decide (valE q = 0) && clWo q), bv (decide (valE q = 0) && clTr q), bv (decide (valE q = 0) && clMo q)])] [(1, .box 1 0), (2, bv false), (3, .box 2 0), (4, iv (valE q))] (n := 61) rfl (by kernel_rfl) (by kernel_rfl)) ?_
 refine t_then ?_
 refine tri_seq ?_
 refine tri_region ?_
 refine t_op rfl (sp_loadBoxS (Y := .box 27 (cFm q)) (ds := cFm q) (z := 10) (.tmp 1) rfl Tryd.underlying27 rfl (by kernel_rfl) (by decide) (by kernel_rfl) (by kernel_rfl)) ⟨.inl rfl, trivial⟩ ⟨rfl, trivial⟩ trivial ?_
 refine t_op rfl (sp_call (c := .func 20) (xs := #[.tmp 16]) [] (rClassify_c HQ) rfl (by kernel_rfl) rfl (Xs := [.agg (cFm q)]) rfl rfl rfl) ⟨.inl rfl, .inl rfl, trivial⟩ trivial trivial ?_
 refine t_op rfl (sp_move (.tmp 17) (.tup [.fr (.agg [bv (decide (valE q = 0) && clTh q), bv (decide (valE q = 0) && clCo q), bv (decide (valE q = 0) && clWo q), bv (decide (valE q = 0) && clTr q), bv (decide (valE q = 0) && clMo q)]), iv (valE q)]) rfl) ⟨.inl rfl, trivial⟩ trivial trivial ?_
 refine t_op rfl (sp_extract (X := .fr (.agg [bv (decide (valE q = 0) && clTh q), bv (decide (valE q = 0) && clCo q), bv (decide (valE q = 0) && clWo q), bv (decide (valE q = 0) && clTr q), bv (decide (valE q = 0) && clMo q)])) (.tmp 15) rfl rfl) ⟨.inl rfl, trivial⟩ trivial trivial ?_
 refine t_op rfl (sp_extract (X := iv (valE q)) (.tmp 15) rfl rfl) ⟨.inl rfl, trivial⟩ trivial trivial ?_
 refine t_op rfl (sp_alloc (z := .agg #[.bool false, .bool false, .bool false, .bool false, .bool false]) (k := 3) rfl (by kernel_rfl)) trivial trivial rfl ?_
 refine t_op rfl (sp_storeBox (T0 := 40) (X := .agg [bv (decide (valE q = 0) && clTh q), bv (decide (valE q = 0) && clCo q), bv (decide (valE q = 0) && clWo q), bv (decide (valE q = 0) && clTr q), bv (decide (valE q = 0) && clMo q)]) (cs := [bv false, bv false, bv false, bv false, bv false]) (ds := [bv (decide (valE q = 0) && clTh q), bv (decide (valE q = 0) && clCo q), bv (decide (valE q = 0) && clWo q), bv (decide (valE q = 0) && clTr q), bv (decide (valE q = 0) && clMo q)]) (z := 5) (.tmp 5) (.tmp 18) rfl (by kernel_rfl) (by kernel_rfl) (by kernel_rfl) (of_decide_eq_true (by kernel_rfl)) (by kernel_rfl)) ⟨.inl rfl, .inr (.inr ⟨_, rfl, rfl⟩), trivial⟩ ⟨rfl, trivial⟩ rfl ?_
 refine t_op rfl (sp_assign (.tmp 19) (iv (valE q)) rfl) ⟨.inl rfl, trivial⟩ trivial trivial ?_
 refine tri_nil ?_
 refine tri_wk (wk_keep [(2, .box 37 [bv (decide (valE q = 0) && clTh q), bv (decide (valE q = 0) && clCo q), bv (decide (valE q = 0) && clWo q), bv (decide (valE q = 0) && clTr q), bv (decide (valE q = 0) && clMo q)]), (3, .box 40 [bv (decide (valE q = 0) && clTh q), bv (decide (valE q = 0) && clCo q), bv (decide (valE q = 0) && clWo q), bv (decide (valE q = 0) && clTr q), bv (decide (valE q = 0) && clMo q)])] [(2, bv false), (3, .box 2 0), (4, iv (valE q)), (5, .box 3 0), (6, iv (valE q))] (n := 61) rfl (by kernel_rfl) (by kernel_rfl)) ?_
 refine t_then ?_
 refine tri_seq ?_
 refine tri_region ?_
 refine t_op rfl (sp_move (.tmp 4) (iv (valE q)) rfl) ⟨.inl rfl, trivial⟩ trivial trivial ?_
 refine t_op rfl (sp_move (.tmp 6) (iv (valE q)) rfl) ⟨.inl rfl, trivial⟩ trivial trivial ?_
 refine t_op rfl (sp_eql rfl (dT rfl)) ⟨.inl rfl, .inl rfl, trivial⟩ trivial trivial ?_
 refine t_op rfl (sp_move (.tmp 22) (bv true) rfl) ⟨.inl rfl, trivial⟩ trivial trivial ?_
 refine t_opG rfl (sp_fieldBox (off' := 0) (.tmp 3) rfl Tryd.underlying37 rfl (z := 1) (by kernel_rfl) (by decide) rfl) ⟨.inl rfl, trivial⟩ trivial trivial ?_
 refine t_opG rfl (sp_loadBox1 (Y := .box 37 [bv (decide (valE q = 0) && clTh q), bv (decide (valE q = 0) && clCo q), bv (decide (valE q = 0) && clWo q), bv (decide (valE q = 0) && clTr q), bv (decide (valE q = 0) && clMo q)]) (X := bv (decide (valE q = 0) && clTh q)) (.tmp 24) rfl Tryd.underlying4 rfl rfl) ⟨.inl rfl, trivial⟩ ⟨rfl, trivial⟩ trivial ?_
 refine t_opG rfl (sp_fieldBox (off' := 0) (.tmp 5) rfl Tryd.underlying40 rfl (z := 1) (by kernel_rfl) (by decide) rfl) ⟨.inl rfl, trivial⟩ trivial trivial ?_
 refine t_opG rfl (sp_loadBox1 (Y := .box 40 [bv (decide (valE q = 0) && clTh q), bv (decide (valE q = 0) && clCo q), bv (decide (valE q = 0) && clWo q), bv (decide (valE q = 0) && clTr q), bv (decide (valE q = 0) && clMo q)]) (X := bv (decide (valE q = 0) && clTh q)) (.tmp 26) rfl Tryd.underlying4 rfl rfl) ⟨.inl rfl, trivial⟩ ⟨rfl, trivial⟩ trivial ?_
 refine t_opG rfl (sp_beql rfl Tryd.underlying4 (beq_self_eq_true _)) ⟨.inl rfl, .inl rfl, trivial⟩ trivial trivial ?_
 refine t_op rfl (sp_pick (.tmp 23) (.tmp 28) (.const (.bool false)) true (bv true) (bv false) rfl) ⟨.inl rfl, .inl rfl, .inl rfl, trivial⟩ trivial trivial ?_
 refine t_op rfl (sp_move (.tmp 29) (bv true) rfl) ⟨.inl rfl, trivial⟩ trivial trivial ?_
 refine t_opG rfl (sp_fieldBox (off' := 1) (.tmp 3) rfl Tryd.underlying37 rfl (z := 1) (by kernel_rfl) (by decide) rfl) ⟨.inl rfl, trivial⟩ trivial trivial ?_
 refine t_opG rfl (sp_loadBox1 (Y := .box 37 [bv (decide (valE q = 0) && clTh q), bv (decide (valE q = 0) && clCo q), bv (decide (valE q = 0) && clWo q), bv (decide (valE q = 0) && clTr q), bv (decide (valE q = 0) && clMo q)]) (X := bv (decide (valE q = 0) && clCo q)) (.tmp 31) rfl Tryd.underlying4 rfl rfl) ⟨.inl rfl, trivial⟩ ⟨rfl, trivial⟩ trivial ?_
 refine t_opG rfl (sp_fieldBox (off' := 1) (.tmp 5) rfl Tryd.underlying40 rfl (z := 1) (by kernel_rfl) (by decide) rfl) ⟨.inl rfl, trivial⟩ trivial trivial ?_
 refine t_opG rfl (sp_loadBox1 (Y := .box 40 [bv (decide (valE q = 0) && clTh q), bv (decide (valE q = 0) && clCo q), bv (decide (valE q = 0) && clWo q), bv (decide (valE q = 0) && clTr q), bv (decide (valE q = 0) && clMo q)]) (X := bv (decide (valE q = 0) && clCo q)) (.tmp 33) rfl Tryd.underlying4 rfl rfl) ⟨.inl rfl, trivial⟩ ⟨rfl, trivial⟩ trivial ?_
 refine t_opG rfl (sp_beql rfl Tryd.underlying4 (beq_self_eq_true _)) ⟨.inl rfl, .inl rfl, trivial⟩ trivial trivial ?_
 refine t_op rfl (sp_pick (.tmp 30) (.tmp 35) (.const (.bool false)) true (bv true) (bv false) rfl) ⟨.inl rfl, .inl rfl, .inl rfl, trivial⟩ trivial trivial ?_
 refine t_op rfl (sp_move (.tmp 36) (bv true) rfl) ⟨.inl rfl, trivial⟩ trivial trivial ?_
 refine t_opG rfl (sp_fieldBox (off' := 2) (.tmp 3) rfl Tryd.underlying37 rfl (z := 1) (by kernel_rfl) (by decide) rfl) ⟨.inl rfl, trivial⟩ trivial trivial ?_
 refine t_opG rfl (sp_loadBox1 (Y := .box 37 [bv (decide (valE q = 0) && clTh q), bv (decide (valE q = 0) && clCo q), bv (decide (valE q = 0) && clWo q), bv (decide (valE q = 0) && clTr q), bv (decide (valE q = 0) && clMo q)]) (X := bv (decide (valE q = 0) && clWo q)) (.tmp 38) rfl Tryd.underlying4 rfl rfl) ⟨.inl rfl, trivial⟩ ⟨rfl, trivial⟩ trivial ?_
 refine t_opG rfl (sp_fieldBox (off' := 2) (.tmp 5) rfl Tryd.underlying40 rfl (z := 1) (by kernel_rfl) (by decide) rfl) ⟨.inl rfl, trivial⟩ trivial trivial ?_
 refine t_opG rfl (sp_loadBox1 (Y := .box 40 [bv (decide (valE q = 0) && clTh q), bv (decide (valE q = 0) && clCo q), bv (decide (valE q = 0) && clWo q), bv (decide (valE q = 0) && clTr q), bv (decide (valE q = 0) && clMo q)]) (X := bv (decide (valE q = 0) && clWo q)) (.tmp 40) rfl Tryd.underlying4 rfl rfl) ⟨.inl rfl, trivial⟩ ⟨rfl, trivial⟩ trivial ?_
 refine t_opG rfl (sp_beql rfl Tryd.underlying4 (beq_self_eq_true _)) ⟨.inl rfl, .inl rfl, trivial⟩ trivial trivial ?_
 refine t_op rfl (sp_pick (.tmp 37) (.tmp 42) (.const (.bool false)) true (bv true) (bv false) rfl) ⟨.inl rfl, .inl rfl, .inl rfl, trivial⟩ trivial trivial ?_
 refine t_op rfl (sp_move (.tmp 43) (bv true) rfl) ⟨.inl rfl, trivial⟩ trivial trivial ?_
 refine t_opG rfl (sp_fieldBox (off' := 3) (.tmp 3) rfl Tryd.underlying37 rfl (z := 1) (by kernel_rfl) (by decide) rfl) ⟨.inl rfl, trivial⟩ trivial trivial ?_
 refine t_opG rfl (sp_loadBox1 (Y := .box 37 [bv (decide (valE q = 0) && clTh q), bv (decide (valE q = 0) && clCo q), bv (decide (valE q = 0) && clWo q), bv (decide (valE q = 0) && clTr q), bv (decide (valE q = 0) && clMo q)]) (X := bv (decide (valE q = 0) && clTr q)) (.tmp 45) rfl Tryd.underlying4 rfl rfl) ⟨.inl rfl, trivial⟩ ⟨rfl, trivial⟩ trivial ?_
 refine t_opG rfl (sp_fieldBox (off' := 3) (.tmp 5) rfl Tryd.underlying40 rfl (z := 1) (by kernel_rfl) (by decide) rfl) ⟨.inl rfl, trivial⟩ trivial trivial ?_
 refine t_opG rfl (sp_loadBox1 (Y := .box 40 [bv (decide (valE q = 0) && clTh q), bv (decide (valE q = 0) && clCo q), bv (decide (valE q = 0) && clWo q), bv (decide (valE q = 0) && clTr q), bv (decide (valE q = 0) && clMo q)]) (X := bv (decide (valE q = 0) && clTr q)) (.tmp 47) rfl Tryd.underlying4 rfl rfl) ⟨.inl rfl, trivial⟩ ⟨rfl, trivial⟩ trivial ?_
 refine t_opG rfl (sp_beql rfl Tryd.underlying4 (beq_self_eq_true _)) ⟨.inl rfl, .inl rfl, trivial⟩ trivial trivial ?_
 refine t_op rfl (sp_pick (.tmp 44) (.tmp 49) (.const (.bool false)) true (bv true) (bv false) rfl) ⟨.inl rfl, .inl rfl, .inl rfl, trivial⟩ trivial trivial ?_
 refine t_op rfl (sp_move (.tmp 50) (bv true) rfl) ⟨.inl rfl, trivial⟩ trivial trivial ?_
 refine t_opG rfl (sp_fieldBox (off' := 4) (.tmp 3) rfl Tryd.underlying37 rfl (z := 1) (by kernel_rfl) (by decide) rfl) ⟨.inl rfl, trivial⟩ trivial trivial ?_
 refine t_opG rfl (sp_loadBox1 (Y := .box 37 [bv (decide (valE q = 0) && clTh q), bv (decide (valE q = 0) && clCo q), bv (decide (valE q = 0) && clWo q), bv (decide (valE q = 0) && clTr q), bv (decide (valE q = 0) && clMo q)]) (X := bv (decide (valE q = 0) && clMo q)) (.tmp 52) rfl Tryd.underlying4 rfl rfl) ⟨.inl rfl, trivial⟩ ⟨rfl, trivial⟩ trivial ?_
 refine t_opG rfl (sp_fieldBox (off' := 4) (.tmp 5) rfl Tryd.underlying40 rfl (z := 1) (by kernel_rfl) (by decide) rfl) ⟨.inl rfl, trivial⟩ trivial trivial ?_
 refine t_opG rfl (sp_loadBox1 (Y := .box 40 [bv (decide (valE q = 0) && clTh q), bv (decide (valE q = 0) && clCo q), bv (decide (valE q = 0) && clWo q), bv (decide (valE q = 0) && clTr q), bv (decide (valE q = 0) && clMo q)]) (X := bv (decide (valE q = 0) && clMo q)) (.tmp 54) rfl Tryd.underlying4 rfl rfl) ⟨.inl rfl, trivial⟩ ⟨rfl, trivial⟩ trivial ?_
 refine t_opG rfl (sp_beql rfl Tryd.underlying4 (beq_self_eq_true _)) ⟨.inl rfl, .inl rfl, trivial⟩ trivial trivial ?_
 refine t_op rfl (sp_pick (.tmp 51) (.tmp 56) (.const (.bool false)) true (bv true) (bv false) rfl) ⟨.inl rfl, .inl rfl, .inl rfl, trivial⟩ trivial trivial ?_
 refine t_op rfl (sp_move (.tmp 57) (bv true) rfl) ⟨.inl rfl, trivial⟩ trivial trivial ?_
 refine t_opG rfl (sp_call (c := .func 14) (xs := #[]) [] known_c rfl (by kernel_rfl) rfl (Xs := []) rfl rfl rfl) ⟨.inl rfl, trivial⟩ trivial trivial ?_
 refine t_op rfl (sp_pick (.tmp 58) (.tmp 59) (.const (.bool false)) true (bv true) (bv false) rfl) ⟨.inl rfl, .inl rfl, .inl rfl, trivial⟩ trivial trivial ?_
 refine t_op rfl (sp_assign (.tmp 60) (bv true) rfl) ⟨.inl rfl, trivial⟩ trivial trivial ?_
 refine tri_nil ?_
 refine tri_wk (wk_keep [] [(2, bv true)] (n := 61) rfl (by kernel_rfl) (by kernel_rfl)) ?_
 refine t_then ?_
 refine tri_ret ?_
 refine tri_end1 Tryd.results5 (.tmp rfl) ?_
 exact rfl
theorem walk_Classes {v : Value} {q : Fm} (w : World) (hq : IsFam 0 w v q) (ht : TabW w) :
    Calls Tryd.prog 5 #[v] w fun e w' => e = .returned (.bool true) ∧ Below w.heap.size w w' :=
  walk1 (lawClasses_c hq.ok) (famw hq) ht
end Go.Proofs.YtmpbfdfjcfanoaaDoor
