import Derived.Test.YtmpbfdfjcfanoaaDoorGrpffocdgfn
set_option linter.all false
namespace Go.Proofs.YtmpbfdfjcfanoaaDoor
open Go.RowKit Go.Deep
variable {J : World → Prop}
set_option linter.unusedSimpArgs false in
set_option linter.unusedVariables false in
set_option maxRecDepth 100000 in
set_option maxHeartbeats 6400000 in
theorem sameButG {r u : Ru} (HR : RuOk r) (HS : RuOk u) : Ctr Tryd.prog J 62 [.agg (cRu r), .agg (cRu u)] (bv (samP r u)) := by
 have l1 := HR.lguards
 have l2 := HS.lguards
 refine ctr_of_tri Tryd.func62 rfl (by intro X hX; simp only [List.mem_cons, List.not_mem_nil, or_false] at hX; rcases hX with rfl | rfl; exact plain_agg (plain_ru r); exact plain_agg (plain_ru u)) (n := 126) rfl (by simp) (fun w0 => ?_)
 refine tri_wk (wk_keep [] [(0, .agg (cRu r)), (1, .agg (cRu u))] (n := 126)) ?_
 refine tri_seq ?_
 refine tri_region ?_
 refine t_op rfl (sp_box (X := .agg (cRu r)) (k := 1) (.tmp 0) rfl rfl) ⟨I0, T0⟩ T0 rfl ?_
 refine t_op rfl (sp_box (X := .agg (cRu u)) (k := 2) (.tmp 1) rfl rfl) ⟨I0, T0⟩ T0 rfl ?_
 refine t_op rfl (sp_assign (.const (.bool false)) (bv false) rfl) ⟨I0, T0⟩ T0 T0 ?_
 refine tri_nil ?_
 refine tri_wk (wk_keep [(1, .box 76 (cRu r)), (2, .box 76 (cRu u))] [(2, .box 1 0), (3, .box 2 0), (4, bv false)] (n := 126)) ?_
 refine t_then ?_
 refine tri_seq ?_
 refine tri_seq ?_
 by_cases hs1 : ((r.guards.length : Nat) : Int) = ((u.guards.length : Nat) : Int)
 refine tri_region ?_
 refine t_op rfl (sp_fieldBox (off' := 7) (.tmp 2) rfl Tryd.underlying76 rfl (z := 1) (by kernel_rfl) (by decide) rfl) ⟨I0, T0⟩ T0 T0 ?_
 refine t_op rfl (sp_loadBox1 (Y := .box 76 (cRu r)) (X := slA 6 cTh r.guards) (.tmp 9) rfl Tryd.underlying49 rfl rfl) ⟨I0, T0⟩ ⟨rfl, T0⟩ T0 ?_
 refine t_op rfl (sp_lenSl (.tmp 10) rfl Tryd.underlying49) ⟨I0, T0⟩ T0 T0 ?_
 refine t_op rfl (sp_fieldBox (off' := 7) (.tmp 3) rfl Tryd.underlying76 rfl (z := 1) (by kernel_rfl) (by decide) rfl) ⟨I0, T0⟩ T0 T0 ?_
 refine t_op rfl (sp_loadBox1 (Y := .box 76 (cRu u)) (X := slA 6 cTh u.guards) (.tmp 12) rfl Tryd.underlying49 rfl rfl) ⟨I0, T0⟩ ⟨rfl, T0⟩ T0 ?_
 refine t_op rfl (sp_lenSl (.tmp 13) rfl Tryd.underlying49) ⟨I0, T0⟩ T0 T0 ?_
 refine t_op rfl (sp_neq rfl (dT' hs1)) ⟨I0, I0, T0⟩ T0 T0 ?_
 refine tri_nil ?_
 refine tri_wk (wk_keep [(1, .box 76 (cRu r)), (2, .box 76 (cRu u))] [(2, .box 1 0), (3, .box 2 0), (4, bv false), (15, bv false)] (n := 126)) ?_
 refine t_then ?_
 refine t_condF rfl ?_
 refine tri_skip ?_
 refine t_then ?_
 refine tri_seq ?_
 refine tri_seq ?_
 refine tri_region ?_
 refine t_op rfl (sp_assign (.const (.int .i64 0)) (iv 0) rfl) ⟨I0, T0⟩ T0 T0 ?_
 refine tri_nil ?_
 refine tri_wk (wk_keep [(1, .box 76 (cRu r)), (2, .box 76 (cRu u))] [(2, .box 1 0), (3, .box 2 0), (4, bv false), (5, iv 0)] (n := 126)) ?_
 refine t_then ?_
 refine t_cut (decide (r.guards = u.guards) = true) (ofL [(1, .box 76 (cRu r)), (2, .box 76 (cRu u))]) (ofT 126 [(2, .box 1 0), (3, .box 2 0)]) ?_ (fun GQ => ?_)
 refine tri_block ?_
 refine tri_loop (σ := {k : Nat // k ≤ r.guards.length ∧ agK r.guards u.guards k}) (fun s => (ofL [(1, .box 76 (cRu r)), (2, .box 76 (cRu u))], ofT 126 [(2, .box 1 0), (3, .box 2 0), (5, iv s.1)])) (fun s => r.guards.length - s.1) ⟨0, Nat.zero_le _, agK_zero _ _⟩ (wk_keep _ _ rfl (by kernel_rfl) (by kernel_rfl)) (fun s => ?_)
 obtain ⟨k, hk0, hs0⟩ := s
 show ETri J w0 (ofL [(1, .box 76 (cRu r)), (2, .box 76 (cRu u))]) (ofT 126 [(2, .box 1 0), (3, .box 2 0), (5, iv k)]) _
 refine tri_seq ?_
 refine tri_seq ?_
 by_cases hs2 : ((k : Nat) : Int) < ((r.guards.length : Nat) : Int)
 refine tri_region ?_
 refine t_op rfl (sp_move (.tmp 5) (iv k) rfl) ⟨I0, T0⟩ T0 T0 ?_
 refine t_op rfl (sp_fieldBox (off' := 7) (.tmp 2) rfl Tryd.underlying76 rfl (z := 1) (by kernel_rfl) (by decide) rfl) ⟨I0, T0⟩ T0 T0 ?_
 refine t_op rfl (sp_loadBox1 (Y := .box 76 (cRu r)) (X := slA 6 cTh r.guards) (.tmp 17) rfl Tryd.underlying49 rfl rfl) ⟨I0, T0⟩ ⟨rfl, T0⟩ T0 ?_
 refine t_op rfl (sp_lenSl (.tmp 18) rfl Tryd.underlying49) ⟨I0, T0⟩ T0 T0 ?_
 refine t_op rfl (sp_lss rfl (dT hs2)) ⟨I0, I0, T0⟩ T0 T0 ?_
 refine tri_nil ?_
 refine tri_wk (wk_keep [(1, .box 76 (cRu r)), (2, .box 76 (cRu u))] [(2, .box 1 0), (3, .box 2 0), (5, iv k), (20, bv true)] (n := 126)) ?_
 refine t_then ?_
 refine t_condT rfl ?_
 refine tri_skip ?_
 refine t_then ?_
 refine tri_seq ?_
 refine tri_block ?_
 refine tri_seq ?_
 by_cases hs3 : (decide (r.guards[k] = u.guards[k])) = true
 refine tri_draw [⟨[(.tmp 2, .box 1 0)], [], .box 1 7, .no⟩, ⟨[(.tmp 23, .box 1 7)], [(1, .box 76 (cRu r))], slA 6 cTh r.guards, .no⟩, ⟨[(.tmp 5, iv k)], [], iv k, .no⟩, ⟨[(.tmp 24, slA 6 cTh r.guards), (.tmp 25, iv k)], [], .el (r.guards.flatMap cTh) (k * 6), .no⟩, ⟨[(.tmp 26, .el (r.guards.flatMap cTh) (k * 6))], [], .agg (cTh r.guards[k]), .no⟩, ⟨[(.tmp 3, .box 2 0)], [], .box 2 7, .no⟩, ⟨[(.tmp 28, .box 2 7)], [(2, .box 76 (cRu u))], slA 6 cTh u.guards, .no⟩, ⟨[(.tmp 5, iv k)], [], iv k, .no⟩, ⟨[(.tmp 29, slA 6 cTh u.guards), (.tmp 30, iv k)], [], .el (u.guards.flatMap cTh) (k * 6), .no⟩, ⟨[(.tmp 31, .el (u.guards.flatMap cTh) (k * 6))], [], .agg (cTh u.guards[k]), .no⟩, ⟨[(.func 103, .v (.func (.func 103) #[] #[])), (.tmp 27, .agg (cTh r.guards[k])), (.tmp 32, .agg (cTh u.guards[k]))], [], bv true, .no⟩, ⟨[(.tmp 33, bv true)], [], bv false, .no⟩] (by kernel_rfl) (by kernel_rfl) ?_
 refine ⟨app_yes rfl (sp_fieldBox (off' := 7) (.tmp 2) rfl Tryd.underlying76 rfl (z := 1) (by kernel_rfl) (by decide) rfl) ⟨I0, T0⟩ T0 T0, ?_⟩
 refine ⟨app_yes rfl (sp_loadBox1 (Y := .box 76 (cRu r)) (X := slA 6 cTh r.guards) (.tmp 23) rfl Tryd.underlying49 rfl rfl) ⟨I0, T0⟩ ⟨rfl, T0⟩ T0, ?_⟩
 refine ⟨app_yes rfl (sp_move (.tmp 5) (iv k) rfl) ⟨I0, T0⟩ T0 T0, ?_⟩
 refine ⟨app_yes rfl (sp_indexSl (off := k * 6) (.tmp 24) (.tmp 25) rfl Tryd.underlying49 (by kernel_rfl) (by omega) (by omega) rfl) ⟨I0, I0, T0⟩ T0 T0, ?_⟩
 refine ⟨app_yes rfl (sp_loadElS (z := 6) (.tmp 26) rfl Tryd.underlying55 rfl (by kernel_rfl) (flat_take lenTh r.guards k (by omega)) rfl) ⟨I0, T0⟩ T0 T0, ?_⟩
 refine ⟨app_yes rfl (sp_fieldBox (off' := 7) (.tmp 3) rfl Tryd.underlying76 rfl (z := 1) (by kernel_rfl) (by decide) rfl) ⟨I0, T0⟩ T0 T0, ?_⟩
 refine ⟨app_yes rfl (sp_loadBox1 (Y := .box 76 (cRu u)) (X := slA 6 cTh u.guards) (.tmp 28) rfl Tryd.underlying49 rfl rfl) ⟨I0, T0⟩ ⟨rfl, T0⟩ T0, ?_⟩
 refine ⟨app_yes rfl (sp_move (.tmp 5) (iv k) rfl) ⟨I0, T0⟩ T0 T0, ?_⟩
 refine ⟨app_yes rfl (sp_indexSl (off := k * 6) (.tmp 29) (.tmp 30) rfl Tryd.underlying49 (by kernel_rfl) (by omega) (by omega) rfl) ⟨I0, I0, T0⟩ T0 T0, ?_⟩
 refine ⟨app_yes rfl (sp_loadElS (z := 6) (.tmp 31) rfl Tryd.underlying55 rfl (by kernel_rfl) (flat_take lenTh u.guards k (by omega)) rfl) ⟨I0, T0⟩ T0 T0, ?_⟩
 refine ⟨app_yes rfl (sp_call (c := .func 103) (xs := #[.tmp 27, .tmp 32]) [] (ctr_b (sameThG r.guards[k] u.guards[k]) hs3) rfl (by kernel_rfl) rfl (Xs := [.agg (cTh r.guards[k]), .agg (cTh u.guards[k])]) rfl rfl rfl) ⟨I0, I0, I0, T0⟩ T0 T0, ?_⟩
 refine ⟨app_yes rfl (sp_not rfl rfl) ⟨I0, T0⟩ T0 T0, ?_⟩
 show ETri J w0 _ _ _
 refine tri_wk (wk_keep [(1, .box 76 (cRu r)), (2, .box 76 (cRu u))] [(2, .box 1 0), (3, .box 2 0), (5, iv k), (20, bv true), (34, bv false)] (n := 126)) ?_
 refine t_then ?_
 refine t_condF rfl ?_
 refine tri_skip ?_
 refine t_block ?_
 refine t_then ?_
 refine tri_region ?_
 refine t_op rfl (sp_move (.tmp 5) (iv k) rfl) ⟨I0, T0⟩ T0 T0 ?_
 refine t_op rfl (sp_add (c := ((k + 1 : Nat) : Int)) rfl (w64 (by omega) (by omega) (by omega))) ⟨I0, I0, T0⟩ T0 T0 ?_
 refine t_op rfl (sp_assign (.tmp 22) (iv (k + 1 : Nat)) rfl) ⟨I0, T0⟩ T0 T0 ?_
 refine tri_nil ?_
 refine tri_wk (wk_keep [(1, .box 76 (cRu r)), (2, .box 76 (cRu u))] [(2, .box 1 0), (3, .box 2 0), (5, iv (k + 1 : Nat)), (20, bv true), (34, bv false)] (n := 126)) ?_
 refine t_then ?_
 refine tri_again ⟨k + 1, by omega, agK_succ (by omega) (by omega) hs0 (of_decide_eq_true hs3)⟩ (show r.guards.length - (k + 1) < r.guards.length - k by omega) ?_
 exact wk_keep _ _ rfl (by kernel_rfl) (by kernel_rfl)
 have hs3f : (decide (r.guards[k] = u.guards[k])) = false := by simpa using hs3
 refine tri_draw [⟨[(.tmp 2, .box 1 0)], [], .box 1 7, .no⟩, ⟨[(.tmp 23, .box 1 7)], [(1, .box 76 (cRu r))], slA 6 cTh r.guards, .no⟩, ⟨[(.tmp 5, iv k)], [], iv k, .no⟩, ⟨[(.tmp 24, slA 6 cTh r.guards), (.tmp 25, iv k)], [], .el (r.guards.flatMap cTh) (k * 6), .no⟩, ⟨[(.tmp 26, .el (r.guards.flatMap cTh) (k * 6))], [], .agg (cTh r.guards[k]), .no⟩, ⟨[(.tmp 3, .box 2 0)], [], .box 2 7, .no⟩, ⟨[(.tmp 28, .box 2 7)], [(2, .box 76 (cRu u))], slA 6 cTh u.guards, .no⟩, ⟨[(.tmp 5, iv k)], [], iv k, .no⟩, ⟨[(.tmp 29, slA 6 cTh u.guards), (.tmp 30, iv k)], [], .el (u.guards.flatMap cTh) (k * 6), .no⟩, ⟨[(.tmp 31, .el (u.guards.flatMap cTh) (k * 6))], [], .agg (cTh u.guards[k]), .no⟩, ⟨[(.func 103, .v (.func (.func 103) #[] #[])), (.tmp 27, .agg (cTh r.guards[k])), (.tmp 32, .agg (cTh u.guards[k]))], [], bv false, .no⟩, ⟨[(.tmp 33, bv false)], [], bv true, .no⟩] (by kernel_rfl) (by kernel_rfl) ?_
 refine ⟨app_yes rfl (sp_fieldBox (off' := 7) (.tmp 2) rfl Tryd.underlying76 rfl (z := 1) (by kernel_rfl) (by decide) rfl) ⟨I0, T0⟩ T0 T0, ?_⟩
 refine ⟨app_yes rfl (sp_loadBox1 (Y := .box 76 (cRu r)) (X := slA 6 cTh r.guards) (.tmp 23) rfl Tryd.underlying49 rfl rfl) ⟨I0, T0⟩ ⟨rfl, T0⟩ T0, ?_⟩
 refine ⟨app_yes rfl (sp_move (.tmp 5) (iv k) rfl) ⟨I0, T0⟩ T0 T0, ?_⟩
 refine ⟨app_yes rfl (sp_indexSl (off := k * 6) (.tmp 24) (.tmp 25) rfl Tryd.underlying49 (by kernel_rfl) (by omega) (by omega) rfl) ⟨I0, I0, T0⟩ T0 T0, ?_⟩
 refine ⟨app_yes rfl (sp_loadElS (z := 6) (.tmp 26) rfl Tryd.underlying55 rfl (by kernel_rfl) (flat_take lenTh r.guards k (by omega)) rfl) ⟨I0, T0⟩ T0 T0, ?_⟩
 refine ⟨app_yes rfl (sp_fieldBox (off' := 7) (.tmp 3) rfl Tryd.underlying76 rfl (z := 1) (by kernel_rfl) (by decide) rfl) ⟨I0, T0⟩ T0 T0, ?_⟩
 refine ⟨app_yes rfl (sp_loadBox1 (Y := .box 76 (cRu u)) (X := slA 6 cTh u.guards) (.tmp 28) rfl Tryd.underlying49 rfl rfl) ⟨I0, T0⟩ ⟨rfl, T0⟩ T0, ?_⟩
 refine ⟨app_yes rfl (sp_move (.tmp 5) (iv k) rfl) ⟨I0, T0⟩ T0 T0, ?_⟩
 refine ⟨app_yes rfl (sp_indexSl (off := k * 6) (.tmp 29) (.tmp 30) rfl Tryd.underlying49 (by kernel_rfl) (by omega) (by omega) rfl) ⟨I0, I0, T0⟩ T0 T0, ?_⟩
 refine ⟨app_yes rfl (sp_loadElS (z := 6) (.tmp 31) rfl Tryd.underlying55 rfl (by kernel_rfl) (flat_take lenTh u.guards k (by omega)) rfl) ⟨I0, T0⟩ T0 T0, ?_⟩
 refine ⟨app_yes rfl (sp_call (c := .func 103) (xs := #[.tmp 27, .tmp 32]) [] (ctr_b (sameThG r.guards[k] u.guards[k]) hs3f) rfl (by kernel_rfl) rfl (Xs := [.agg (cTh r.guards[k]), .agg (cTh u.guards[k])]) rfl rfl rfl) ⟨I0, I0, I0, T0⟩ T0 T0, ?_⟩
 refine ⟨app_yes rfl (sp_not rfl rfl) ⟨I0, T0⟩ T0 T0, ?_⟩
 show ETri J w0 _ _ _
 refine tri_wk (wk_keep [(1, .box 76 (cRu r)), (2, .box 76 (cRu u))] [(2, .box 1 0), (3, .box 2 0), (5, iv k), (20, bv true), (34, bv true)] (n := 126)) ?_
 refine t_then ?_
 refine t_condT rfl ?_
 refine tri_seq ?_
 refine tri_region ?_
 refine t_op rfl (sp_assign (.const (.bool false)) (bv false) rfl) ⟨I0, T0⟩ T0 T0 ?_
 refine tri_nil ?_
 refine tri_wk (wk_keep [(1, .box 76 (cRu r)), (2, .box 76 (cRu u))] [(2, .box 1 0), (3, .box 2 0), (4, bv false), (5, iv k), (20, bv true), (34, bv true)] (n := 126)) ?_
 refine t_then ?_
 refine tri_ret ?_
 refine t_block_ret ?_
 refine t_then_ret ?_
 refine t_then_ret ?_
 refine t_block_ret ?_
 refine t_cut_ret ?_
 refine t_then_ret ?_
 refine tri_end1 Tryd.results62 (.tmp rfl) ?_
 exact congrArg (fun x : Bool => AV.v (.bool x)) ((samP_not (fun h => h.guards) (of_decide_eq_false (ag_no (k := k) (by omega) (by omega) (of_decide_eq_false hs3f)))).symm)
 refine tri_region ?_
 refine t_op rfl (sp_move (.tmp 5) (iv k) rfl) ⟨I0, T0⟩ T0 T0 ?_
 refine t_op rfl (sp_fieldBox (off' := 7) (.tmp 2) rfl Tryd.underlying76 rfl (z := 1) (by kernel_rfl) (by decide) rfl) ⟨I0, T0⟩ T0 T0 ?_
 refine t_op rfl (sp_loadBox1 (Y := .box 76 (cRu r)) (X := slA 6 cTh r.guards) (.tmp 17) rfl Tryd.underlying49 rfl rfl) ⟨I0, T0⟩ ⟨rfl, T0⟩ T0 ?_
 refine t_op rfl (sp_lenSl (.tmp 18) rfl Tryd.underlying49) ⟨I0, T0⟩ T0 T0 ?_
 refine t_op rfl (sp_lss rfl (dF hs2)) ⟨I0, I0, T0⟩ T0 T0 ?_
 refine tri_nil ?_
 refine tri_wk (wk_keep [(1, .box 76 (cRu r)), (2, .box 76 (cRu u))] [(2, .box 1 0), (3, .box 2 0), (5, iv k), (20, bv false)] (n := 126)) ?_
 refine t_then ?_
 refine t_condF rfl ?_
 refine tri_exit ?_
 refine t_then_exit ?_
 refine t_then_exit ?_
 refine t_hit ?_
 exact t_meet (ag_end hs1 (by omega) hs0) (wk_keep _ _ rfl (by kernel_rfl) (by kernel_rfl))
 refine t_then ?_
 refine tri_seq ?_
 refine tri_region ?_
 refine t_op rfl (sp_fieldBox (off' := 1) (.tmp 2) rfl Tryd.underlying76 rfl (z := 1) (by kernel_rfl) (by decide) rfl) ⟨I0, T0⟩ T0 T0 ?_
 refine t_op rfl (sp_loadBox1 (Y := .box 76 (cRu r)) (X := iv r.kind) (.tmp 35) rfl Tryd.underlying3 rfl rfl) ⟨I0, T0⟩ ⟨rfl, T0⟩ T0 ?_
 refine t_op rfl (sp_fieldBox (off' := 2) (.tmp 2) rfl Tryd.underlying76 rfl (z := 1) (by kernel_rfl) (by decide) rfl) ⟨I0, T0⟩ T0 T0 ?_
 refine t_op rfl (sp_loadBox1 (Y := .box 76 (cRu r)) (X := iv r.frm) (.tmp 37) rfl Tryd.underlying3 rfl rfl) ⟨I0, T0⟩ ⟨rfl, T0⟩ T0 ?_
 refine t_op rfl (sp_fieldBox (off' := 3) (.tmp 2) rfl Tryd.underlying76 rfl (z := 1) (by kernel_rfl) (by decide) rfl) ⟨I0, T0⟩ T0 T0 ?_
 refine t_op rfl (sp_loadBox1 (Y := .box 76 (cRu r)) (X := iv r.to) (.tmp 39) rfl Tryd.underlying3 rfl rfl) ⟨I0, T0⟩ ⟨rfl, T0⟩ T0 ?_
 refine t_op rfl (sp_fieldBox (off' := 4) (.tmp 2) rfl Tryd.underlying76 rfl (z := 1) (by kernel_rfl) (by decide) rfl) ⟨I0, T0⟩ T0 T0 ?_
 refine t_op rfl (sp_loadBox1 (Y := .box 76 (cRu r)) (X := iv r.pf) (.tmp 41) rfl Tryd.underlying3 rfl rfl) ⟨I0, T0⟩ ⟨rfl, T0⟩ T0 ?_
 refine t_op rfl (sp_fieldBox (off' := 5) (.tmp 2) rfl Tryd.underlying76 rfl (z := 1) (by kernel_rfl) (by decide) rfl) ⟨I0, T0⟩ T0 T0 ?_
 refine t_op rfl (sp_loadBox1 (Y := .box 76 (cRu r)) (X := iv r.pt) (.tmp 43) rfl Tryd.underlying3 rfl rfl) ⟨I0, T0⟩ ⟨rfl, T0⟩ T0 ?_
 refine t_op rfl (sp_fieldBox (off' := 10) (.tmp 2) rfl Tryd.underlying76 rfl (z := 1) (by kernel_rfl) (by decide) rfl) ⟨I0, T0⟩ T0 T0 ?_
 refine t_op rfl (sp_loadBox1 (Y := .box 76 (cRu r)) (X := iv r.rd) (.tmp 45) rfl Tryd.underlying3 rfl rfl) ⟨I0, T0⟩ ⟨rfl, T0⟩ T0 ?_
 refine t_op rfl (sp_fieldBox (off' := 11) (.tmp 2) rfl Tryd.underlying76 rfl (z := 1) (by kernel_rfl) (by decide) rfl) ⟨I0, T0⟩ T0 T0 ?_
 refine t_op rfl (sp_loadBox1 (Y := .box 76 (cRu r)) (X := iv r.wr) (.tmp 47) rfl Tryd.underlying3 rfl rfl) ⟨I0, T0⟩ ⟨rfl, T0⟩ T0 ?_
 refine t_op rfl (sp_fieldBox (off' := 13) (.tmp 2) rfl Tryd.underlying76 rfl (z := 1) (by kernel_rfl) (by decide) rfl) ⟨I0, T0⟩ T0 T0 ?_
 refine t_op rfl (sp_loadBox1 (Y := .box 76 (cRu r)) (X := iv r.pos) (.tmp 49) rfl Tryd.underlying3 rfl rfl) ⟨I0, T0⟩ ⟨rfl, T0⟩ T0 ?_
 refine t_op rfl (sp_fieldBox (off' := 17) (.tmp 2) rfl Tryd.underlying76 rfl (z := 1) (by kernel_rfl) (by decide) rfl) ⟨I0, T0⟩ T0 T0 ?_
 refine t_op rfl (sp_loadBox1 (Y := .box 76 (cRu r)) (X := iv r.dir) (.tmp 51) rfl Tryd.underlying3 rfl rfl) ⟨I0, T0⟩ ⟨rfl, T0⟩ T0 ?_
 refine t_op rfl (sp_build (z := 1) (k := 3) (fr := true) (cs := [iv r.kind, iv r.frm, iv r.to, iv r.pf, iv r.pt, iv r.rd, iv r.wr, iv r.pos, iv r.dir]) [.tmp 36, .tmp 38, .tmp 40, .tmp 42, .tmp 44, .tmp 46, .tmp 48, .tmp 50, .tmp 52] [iv r.kind, iv r.frm, iv r.to, iv r.pf, iv r.pt, iv r.rd, iv r.wr, iv r.pos, iv r.dir] rfl Tryd.underlying24 (by kernel_rfl) (by decide) (by decide) rfl rfl rfl (by kernel_rfl) (by decide) (fun _ => by simp [AV.cellsOf, AV.isNew, cLn, cTh]) (by kernel_rfl)) ⟨I0, I0, I0, I0, I0, I0, I0, I0, I0, T0⟩ T0 rfl ?_
 refine t_op rfl (sp_assign (.tmp 53) (.own 3) rfl) ⟨I0, T0⟩ T0 T0 ?_
 refine tri_nil ?_
 refine tri_wk (wk_keep [(1, .box 76 (cRu r)), (2, .box 76 (cRu u)), (3, .row true 3 1 9 ([iv r.kind, iv r.frm, iv r.to, iv r.pf, iv r.pt, iv r.rd, iv r.wr, iv r.pos, iv r.dir]))] [(2, .box 1 0), (3, .box 2 0), (6, .own 3)] (n := 126)) ?_
 refine t_then ?_
 refine tri_seq ?_
 refine tri_region ?_
 refine t_op rfl (sp_fieldBox (off' := 1) (.tmp 3) rfl Tryd.underlying76 rfl (z := 1) (by kernel_rfl) (by decide) rfl) ⟨I0, T0⟩ T0 T0 ?_
 refine t_op rfl (sp_loadBox1 (Y := .box 76 (cRu u)) (X := iv u.kind) (.tmp 54) rfl Tryd.underlying3 rfl rfl) ⟨I0, T0⟩ ⟨rfl, T0⟩ T0 ?_
 refine t_op rfl (sp_fieldBox (off' := 2) (.tmp 3) rfl Tryd.underlying76 rfl (z := 1) (by kernel_rfl) (by decide) rfl) ⟨I0, T0⟩ T0 T0 ?_
 refine t_op rfl (sp_loadBox1 (Y := .box 76 (cRu u)) (X := iv u.frm) (.tmp 56) rfl Tryd.underlying3 rfl rfl) ⟨I0, T0⟩ ⟨rfl, T0⟩ T0 ?_
 refine t_op rfl (sp_fieldBox (off' := 3) (.tmp 3) rfl Tryd.underlying76 rfl (z := 1) (by kernel_rfl) (by decide) rfl) ⟨I0, T0⟩ T0 T0 ?_
 refine t_op rfl (sp_loadBox1 (Y := .box 76 (cRu u)) (X := iv u.to) (.tmp 58) rfl Tryd.underlying3 rfl rfl) ⟨I0, T0⟩ ⟨rfl, T0⟩ T0 ?_
 refine t_op rfl (sp_fieldBox (off' := 4) (.tmp 3) rfl Tryd.underlying76 rfl (z := 1) (by kernel_rfl) (by decide) rfl) ⟨I0, T0⟩ T0 T0 ?_
 refine t_op rfl (sp_loadBox1 (Y := .box 76 (cRu u)) (X := iv u.pf) (.tmp 60) rfl Tryd.underlying3 rfl rfl) ⟨I0, T0⟩ ⟨rfl, T0⟩ T0 ?_
 refine t_op rfl (sp_fieldBox (off' := 5) (.tmp 3) rfl Tryd.underlying76 rfl (z := 1) (by kernel_rfl) (by decide) rfl) ⟨I0, T0⟩ T0 T0 ?_
 refine t_op rfl (sp_loadBox1 (Y := .box 76 (cRu u)) (X := iv u.pt) (.tmp 62) rfl Tryd.underlying3 rfl rfl) ⟨I0, T0⟩ ⟨rfl, T0⟩ T0 ?_
 refine t_op rfl (sp_fieldBox (off' := 10) (.tmp 3) rfl Tryd.underlying76 rfl (z := 1) (by kernel_rfl) (by decide) rfl) ⟨I0, T0⟩ T0 T0 ?_
 refine t_op rfl (sp_loadBox1 (Y := .box 76 (cRu u)) (X := iv u.rd) (.tmp 64) rfl Tryd.underlying3 rfl rfl) ⟨I0, T0⟩ ⟨rfl, T0⟩ T0 ?_
 refine t_op rfl (sp_fieldBox (off' := 11) (.tmp 3) rfl Tryd.underlying76 rfl (z := 1) (by kernel_rfl) (by decide) rfl) ⟨I0, T0⟩ T0 T0 ?_
 refine t_op rfl (sp_loadBox1 (Y := .box 76 (cRu u)) (X := iv u.wr) (.tmp 66) rfl Tryd.underlying3 rfl rfl) ⟨I0, T0⟩ ⟨rfl, T0⟩ T0 ?_
 refine t_op rfl (sp_fieldBox (off' := 13) (.tmp 3) rfl Tryd.underlying76 rfl (z := 1) (by kernel_rfl) (by decide) rfl) ⟨I0, T0⟩ T0 T0 ?_
 refine t_op rfl (sp_loadBox1 (Y := .box 76 (cRu u)) (X := iv u.pos) (.tmp 68) rfl Tryd.underlying3 rfl rfl) ⟨I0, T0⟩ ⟨rfl, T0⟩ T0 ?_
 refine t_op rfl (sp_fieldBox (off' := 17) (.tmp 3) rfl Tryd.underlying76 rfl (z := 1) (by kernel_rfl) (by decide) rfl) ⟨I0, T0⟩ T0 T0 ?_
 refine t_op rfl (sp_loadBox1 (Y := .box 76 (cRu u)) (X := iv u.dir) (.tmp 70) rfl Tryd.underlying3 rfl rfl) ⟨I0, T0⟩ ⟨rfl, T0⟩ T0 ?_
 refine t_op rfl (sp_build (z := 1) (k := 4) (fr := true) (cs := [iv u.kind, iv u.frm, iv u.to, iv u.pf, iv u.pt, iv u.rd, iv u.wr, iv u.pos, iv u.dir]) [.tmp 55, .tmp 57, .tmp 59, .tmp 61, .tmp 63, .tmp 65, .tmp 67, .tmp 69, .tmp 71] [iv u.kind, iv u.frm, iv u.to, iv u.pf, iv u.pt, iv u.rd, iv u.wr, iv u.pos, iv u.dir] rfl Tryd.underlying24 (by kernel_rfl) (by decide) (by decide) rfl rfl rfl (by kernel_rfl) (by decide) (fun _ => by simp [AV.cellsOf, AV.isNew, cLn, cTh]) (by kernel_rfl)) ⟨I0, I0, I0, I0, I0, I0, I0, I0, I0, T0⟩ T0 rfl ?_
 refine t_op rfl (sp_assign (.tmp 72) (.own 4) rfl) ⟨I0, T0⟩ T0 T0 ?_
 refine tri_nil ?_
 refine tri_wk (wk_keep [(1, .box 76 (cRu r)), (2, .box 76 (cRu u)), (3, .row true 3 1 9 ([iv r.kind, iv r.frm, iv r.to, iv r.pf, iv r.pt, iv r.rd, iv r.wr, iv r.pos, iv r.dir])), (4, .row true 3 1 9 ([iv u.kind, iv u.frm, iv u.to, iv u.pf, iv u.pt, iv u.rd, iv u.wr, iv u.pos, iv u.dir]))] [(2, .box 1 0), (3, .box 2 0), (6, .own 3), (7, .own 4)] (n := 126)) ?_
 refine t_then ?_
 refine tri_seq ?_
 by_cases hs4 : (decide ([r.kind, r.frm, r.to, r.pf, r.pt, r.rd, r.wr, r.pos, r.dir] = [u.kind, u.frm, u.to, u.pf, u.pt, u.rd, u.wr, u.pos, u.dir])) = true
 by_cases hs5 : (decide (r.resp = u.resp)) = true
 by_cases hs6 : (decide (r.ex = u.ex)) = true
 refine tri_region ?_
 refine t_op rfl (sp_move (.tmp 6) (.own 3) rfl) ⟨I0, T0⟩ T0 T0 ?_
 refine t_op rfl (sp_move (.tmp 7) (.own 4) rfl) ⟨I0, T0⟩ T0 T0 ?_
 refine t_op rfl (sp_call (c := .func 35) (xs := #[.tmp 73, .tmp 74]) [(3, .row true 3 1 9 ([iv r.kind, iv r.frm, iv r.to, iv r.pf, iv r.pt, iv r.rd, iv r.wr, iv r.pos, iv r.dir])), (4, .row true 3 1 9 ([iv u.kind, iv u.frm, iv u.to, iv u.pf, iv u.pt, iv u.rd, iv u.wr, iv u.pos, iv u.dir]))] (ctr_b (sameIntsG ([r.kind, r.frm, r.to, r.pf, r.pt, r.rd, r.wr, r.pos, r.dir]) ([u.kind, u.frm, u.to, u.pf, u.pt, u.rd, u.wr, u.pos, u.dir]) (ruInts HR) (ruInts HS)) hs4) rfl (by kernel_rfl) rfl (Xs := [.own 3, .own 4]) rfl rfl rfl) ⟨I0, I0, I0, T0⟩ ⟨rfl, rfl, T0⟩ T0 ?_
 refine t_op rfl (sp_move (.tmp 75) (bv true) rfl) ⟨I0, T0⟩ T0 T0 ?_
 refine t_opG rfl (sp_fieldBox (off' := 6) (.tmp 2) rfl Tryd.underlying76 rfl (z := 1) (by kernel_rfl) (by decide) rfl) ⟨I0, T0⟩ T0 T0 ?_
 refine t_opG rfl (sp_loadBox1 (Y := .box 76 (cRu r)) (X := intsA r.resp) (.tmp 77) rfl Tryd.underlying24 rfl rfl) ⟨I0, T0⟩ ⟨rfl, T0⟩ T0 ?_
 refine t_opG rfl (sp_fieldBox (off' := 6) (.tmp 3) rfl Tryd.underlying76 rfl (z := 1) (by kernel_rfl) (by decide) rfl) ⟨I0, T0⟩ T0 T0 ?_
 refine t_opG rfl (sp_loadBox1 (Y := .box 76 (cRu u)) (X := intsA u.resp) (.tmp 79) rfl Tryd.underlying24 rfl rfl) ⟨I0, T0⟩ ⟨rfl, T0⟩ T0 ?_
 refine t_opG rfl (sp_call (c := .func 35) (xs := #[.tmp 78, .tmp 80]) [] (ctr_b (sameIntsG r.resp u.resp HR.resp HS.resp) hs5) rfl (by kernel_rfl) rfl (Xs := [intsA r.resp, intsA u.resp]) rfl rfl rfl) ⟨I0, I0, I0, T0⟩ T0 T0 ?_
 refine t_op rfl (sp_pick (.tmp 76) (.tmp 81) (.const (.bool false)) true (bv true) (bv false) rfl) ⟨I0, I0, I0, T0⟩ T0 T0 ?_
 refine t_op rfl (sp_move (.tmp 82) (bv true) rfl) ⟨I0, T0⟩ T0 T0 ?_
 refine t_opG rfl (sp_fieldBox (off' := 8) (.tmp 2) rfl Tryd.underlying76 rfl (z := 1) (by kernel_rfl) (by decide) rfl) ⟨I0, T0⟩ T0 T0 ?_
 refine t_opG rfl (sp_loadBox1 (Y := .box 76 (cRu r)) (X := intsA r.ex) (.tmp 84) rfl Tryd.underlying24 rfl rfl) ⟨I0, T0⟩ ⟨rfl, T0⟩ T0 ?_
 refine t_opG rfl (sp_fieldBox (off' := 8) (.tmp 3) rfl Tryd.underlying76 rfl (z := 1) (by kernel_rfl) (by decide) rfl) ⟨I0, T0⟩ T0 T0 ?_
 refine t_opG rfl (sp_loadBox1 (Y := .box 76 (cRu u)) (X := intsA u.ex) (.tmp 86) rfl Tryd.underlying24 rfl rfl) ⟨I0, T0⟩ ⟨rfl, T0⟩ T0 ?_
 refine t_opG rfl (sp_call (c := .func 35) (xs := #[.tmp 85, .tmp 87]) [] (ctr_b (sameIntsG r.ex u.ex HR.ex HS.ex) hs6) rfl (by kernel_rfl) rfl (Xs := [intsA r.ex, intsA u.ex]) rfl rfl rfl) ⟨I0, I0, I0, T0⟩ T0 T0 ?_
 refine t_op rfl (sp_pick (.tmp 83) (.tmp 88) (.const (.bool false)) true (bv true) (bv false) rfl) ⟨I0, I0, I0, T0⟩ T0 T0 ?_
 refine t_op rfl (sp_move (.tmp 89) (bv true) rfl) ⟨I0, T0⟩ T0 T0 ?_
 refine t_opG rfl (sp_fieldBox (off' := 9) (.tmp 2) rfl Tryd.underlying76 rfl (z := 1) (by kernel_rfl) (by decide) rfl) ⟨I0, T0⟩ T0 T0 ?_
 refine t_opG rfl (sp_loadBox1 (Y := .box 76 (cRu r)) (X := intsA r.fa) (.tmp 91) rfl Tryd.underlying24 rfl rfl) ⟨I0, T0⟩ ⟨rfl, T0⟩ T0 ?_
 refine t_opG rfl (sp_fieldBox (off' := 9) (.tmp 3) rfl Tryd.underlying76 rfl (z := 1) (by kernel_rfl) (by decide) rfl) ⟨I0, T0⟩ T0 T0 ?_
 refine t_opG rfl (sp_loadBox1 (Y := .box 76 (cRu u)) (X := intsA u.fa) (.tmp 93) rfl Tryd.underlying24 rfl rfl) ⟨I0, T0⟩ ⟨rfl, T0⟩ T0 ?_
 refine t_opG rfl (sp_call (c := .func 35) (xs := #[.tmp 92, .tmp 94]) [] (sameIntsG r.fa u.fa HR.fa HS.fa) rfl (by kernel_rfl) rfl (Xs := [intsA r.fa, intsA u.fa]) rfl rfl rfl) ⟨I0, I0, I0, T0⟩ T0 T0 ?_
 refine t_op rfl (sp_pick (.tmp 90) (.tmp 95) (.const (.bool false)) true (bv (decide (r.fa = u.fa))) (bv false) rfl) ⟨I0, I0, I0, T0⟩ T0 T0 ?_
 refine t_op rfl (sp_assign (.tmp 96) (bv (decide (r.fa = u.fa))) rfl) ⟨I0, T0⟩ T0 T0 ?_
 refine tri_nil ?_
 refine tri_wk (wk_keep [(1, .box 76 (cRu r)), (2, .box 76 (cRu u))] [(2, .box 1 0), (3, .box 2 0), (8, bv (decide (r.fa = u.fa)))] (n := 126)) ?_
 refine t_then ?_
 refine tri_seq ?_
 by_cases hs7 : (decide (r.fa = u.fa)) = true
 rw [hs7]
 refine tri_wk (wk_keep [(1, .box 76 (cRu r)), (2, .box 76 (cRu u))] [(2, .box 1 0), (3, .box 2 0), (8, bv true)] (n := 126)) ?_
 by_cases hs8 : (decide (r.send = u.send)) = true
 by_cases hs9 : (decide (r.left = u.left)) = true
 by_cases hs10 : (decide (r.right = u.right)) = true
 refine tri_region ?_
 refine t_op rfl (sp_move (.tmp 8) (bv true) rfl) ⟨I0, T0⟩ T0 T0 ?_
 refine t_op rfl (sp_move (.tmp 97) (bv true) rfl) ⟨I0, T0⟩ T0 T0 ?_
 refine t_opG rfl (sp_fieldBox (off' := 12) (.tmp 2) rfl Tryd.underlying76 rfl (z := 1) (by kernel_rfl) (by decide) rfl) ⟨I0, T0⟩ T0 T0 ?_
 refine t_opG rfl (sp_loadBox1 (Y := .box 76 (cRu r)) (X := intsA r.send) (.tmp 99) rfl Tryd.underlying24 rfl rfl) ⟨I0, T0⟩ ⟨rfl, T0⟩ T0 ?_
 refine t_opG rfl (sp_fieldBox (off' := 12) (.tmp 3) rfl Tryd.underlying76 rfl (z := 1) (by kernel_rfl) (by decide) rfl) ⟨I0, T0⟩ T0 T0 ?_
 refine t_opG rfl (sp_loadBox1 (Y := .box 76 (cRu u)) (X := intsA u.send) (.tmp 101) rfl Tryd.underlying24 rfl rfl) ⟨I0, T0⟩ ⟨rfl, T0⟩ T0 ?_
 refine t_opG rfl (sp_call (c := .func 35) (xs := #[.tmp 100, .tmp 102]) [] (ctr_b (sameIntsG r.send u.send HR.send HS.send) hs8) rfl (by kernel_rfl) rfl (Xs := [intsA r.send, intsA u.send]) rfl rfl rfl) ⟨I0, I0, I0, T0⟩ T0 T0 ?_
 refine t_op rfl (sp_pick (.tmp 98) (.tmp 103) (.const (.bool false)) true (bv true) (bv false) rfl) ⟨I0, I0, I0, T0⟩ T0 T0 ?_
 refine t_op rfl (sp_move (.tmp 104) (bv true) rfl) ⟨I0, T0⟩ T0 T0 ?_
 refine t_opG rfl (sp_fieldBox (off' := 14) (.tmp 2) rfl Tryd.underlying76 rfl (z := 1) (by kernel_rfl) (by decide) rfl) ⟨I0, T0⟩ T0 T0 ?_
 refine t_opG rfl (sp_loadBox1 (Y := .box 76 (cRu r)) (X := intsA r.left) (.tmp 106) rfl Tryd.underlying24 rfl rfl) ⟨I0, T0⟩ ⟨rfl, T0⟩ T0 ?_
 refine t_opG rfl (sp_fieldBox (off' := 14) (.tmp 3) rfl Tryd.underlying76 rfl (z := 1) (by kernel_rfl) (by decide) rfl) ⟨I0, T0⟩ T0 T0 ?_
 refine t_opG rfl (sp_loadBox1 (Y := .box 76 (cRu u)) (X := intsA u.left) (.tmp 108) rfl Tryd.underlying24 rfl rfl) ⟨I0, T0⟩ ⟨rfl, T0⟩ T0 ?_
 refine t_opG rfl (sp_call (c := .func 35) (xs := #[.tmp 107, .tmp 109]) [] (ctr_b (sameIntsG r.left u.left HR.left HS.left) hs9) rfl (by kernel_rfl) rfl (Xs := [intsA r.left, intsA u.left]) rfl rfl rfl) ⟨I0, I0, I0, T0⟩ T0 T0 ?_
 refine t_op rfl (sp_pick (.tmp 105) (.tmp 110) (.const (.bool false)) true (bv true) (bv false) rfl) ⟨I0, I0, I0, T0⟩ T0 T0 ?_
 refine t_op rfl (sp_move (.tmp 111) (bv true) rfl) ⟨I0, T0⟩ T0 T0 ?_
 refine t_opG rfl (sp_fieldBox (off' := 15) (.tmp 2) rfl Tryd.underlying76 rfl (z := 1) (by kernel_rfl) (by decide) rfl) ⟨I0, T0⟩ T0 T0 ?_
 refine t_opG rfl (sp_loadBox1 (Y := .box 76 (cRu r)) (X := intsA r.right) (.tmp 113) rfl Tryd.underlying24 rfl rfl) ⟨I0, T0⟩ ⟨rfl, T0⟩ T0 ?_
 refine t_opG rfl (sp_fieldBox (off' := 15) (.tmp 3) rfl Tryd.underlying76 rfl (z := 1) (by kernel_rfl) (by decide) rfl) ⟨I0, T0⟩ T0 T0 ?_
 refine t_opG rfl (sp_loadBox1 (Y := .box 76 (cRu u)) (X := intsA u.right) (.tmp 115) rfl Tryd.underlying24 rfl rfl) ⟨I0, T0⟩ ⟨rfl, T0⟩ T0 ?_
 refine t_opG rfl (sp_call (c := .func 35) (xs := #[.tmp 114, .tmp 116]) [] (ctr_b (sameIntsG r.right u.right HR.right HS.right) hs10) rfl (by kernel_rfl) rfl (Xs := [intsA r.right, intsA u.right]) rfl rfl rfl) ⟨I0, I0, I0, T0⟩ T0 T0 ?_
 refine t_op rfl (sp_pick (.tmp 112) (.tmp 117) (.const (.bool false)) true (bv true) (bv false) rfl) ⟨I0, I0, I0, T0⟩ T0 T0 ?_
 refine t_op rfl (sp_move (.tmp 118) (bv true) rfl) ⟨I0, T0⟩ T0 T0 ?_
 refine t_opG rfl (sp_fieldBox (off' := 16) (.tmp 2) rfl Tryd.underlying76 rfl (z := 1) (by kernel_rfl) (by decide) rfl) ⟨I0, T0⟩ T0 T0 ?_
 refine t_opG rfl (sp_loadBox1 (Y := .box 76 (cRu r)) (X := intsA r.parent) (.tmp 120) rfl Tryd.underlying24 rfl rfl) ⟨I0, T0⟩ ⟨rfl, T0⟩ T0 ?_
 refine t_opG rfl (sp_fieldBox (off' := 16) (.tmp 3) rfl Tryd.underlying76 rfl (z := 1) (by kernel_rfl) (by decide) rfl) ⟨I0, T0⟩ T0 T0 ?_
 refine t_opG rfl (sp_loadBox1 (Y := .box 76 (cRu u)) (X := intsA u.parent) (.tmp 122) rfl Tryd.underlying24 rfl rfl) ⟨I0, T0⟩ ⟨rfl, T0⟩ T0 ?_
 refine t_opG rfl (sp_call (c := .func 35) (xs := #[.tmp 121, .tmp 123]) [] (sameIntsG r.parent u.parent HR.parent HS.parent) rfl (by kernel_rfl) rfl (Xs := [intsA r.parent, intsA u.parent]) rfl rfl rfl) ⟨I0, I0, I0, T0⟩ T0 T0 ?_
 refine t_op rfl (sp_pick (.tmp 119) (.tmp 124) (.const (.bool false)) true (bv (decide (r.parent = u.parent))) (bv false) rfl) ⟨I0, I0, I0, T0⟩ T0 T0 ?_
 refine t_op rfl (sp_assign (.tmp 125) (bv (decide (r.parent = u.parent))) rfl) ⟨I0, T0⟩ T0 T0 ?_
 refine tri_nil ?_
 refine tri_wk (wk_keep [] [(4, bv (decide (r.parent = u.parent)))] (n := 126)) ?_
 refine t_then ?_
 refine tri_ret ?_
 refine tri_end1 Tryd.results62 (.tmp rfl) ?_
 exact congrArg (fun x : Bool => AV.v (.bool x)) (show decide (r.parent = u.parent) = samP r u from Bool.eq_iff_iff.2 ⟨fun h => samP_sp.2 ⟨(of_decide_eq_true hs4), (of_decide_eq_true hs5), (of_decide_eq_true GQ), (of_decide_eq_true hs6), (of_decide_eq_true hs7), (of_decide_eq_true hs8), (of_decide_eq_true hs9), (of_decide_eq_true hs10), (of_decide_eq_true h)⟩, fun h => dec_t (samP_sp.1 h).parent⟩)
 have hs10f : (decide (r.right = u.right)) = false := by simpa using hs10
 refine tri_region ?_
 refine t_op rfl (sp_move (.tmp 8) (bv true) rfl) ⟨I0, T0⟩ T0 T0 ?_
 refine t_op rfl (sp_move (.tmp 97) (bv true) rfl) ⟨I0, T0⟩ T0 T0 ?_
 refine t_opG rfl (sp_fieldBox (off' := 12) (.tmp 2) rfl Tryd.underlying76 rfl (z := 1) (by kernel_rfl) (by decide) rfl) ⟨I0, T0⟩ T0 T0 ?_
 refine t_opG rfl (sp_loadBox1 (Y := .box 76 (cRu r)) (X := intsA r.send) (.tmp 99) rfl Tryd.underlying24 rfl rfl) ⟨I0, T0⟩ ⟨rfl, T0⟩ T0 ?_
 refine t_opG rfl (sp_fieldBox (off' := 12) (.tmp 3) rfl Tryd.underlying76 rfl (z := 1) (by kernel_rfl) (by decide) rfl) ⟨I0, T0⟩ T0 T0 ?_
 refine t_opG rfl (sp_loadBox1 (Y := .box 76 (cRu u)) (X := intsA u.send) (.tmp 101) rfl Tryd.underlying24 rfl rfl) ⟨I0, T0⟩ ⟨rfl, T0⟩ T0 ?_
 refine t_opG rfl (sp_call (c := .func 35) (xs := #[.tmp 100, .tmp 102]) [] (ctr_b (sameIntsG r.send u.send HR.send HS.send) hs8) rfl (by kernel_rfl) rfl (Xs := [intsA r.send, intsA u.send]) rfl rfl rfl) ⟨I0, I0, I0, T0⟩ T0 T0 ?_
 refine t_op rfl (sp_pick (.tmp 98) (.tmp 103) (.const (.bool false)) true (bv true) (bv false) rfl) ⟨I0, I0, I0, T0⟩ T0 T0 ?_
 refine t_op rfl (sp_move (.tmp 104) (bv true) rfl) ⟨I0, T0⟩ T0 T0 ?_
 refine t_opG rfl (sp_fieldBox (off' := 14) (.tmp 2) rfl Tryd.underlying76 rfl (z := 1) (by kernel_rfl) (by decide) rfl) ⟨I0, T0⟩ T0 T0 ?_
 refine t_opG rfl (sp_loadBox1 (Y := .box 76 (cRu r)) (X := intsA r.left) (.tmp 106) rfl Tryd.underlying24 rfl rfl) ⟨I0, T0⟩ ⟨rfl, T0⟩ T0 ?_
 refine t_opG rfl (sp_fieldBox (off' := 14) (.tmp 3) rfl Tryd.underlying76 rfl (z := 1) (by kernel_rfl) (by decide) rfl) ⟨I0, T0⟩ T0 T0 ?_
 refine t_opG rfl (sp_loadBox1 (Y := .box 76 (cRu u)) (X := intsA u.left) (.tmp 108) rfl Tryd.underlying24 rfl rfl) ⟨I0, T0⟩ ⟨rfl, T0⟩ T0 ?_
 refine t_opG rfl (sp_call (c := .func 35) (xs := #[.tmp 107, .tmp 109]) [] (ctr_b (sameIntsG r.left u.left HR.left HS.left) hs9) rfl (by kernel_rfl) rfl (Xs := [intsA r.left, intsA u.left]) rfl rfl rfl) ⟨I0, I0, I0, T0⟩ T0 T0 ?_
 refine t_op rfl (sp_pick (.tmp 105) (.tmp 110) (.const (.bool false)) true (bv true) (bv false) rfl) ⟨I0, I0, I0, T0⟩ T0 T0 ?_
 refine t_op rfl (sp_move (.tmp 111) (bv true) rfl) ⟨I0, T0⟩ T0 T0 ?_
 refine t_opG rfl (sp_fieldBox (off' := 15) (.tmp 2) rfl Tryd.underlying76 rfl (z := 1) (by kernel_rfl) (by decide) rfl) ⟨I0, T0⟩ T0 T0 ?_
 refine t_opG rfl (sp_loadBox1 (Y := .box 76 (cRu r)) (X := intsA r.right) (.tmp 113) rfl Tryd.underlying24 rfl rfl) ⟨I0, T0⟩ ⟨rfl, T0⟩ T0 ?_
 refine t_opG rfl (sp_fieldBox (off' := 15) (.tmp 3) rfl Tryd.underlying76 rfl (z := 1) (by kernel_rfl) (by decide) rfl) ⟨I0, T0⟩ T0 T0 ?_
 refine t_opG rfl (sp_loadBox1 (Y := .box 76 (cRu u)) (X := intsA u.right) (.tmp 115) rfl Tryd.underlying24 rfl rfl) ⟨I0, T0⟩ ⟨rfl, T0⟩ T0 ?_
 refine t_opG rfl (sp_call (c := .func 35) (xs := #[.tmp 114, .tmp 116]) [] (ctr_b (sameIntsG r.right u.right HR.right HS.right) hs10f) rfl (by kernel_rfl) rfl (Xs := [intsA r.right, intsA u.right]) rfl rfl rfl) ⟨I0, I0, I0, T0⟩ T0 T0 ?_
 refine t_op rfl (sp_pick (.tmp 112) (.tmp 117) (.const (.bool false)) true (bv false) (bv false) rfl) ⟨I0, I0, I0, T0⟩ T0 T0 ?_
 refine t_op rfl (sp_move (.tmp 118) (bv false) rfl) ⟨I0, T0⟩ T0 T0 ?_
 refine t_skip rfl ?_
 refine t_skip rfl ?_
 refine t_skip rfl ?_
 refine t_skip rfl ?_
 refine t_skip rfl ?_
 refine t_op rfl (sp_pick (.tmp 119) (.tmp 124) (.const (.bool false)) false (.v (.tuple #[])) (bv false) rfl) ⟨I0, I0, I0, T0⟩ T0 T0 ?_
 refine t_op rfl (sp_assign (.tmp 125) (bv false) rfl) ⟨I0, T0⟩ T0 T0 ?_
 refine tri_nil ?_
 refine tri_wk (wk_keep [] [(4, bv false)] (n := 126)) ?_
 refine t_then ?_
 refine tri_ret ?_
 refine tri_end1 Tryd.results62 (.tmp rfl) ?_
 exact congrArg (fun x : Bool => AV.v (.bool x)) ((samP_not (fun h => h.right) (of_decide_eq_false hs10f)).symm)
 have hs9f : (decide (r.left = u.left)) = false := by simpa using hs9
 refine tri_region ?_
 refine t_op rfl (sp_move (.tmp 8) (bv true) rfl) ⟨I0, T0⟩ T0 T0 ?_
 refine t_op rfl (sp_move (.tmp 97) (bv true) rfl) ⟨I0, T0⟩ T0 T0 ?_
 refine t_opG rfl (sp_fieldBox (off' := 12) (.tmp 2) rfl Tryd.underlying76 rfl (z := 1) (by kernel_rfl) (by decide) rfl) ⟨I0, T0⟩ T0 T0 ?_
 refine t_opG rfl (sp_loadBox1 (Y := .box 76 (cRu r)) (X := intsA r.send) (.tmp 99) rfl Tryd.underlying24 rfl rfl) ⟨I0, T0⟩ ⟨rfl, T0⟩ T0 ?_
 refine t_opG rfl (sp_fieldBox (off' := 12) (.tmp 3) rfl Tryd.underlying76 rfl (z := 1) (by kernel_rfl) (by decide) rfl) ⟨I0, T0⟩ T0 T0 ?_
 refine t_opG rfl (sp_loadBox1 (Y := .box 76 (cRu u)) (X := intsA u.send) (.tmp 101) rfl Tryd.underlying24 rfl rfl) ⟨I0, T0⟩ ⟨rfl, T0⟩ T0 ?_
 refine t_opG rfl (sp_call (c := .func 35) (xs := #[.tmp 100, .tmp 102]) [] (ctr_b (sameIntsG r.send u.send HR.send HS.send) hs8) rfl (by kernel_rfl) rfl (Xs := [intsA r.send, intsA u.send]) rfl rfl rfl) ⟨I0, I0, I0, T0⟩ T0 T0 ?_
 refine t_op rfl (sp_pick (.tmp 98) (.tmp 103) (.const (.bool false)) true (bv true) (bv false) rfl) ⟨I0, I0, I0, T0⟩ T0 T0 ?_
 refine t_op rfl (sp_move (.tmp 104) (bv true) rfl) ⟨I0, T0⟩ T0 T0 ?_
 refine t_opG rfl (sp_fieldBox (off' := 14) (.tmp 2) rfl Tryd.underlying76 rfl (z := 1) (by kernel_rfl) (by decide) rfl) ⟨I0, T0⟩ T0 T0 ?_
 refine t_opG rfl (sp_loadBox1 (Y := .box 76 (cRu r)) (X := intsA r.left) (.tmp 106) rfl Tryd.underlying24 rfl rfl) ⟨I0, T0⟩ ⟨rfl, T0⟩ T0 ?_
 refine t_opG rfl (sp_fieldBox (off' := 14) (.tmp 3) rfl Tryd.underlying76 rfl (z := 1) (by kernel_rfl) (by decide) rfl) ⟨I0, T0⟩ T0 T0 ?_
 refine t_opG rfl (sp_loadBox1 (Y := .box 76 (cRu u)) (X := intsA u.left) (.tmp 108) rfl Tryd.underlying24 rfl rfl) ⟨I0, T0⟩ ⟨rfl, T0⟩ T0 ?_
 refine t_opG rfl (sp_call (c := .func 35) (xs := #[.tmp 107, .tmp 109]) [] (ctr_b (sameIntsG r.left u.left HR.left HS.left) hs9f) rfl (by kernel_rfl) rfl (Xs := [intsA r.left, intsA u.left]) rfl rfl rfl) ⟨I0, I0, I0, T0⟩ T0 T0 ?_
 refine t_op rfl (sp_pick (.tmp 105) (.tmp 110) (.const (.bool false)) true (bv false) (bv false) rfl) ⟨I0, I0, I0, T0⟩ T0 T0 ?_
 refine t_op rfl (sp_move (.tmp 111) (bv false) rfl) ⟨I0, T0⟩ T0 T0 ?_
 refine t_skip rfl ?_
 refine t_skip rfl ?_
 refine t_skip rfl ?_
 refine t_skip rfl ?_
 refine t_skip rfl ?_
 refine t_op rfl (sp_pick (.tmp 112) (.tmp 117) (.const (.bool false)) false (.v (.tuple #[])) (bv false) rfl) ⟨I0, I0, I0, T0⟩ T0 T0 ?_
 refine t_op rfl (sp_move (.tmp 118) (bv false) rfl) ⟨I0, T0⟩ T0 T0 ?_
 refine t_skip rfl ?_
 refine t_skip rfl ?_
 refine t_skip rfl ?_
 refine t_skip rfl ?_
 refine t_skip rfl ?_
 refine t_op rfl (sp_pick (.tmp 119) (.tmp 124) (.const (.bool false)) false (.v (.tuple #[])) (bv false) rfl) ⟨I0, I0, I0, T0⟩ T0 T0 ?_
 refine t_op rfl (sp_assign (.tmp 125) (bv false) rfl) ⟨I0, T0⟩ T0 T0 ?_
 refine tri_nil ?_
 refine tri_wk (wk_keep [] [(4, bv false)] (n := 126)) ?_
 refine t_then ?_
 refine tri_ret ?_
 refine tri_end1 Tryd.results62 (.tmp rfl) ?_
 exact congrArg (fun x : Bool => AV.v (.bool x)) ((samP_not (fun h => h.left) (of_decide_eq_false hs9f)).symm)
 have hs8f : (decide (r.send = u.send)) = false := by simpa using hs8
 refine tri_region ?_
 refine t_op rfl (sp_move (.tmp 8) (bv true) rfl) ⟨I0, T0⟩ T0 T0 ?_
 refine t_op rfl (sp_move (.tmp 97) (bv true) rfl) ⟨I0, T0⟩ T0 T0 ?_
 refine t_opG rfl (sp_fieldBox (off' := 12) (.tmp 2) rfl Tryd.underlying76 rfl (z := 1) (by kernel_rfl) (by decide) rfl) ⟨I0, T0⟩ T0 T0 ?_
 refine t_opG rfl (sp_loadBox1 (Y := .box 76 (cRu r)) (X := intsA r.send) (.tmp 99) rfl Tryd.underlying24 rfl rfl) ⟨I0, T0⟩ ⟨rfl, T0⟩ T0 ?_
 refine t_opG rfl (sp_fieldBox (off' := 12) (.tmp 3) rfl Tryd.underlying76 rfl (z := 1) (by kernel_rfl) (by decide) rfl) ⟨I0, T0⟩ T0 T0 ?_
 refine t_opG rfl (sp_loadBox1 (Y := .box 76 (cRu u)) (X := intsA u.send) (.tmp 101) rfl Tryd.underlying24 rfl rfl) ⟨I0, T0⟩ ⟨rfl, T0⟩ T0 ?_
 refine t_opG rfl (sp_call (c := .func 35) (xs := #[.tmp 100, .tmp 102]) [] (ctr_b (sameIntsG r.send u.send HR.send HS.send) hs8f) rfl (by kernel_rfl) rfl (Xs := [intsA r.send, intsA u.send]) rfl rfl rfl) ⟨I0, I0, I0, T0⟩ T0 T0 ?_
 refine t_op rfl (sp_pick (.tmp 98) (.tmp 103) (.const (.bool false)) true (bv false) (bv false) rfl) ⟨I0, I0, I0, T0⟩ T0 T0 ?_
 refine t_op rfl (sp_move (.tmp 104) (bv false) rfl) ⟨I0, T0⟩ T0 T0 ?_
 refine t_skip rfl ?_
 refine t_skip rfl ?_
 refine t_skip rfl ?_
 refine t_skip rfl ?_
 refine t_skip rfl ?_
 refine t_op rfl (sp_pick (.tmp 105) (.tmp 110) (.const (.bool false)) false (.v (.tuple #[])) (bv false) rfl) ⟨I0, I0, I0, T0⟩ T0 T0 ?_
 refine t_op rfl (sp_move (.tmp 111) (bv false) rfl) ⟨I0, T0⟩ T0 T0 ?_
 refine t_skip rfl ?_
 refine t_skip rfl ?_
 refine t_skip rfl ?_
 refine t_skip rfl ?_
 refine t_skip rfl ?_
 refine t_op rfl (sp_pick (.tmp 112) (.tmp 117) (.const (.bool false)) false (.v (.tuple #[])) (bv false) rfl) ⟨I0, I0, I0, T0⟩ T0 T0 ?_
 refine t_op rfl (sp_move (.tmp 118) (bv false) rfl) ⟨I0, T0⟩ T0 T0 ?_
 refine t_skip rfl ?_
 refine t_skip rfl ?_
 refine t_skip rfl ?_
 refine t_skip rfl ?_
 refine t_skip rfl ?_
 refine t_op rfl (sp_pick (.tmp 119) (.tmp 124) (.const (.bool false)) false (.v (.tuple #[])) (bv false) rfl) ⟨I0, I0, I0, T0⟩ T0 T0 ?_
 refine t_op rfl (sp_assign (.tmp 125) (bv false) rfl) ⟨I0, T0⟩ T0 T0 ?_
 refine tri_nil ?_
 refine tri_wk (wk_keep [] [(4, bv false)] (n := 126)) ?_
 refine t_then ?_
 refine tri_ret ?_
 refine tri_end1 Tryd.results62 (.tmp rfl) ?_
 exact congrArg (fun x : Bool => AV.v (.bool x)) ((samP_not (fun h => h.send) (of_decide_eq_false hs8f)).symm)
 have hs7f : (decide (r.fa = u.fa)) = false := by simpa using hs7
 rw [hs7f]
 refine tri_wk (wk_keep [(1, .box 76 (cRu r)), (2, .box 76 (cRu u))] [(2, .box 1 0), (3, .box 2 0), (8, bv false)] (n := 126)) ?_
 refine tri_region ?_
 refine t_op rfl (sp_move (.tmp 8) (bv false) rfl) ⟨I0, T0⟩ T0 T0 ?_
 refine t_op rfl (sp_move (.tmp 97) (bv false) rfl) ⟨I0, T0⟩ T0 T0 ?_
 refine t_skip rfl ?_
 refine t_skip rfl ?_
 refine t_skip rfl ?_
 refine t_skip rfl ?_
 refine t_skip rfl ?_
 refine t_op rfl (sp_pick (.tmp 98) (.tmp 103) (.const (.bool false)) false (.v (.tuple #[])) (bv false) rfl) ⟨I0, I0, I0, T0⟩ T0 T0 ?_
 refine t_op rfl (sp_move (.tmp 104) (bv false) rfl) ⟨I0, T0⟩ T0 T0 ?_
 refine t_skip rfl ?_
 refine t_skip rfl ?_
 refine t_skip rfl ?_
 refine t_skip rfl ?_
 refine t_skip rfl ?_
 refine t_op rfl (sp_pick (.tmp 105) (.tmp 110) (.const (.bool false)) false (.v (.tuple #[])) (bv false) rfl) ⟨I0, I0, I0, T0⟩ T0 T0 ?_
 refine t_op rfl (sp_move (.tmp 111) (bv false) rfl) ⟨I0, T0⟩ T0 T0 ?_
 refine t_skip rfl ?_
 refine t_skip rfl ?_
 refine t_skip rfl ?_
 refine t_skip rfl ?_
 refine t_skip rfl ?_
 refine t_op rfl (sp_pick (.tmp 112) (.tmp 117) (.const (.bool false)) false (.v (.tuple #[])) (bv false) rfl) ⟨I0, I0, I0, T0⟩ T0 T0 ?_
 refine t_op rfl (sp_move (.tmp 118) (bv false) rfl) ⟨I0, T0⟩ T0 T0 ?_
 refine t_skip rfl ?_
 refine t_skip rfl ?_
 refine t_skip rfl ?_
 refine t_skip rfl ?_
 refine t_skip rfl ?_
 refine t_op rfl (sp_pick (.tmp 119) (.tmp 124) (.const (.bool false)) false (.v (.tuple #[])) (bv false) rfl) ⟨I0, I0, I0, T0⟩ T0 T0 ?_
 refine t_op rfl (sp_assign (.tmp 125) (bv false) rfl) ⟨I0, T0⟩ T0 T0 ?_
 refine tri_nil ?_
 refine tri_wk (wk_keep [] [(4, bv false)] (n := 126)) ?_
 refine t_then ?_
 refine tri_ret ?_
 refine tri_end1 Tryd.results62 (.tmp rfl) ?_
 exact congrArg (fun x : Bool => AV.v (.bool x)) ((samP_not (fun h => h.fa) (of_decide_eq_false hs7f)).symm)
 have hs6f : (decide (r.ex = u.ex)) = false := by simpa using hs6
 refine tri_region ?_
 refine t_op rfl (sp_move (.tmp 6) (.own 3) rfl) ⟨I0, T0⟩ T0 T0 ?_
 refine t_op rfl (sp_move (.tmp 7) (.own 4) rfl) ⟨I0, T0⟩ T0 T0 ?_
 refine t_op rfl (sp_call (c := .func 35) (xs := #[.tmp 73, .tmp 74]) [(3, .row true 3 1 9 ([iv r.kind, iv r.frm, iv r.to, iv r.pf, iv r.pt, iv r.rd, iv r.wr, iv r.pos, iv r.dir])), (4, .row true 3 1 9 ([iv u.kind, iv u.frm, iv u.to, iv u.pf, iv u.pt, iv u.rd, iv u.wr, iv u.pos, iv u.dir]))] (ctr_b (sameIntsG ([r.kind, r.frm, r.to, r.pf, r.pt, r.rd, r.wr, r.pos, r.dir]) ([u.kind, u.frm, u.to, u.pf, u.pt, u.rd, u.wr, u.pos, u.dir]) (ruInts HR) (ruInts HS)) hs4) rfl (by kernel_rfl) rfl (Xs := [.own 3, .own 4]) rfl rfl rfl) ⟨I0, I0, I0, T0⟩ ⟨rfl, rfl, T0⟩ T0 ?_
 refine t_op rfl (sp_move (.tmp 75) (bv true) rfl) ⟨I0, T0⟩ T0 T0 ?_
 refine t_opG rfl (sp_fieldBox (off' := 6) (.tmp 2) rfl Tryd.underlying76 rfl (z := 1) (by kernel_rfl) (by decide) rfl) ⟨I0, T0⟩ T0 T0 ?_
 refine t_opG rfl (sp_loadBox1 (Y := .box 76 (cRu r)) (X := intsA r.resp) (.tmp 77) rfl Tryd.underlying24 rfl rfl) ⟨I0, T0⟩ ⟨rfl, T0⟩ T0 ?_
 refine t_opG rfl (sp_fieldBox (off' := 6) (.tmp 3) rfl Tryd.underlying76 rfl (z := 1) (by kernel_rfl) (by decide) rfl) ⟨I0, T0⟩ T0 T0 ?_
 refine t_opG rfl (sp_loadBox1 (Y := .box 76 (cRu u)) (X := intsA u.resp) (.tmp 79) rfl Tryd.underlying24 rfl rfl) ⟨I0, T0⟩ ⟨rfl, T0⟩ T0 ?_
 refine t_opG rfl (sp_call (c := .func 35) (xs := #[.tmp 78, .tmp 80]) [] (ctr_b (sameIntsG r.resp u.resp HR.resp HS.resp) hs5) rfl (by kernel_rfl) rfl (Xs := [intsA r.resp, intsA u.resp]) rfl rfl rfl) ⟨I0, I0, I0, T0⟩ T0 T0 ?_
 refine t_op rfl (sp_pick (.tmp 76) (.tmp 81) (.const (.bool false)) true (bv true) (bv false) rfl) ⟨I0, I0, I0, T0⟩ T0 T0 ?_
 refine t_op rfl (sp_move (.tmp 82) (bv true) rfl) ⟨I0, T0⟩ T0 T0 ?_
 refine t_opG rfl (sp_fieldBox (off' := 8) (.tmp 2) rfl Tryd.underlying76 rfl (z := 1) (by kernel_rfl) (by decide) rfl) ⟨I0, T0⟩ T0 T0 ?_
 refine t_opG rfl (sp_loadBox1 (Y := .box 76 (cRu r)) (X := intsA r.ex) (.tmp 84) rfl Tryd.underlying24 rfl rfl) ⟨I0, T0⟩ ⟨rfl, T0⟩ T0 ?_
 refine t_opG rfl (sp_fieldBox (off' := 8) (.tmp 3) rfl Tryd.underlying76 rfl (z := 1) (by kernel_rfl) (by decide) rfl) ⟨I0, T0⟩ T0 T0 ?_
 refine t_opG rfl (sp_loadBox1 (Y := .box 76 (cRu u)) (X := intsA u.ex) (.tmp 86) rfl Tryd.underlying24 rfl rfl) ⟨I0, T0⟩ ⟨rfl, T0⟩ T0 ?_
 refine t_opG rfl (sp_call (c := .func 35) (xs := #[.tmp 85, .tmp 87]) [] (ctr_b (sameIntsG r.ex u.ex HR.ex HS.ex) hs6f) rfl (by kernel_rfl) rfl (Xs := [intsA r.ex, intsA u.ex]) rfl rfl rfl) ⟨I0, I0, I0, T0⟩ T0 T0 ?_
 refine t_op rfl (sp_pick (.tmp 83) (.tmp 88) (.const (.bool false)) true (bv false) (bv false) rfl) ⟨I0, I0, I0, T0⟩ T0 T0 ?_
 refine t_op rfl (sp_move (.tmp 89) (bv false) rfl) ⟨I0, T0⟩ T0 T0 ?_
 refine t_skip rfl ?_
 refine t_skip rfl ?_
 refine t_skip rfl ?_
 refine t_skip rfl ?_
 refine t_skip rfl ?_
 refine t_op rfl (sp_pick (.tmp 90) (.tmp 95) (.const (.bool false)) false (.v (.tuple #[])) (bv false) rfl) ⟨I0, I0, I0, T0⟩ T0 T0 ?_
 refine t_op rfl (sp_assign (.tmp 96) (bv false) rfl) ⟨I0, T0⟩ T0 T0 ?_
 refine tri_nil ?_
 refine tri_wk (wk_keep [(1, .box 76 (cRu r)), (2, .box 76 (cRu u))] [(2, .box 1 0), (3, .box 2 0), (8, bv false)] (n := 126)) ?_
 refine t_then ?_
 refine tri_seq ?_
 refine tri_region ?_
 refine t_op rfl (sp_move (.tmp 8) (bv false) rfl) ⟨I0, T0⟩ T0 T0 ?_
 refine t_op rfl (sp_move (.tmp 97) (bv false) rfl) ⟨I0, T0⟩ T0 T0 ?_
 refine t_skip rfl ?_
 refine t_skip rfl ?_
 refine t_skip rfl ?_
 refine t_skip rfl ?_
 refine t_skip rfl ?_
 refine t_op rfl (sp_pick (.tmp 98) (.tmp 103) (.const (.bool false)) false (.v (.tuple #[])) (bv false) rfl) ⟨I0, I0, I0, T0⟩ T0 T0 ?_
 refine t_op rfl (sp_move (.tmp 104) (bv false) rfl) ⟨I0, T0⟩ T0 T0 ?_
 refine t_skip rfl ?_
 refine t_skip rfl ?_
 refine t_skip rfl ?_
 refine t_skip rfl ?_
 refine t_skip rfl ?_
 refine t_op rfl (sp_pick (.tmp 105) (.tmp 110) (.const (.bool false)) false (.v (.tuple #[])) (bv false) rfl) ⟨I0, I0, I0, T0⟩ T0 T0 ?_
 refine t_op rfl (sp_move (.tmp 111) (bv false) rfl) ⟨I0, T0⟩ T0 T0 ?_
 refine t_skip rfl ?_
 refine t_skip rfl ?_
 refine t_skip rfl ?_
 refine t_skip rfl ?_
 refine t_skip rfl ?_
 refine t_op rfl (sp_pick (.tmp 112) (.tmp 117) (.const (.bool false)) false (.v (.tuple #[])) (bv false) rfl) ⟨I0, I0, I0, T0⟩ T0 T0 ?_
 refine t_op rfl (sp_move (.tmp 118) (bv false) rfl) ⟨I0, T0⟩ T0 T0 ?_
 refine t_skip rfl ?_
 refine t_skip rfl ?_
 refine t_skip rfl ?_
 refine t_skip rfl ?_
 refine t_skip rfl ?_
 refine t_op rfl (sp_pick (.tmp 119) (.tmp 124) (.const (.bool false)) false (.v (.tuple #[])) (bv false) rfl) ⟨I0, I0, I0, T0⟩ T0 T0 ?_
 refine t_op rfl (sp_assign (.tmp 125) (bv false) rfl) ⟨I0, T0⟩ T0 T0 ?_
 refine tri_nil ?_
 refine tri_wk (wk_keep [] [(4, bv false)] (n := 126)) ?_
 refine t_then ?_
 refine tri_ret ?_
 refine tri_end1 Tryd.results62 (.tmp rfl) ?_
 exact congrArg (fun x : Bool => AV.v (.bool x)) ((samP_not (fun h => h.ex) (of_decide_eq_false hs6f)).symm)
 have hs5f : (decide (r.resp = u.resp)) = false := by simpa using hs5
 refine tri_region ?_
 refine t_op rfl (sp_move (.tmp 6) (.own 3) rfl) ⟨I0, T0⟩ T0 T0 ?_
 refine t_op rfl (sp_move (.tmp 7) (.own 4) rfl) ⟨I0, T0⟩ T0 T0 ?_
 refine t_op rfl (sp_call (c := .func 35) (xs := #[.tmp 73, .tmp 74]) [(3, .row true 3 1 9 ([iv r.kind, iv r.frm, iv r.to, iv r.pf, iv r.pt, iv r.rd, iv r.wr, iv r.pos, iv r.dir])), (4, .row true 3 1 9 ([iv u.kind, iv u.frm, iv u.to, iv u.pf, iv u.pt, iv u.rd, iv u.wr, iv u.pos, iv u.dir]))] (ctr_b (sameIntsG ([r.kind, r.frm, r.to, r.pf, r.pt, r.rd, r.wr, r.pos, r.dir]) ([u.kind, u.frm, u.to, u.pf, u.pt, u.rd, u.wr, u.pos, u.dir]) (ruInts HR) (ruInts HS)) hs4) rfl (by kernel_rfl) rfl (Xs := [.own 3, .own 4]) rfl rfl rfl) ⟨I0, I0, I0, T0⟩ ⟨rfl, rfl, T0⟩ T0 ?_
 refine t_op rfl (sp_move (.tmp 75) (bv true) rfl) ⟨I0, T0⟩ T0 T0 ?_
 refine t_opG rfl (sp_fieldBox (off' := 6) (.tmp 2) rfl Tryd.underlying76 rfl (z := 1) (by kernel_rfl) (by decide) rfl) ⟨I0, T0⟩ T0 T0 ?_
 refine t_opG rfl (sp_loadBox1 (Y := .box 76 (cRu r)) (X := intsA r.resp) (.tmp 77) rfl Tryd.underlying24 rfl rfl) ⟨I0, T0⟩ ⟨rfl, T0⟩ T0 ?_
 refine t_opG rfl (sp_fieldBox (off' := 6) (.tmp 3) rfl Tryd.underlying76 rfl (z := 1) (by kernel_rfl) (by decide) rfl) ⟨I0, T0⟩ T0 T0 ?_
 refine t_opG rfl (sp_loadBox1 (Y := .box 76 (cRu u)) (X := intsA u.resp) (.tmp 79) rfl Tryd.underlying24 rfl rfl) ⟨I0, T0⟩ ⟨rfl, T0⟩ T0 ?_
 refine t_opG rfl (sp_call (c := .func 35) (xs := #[.tmp 78, .tmp 80]) [] (ctr_b (sameIntsG r.resp u.resp HR.resp HS.resp) hs5f) rfl (by kernel_rfl) rfl (Xs := [intsA r.resp, intsA u.resp]) rfl rfl rfl) ⟨I0, I0, I0, T0⟩ T0 T0 ?_
 refine t_op rfl (sp_pick (.tmp 76) (.tmp 81) (.const (.bool false)) true (bv false) (bv false) rfl) ⟨I0, I0, I0, T0⟩ T0 T0 ?_
 refine t_op rfl (sp_move (.tmp 82) (bv false) rfl) ⟨I0, T0⟩ T0 T0 ?_
 refine t_skip rfl ?_
 refine t_skip rfl ?_
 refine t_skip rfl ?_
 refine t_skip rfl ?_
 refine t_skip rfl ?_
 refine t_op rfl (sp_pick (.tmp 83) (.tmp 88) (.const (.bool false)) false (.v (.tuple #[])) (bv false) rfl) ⟨I0, I0, I0, T0⟩ T0 T0 ?_
 refine t_op rfl (sp_move (.tmp 89) (bv false) rfl) ⟨I0, T0⟩ T0 T0 ?_
 refine t_skip rfl ?_
 refine t_skip rfl ?_
 refine t_skip rfl ?_
 refine t_skip rfl ?_
 refine t_skip rfl ?_
 refine t_op rfl (sp_pick (.tmp 90) (.tmp 95) (.const (.bool false)) false (.v (.tuple #[])) (bv false) rfl) ⟨I0, I0, I0, T0⟩ T0 T0 ?_
 refine t_op rfl (sp_assign (.tmp 96) (bv false) rfl) ⟨I0, T0⟩ T0 T0 ?_
 refine tri_nil ?_
 refine tri_wk (wk_keep [(1, .box 76 (cRu r)), (2, .box 76 (cRu u))] [(2, .box 1 0), (3, .box 2 0), (8, bv false)] (n := 126)) ?_
 refine t_then ?_
 refine tri_seq ?_
 refine tri_region ?_
 refine t_op rfl (sp_move (.tmp 8) (bv false) rfl) ⟨I0, T0⟩ T0 T0 ?_
 refine t_op rfl (sp_move (.tmp 97) (bv false) rfl) ⟨I0, T0⟩ T0 T0 ?_
 refine t_skip rfl ?_
 refine t_skip rfl ?_
 refine t_skip rfl ?_
 refine t_skip rfl ?_
 refine t_skip rfl ?_
 refine t_op rfl (sp_pick (.tmp 98) (.tmp 103) (.const (.bool false)) false (.v (.tuple #[])) (bv false) rfl) ⟨I0, I0, I0, T0⟩ T0 T0 ?_
 refine t_op rfl (sp_move (.tmp 104) (bv false) rfl) ⟨I0, T0⟩ T0 T0 ?_
 refine t_skip rfl ?_
 refine t_skip rfl ?_
 refine t_skip rfl ?_
 refine t_skip rfl ?_
 refine t_skip rfl ?_
 refine t_op rfl (sp_pick (.tmp 105) (.tmp 110) (.const (.bool false)) false (.v (.tuple #[])) (bv false) rfl) ⟨I0, I0, I0, T0⟩ T0 T0 ?_
 refine t_op rfl (sp_move (.tmp 111) (bv false) rfl) ⟨I0, T0⟩ T0 T0 ?_
 refine t_skip rfl ?_
 refine t_skip rfl ?_
 refine t_skip rfl ?_
 refine t_skip rfl ?_
 refine t_skip rfl ?_
 refine t_op rfl (sp_pick (.tmp 112) (.tmp 117) (.const (.bool false)) false (.v (.tuple #[])) (bv false) rfl) ⟨I0, I0, I0, T0⟩ T0 T0 ?_
 refine t_op rfl (sp_move (.tmp 118) (bv false) rfl) ⟨I0, T0⟩ T0 T0 ?_
 refine t_skip rfl ?_
 refine t_skip rfl ?_
 refine t_skip rfl ?_
 refine t_skip rfl ?_
 refine t_skip rfl ?_
 refine t_op rfl (sp_pick (.tmp 119) (.tmp 124) (.const (.bool false)) false (.v (.tuple #[])) (bv false) rfl) ⟨I0, I0, I0, T0⟩ T0 T0 ?_
 refine t_op rfl (sp_assign (.tmp 125) (bv false) rfl) ⟨I0, T0⟩ T0 T0 ?_
 refine tri_nil ?_
 refine tri_wk (wk_keep [] [(4, bv false)] (n := 126)) ?_
 refine t_then ?_
 refine tri_ret ?_
 refine tri_end1 Tryd.results62 (.tmp rfl) ?_
 exact congrArg (fun x : Bool => AV.v (.bool x)) ((samP_not (fun h => h.resp) (of_decide_eq_false hs5f)).symm)
 have hs4f : (decide ([r.kind, r.frm, r.to, r.pf, r.pt, r.rd, r.wr, r.pos, r.dir] = [u.kind, u.frm, u.to, u.pf, u.pt, u.rd, u.wr, u.pos, u.dir])) = false := by simpa using hs4
 refine tri_region ?_
 refine t_op rfl (sp_move (.tmp 6) (.own 3) rfl) ⟨I0, T0⟩ T0 T0 ?_
 refine t_op rfl (sp_move (.tmp 7) (.own 4) rfl) ⟨I0, T0⟩ T0 T0 ?_
 refine t_op rfl (sp_call (c := .func 35) (xs := #[.tmp 73, .tmp 74]) [(3, .row true 3 1 9 ([iv r.kind, iv r.frm, iv r.to, iv r.pf, iv r.pt, iv r.rd, iv r.wr, iv r.pos, iv r.dir])), (4, .row true 3 1 9 ([iv u.kind, iv u.frm, iv u.to, iv u.pf, iv u.pt, iv u.rd, iv u.wr, iv u.pos, iv u.dir]))] (ctr_b (sameIntsG ([r.kind, r.frm, r.to, r.pf, r.pt, r.rd, r.wr, r.pos, r.dir]) ([u.kind, u.frm, u.to, u.pf, u.pt, u.rd, u.wr, u.pos, u.dir]) (ruInts HR) (ruInts HS)) hs4f) rfl (by kernel_rfl) rfl (Xs := [.own 3, .own 4]) rfl rfl rfl) ⟨I0, I0, I0, T0⟩ ⟨rfl, rfl, T0⟩ T0 ?_
 refine t_op rfl (sp_move (.tmp 75) (bv false) rfl) ⟨I0, T0⟩ T0 T0 ?_
 refine t_skip rfl ?_
 refine t_skip rfl ?_
 refine t_skip rfl ?_
 refine t_skip rfl ?_
 refine t_skip rfl ?_
 refine t_op rfl (sp_pick (.tmp 76) (.tmp 81) (.const (.bool false)) false (.v (.tuple #[])) (bv false) rfl) ⟨I0, I0, I0, T0⟩ T0 T0 ?_
 refine t_op rfl (sp_move (.tmp 82) (bv false) rfl) ⟨I0, T0⟩ T0 T0 ?_
 refine t_skip rfl ?_
 refine t_skip rfl ?_
 refine t_skip rfl ?_
 refine t_skip rfl ?_
 refine t_skip rfl ?_
 refine t_op rfl (sp_pick (.tmp 83) (.tmp 88) (.const (.bool false)) false (.v (.tuple #[])) (bv false) rfl) ⟨I0, I0, I0, T0⟩ T0 T0 ?_
 refine t_op rfl (sp_move (.tmp 89) (bv false) rfl) ⟨I0, T0⟩ T0 T0 ?_
 refine t_skip rfl ?_
 refine t_skip rfl ?_
 refine t_skip rfl ?_
 refine t_skip rfl ?_
 refine t_skip rfl ?_
 refine t_op rfl (sp_pick (.tmp 90) (.tmp 95) (.const (.bool false)) false (.v (.tuple #[])) (bv false) rfl) ⟨I0, I0, I0, T0⟩ T0 T0 ?_
 refine t_op rfl (sp_assign (.tmp 96) (bv false) rfl) ⟨I0, T0⟩ T0 T0 ?_
 refine tri_nil ?_
 refine tri_wk (wk_keep [(1, .box 76 (cRu r)), (2, .box 76 (cRu u))] [(2, .box 1 0), (3, .box 2 0), (8, bv false)] (n := 126)) ?_
 refine t_then ?_
 refine tri_seq ?_
 refine tri_region ?_
 refine t_op rfl (sp_move (.tmp 8) (bv false) rfl) ⟨I0, T0⟩ T0 T0 ?_
 refine t_op rfl (sp_move (.tmp 97) (bv false) rfl) ⟨I0, T0⟩ T0 T0 ?_
 refine t_skip rfl ?_
 refine t_skip rfl ?_
 refine t_skip rfl ?_
 refine t_skip rfl ?_
 refine t_skip rfl ?_
 refine t_op rfl (sp_pick (.tmp 98) (.tmp 103) (.const (.bool false)) false (.v (.tuple #[])) (bv false) rfl) ⟨I0, I0, I0, T0⟩ T0 T0 ?_
 refine t_op rfl (sp_move (.tmp 104) (bv false) rfl) ⟨I0, T0⟩ T0 T0 ?_
 refine t_skip rfl ?_
 refine t_skip rfl ?_
 refine t_skip rfl ?_
 refine t_skip rfl ?_
 refine t_skip rfl ?_
 refine t_op rfl (sp_pick (.tmp 105) (.tmp 110) (.const (.bool false)) false (.v (.tuple #[])) (bv false) rfl) ⟨I0, I0, I0, T0⟩ T0 T0 ?_
 refine t_op rfl (sp_move (.tmp 111) (bv false) rfl) ⟨I0, T0⟩ T0 T0 ?_
 refine t_skip rfl ?_
 refine t_skip rfl ?_
 refine t_skip rfl ?_
 refine t_skip rfl ?_
 refine t_skip rfl ?_
 refine t_op rfl (sp_pick (.tmp 112) (.tmp 117) (.const (.bool false)) false (.v (.tuple #[])) (bv false) rfl) ⟨I0, I0, I0, T0⟩ T0 T0 ?_
 refine t_op rfl (sp_move (.tmp 118) (bv false) rfl) ⟨I0, T0⟩ T0 T0 ?_
 refine t_skip rfl ?_
 refine t_skip rfl ?_
 refine t_skip rfl ?_
 refine t_skip rfl ?_
 refine t_skip rfl ?_
 refine t_op rfl (sp_pick (.tmp 119) (.tmp 124) (.const (.bool false)) false (.v (.tuple #[])) (bv false) rfl) ⟨I0, I0, I0, T0⟩ T0 T0 ?_
 refine t_op rfl (sp_assign (.tmp 125) (bv false) rfl) ⟨I0, T0⟩ T0 T0 ?_
 refine tri_nil ?_
 refine tri_wk (wk_keep [] [(4, bv false)] (n := 126)) ?_
 refine t_then ?_
 refine tri_ret ?_
 refine tri_end1 Tryd.results62 (.tmp rfl) ?_
 exact congrArg (fun x : Bool => AV.v (.bool x)) ((samP_not (fun h => h.n9) (of_decide_eq_false hs4f)).symm)
 refine tri_region ?_
 refine t_op rfl (sp_fieldBox (off' := 7) (.tmp 2) rfl Tryd.underlying76 rfl (z := 1) (by kernel_rfl) (by decide) rfl) ⟨I0, T0⟩ T0 T0 ?_
 refine t_op rfl (sp_loadBox1 (Y := .box 76 (cRu r)) (X := slA 6 cTh r.guards) (.tmp 9) rfl Tryd.underlying49 rfl rfl) ⟨I0, T0⟩ ⟨rfl, T0⟩ T0 ?_
 refine t_op rfl (sp_lenSl (.tmp 10) rfl Tryd.underlying49) ⟨I0, T0⟩ T0 T0 ?_
 refine t_op rfl (sp_fieldBox (off' := 7) (.tmp 3) rfl Tryd.underlying76 rfl (z := 1) (by kernel_rfl) (by decide) rfl) ⟨I0, T0⟩ T0 T0 ?_
 refine t_op rfl (sp_loadBox1 (Y := .box 76 (cRu u)) (X := slA 6 cTh u.guards) (.tmp 12) rfl Tryd.underlying49 rfl rfl) ⟨I0, T0⟩ ⟨rfl, T0⟩ T0 ?_
 refine t_op rfl (sp_lenSl (.tmp 13) rfl Tryd.underlying49) ⟨I0, T0⟩ T0 T0 ?_
 refine t_op rfl (sp_neq rfl (dF' hs1)) ⟨I0, I0, T0⟩ T0 T0 ?_
 refine tri_nil ?_
 refine tri_wk (wk_keep [(1, .box 76 (cRu r)), (2, .box 76 (cRu u))] [(2, .box 1 0), (3, .box 2 0), (4, bv false), (15, bv true)] (n := 126)) ?_
 refine t_then ?_
 refine t_condT rfl ?_
 refine tri_seq ?_
 refine tri_region ?_
 refine t_op rfl (sp_assign (.const (.bool false)) (bv false) rfl) ⟨I0, T0⟩ T0 T0 ?_
 refine tri_nil ?_
 refine tri_wk (wk_keep [(1, .box 76 (cRu r)), (2, .box 76 (cRu u))] [(2, .box 1 0), (3, .box 2 0), (4, bv false)] (n := 126)) ?_
 refine t_then ?_
 refine tri_ret ?_
 refine t_then_ret ?_
 refine tri_end1 Tryd.results62 (.tmp rfl) ?_
 exact congrArg (fun x : Bool => AV.v (.bool x)) ((samP_not (fun h => congrArg (fun x : List Th => ((x.length : Nat) : Int)) h.guards) hs1).symm)
set_option linter.unusedSimpArgs false in
set_option linter.unusedVariables false in
set_option maxRecDepth 100000 in
set_option maxHeartbeats 6400000 in
theorem sameRuleG {r u : Ru} (HR : RuOk r) (HS : RuOk u) : Ctr Tryd.prog J 75 [.agg (cRu r), .agg (cRu u)] (bv (decide (r = u))) := by
 refine ctr_of_tri Tryd.func75 rfl (by intro X hX; simp only [List.mem_cons, List.not_mem_nil, or_false] at hX; rcases hX with rfl | rfl; exact plain_agg (plain_ru r); exact plain_agg (plain_ru u)) (n := 15) rfl (by simp) (fun w0 => ?_)
 refine tri_wk (wk_keep [] [(0, .agg (cRu r)), (1, .agg (cRu u))] (n := 15)) ?_
 refine tri_seq ?_
 refine tri_region ?_
 refine t_op rfl (sp_box (X := .agg (cRu r)) (k := 1) (.tmp 0) rfl rfl) ⟨I0, T0⟩ T0 rfl ?_
 refine t_op rfl (sp_box (X := .agg (cRu u)) (k := 2) (.tmp 1) rfl rfl) ⟨I0, T0⟩ T0 rfl ?_
 refine t_op rfl (sp_assign (.const (.bool false)) (bv false) rfl) ⟨I0, T0⟩ T0 T0 ?_
 refine tri_nil ?_
 refine tri_wk (wk_keep [(1, .box 76 (cRu r)), (2, .box 76 (cRu u))] [(2, .box 1 0), (3, .box 2 0), (4, bv false)] (n := 15)) ?_
 refine t_then ?_
 refine tri_seq ?_
 by_cases hs1 : (r.nm.toList == u.nm.toList) = true
 refine tri_region ?_
 refine t_op rfl (sp_fieldBox (off' := 0) (.tmp 2) rfl Tryd.underlying76 rfl (z := 1) (by kernel_rfl) (by decide) rfl) ⟨I0, T0⟩ T0 T0 ?_
 refine t_op rfl (sp_loadBox1 (Y := .box 76 (cRu r)) (X := sv r.nm) (.tmp 5) rfl Tryd.underlying9 rfl rfl) ⟨I0, T0⟩ ⟨rfl, T0⟩ T0 ?_
 refine t_op rfl (sp_fieldBox (off' := 0) (.tmp 3) rfl Tryd.underlying76 rfl (z := 1) (by kernel_rfl) (by decide) rfl) ⟨I0, T0⟩ T0 T0 ?_
 refine t_op rfl (sp_loadBox1 (Y := .box 76 (cRu u)) (X := sv u.nm) (.tmp 7) rfl Tryd.underlying9 rfl rfl) ⟨I0, T0⟩ ⟨rfl, T0⟩ T0 ?_
 refine t_op rfl (sp_seql rfl hs1) ⟨I0, I0, T0⟩ T0 T0 ?_
 refine t_op rfl (sp_move (.tmp 9) (bv true) rfl) ⟨I0, T0⟩ T0 T0 ?_
 refine t_opG rfl (sp_loadBoxS (Y := .box 76 (cRu r)) (ds := cRu r) (z := 18) (.tmp 2) rfl Tryd.underlying76 rfl (by kernel_rfl) (by decide) (by kernel_rfl) (by kernel_rfl)) ⟨I0, T0⟩ ⟨rfl, T0⟩ T0 ?_
 refine t_opG rfl (sp_loadBoxS (Y := .box 76 (cRu u)) (ds := cRu u) (z := 18) (.tmp 3) rfl Tryd.underlying76 rfl (by kernel_rfl) (by decide) (by kernel_rfl) (by kernel_rfl)) ⟨I0, T0⟩ ⟨rfl, T0⟩ T0 ?_
 refine t_opG rfl (sp_call (c := .func 83) (xs := #[.tmp 11, .tmp 12]) [] (samePartsG HR HS) rfl (by kernel_rfl) rfl (Xs := [.agg (cRu r), .agg (cRu u)]) rfl rfl rfl) ⟨I0, I0, I0, T0⟩ T0 T0 ?_
 refine t_op rfl (sp_pick (.tmp 10) (.tmp 13) (.const (.bool false)) true (bv (samP r u)) (bv false) rfl) ⟨I0, I0, I0, T0⟩ T0 T0 ?_
 refine t_op rfl (sp_assign (.tmp 14) (bv (samP r u)) rfl) ⟨I0, T0⟩ T0 T0 ?_
 refine tri_nil ?_
 refine tri_wk (wk_keep [] [(4, bv (samP r u))] (n := 15)) ?_
 refine t_then ?_
 refine tri_ret ?_
 refine tri_end1 Tryd.results75 (.tmp rfl) ?_
 exact congrArg (fun x : Bool => AV.v (.bool x)) (show samP r u = decide (r = u) from Bool.eq_iff_iff.2 ⟨fun h => dec_t ((rule_eq_iff r u).2 ⟨str_eq.1 hs1, h⟩), fun h => ((rule_eq_iff r u).1 (of_decide_eq_true h)).2⟩)
 have hs1f : (r.nm.toList == u.nm.toList) = false := by simpa using hs1
 refine tri_region ?_
 refine t_op rfl (sp_fieldBox (off' := 0) (.tmp 2) rfl Tryd.underlying76 rfl (z := 1) (by kernel_rfl) (by decide) rfl) ⟨I0, T0⟩ T0 T0 ?_
 refine t_op rfl (sp_loadBox1 (Y := .box 76 (cRu r)) (X := sv r.nm) (.tmp 5) rfl Tryd.underlying9 rfl rfl) ⟨I0, T0⟩ ⟨rfl, T0⟩ T0 ?_
 refine t_op rfl (sp_fieldBox (off' := 0) (.tmp 3) rfl Tryd.underlying76 rfl (z := 1) (by kernel_rfl) (by decide) rfl) ⟨I0, T0⟩ T0 T0 ?_
 refine t_op rfl (sp_loadBox1 (Y := .box 76 (cRu u)) (X := sv u.nm) (.tmp 7) rfl Tryd.underlying9 rfl rfl) ⟨I0, T0⟩ ⟨rfl, T0⟩ T0 ?_
 refine t_op rfl (sp_seql rfl hs1f) ⟨I0, I0, T0⟩ T0 T0 ?_
 refine t_op rfl (sp_move (.tmp 9) (bv false) rfl) ⟨I0, T0⟩ T0 T0 ?_
 refine t_skip rfl ?_
 refine t_skip rfl ?_
 refine t_skip rfl ?_
 refine t_op rfl (sp_pick (.tmp 10) (.tmp 13) (.const (.bool false)) false (.v (.tuple #[])) (bv false) rfl) ⟨I0, I0, I0, T0⟩ T0 T0 ?_
 refine t_op rfl (sp_assign (.tmp 14) (bv false) rfl) ⟨I0, T0⟩ T0 T0 ?_
 refine tri_nil ?_
 refine tri_wk (wk_keep [] [(4, bv false)] (n := 15)) ?_
 refine t_then ?_
 refine tri_ret ?_
 refine tri_end1 Tryd.results75 (.tmp rfl) ?_
 exact congrArg (fun x : Bool => AV.v (.bool x)) ((dec_f (fun h => congrArg Ru.nm h) (str_ne hs1f)).symm)
end Go.Proofs.YtmpbfdfjcfanoaaDoor
