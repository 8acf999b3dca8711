import Derived.Test.YtmpbfdfjcfanoaaDoorGrpagmkpkkn
set_option linter.all false
namespace Go.Proofs.YtmpbfdfjcfanoaaDoor
open Go.RowKit Go.Deep
variable {J : World → Prop}
set_option linter.unusedSimpArgs false in
set_option linter.unusedVariables false in
set_option maxRecDepth 100000 in
set_option maxHeartbeats 6400000 in
theorem eqRulesG (xs ys : List Ru) (hx : ∀ r ∈ xs, RuOk r) (hy : ∀ r ∈ ys, RuOk r) (lx : xs.length ≤ 9223372036854775807) (ly : ys.length ≤ 9223372036854775807) : Ctr Tryd.prog J 74 [slA 18 cRu xs, slA 18 cRu ys, .v (.func (.func 75) #[] #[])] (bv (decide (xs = ys))) := by
 refine ctr_of_tri Tryd.func74 rfl (by intro X hX; simp only [List.mem_cons, List.not_mem_nil, or_false] at hX; rcases hX with rfl | rfl | rfl; exact plain_sl plain_ru _; exact plain_sl plain_ru _; exact .v _) (n := 32) rfl (by simp) (fun w0 => ?_)
 refine tri_wk (wk_keep [] [(0, slA 18 cRu xs), (1, slA 18 cRu ys), (2, .v (.func (.func 75) #[] #[]))] (n := 32)) ?_
 refine tri_seq ?_
 refine tri_region ?_
 refine t_op rfl (sp_assign (.const (.bool false)) (bv false) rfl) ⟨I0, T0⟩ T0 T0 ?_
 refine tri_nil ?_
 refine tri_wk (wk_keep [] [(0, slA 18 cRu xs), (1, slA 18 cRu ys), (2, .v (.func (.func 75) #[] #[])), (6, bv false)] (n := 32)) ?_
 refine t_then ?_
 refine tri_seq ?_
 refine tri_seq ?_
 by_cases hs1 : ((xs.length : Nat) : Int) = ((ys.length : Nat) : Int)
 refine tri_region ?_
 refine t_op rfl (sp_move (.tmp 0) (slA 18 cRu xs) rfl) ⟨I0, T0⟩ T0 T0 ?_
 refine t_op rfl (sp_lenSl (.tmp 10) rfl Tryd.underlying25) ⟨I0, T0⟩ T0 T0 ?_
 refine t_op rfl (sp_move (.tmp 1) (slA 18 cRu ys) rfl) ⟨I0, T0⟩ T0 T0 ?_
 refine t_op rfl (sp_lenSl (.tmp 12) rfl Tryd.underlying25) ⟨I0, T0⟩ T0 T0 ?_
 refine t_op rfl (sp_neq rfl (dT' hs1)) ⟨I0, I0, T0⟩ T0 T0 ?_
 refine tri_nil ?_
 refine tri_wk (wk_keep [] [(0, slA 18 cRu xs), (1, slA 18 cRu ys), (2, .v (.func (.func 75) #[] #[])), (6, bv false), (14, bv false)] (n := 32)) ?_
 refine t_then ?_
 refine t_condF rfl ?_
 refine tri_skip ?_
 refine t_then ?_
 refine tri_seq ?_
 refine tri_seq ?_
 refine tri_region ?_
 refine t_op rfl (sp_move (.tmp 0) (slA 18 cRu xs) rfl) ⟨I0, T0⟩ T0 T0 ?_
 refine t_op rfl (sp_lenSl (.tmp 15) rfl Tryd.underlying25) ⟨I0, T0⟩ T0 T0 ?_
 refine t_op rfl (sp_move (.const (.int .i64 0)) (iv 0) rfl) ⟨I0, T0⟩ T0 T0 ?_
 refine tri_nil ?_
 refine tri_wk (wk_keep [] [(1, slA 18 cRu ys), (2, .v (.func (.func 75) #[] #[])), (6, bv false), (15, slA 18 cRu xs), (16, iv xs.length), (17, iv 0)] (n := 32)) ?_
 refine t_then ?_
 refine tri_block ?_
 refine tri_loop (σ := {k : Nat // k ≤ xs.length ∧ agK xs ys k}) (fun s => (ofL [], ofT 32 [(1, slA 18 cRu ys), (2, .v (.func (.func 75) #[] #[])), (15, slA 18 cRu xs), (16, iv xs.length), (17, iv s.1)])) (fun s => xs.length - s.1) ⟨0, Nat.zero_le _, agK_zero _ _⟩ (wk_keep [] _ rfl (by kernel_rfl) (by kernel_rfl)) (fun s => ?_)
 obtain ⟨k, hk0, hs0⟩ := s
 show ETri J w0 (ofL []) (ofT 32 [(1, slA 18 cRu ys), (2, .v (.func (.func 75) #[] #[])), (15, slA 18 cRu xs), (16, iv xs.length), (17, iv k)]) _
 refine tri_seq ?_
 by_cases hs2 : ((k : Nat) : Int) < ((xs.length : Nat) : Int)
 refine tri_region ?_
 refine t_op rfl (sp_lss rfl (dT hs2)) ⟨I0, I0, T0⟩ T0 T0 ?_
 refine tri_nil ?_
 refine tri_wk (wk_keep [] [(1, slA 18 cRu ys), (2, .v (.func (.func 75) #[] #[])), (15, slA 18 cRu xs), (16, iv xs.length), (17, iv k), (18, bv true)] (n := 32)) ?_
 refine t_then ?_
 refine tri_seq ?_
 refine t_condT rfl ?_
 refine tri_skip ?_
 refine t_then ?_
 refine tri_seq ?_
 refine tri_block ?_
 refine tri_seq ?_
 refine tri_region ?_
 refine t_op rfl (sp_move (.tmp 17) (iv k) rfl) ⟨I0, T0⟩ T0 T0 ?_
 refine t_op rfl (sp_indexSl (off := k * 18) (.tmp 15) (.tmp 17) rfl Tryd.underlying25 (by kernel_rfl) (by omega) (by omega) rfl) ⟨I0, I0, T0⟩ T0 T0 ?_
 refine t_op rfl (sp_loadElS (z := 18) (.tmp 20) rfl Tryd.underlying76 rfl (by kernel_rfl) (flat_take lenRu xs k (by omega)) rfl) ⟨I0, T0⟩ T0 T0 ?_
 refine t_op rfl (sp_alloc (z := .agg #[.string (⟨#[]⟩), .int .i64 0, .int .i64 0, .int .i64 0, .int .i64 0, .int .i64 0, .slice none 0 0, .slice none 0 0, .slice none 0 0, .slice none 0 0, .int .i64 0, .int .i64 0, .slice none 0 0, .int .i64 0, .slice none 0 0, .slice none 0 0, .slice none 0 0, .int .i64 0]) (k := 1) rfl (by kernel_rfl)) T0 T0 rfl ?_
 refine t_op rfl (sp_assign (.tmp 19) (iv k) rfl) ⟨I0, T0⟩ T0 T0 ?_
 refine t_op rfl (sp_storeBox (T0 := 76) (X := .agg (cRu xs[k])) (cs := [sv (⟨#[]⟩), iv 0, iv 0, iv 0, iv 0, iv 0, .v (.slice none 0 0), .v (.slice none 0 0), .v (.slice none 0 0), .v (.slice none 0 0), iv 0, iv 0, .v (.slice none 0 0), iv 0, .v (.slice none 0 0), .v (.slice none 0 0), .v (.slice none 0 0), iv 0]) (ds := cRu xs[k]) (z := 18) (.tmp 8) (.tmp 21) rfl (by kernel_rfl) (by kernel_rfl) (by kernel_rfl) (of_decide_eq_true (by kernel_rfl)) (by kernel_rfl)) ⟨I0, I0, T0⟩ ⟨rfl, T0⟩ rfl ?_
 refine tri_nil ?_
 refine tri_wk (wk_keep [(1, .box 76 (cRu xs[k]))] [(1, slA 18 cRu ys), (2, .v (.func (.func 75) #[] #[])), (7, iv k), (8, .box 1 0), (15, slA 18 cRu xs), (16, iv xs.length), (17, iv k), (18, bv true)] (n := 32)) ?_
 refine t_then ?_
 refine tri_seq ?_
 refine tri_region ?_
 refine t_op rfl (sp_move (.tmp 1) (slA 18 cRu ys) rfl) ⟨I0, T0⟩ T0 T0 ?_
 refine t_op rfl (sp_move (.tmp 7) (iv k) rfl) ⟨I0, T0⟩ T0 T0 ?_
 refine t_op rfl (sp_indexSl (off := k * 18) (.tmp 22) (.tmp 23) rfl Tryd.underlying25 (by kernel_rfl) (by omega) (by omega) rfl) ⟨I0, I0, T0⟩ T0 T0 ?_
 refine t_op rfl (sp_loadElS (z := 18) (.tmp 24) rfl Tryd.underlying76 rfl (by kernel_rfl) (flat_take lenRu ys k (by omega)) rfl) ⟨I0, T0⟩ T0 T0 ?_
 refine t_op rfl (sp_alloc (z := .agg #[.string (⟨#[]⟩), .int .i64 0, .int .i64 0, .int .i64 0, .int .i64 0, .int .i64 0, .slice none 0 0, .slice none 0 0, .slice none 0 0, .slice none 0 0, .int .i64 0, .int .i64 0, .slice none 0 0, .int .i64 0, .slice none 0 0, .slice none 0 0, .slice none 0 0, .int .i64 0]) (k := 2) rfl (by kernel_rfl)) T0 T0 rfl ?_
 refine t_op rfl (sp_storeBox (T0 := 76) (X := .agg (cRu ys[k])) (cs := [sv (⟨#[]⟩), iv 0, iv 0, iv 0, iv 0, iv 0, .v (.slice none 0 0), .v (.slice none 0 0), .v (.slice none 0 0), .v (.slice none 0 0), iv 0, iv 0, .v (.slice none 0 0), iv 0, .v (.slice none 0 0), .v (.slice none 0 0), .v (.slice none 0 0), iv 0]) (ds := cRu ys[k]) (z := 18) (.tmp 9) (.tmp 25) rfl (by kernel_rfl) (by kernel_rfl) (by kernel_rfl) (of_decide_eq_true (by kernel_rfl)) (by kernel_rfl)) ⟨I0, I0, T0⟩ ⟨rfl, T0⟩ rfl ?_
 refine tri_nil ?_
 refine tri_wk (wk_keep [(1, .box 76 (cRu xs[k])), (2, .box 76 (cRu ys[k]))] [(1, slA 18 cRu ys), (2, .v (.func (.func 75) #[] #[])), (7, iv k), (8, .box 1 0), (9, .box 2 0), (15, slA 18 cRu xs), (16, iv xs.length), (17, iv k), (18, bv true)] (n := 32)) ?_
 refine t_then ?_
 refine tri_seq ?_
 by_cases hs3 : (decide (xs[k] = ys[k])) = true
 refine tri_region ?_
 refine t_op rfl (sp_move (.tmp 2) (.v (.func (.func 75) #[] #[])) rfl) ⟨I0, T0⟩ T0 T0 ?_
 refine t_op rfl (sp_loadBoxS (Y := .box 76 (cRu xs[k])) (ds := cRu xs[k]) (z := 18) (.tmp 8) rfl Tryd.underlying76 rfl (by kernel_rfl) (by decide) (by kernel_rfl) (by kernel_rfl)) ⟨I0, T0⟩ ⟨rfl, T0⟩ T0 ?_
 refine t_op rfl (sp_loadBoxS (Y := .box 76 (cRu ys[k])) (ds := cRu ys[k]) (z := 18) (.tmp 9) rfl Tryd.underlying76 rfl (by kernel_rfl) (by decide) (by kernel_rfl) (by kernel_rfl)) ⟨I0, T0⟩ ⟨rfl, T0⟩ T0 ?_
 refine t_op rfl (sp_call (c := .tmp 26) (xs := #[.tmp 27, .tmp 28]) [] (ctr_b (sameRuleG (hx xs[k] (List.getElem_mem (by omega))) (hy ys[k] (List.getElem_mem (by omega)))) hs3) rfl (by kernel_rfl) rfl (Xs := [.agg (cRu xs[k]), .agg (cRu ys[k])]) rfl rfl rfl) ⟨I0, I0, I0, T0⟩ T0 T0 ?_
 refine t_op rfl (sp_not rfl rfl) ⟨I0, T0⟩ T0 T0 ?_
 refine tri_nil ?_
 refine tri_wk (wk_keep [(1, .box 76 (cRu xs[k])), (2, .box 76 (cRu ys[k]))] [(1, slA 18 cRu ys), (2, .v (.func (.func 75) #[] #[])), (7, iv k), (8, .box 1 0), (9, .box 2 0), (15, slA 18 cRu xs), (16, iv xs.length), (17, iv k), (18, bv true), (30, bv false)] (n := 32)) ?_
 refine t_then ?_
 refine t_condF rfl ?_
 refine tri_skip ?_
 refine t_block ?_
 refine t_then ?_
 refine tri_region ?_
 refine t_op rfl (sp_add (c := ((k + 1 : Nat) : Int)) rfl (w64 (by omega) (by omega) (by omega))) ⟨I0, I0, T0⟩ T0 T0 ?_
 refine t_op rfl (sp_move (.tmp 31) (iv (k + 1 : Nat)) rfl) ⟨I0, T0⟩ T0 T0 ?_
 refine tri_nil ?_
 refine tri_wk (wk_keep [(1, .box 76 (cRu xs[k])), (2, .box 76 (cRu ys[k]))] [(1, slA 18 cRu ys), (2, .v (.func (.func 75) #[] #[])), (7, iv k), (8, .box 1 0), (9, .box 2 0), (15, slA 18 cRu xs), (16, iv xs.length), (17, iv (k + 1 : Nat)), (18, bv true), (30, bv false)] (n := 32)) ?_
 refine t_then ?_
 refine tri_again ⟨k + 1, by omega, agK_succ (by omega) (by omega) hs0 (of_decide_eq_true hs3)⟩ (show xs.length - (k + 1) < xs.length - k by omega) ?_
 exact wk_keep [] _ rfl (by kernel_rfl) (by kernel_rfl)
 have hs3f : (decide (xs[k] = ys[k])) = false := by simpa using hs3
 refine tri_region ?_
 refine t_op rfl (sp_move (.tmp 2) (.v (.func (.func 75) #[] #[])) rfl) ⟨I0, T0⟩ T0 T0 ?_
 refine t_op rfl (sp_loadBoxS (Y := .box 76 (cRu xs[k])) (ds := cRu xs[k]) (z := 18) (.tmp 8) rfl Tryd.underlying76 rfl (by kernel_rfl) (by decide) (by kernel_rfl) (by kernel_rfl)) ⟨I0, T0⟩ ⟨rfl, T0⟩ T0 ?_
 refine t_op rfl (sp_loadBoxS (Y := .box 76 (cRu ys[k])) (ds := cRu ys[k]) (z := 18) (.tmp 9) rfl Tryd.underlying76 rfl (by kernel_rfl) (by decide) (by kernel_rfl) (by kernel_rfl)) ⟨I0, T0⟩ ⟨rfl, T0⟩ T0 ?_
 refine t_op rfl (sp_call (c := .tmp 26) (xs := #[.tmp 27, .tmp 28]) [] (ctr_b (sameRuleG (hx xs[k] (List.getElem_mem (by omega))) (hy ys[k] (List.getElem_mem (by omega)))) hs3f) rfl (by kernel_rfl) rfl (Xs := [.agg (cRu xs[k]), .agg (cRu ys[k])]) rfl rfl rfl) ⟨I0, I0, I0, T0⟩ T0 T0 ?_
 refine t_op rfl (sp_not rfl rfl) ⟨I0, T0⟩ T0 T0 ?_
 refine tri_nil ?_
 refine tri_wk (wk_keep [(1, .box 76 (cRu xs[k])), (2, .box 76 (cRu ys[k]))] [(1, slA 18 cRu ys), (2, .v (.func (.func 75) #[] #[])), (7, iv k), (8, .box 1 0), (9, .box 2 0), (15, slA 18 cRu xs), (16, iv xs.length), (17, iv k), (18, bv true), (30, bv true)] (n := 32)) ?_
 refine t_then ?_
 refine t_condT rfl ?_
 refine tri_seq ?_
 refine tri_region ?_
 refine t_op rfl (sp_assign (.const (.bool false)) (bv false) rfl) ⟨I0, T0⟩ T0 T0 ?_
 refine tri_nil ?_
 refine tri_wk (wk_keep [(1, .box 76 (cRu xs[k])), (2, .box 76 (cRu ys[k]))] [(1, slA 18 cRu ys), (2, .v (.func (.func 75) #[] #[])), (6, bv false), (7, iv k), (8, .box 1 0), (9, .box 2 0), (15, slA 18 cRu xs), (16, iv xs.length), (17, iv k), (18, bv true), (30, bv true)] (n := 32)) ?_
 refine t_then ?_
 refine tri_ret ?_
 refine t_block_ret ?_
 refine t_then_ret ?_
 refine t_then_ret ?_
 refine t_block_ret ?_
 refine t_then_ret ?_
 refine tri_end1 Tryd.results74 (.tmp rfl) ?_
 exact congrArg (fun x : Bool => AV.v (.bool x)) ((ag_no (k := k) (by omega) (by omega) (of_decide_eq_false hs3f)).symm)
 refine tri_region ?_
 refine t_op rfl (sp_lss rfl (dF hs2)) ⟨I0, I0, T0⟩ T0 T0 ?_
 refine tri_nil ?_
 refine tri_wk (wk_keep [] [(1, slA 18 cRu ys), (2, .v (.func (.func 75) #[] #[])), (15, slA 18 cRu xs), (16, iv xs.length), (17, iv k), (18, bv false)] (n := 32)) ?_
 refine t_then ?_
 refine tri_seq ?_
 refine t_condF rfl ?_
 refine tri_exit ?_
 refine t_then_exit ?_
 refine t_then_exit ?_
 refine t_hit ?_
 refine t_then ?_
 refine tri_seq ?_
 refine tri_region ?_
 refine t_op rfl (sp_assign (.const (.bool true)) (bv true) rfl) ⟨I0, T0⟩ T0 T0 ?_
 refine tri_nil ?_
 refine tri_wk (wk_keep [] [(6, bv true)] (n := 32)) ?_
 refine t_then ?_
 refine tri_ret ?_
 refine tri_end1 Tryd.results74 (.tmp rfl) ?_
 exact congrArg (fun x : Bool => AV.v (.bool x)) ((ag_end hs1 (by omega) hs0).symm)
 refine tri_region ?_
 refine t_op rfl (sp_move (.tmp 0) (slA 18 cRu xs) rfl) ⟨I0, T0⟩ T0 T0 ?_
 refine t_op rfl (sp_lenSl (.tmp 10) rfl Tryd.underlying25) ⟨I0, T0⟩ T0 T0 ?_
 refine t_op rfl (sp_move (.tmp 1) (slA 18 cRu ys) rfl) ⟨I0, T0⟩ T0 T0 ?_
 refine t_op rfl (sp_lenSl (.tmp 12) rfl Tryd.underlying25) ⟨I0, T0⟩ T0 T0 ?_
 refine t_op rfl (sp_neq rfl (dF' hs1)) ⟨I0, I0, T0⟩ T0 T0 ?_
 refine tri_nil ?_
 refine tri_wk (wk_keep [] [(0, slA 18 cRu xs), (1, slA 18 cRu ys), (2, .v (.func (.func 75) #[] #[])), (6, bv false), (14, bv true)] (n := 32)) ?_
 refine t_then ?_
 refine t_condT rfl ?_
 refine tri_seq ?_
 refine tri_region ?_
 refine t_op rfl (sp_assign (.const (.bool false)) (bv false) rfl) ⟨I0, T0⟩ T0 T0 ?_
 refine tri_nil ?_
 refine tri_wk (wk_keep [] [(0, slA 18 cRu xs), (1, slA 18 cRu ys), (2, .v (.func (.func 75) #[] #[])), (6, bv false)] (n := 32)) ?_
 refine t_then ?_
 refine tri_ret ?_
 refine t_then_ret ?_
 refine tri_end1 Tryd.results74 (.tmp rfl) ?_
 exact congrArg (fun x : Bool => AV.v (.bool x)) ((ag_len hs1).symm)
set_option linter.unusedSimpArgs false in
set_option linter.unusedVariables false in
set_option maxRecDepth 100000 in
set_option maxHeartbeats 6400000 in
theorem qEqualG {a b : Fm} (HA : FmOk a) (HB : FmOk b) : Ctr Tryd.prog J 27 [.agg (cFm a), .agg (cFm b)] (bv (decide (a = b))) := by
 refine ctr_of_tri Tryd.func27 rfl (by intro X hX; simp only [List.mem_cons, List.not_mem_nil, or_false] at hX; rcases hX with rfl | rfl; exact plain_agg (plain_fm a); exact plain_agg (plain_fm b)) (n := 73) rfl (by simp) (fun w0 => ?_)
 refine tri_wk (wk_keep [] [(0, .agg (cFm a)), (1, .agg (cFm b))] (n := 73)) ?_
 refine tri_seq ?_
 refine tri_region ?_
 refine t_op rfl (sp_box (X := .agg (cFm a)) (k := 1) (.tmp 0) rfl rfl) ⟨I0, T0⟩ T0 rfl ?_
 refine t_op rfl (sp_box (X := .agg (cFm b)) (k := 2) (.tmp 1) rfl rfl) ⟨I0, T0⟩ T0 rfl ?_
 refine t_op rfl (sp_assign (.const (.bool false)) (bv false) rfl) ⟨I0, T0⟩ T0 T0 ?_
 refine tri_nil ?_
 refine tri_wk (wk_keep [(1, .box 27 (cFm a)), (2, .box 27 (cFm b))] [(2, .box 1 0), (3, .box 2 0), (4, bv false)] (n := 73)) ?_
 refine t_then ?_
 refine tri_seq ?_
 by_cases hs1 : (a.nm.toList == b.nm.toList) = true
 by_cases hs2 : a.top = b.top
 by_cases hs3 : a.fault = b.fault
 by_cases hs4 : (decide (a.states = b.states)) = true
 by_cases hs5 : (decide (a.msgs = b.msgs)) = true
 by_cases hs6 : (decide (a.vals = b.vals)) = true
 by_cases hs7 : (decide (a.res = b.res)) = true
 by_cases hs8 : (decide (a.init = b.init)) = true
 by_cases hs9 : (decide (a.leader = b.leader)) = true
 refine tri_region ?_
 refine t_op rfl (sp_fieldBox (off' := 0) (.tmp 2) rfl Tryd.underlying27 rfl (z := 1) (by kernel_rfl) (by decide) rfl) ⟨I0, T0⟩ T0 T0 ?_
 refine t_op rfl (sp_loadBox1 (Y := .box 27 (cFm a)) (X := sv a.nm) (.tmp 5) rfl Tryd.underlying9 rfl rfl) ⟨I0, T0⟩ ⟨rfl, T0⟩ T0 ?_
 refine t_op rfl (sp_fieldBox (off' := 0) (.tmp 3) rfl Tryd.underlying27 rfl (z := 1) (by kernel_rfl) (by decide) rfl) ⟨I0, T0⟩ T0 T0 ?_
 refine t_op rfl (sp_loadBox1 (Y := .box 27 (cFm b)) (X := sv b.nm) (.tmp 7) rfl Tryd.underlying9 rfl rfl) ⟨I0, T0⟩ ⟨rfl, T0⟩ T0 ?_
 refine t_op rfl (sp_seql rfl hs1) ⟨I0, I0, T0⟩ T0 T0 ?_
 refine t_op rfl (sp_move (.tmp 9) (bv true) rfl) ⟨I0, T0⟩ T0 T0 ?_
 refine t_opG rfl (sp_fieldBox (off' := 1) (.tmp 2) rfl Tryd.underlying27 rfl (z := 1) (by kernel_rfl) (by decide) rfl) ⟨I0, T0⟩ T0 T0 ?_
 refine t_opG rfl (sp_loadBox1 (Y := .box 27 (cFm a)) (X := iv a.top) (.tmp 11) rfl Tryd.underlying3 rfl rfl) ⟨I0, T0⟩ ⟨rfl, T0⟩ T0 ?_
 refine t_opG rfl (sp_fieldBox (off' := 1) (.tmp 3) rfl Tryd.underlying27 rfl (z := 1) (by kernel_rfl) (by decide) rfl) ⟨I0, T0⟩ T0 T0 ?_
 refine t_opG rfl (sp_loadBox1 (Y := .box 27 (cFm b)) (X := iv b.top) (.tmp 13) rfl Tryd.underlying3 rfl rfl) ⟨I0, T0⟩ ⟨rfl, T0⟩ T0 ?_
 refine t_opG rfl (sp_eql rfl (dT hs2)) ⟨I0, I0, T0⟩ T0 T0 ?_
 refine t_op rfl (sp_pick (.tmp 10) (.tmp 15) (.const (.bool false)) true (bv true) (bv false) rfl) ⟨I0, I0, I0, T0⟩ T0 T0 ?_
 refine t_op rfl (sp_move (.tmp 16) (bv true) rfl) ⟨I0, T0⟩ T0 T0 ?_
 refine t_opG rfl (sp_fieldBox (off' := 5) (.tmp 2) rfl Tryd.underlying27 rfl (z := 1) (by kernel_rfl) (by decide) rfl) ⟨I0, T0⟩ T0 T0 ?_
 refine t_opG rfl (sp_loadBox1 (Y := .box 27 (cFm a)) (X := iv a.fault) (.tmp 18) rfl Tryd.underlying3 rfl rfl) ⟨I0, T0⟩ ⟨rfl, T0⟩ T0 ?_
 refine t_opG rfl (sp_fieldBox (off' := 5) (.tmp 3) rfl Tryd.underlying27 rfl (z := 1) (by kernel_rfl) (by decide) rfl) ⟨I0, T0⟩ T0 T0 ?_
 refine t_opG rfl (sp_loadBox1 (Y := .box 27 (cFm b)) (X := iv b.fault) (.tmp 20) rfl Tryd.underlying3 rfl rfl) ⟨I0, T0⟩ ⟨rfl, T0⟩ T0 ?_
 refine t_opG rfl (sp_eql rfl (dT hs3)) ⟨I0, I0, T0⟩ T0 T0 ?_
 refine t_op rfl (sp_pick (.tmp 17) (.tmp 22) (.const (.bool false)) true (bv true) (bv false) rfl) ⟨I0, I0, I0, T0⟩ T0 T0 ?_
 refine t_op rfl (sp_move (.tmp 23) (bv true) rfl) ⟨I0, T0⟩ T0 T0 ?_
 refine t_opG rfl (sp_fieldBox (off' := 2) (.tmp 2) rfl Tryd.underlying27 rfl (z := 1) (by kernel_rfl) (by decide) rfl) ⟨I0, T0⟩ T0 T0 ?_
 refine t_opG rfl (sp_loadBox1 (Y := .box 27 (cFm a)) (X := strsA a.states) (.tmp 25) rfl Tryd.underlying22 rfl rfl) ⟨I0, T0⟩ ⟨rfl, T0⟩ T0 ?_
 refine t_opG rfl (sp_fieldBox (off' := 2) (.tmp 3) rfl Tryd.underlying27 rfl (z := 1) (by kernel_rfl) (by decide) rfl) ⟨I0, T0⟩ T0 T0 ?_
 refine t_opG rfl (sp_loadBox1 (Y := .box 27 (cFm b)) (X := strsA b.states) (.tmp 27) rfl Tryd.underlying22 rfl rfl) ⟨I0, T0⟩ ⟨rfl, T0⟩ T0 ?_
 refine t_opG rfl (sp_call (c := .func 71) (xs := #[.tmp 26, .tmp 28]) [] (ctr_b (eqTextsG a.states b.states HA.lstates HB.lstates) hs4) rfl (by kernel_rfl) rfl (Xs := [strsA a.states, strsA b.states]) rfl rfl rfl) ⟨I0, I0, I0, T0⟩ T0 T0 ?_
 refine t_op rfl (sp_pick (.tmp 24) (.tmp 29) (.const (.bool false)) true (bv true) (bv false) rfl) ⟨I0, I0, I0, T0⟩ T0 T0 ?_
 refine t_op rfl (sp_move (.tmp 30) (bv true) rfl) ⟨I0, T0⟩ T0 T0 ?_
 refine t_opG rfl (sp_fieldBox (off' := 3) (.tmp 2) rfl Tryd.underlying27 rfl (z := 1) (by kernel_rfl) (by decide) rfl) ⟨I0, T0⟩ T0 T0 ?_
 refine t_opG rfl (sp_loadBox1 (Y := .box 27 (cFm a)) (X := strsA a.msgs) (.tmp 32) rfl Tryd.underlying22 rfl rfl) ⟨I0, T0⟩ ⟨rfl, T0⟩ T0 ?_
 refine t_opG rfl (sp_fieldBox (off' := 3) (.tmp 3) rfl Tryd.underlying27 rfl (z := 1) (by kernel_rfl) (by decide) rfl) ⟨I0, T0⟩ T0 T0 ?_
 refine t_opG rfl (sp_loadBox1 (Y := .box 27 (cFm b)) (X := strsA b.msgs) (.tmp 34) rfl Tryd.underlying22 rfl rfl) ⟨I0, T0⟩ ⟨rfl, T0⟩ T0 ?_
 refine t_opG rfl (sp_call (c := .func 71) (xs := #[.tmp 33, .tmp 35]) [] (ctr_b (eqTextsG a.msgs b.msgs HA.lmsgs HB.lmsgs) hs5) rfl (by kernel_rfl) rfl (Xs := [strsA a.msgs, strsA b.msgs]) rfl rfl rfl) ⟨I0, I0, I0, T0⟩ T0 T0 ?_
 refine t_op rfl (sp_pick (.tmp 31) (.tmp 36) (.const (.bool false)) true (bv true) (bv false) rfl) ⟨I0, I0, I0, T0⟩ T0 T0 ?_
 refine t_op rfl (sp_move (.tmp 37) (bv true) rfl) ⟨I0, T0⟩ T0 T0 ?_
 refine t_opG rfl (sp_fieldBox (off' := 4) (.tmp 2) rfl Tryd.underlying27 rfl (z := 1) (by kernel_rfl) (by decide) rfl) ⟨I0, T0⟩ T0 T0 ?_
 refine t_opG rfl (sp_loadBox1 (Y := .box 27 (cFm a)) (X := strsA a.vals) (.tmp 39) rfl Tryd.underlying22 rfl rfl) ⟨I0, T0⟩ ⟨rfl, T0⟩ T0 ?_
 refine t_opG rfl (sp_fieldBox (off' := 4) (.tmp 3) rfl Tryd.underlying27 rfl (z := 1) (by kernel_rfl) (by decide) rfl) ⟨I0, T0⟩ T0 T0 ?_
 refine t_opG rfl (sp_loadBox1 (Y := .box 27 (cFm b)) (X := strsA b.vals) (.tmp 41) rfl Tryd.underlying22 rfl rfl) ⟨I0, T0⟩ ⟨rfl, T0⟩ T0 ?_
 refine t_opG rfl (sp_call (c := .func 71) (xs := #[.tmp 40, .tmp 42]) [] (ctr_b (eqTextsG a.vals b.vals HA.lvals HB.lvals) hs6) rfl (by kernel_rfl) rfl (Xs := [strsA a.vals, strsA b.vals]) rfl rfl rfl) ⟨I0, I0, I0, T0⟩ T0 T0 ?_
 refine t_op rfl (sp_pick (.tmp 38) (.tmp 43) (.const (.bool false)) true (bv true) (bv false) rfl) ⟨I0, I0, I0, T0⟩ T0 T0 ?_
 refine t_op rfl (sp_move (.tmp 44) (bv true) rfl) ⟨I0, T0⟩ T0 T0 ?_
 refine t_opG rfl (sp_fieldBox (off' := 6) (.tmp 2) rfl Tryd.underlying27 rfl (z := 1) (by kernel_rfl) (by decide) rfl) ⟨I0, T0⟩ T0 T0 ?_
 refine t_opG rfl (sp_loadBox1 (Y := .box 27 (cFm a)) (X := slA 4 cLn a.res) (.tmp 46) rfl Tryd.underlying23 rfl rfl) ⟨I0, T0⟩ ⟨rfl, T0⟩ T0 ?_
 refine t_opG rfl (sp_fieldBox (off' := 6) (.tmp 3) rfl Tryd.underlying27 rfl (z := 1) (by kernel_rfl) (by decide) rfl) ⟨I0, T0⟩ T0 T0 ?_
 refine t_opG rfl (sp_loadBox1 (Y := .box 27 (cFm b)) (X := slA 4 cLn b.res) (.tmp 48) rfl Tryd.underlying23 rfl rfl) ⟨I0, T0⟩ ⟨rfl, T0⟩ T0 ?_
 refine t_opG rfl (sp_call (c := .func 72) (xs := #[.tmp 47, .tmp 49]) [] (ctr_b (eqLinearsG a.res b.res HA.lres HB.lres) hs7) rfl (by kernel_rfl) rfl (Xs := [slA 4 cLn a.res, slA 4 cLn b.res]) rfl rfl rfl) ⟨I0, I0, I0, T0⟩ T0 T0 ?_
 refine t_op rfl (sp_pick (.tmp 45) (.tmp 50) (.const (.bool false)) true (bv true) (bv false) rfl) ⟨I0, I0, I0, T0⟩ T0 T0 ?_
 refine t_op rfl (sp_move (.tmp 51) (bv true) rfl) ⟨I0, T0⟩ T0 T0 ?_
 refine t_opG rfl (sp_fieldBox (off' := 7) (.tmp 2) rfl Tryd.underlying27 rfl (z := 1) (by kernel_rfl) (by decide) rfl) ⟨I0, T0⟩ T0 T0 ?_
 refine t_opG rfl (sp_loadBox1 (Y := .box 27 (cFm a)) (X := intsA a.init) (.tmp 53) rfl Tryd.underlying24 rfl rfl) ⟨I0, T0⟩ ⟨rfl, T0⟩ T0 ?_
 refine t_opG rfl (sp_fieldBox (off' := 7) (.tmp 3) rfl Tryd.underlying27 rfl (z := 1) (by kernel_rfl) (by decide) rfl) ⟨I0, T0⟩ T0 T0 ?_
 refine t_opG rfl (sp_loadBox1 (Y := .box 27 (cFm b)) (X := intsA b.init) (.tmp 55) rfl Tryd.underlying24 rfl rfl) ⟨I0, T0⟩ ⟨rfl, T0⟩ T0 ?_
 refine t_opG rfl (sp_call (c := .func 73) (xs := #[.tmp 54, .tmp 56]) [] (ctr_b (eqIntsG a.init b.init HA.init HB.init) hs8) rfl (by kernel_rfl) rfl (Xs := [intsA a.init, intsA b.init]) rfl rfl rfl) ⟨I0, I0, I0, T0⟩ T0 T0 ?_
 refine t_op rfl (sp_pick (.tmp 52) (.tmp 57) (.const (.bool false)) true (bv true) (bv false) rfl) ⟨I0, I0, I0, T0⟩ T0 T0 ?_
 refine t_op rfl (sp_move (.tmp 58) (bv true) rfl) ⟨I0, T0⟩ T0 T0 ?_
 refine t_opG rfl (sp_fieldBox (off' := 8) (.tmp 2) rfl Tryd.underlying27 rfl (z := 1) (by kernel_rfl) (by decide) rfl) ⟨I0, T0⟩ T0 T0 ?_
 refine t_opG rfl (sp_loadBox1 (Y := .box 27 (cFm a)) (X := intsA a.leader) (.tmp 60) rfl Tryd.underlying24 rfl rfl) ⟨I0, T0⟩ ⟨rfl, T0⟩ T0 ?_
 refine t_opG rfl (sp_fieldBox (off' := 8) (.tmp 3) rfl Tryd.underlying27 rfl (z := 1) (by kernel_rfl) (by decide) rfl) ⟨I0, T0⟩ T0 T0 ?_
 refine t_opG rfl (sp_loadBox1 (Y := .box 27 (cFm b)) (X := intsA b.leader) (.tmp 62) rfl Tryd.underlying24 rfl rfl) ⟨I0, T0⟩ ⟨rfl, T0⟩ T0 ?_
 refine t_opG rfl (sp_call (c := .func 73) (xs := #[.tmp 61, .tmp 63]) [] (ctr_b (eqIntsG a.leader b.leader HA.leader HB.leader) hs9) rfl (by kernel_rfl) rfl (Xs := [intsA a.leader, intsA b.leader]) rfl rfl rfl) ⟨I0, I0, I0, T0⟩ T0 T0 ?_
 refine t_op rfl (sp_pick (.tmp 59) (.tmp 64) (.const (.bool false)) true (bv true) (bv false) rfl) ⟨I0, I0, I0, T0⟩ T0 T0 ?_
 refine t_op rfl (sp_move (.tmp 65) (bv true) rfl) ⟨I0, T0⟩ T0 T0 ?_
 refine t_opG rfl (sp_fieldBox (off' := 9) (.tmp 2) rfl Tryd.underlying27 rfl (z := 1) (by kernel_rfl) (by decide) rfl) ⟨I0, T0⟩ T0 T0 ?_
 refine t_opG rfl (sp_loadBox1 (Y := .box 27 (cFm a)) (X := slA 18 cRu a.rules) (.tmp 67) rfl Tryd.underlying25 rfl rfl) ⟨I0, T0⟩ ⟨rfl, T0⟩ T0 ?_
 refine t_opG rfl (sp_fieldBox (off' := 9) (.tmp 3) rfl Tryd.underlying27 rfl (z := 1) (by kernel_rfl) (by decide) rfl) ⟨I0, T0⟩ T0 T0 ?_
 refine t_opG rfl (sp_loadBox1 (Y := .box 27 (cFm b)) (X := slA 18 cRu b.rules) (.tmp 69) rfl Tryd.underlying25 rfl rfl) ⟨I0, T0⟩ ⟨rfl, T0⟩ T0 ?_
 refine t_opG rfl (sp_call (c := .func 74) (xs := #[.tmp 68, .tmp 70, .func 75]) [] (eqRulesG a.rules b.rules HA.rules HB.rules HA.lrules HB.lrules) rfl (by kernel_rfl) rfl (Xs := [slA 18 cRu a.rules, slA 18 cRu b.rules, .v (.func (.func 75) #[] #[])]) rfl rfl rfl) ⟨I0, I0, I0, I0, T0⟩ T0 T0 ?_
 refine t_op rfl (sp_pick (.tmp 66) (.tmp 71) (.const (.bool false)) true (bv (decide (a.rules = b.rules))) (bv false) rfl) ⟨I0, I0, I0, T0⟩ T0 T0 ?_
 refine t_op rfl (sp_assign (.tmp 72) (bv (decide (a.rules = b.rules))) rfl) ⟨I0, T0⟩ T0 T0 ?_
 refine tri_nil ?_
 refine tri_wk (wk_keep [] [(4, bv (decide (a.rules = b.rules)))] (n := 73)) ?_
 refine t_then ?_
 refine tri_ret ?_
 refine tri_end1 Tryd.results27 (.tmp rfl) ?_
 exact congrArg (fun x : Bool => AV.v (.bool x)) (show decide (a.rules = b.rules) = decide (a = b) from Bool.eq_iff_iff.2 ⟨fun h => dec_t (fm_eq (str_eq.1 hs1) hs2 (of_decide_eq_true hs4) (of_decide_eq_true hs5) (of_decide_eq_true hs6) hs3 (of_decide_eq_true hs7) (of_decide_eq_true hs8) (of_decide_eq_true hs9) (of_decide_eq_true h)), fun h => dec_t (congrArg Fm.rules (of_decide_eq_true h))⟩)
 have hs9f : (decide (a.leader = b.leader)) = false := by simpa using hs9
 refine tri_region ?_
 refine t_op rfl (sp_fieldBox (off' := 0) (.tmp 2) rfl Tryd.underlying27 rfl (z := 1) (by kernel_rfl) (by decide) rfl) ⟨I0, T0⟩ T0 T0 ?_
 refine t_op rfl (sp_loadBox1 (Y := .box 27 (cFm a)) (X := sv a.nm) (.tmp 5) rfl Tryd.underlying9 rfl rfl) ⟨I0, T0⟩ ⟨rfl, T0⟩ T0 ?_
 refine t_op rfl (sp_fieldBox (off' := 0) (.tmp 3) rfl Tryd.underlying27 rfl (z := 1) (by kernel_rfl) (by decide) rfl) ⟨I0, T0⟩ T0 T0 ?_
 refine t_op rfl (sp_loadBox1 (Y := .box 27 (cFm b)) (X := sv b.nm) (.tmp 7) rfl Tryd.underlying9 rfl rfl) ⟨I0, T0⟩ ⟨rfl, T0⟩ T0 ?_
 refine t_op rfl (sp_seql rfl hs1) ⟨I0, I0, T0⟩ T0 T0 ?_
 refine t_op rfl (sp_move (.tmp 9) (bv true) rfl) ⟨I0, T0⟩ T0 T0 ?_
 refine t_opG rfl (sp_fieldBox (off' := 1) (.tmp 2) rfl Tryd.underlying27 rfl (z := 1) (by kernel_rfl) (by decide) rfl) ⟨I0, T0⟩ T0 T0 ?_
 refine t_opG rfl (sp_loadBox1 (Y := .box 27 (cFm a)) (X := iv a.top) (.tmp 11) rfl Tryd.underlying3 rfl rfl) ⟨I0, T0⟩ ⟨rfl, T0⟩ T0 ?_
 refine t_opG rfl (sp_fieldBox (off' := 1) (.tmp 3) rfl Tryd.underlying27 rfl (z := 1) (by kernel_rfl) (by decide) rfl) ⟨I0, T0⟩ T0 T0 ?_
 refine t_opG rfl (sp_loadBox1 (Y := .box 27 (cFm b)) (X := iv b.top) (.tmp 13) rfl Tryd.underlying3 rfl rfl) ⟨I0, T0⟩ ⟨rfl, T0⟩ T0 ?_
 refine t_opG rfl (sp_eql rfl (dT hs2)) ⟨I0, I0, T0⟩ T0 T0 ?_
 refine t_op rfl (sp_pick (.tmp 10) (.tmp 15) (.const (.bool false)) true (bv true) (bv false) rfl) ⟨I0, I0, I0, T0⟩ T0 T0 ?_
 refine t_op rfl (sp_move (.tmp 16) (bv true) rfl) ⟨I0, T0⟩ T0 T0 ?_
 refine t_opG rfl (sp_fieldBox (off' := 5) (.tmp 2) rfl Tryd.underlying27 rfl (z := 1) (by kernel_rfl) (by decide) rfl) ⟨I0, T0⟩ T0 T0 ?_
 refine t_opG rfl (sp_loadBox1 (Y := .box 27 (cFm a)) (X := iv a.fault) (.tmp 18) rfl Tryd.underlying3 rfl rfl) ⟨I0, T0⟩ ⟨rfl, T0⟩ T0 ?_
 refine t_opG rfl (sp_fieldBox (off' := 5) (.tmp 3) rfl Tryd.underlying27 rfl (z := 1) (by kernel_rfl) (by decide) rfl) ⟨I0, T0⟩ T0 T0 ?_
 refine t_opG rfl (sp_loadBox1 (Y := .box 27 (cFm b)) (X := iv b.fault) (.tmp 20) rfl Tryd.underlying3 rfl rfl) ⟨I0, T0⟩ ⟨rfl, T0⟩ T0 ?_
 refine t_opG rfl (sp_eql rfl (dT hs3)) ⟨I0, I0, T0⟩ T0 T0 ?_
 refine t_op rfl (sp_pick (.tmp 17) (.tmp 22) (.const (.bool false)) true (bv true) (bv false) rfl) ⟨I0, I0, I0, T0⟩ T0 T0 ?_
 refine t_op rfl (sp_move (.tmp 23) (bv true) rfl) ⟨I0, T0⟩ T0 T0 ?_
 refine t_opG rfl (sp_fieldBox (off' := 2) (.tmp 2) rfl Tryd.underlying27 rfl (z := 1) (by kernel_rfl) (by decide) rfl) ⟨I0, T0⟩ T0 T0 ?_
 refine t_opG rfl (sp_loadBox1 (Y := .box 27 (cFm a)) (X := strsA a.states) (.tmp 25) rfl Tryd.underlying22 rfl rfl) ⟨I0, T0⟩ ⟨rfl, T0⟩ T0 ?_
 refine t_opG rfl (sp_fieldBox (off' := 2) (.tmp 3) rfl Tryd.underlying27 rfl (z := 1) (by kernel_rfl) (by decide) rfl) ⟨I0, T0⟩ T0 T0 ?_
 refine t_opG rfl (sp_loadBox1 (Y := .box 27 (cFm b)) (X := strsA b.states) (.tmp 27) rfl Tryd.underlying22 rfl rfl) ⟨I0, T0⟩ ⟨rfl, T0⟩ T0 ?_
 refine t_opG rfl (sp_call (c := .func 71) (xs := #[.tmp 26, .tmp 28]) [] (ctr_b (eqTextsG a.states b.states HA.lstates HB.lstates) hs4) rfl (by kernel_rfl) rfl (Xs := [strsA a.states, strsA b.states]) rfl rfl rfl) ⟨I0, I0, I0, T0⟩ T0 T0 ?_
 refine t_op rfl (sp_pick (.tmp 24) (.tmp 29) (.const (.bool false)) true (bv true) (bv false) rfl) ⟨I0, I0, I0, T0⟩ T0 T0 ?_
 refine t_op rfl (sp_move (.tmp 30) (bv true) rfl) ⟨I0, T0⟩ T0 T0 ?_
 refine t_opG rfl (sp_fieldBox (off' := 3) (.tmp 2) rfl Tryd.underlying27 rfl (z := 1) (by kernel_rfl) (by decide) rfl) ⟨I0, T0⟩ T0 T0 ?_
 refine t_opG rfl (sp_loadBox1 (Y := .box 27 (cFm a)) (X := strsA a.msgs) (.tmp 32) rfl Tryd.underlying22 rfl rfl) ⟨I0, T0⟩ ⟨rfl, T0⟩ T0 ?_
 refine t_opG rfl (sp_fieldBox (off' := 3) (.tmp 3) rfl Tryd.underlying27 rfl (z := 1) (by kernel_rfl) (by decide) rfl) ⟨I0, T0⟩ T0 T0 ?_
 refine t_opG rfl (sp_loadBox1 (Y := .box 27 (cFm b)) (X := strsA b.msgs) (.tmp 34) rfl Tryd.underlying22 rfl rfl) ⟨I0, T0⟩ ⟨rfl, T0⟩ T0 ?_
 refine t_opG rfl (sp_call (c := .func 71) (xs := #[.tmp 33, .tmp 35]) [] (ctr_b (eqTextsG a.msgs b.msgs HA.lmsgs HB.lmsgs) hs5) rfl (by kernel_rfl) rfl (Xs := [strsA a.msgs, strsA b.msgs]) rfl rfl rfl) ⟨I0, I0, I0, T0⟩ T0 T0 ?_
 refine t_op rfl (sp_pick (.tmp 31) (.tmp 36) (.const (.bool false)) true (bv true) (bv false) rfl) ⟨I0, I0, I0, T0⟩ T0 T0 ?_
 refine t_op rfl (sp_move (.tmp 37) (bv true) rfl) ⟨I0, T0⟩ T0 T0 ?_
 refine t_opG rfl (sp_fieldBox (off' := 4) (.tmp 2) rfl Tryd.underlying27 rfl (z := 1) (by kernel_rfl) (by decide) rfl) ⟨I0, T0⟩ T0 T0 ?_
 refine t_opG rfl (sp_loadBox1 (Y := .box 27 (cFm a)) (X := strsA a.vals) (.tmp 39) rfl Tryd.underlying22 rfl rfl) ⟨I0, T0⟩ ⟨rfl, T0⟩ T0 ?_
 refine t_opG rfl (sp_fieldBox (off' := 4) (.tmp 3) rfl Tryd.underlying27 rfl (z := 1) (by kernel_rfl) (by decide) rfl) ⟨I0, T0⟩ T0 T0 ?_
 refine t_opG rfl (sp_loadBox1 (Y := .box 27 (cFm b)) (X := strsA b.vals) (.tmp 41) rfl Tryd.underlying22 rfl rfl) ⟨I0, T0⟩ ⟨rfl, T0⟩ T0 ?_
 refine t_opG rfl (sp_call (c := .func 71) (xs := #[.tmp 40, .tmp 42]) [] (ctr_b (eqTextsG a.vals b.vals HA.lvals HB.lvals) hs6) rfl (by kernel_rfl) rfl (Xs := [strsA a.vals, strsA b.vals]) rfl rfl rfl) ⟨I0, I0, I0, T0⟩ T0 T0 ?_
 refine t_op rfl (sp_pick (.tmp 38) (.tmp 43) (.const (.bool false)) true (bv true) (bv false) rfl) ⟨I0, I0, I0, T0⟩ T0 T0 ?_
 refine t_op rfl (sp_move (.tmp 44) (bv true) rfl) ⟨I0, T0⟩ T0 T0 ?_
 refine t_opG rfl (sp_fieldBox (off' := 6) (.tmp 2) rfl Tryd.underlying27 rfl (z := 1) (by kernel_rfl) (by decide) rfl) ⟨I0, T0⟩ T0 T0 ?_
 refine t_opG rfl (sp_loadBox1 (Y := .box 27 (cFm a)) (X := slA 4 cLn a.res) (.tmp 46) rfl Tryd.underlying23 rfl rfl) ⟨I0, T0⟩ ⟨rfl, T0⟩ T0 ?_
 refine t_opG rfl (sp_fieldBox (off' := 6) (.tmp 3) rfl Tryd.underlying27 rfl (z := 1) (by kernel_rfl) (by decide) rfl) ⟨I0, T0⟩ T0 T0 ?_
 refine t_opG rfl (sp_loadBox1 (Y := .box 27 (cFm b)) (X := slA 4 cLn b.res) (.tmp 48) rfl Tryd.underlying23 rfl rfl) ⟨I0, T0⟩ ⟨rfl, T0⟩ T0 ?_
 refine t_opG rfl (sp_call (c := .func 72) (xs := #[.tmp 47, .tmp 49]) [] (ctr_b (eqLinearsG a.res b.res HA.lres HB.lres) hs7) rfl (by kernel_rfl) rfl (Xs := [slA 4 cLn a.res, slA 4 cLn b.res]) rfl rfl rfl) ⟨I0, I0, I0, T0⟩ T0 T0 ?_
 refine t_op rfl (sp_pick (.tmp 45) (.tmp 50) (.const (.bool false)) true (bv true) (bv false) rfl) ⟨I0, I0, I0, T0⟩ T0 T0 ?_
 refine t_op rfl (sp_move (.tmp 51) (bv true) rfl) ⟨I0, T0⟩ T0 T0 ?_
 refine t_opG rfl (sp_fieldBox (off' := 7) (.tmp 2) rfl Tryd.underlying27 rfl (z := 1) (by kernel_rfl) (by decide) rfl) ⟨I0, T0⟩ T0 T0 ?_
 refine t_opG rfl (sp_loadBox1 (Y := .box 27 (cFm a)) (X := intsA a.init) (.tmp 53) rfl Tryd.underlying24 rfl rfl) ⟨I0, T0⟩ ⟨rfl, T0⟩ T0 ?_
 refine t_opG rfl (sp_fieldBox (off' := 7) (.tmp 3) rfl Tryd.underlying27 rfl (z := 1) (by kernel_rfl) (by decide) rfl) ⟨I0, T0⟩ T0 T0 ?_
 refine t_opG rfl (sp_loadBox1 (Y := .box 27 (cFm b)) (X := intsA b.init) (.tmp 55) rfl Tryd.underlying24 rfl rfl) ⟨I0, T0⟩ ⟨rfl, T0⟩ T0 ?_
 refine t_opG rfl (sp_call (c := .func 73) (xs := #[.tmp 54, .tmp 56]) [] (ctr_b (eqIntsG a.init b.init HA.init HB.init) hs8) rfl (by kernel_rfl) rfl (Xs := [intsA a.init, intsA b.init]) rfl rfl rfl) ⟨I0, I0, I0, T0⟩ T0 T0 ?_
 refine t_op rfl (sp_pick (.tmp 52) (.tmp 57) (.const (.bool false)) true (bv true) (bv false) rfl) ⟨I0, I0, I0, T0⟩ T0 T0 ?_
 refine t_op rfl (sp_move (.tmp 58) (bv true) rfl) ⟨I0, T0⟩ T0 T0 ?_
 refine t_opG rfl (sp_fieldBox (off' := 8) (.tmp 2) rfl Tryd.underlying27 rfl (z := 1) (by kernel_rfl) (by decide) rfl) ⟨I0, T0⟩ T0 T0 ?_
 refine t_opG rfl (sp_loadBox1 (Y := .box 27 (cFm a)) (X := intsA a.leader) (.tmp 60) rfl Tryd.underlying24 rfl rfl) ⟨I0, T0⟩ ⟨rfl, T0⟩ T0 ?_
 refine t_opG rfl (sp_fieldBox (off' := 8) (.tmp 3) rfl Tryd.underlying27 rfl (z := 1) (by kernel_rfl) (by decide) rfl) ⟨I0, T0⟩ T0 T0 ?_
 refine t_opG rfl (sp_loadBox1 (Y := .box 27 (cFm b)) (X := intsA b.leader) (.tmp 62) rfl Tryd.underlying24 rfl rfl) ⟨I0, T0⟩ ⟨rfl, T0⟩ T0 ?_
 refine t_opG rfl (sp_call (c := .func 73) (xs := #[.tmp 61, .tmp 63]) [] (ctr_b (eqIntsG a.leader b.leader HA.leader HB.leader) hs9f) rfl (by kernel_rfl) rfl (Xs := [intsA a.leader, intsA b.leader]) rfl rfl rfl) ⟨I0, I0, I0, T0⟩ T0 T0 ?_
 refine t_op rfl (sp_pick (.tmp 59) (.tmp 64) (.const (.bool false)) true (bv false) (bv false) rfl) ⟨I0, I0, I0, T0⟩ T0 T0 ?_
 refine t_op rfl (sp_move (.tmp 65) (bv false) rfl) ⟨I0, T0⟩ T0 T0 ?_
 refine t_skip rfl ?_
 refine t_skip rfl ?_
 refine t_skip rfl ?_
 refine t_skip rfl ?_
 refine t_skip rfl ?_
 refine t_op rfl (sp_pick (.tmp 66) (.tmp 71) (.const (.bool false)) false (.v (.tuple #[])) (bv false) rfl) ⟨I0, I0, I0, T0⟩ T0 T0 ?_
 refine t_op rfl (sp_assign (.tmp 72) (bv false) rfl) ⟨I0, T0⟩ T0 T0 ?_
 refine tri_nil ?_
 refine tri_wk (wk_keep [] [(4, bv false)] (n := 73)) ?_
 refine t_then ?_
 refine tri_ret ?_
 refine tri_end1 Tryd.results27 (.tmp rfl) ?_
 exact congrArg (fun x : Bool => AV.v (.bool x)) ((dec_f (fun h => congrArg Fm.leader h) (of_decide_eq_false hs9f)).symm)
 have hs8f : (decide (a.init = b.init)) = false := by simpa using hs8
 refine tri_region ?_
 refine t_op rfl (sp_fieldBox (off' := 0) (.tmp 2) rfl Tryd.underlying27 rfl (z := 1) (by kernel_rfl) (by decide) rfl) ⟨I0, T0⟩ T0 T0 ?_
 refine t_op rfl (sp_loadBox1 (Y := .box 27 (cFm a)) (X := sv a.nm) (.tmp 5) rfl Tryd.underlying9 rfl rfl) ⟨I0, T0⟩ ⟨rfl, T0⟩ T0 ?_
 refine t_op rfl (sp_fieldBox (off' := 0) (.tmp 3) rfl Tryd.underlying27 rfl (z := 1) (by kernel_rfl) (by decide) rfl) ⟨I0, T0⟩ T0 T0 ?_
 refine t_op rfl (sp_loadBox1 (Y := .box 27 (cFm b)) (X := sv b.nm) (.tmp 7) rfl Tryd.underlying9 rfl rfl) ⟨I0, T0⟩ ⟨rfl, T0⟩ T0 ?_
 refine t_op rfl (sp_seql rfl hs1) ⟨I0, I0, T0⟩ T0 T0 ?_
 refine t_op rfl (sp_move (.tmp 9) (bv true) rfl) ⟨I0, T0⟩ T0 T0 ?_
 refine t_opG rfl (sp_fieldBox (off' := 1) (.tmp 2) rfl Tryd.underlying27 rfl (z := 1) (by kernel_rfl) (by decide) rfl) ⟨I0, T0⟩ T0 T0 ?_
 refine t_opG rfl (sp_loadBox1 (Y := .box 27 (cFm a)) (X := iv a.top) (.tmp 11) rfl Tryd.underlying3 rfl rfl) ⟨I0, T0⟩ ⟨rfl, T0⟩ T0 ?_
 refine t_opG rfl (sp_fieldBox (off' := 1) (.tmp 3) rfl Tryd.underlying27 rfl (z := 1) (by kernel_rfl) (by decide) rfl) ⟨I0, T0⟩ T0 T0 ?_
 refine t_opG rfl (sp_loadBox1 (Y := .box 27 (cFm b)) (X := iv b.top) (.tmp 13) rfl Tryd.underlying3 rfl rfl) ⟨I0, T0⟩ ⟨rfl, T0⟩ T0 ?_
 refine t_opG rfl (sp_eql rfl (dT hs2)) ⟨I0, I0, T0⟩ T0 T0 ?_
 refine t_op rfl (sp_pick (.tmp 10) (.tmp 15) (.const (.bool false)) true (bv true) (bv false) rfl) ⟨I0, I0, I0, T0⟩ T0 T0 ?_
 refine t_op rfl (sp_move (.tmp 16) (bv true) rfl) ⟨I0, T0⟩ T0 T0 ?_
 refine t_opG rfl (sp_fieldBox (off' := 5) (.tmp 2) rfl Tryd.underlying27 rfl (z := 1) (by kernel_rfl) (by decide) rfl) ⟨I0, T0⟩ T0 T0 ?_
 refine t_opG rfl (sp_loadBox1 (Y := .box 27 (cFm a)) (X := iv a.fault) (.tmp 18) rfl Tryd.underlying3 rfl rfl) ⟨I0, T0⟩ ⟨rfl, T0⟩ T0 ?_
 refine t_opG rfl (sp_fieldBox (off' := 5) (.tmp 3) rfl Tryd.underlying27 rfl (z := 1) (by kernel_rfl) (by decide) rfl) ⟨I0, T0⟩ T0 T0 ?_
 refine t_opG rfl (sp_loadBox1 (Y := .box 27 (cFm b)) (X := iv b.fault) (.tmp 20) rfl Tryd.underlying3 rfl rfl) ⟨I0, T0⟩ ⟨rfl, T0⟩ T0 ?_
 refine t_opG rfl (sp_eql rfl (dT hs3)) ⟨I0, I0, T0⟩ T0 T0 ?_
 refine t_op rfl (sp_pick (.tmp 17) (.tmp 22) (.const (.bool false)) true (bv true) (bv false) rfl) ⟨I0, I0, I0, T0⟩ T0 T0 ?_
 refine t_op rfl (sp_move (.tmp 23) (bv true) rfl) ⟨I0, T0⟩ T0 T0 ?_
 refine t_opG rfl (sp_fieldBox (off' := 2) (.tmp 2) rfl Tryd.underlying27 rfl (z := 1) (by kernel_rfl) (by decide) rfl) ⟨I0, T0⟩ T0 T0 ?_
 refine t_opG rfl (sp_loadBox1 (Y := .box 27 (cFm a)) (X := strsA a.states) (.tmp 25) rfl Tryd.underlying22 rfl rfl) ⟨I0, T0⟩ ⟨rfl, T0⟩ T0 ?_
 refine t_opG rfl (sp_fieldBox (off' := 2) (.tmp 3) rfl Tryd.underlying27 rfl (z := 1) (by kernel_rfl) (by decide) rfl) ⟨I0, T0⟩ T0 T0 ?_
 refine t_opG rfl (sp_loadBox1 (Y := .box 27 (cFm b)) (X := strsA b.states) (.tmp 27) rfl Tryd.underlying22 rfl rfl) ⟨I0, T0⟩ ⟨rfl, T0⟩ T0 ?_
 refine t_opG rfl (sp_call (c := .func 71) (xs := #[.tmp 26, .tmp 28]) [] (ctr_b (eqTextsG a.states b.states HA.lstates HB.lstates) hs4) rfl (by kernel_rfl) rfl (Xs := [strsA a.states, strsA b.states]) rfl rfl rfl) ⟨I0, I0, I0, T0⟩ T0 T0 ?_
 refine t_op rfl (sp_pick (.tmp 24) (.tmp 29) (.const (.bool false)) true (bv true) (bv false) rfl) ⟨I0, I0, I0, T0⟩ T0 T0 ?_
 refine t_op rfl (sp_move (.tmp 30) (bv true) rfl) ⟨I0, T0⟩ T0 T0 ?_
 refine t_opG rfl (sp_fieldBox (off' := 3) (.tmp 2) rfl Tryd.underlying27 rfl (z := 1) (by kernel_rfl) (by decide) rfl) ⟨I0, T0⟩ T0 T0 ?_
 refine t_opG rfl (sp_loadBox1 (Y := .box 27 (cFm a)) (X := strsA a.msgs) (.tmp 32) rfl Tryd.underlying22 rfl rfl) ⟨I0, T0⟩ ⟨rfl, T0⟩ T0 ?_
 refine t_opG rfl (sp_fieldBox (off' := 3) (.tmp 3) rfl Tryd.underlying27 rfl (z := 1) (by kernel_rfl) (by decide) rfl) ⟨I0, T0⟩ T0 T0 ?_
 refine t_opG rfl (sp_loadBox1 (Y := .box 27 (cFm b)) (X := strsA b.msgs) (.tmp 34) rfl Tryd.underlying22 rfl rfl) ⟨I0, T0⟩ ⟨rfl, T0⟩ T0 ?_
 refine t_opG rfl (sp_call (c := .func 71) (xs := #[.tmp 33, .tmp 35]) [] (ctr_b (eqTextsG a.msgs b.msgs HA.lmsgs HB.lmsgs) hs5) rfl (by kernel_rfl) rfl (Xs := [strsA a.msgs, strsA b.msgs]) rfl rfl rfl) ⟨I0, I0, I0, T0⟩ T0 T0 ?_
 refine t_op rfl (sp_pick (.tmp 31) (.tmp 36) (.const (.bool false)) true (bv true) (bv false) rfl) ⟨I0, I0, I0, T0⟩ T0 T0 ?_
 refine t_op rfl (sp_move (.tmp 37) (bv true) rfl) ⟨I0, T0⟩ T0 T0 ?_
 refine t_opG rfl (sp_fieldBox (off' := 4) (.tmp 2) rfl Tryd.underlying27 rfl (z := 1) (by kernel_rfl) (by decide) rfl) ⟨I0, T0⟩ T0 T0 ?_
 refine t_opG rfl (sp_loadBox1 (Y := .box 27 (cFm a)) (X := strsA a.vals) (.tmp 39) rfl Tryd.underlying22 rfl rfl) ⟨I0, T0⟩ ⟨rfl, T0⟩ T0 ?_
 refine t_opG rfl (sp_fieldBox (off' := 4) (.tmp 3) rfl Tryd.underlying27 rfl (z := 1) (by kernel_rfl) (by decide) rfl) ⟨I0, T0⟩ T0 T0 ?_
 refine t_opG rfl (sp_loadBox1 (Y := .box 27 (cFm b)) (X := strsA b.vals) (.tmp 41) rfl Tryd.underlying22 rfl rfl) ⟨I0, T0⟩ ⟨rfl, T0⟩ T0 ?_
 refine t_opG rfl (sp_call (c := .func 71) (xs := #[.tmp 40, .tmp 42]) [] (ctr_b (eqTextsG a.vals b.vals HA.lvals HB.lvals) hs6) rfl (by kernel_rfl) rfl (Xs := [strsA a.vals, strsA b.vals]) rfl rfl rfl) ⟨I0, I0, I0, T0⟩ T0 T0 ?_
 refine t_op rfl (sp_pick (.tmp 38) (.tmp 43) (.const (.bool false)) true (bv true) (bv false) rfl) ⟨I0, I0, I0, T0⟩ T0 T0 ?_
 refine t_op rfl (sp_move (.tmp 44) (bv true) rfl) ⟨I0, T0⟩ T0 T0 ?_
 refine t_opG rfl (sp_fieldBox (off' := 6) (.tmp 2) rfl Tryd.underlying27 rfl (z := 1) (by kernel_rfl) (by decide) rfl) ⟨I0, T0⟩ T0 T0 ?_
 refine t_opG rfl (sp_loadBox1 (Y := .box 27 (cFm a)) (X := slA 4 cLn a.res) (.tmp 46) rfl Tryd.underlying23 rfl rfl) ⟨I0, T0⟩ ⟨rfl, T0⟩ T0 ?_
 refine t_opG rfl (sp_fieldBox (off' := 6) (.tmp 3) rfl Tryd.underlying27 rfl (z := 1) (by kernel_rfl) (by decide) rfl) ⟨I0, T0⟩ T0 T0 ?_
 refine t_opG rfl (sp_loadBox1 (Y := .box 27 (cFm b)) (X := slA 4 cLn b.res) (.tmp 48) rfl Tryd.underlying23 rfl rfl) ⟨I0, T0⟩ ⟨rfl, T0⟩ T0 ?_
 refine t_opG rfl (sp_call (c := .func 72) (xs := #[.tmp 47, .tmp 49]) [] (ctr_b (eqLinearsG a.res b.res HA.lres HB.lres) hs7) rfl (by kernel_rfl) rfl (Xs := [slA 4 cLn a.res, slA 4 cLn b.res]) rfl rfl rfl) ⟨I0, I0, I0, T0⟩ T0 T0 ?_
 refine t_op rfl (sp_pick (.tmp 45) (.tmp 50) (.const (.bool false)) true (bv true) (bv false) rfl) ⟨I0, I0, I0, T0⟩ T0 T0 ?_
 refine t_op rfl (sp_move (.tmp 51) (bv true) rfl) ⟨I0, T0⟩ T0 T0 ?_
 refine t_opG rfl (sp_fieldBox (off' := 7) (.tmp 2) rfl Tryd.underlying27 rfl (z := 1) (by kernel_rfl) (by decide) rfl) ⟨I0, T0⟩ T0 T0 ?_
 refine t_opG rfl (sp_loadBox1 (Y := .box 27 (cFm a)) (X := intsA a.init) (.tmp 53) rfl Tryd.underlying24 rfl rfl) ⟨I0, T0⟩ ⟨rfl, T0⟩ T0 ?_
 refine t_opG rfl (sp_fieldBox (off' := 7) (.tmp 3) rfl Tryd.underlying27 rfl (z := 1) (by kernel_rfl) (by decide) rfl) ⟨I0, T0⟩ T0 T0 ?_
 refine t_opG rfl (sp_loadBox1 (Y := .box 27 (cFm b)) (X := intsA b.init) (.tmp 55) rfl Tryd.underlying24 rfl rfl) ⟨I0, T0⟩ ⟨rfl, T0⟩ T0 ?_
 refine t_opG rfl (sp_call (c := .func 73) (xs := #[.tmp 54, .tmp 56]) [] (ctr_b (eqIntsG a.init b.init HA.init HB.init) hs8f) rfl (by kernel_rfl) rfl (Xs := [intsA a.init, intsA b.init]) rfl rfl rfl) ⟨I0, I0, I0, T0⟩ T0 T0 ?_
 refine t_op rfl (sp_pick (.tmp 52) (.tmp 57) (.const (.bool false)) true (bv false) (bv false) rfl) ⟨I0, I0, I0, T0⟩ T0 T0 ?_
 refine t_op rfl (sp_move (.tmp 58) (bv false) rfl) ⟨I0, T0⟩ T0 T0 ?_
 refine t_skip rfl ?_
 refine t_skip rfl ?_
 refine t_skip rfl ?_
 refine t_skip rfl ?_
 refine t_skip rfl ?_
 refine t_op rfl (sp_pick (.tmp 59) (.tmp 64) (.const (.bool false)) false (.v (.tuple #[])) (bv false) rfl) ⟨I0, I0, I0, T0⟩ T0 T0 ?_
 refine t_op rfl (sp_move (.tmp 65) (bv false) rfl) ⟨I0, T0⟩ T0 T0 ?_
 refine t_skip rfl ?_
 refine t_skip rfl ?_
 refine t_skip rfl ?_
 refine t_skip rfl ?_
 refine t_skip rfl ?_
 refine t_op rfl (sp_pick (.tmp 66) (.tmp 71) (.const (.bool false)) false (.v (.tuple #[])) (bv false) rfl) ⟨I0, I0, I0, T0⟩ T0 T0 ?_
 refine t_op rfl (sp_assign (.tmp 72) (bv false) rfl) ⟨I0, T0⟩ T0 T0 ?_
 refine tri_nil ?_
 refine tri_wk (wk_keep [] [(4, bv false)] (n := 73)) ?_
 refine t_then ?_
 refine tri_ret ?_
 refine tri_end1 Tryd.results27 (.tmp rfl) ?_
 exact congrArg (fun x : Bool => AV.v (.bool x)) ((dec_f (fun h => congrArg Fm.init h) (of_decide_eq_false hs8f)).symm)
 have hs7f : (decide (a.res = b.res)) = false := by simpa using hs7
 refine tri_region ?_
 refine t_op rfl (sp_fieldBox (off' := 0) (.tmp 2) rfl Tryd.underlying27 rfl (z := 1) (by kernel_rfl) (by decide) rfl) ⟨I0, T0⟩ T0 T0 ?_
 refine t_op rfl (sp_loadBox1 (Y := .box 27 (cFm a)) (X := sv a.nm) (.tmp 5) rfl Tryd.underlying9 rfl rfl) ⟨I0, T0⟩ ⟨rfl, T0⟩ T0 ?_
 refine t_op rfl (sp_fieldBox (off' := 0) (.tmp 3) rfl Tryd.underlying27 rfl (z := 1) (by kernel_rfl) (by decide) rfl) ⟨I0, T0⟩ T0 T0 ?_
 refine t_op rfl (sp_loadBox1 (Y := .box 27 (cFm b)) (X := sv b.nm) (.tmp 7) rfl Tryd.underlying9 rfl rfl) ⟨I0, T0⟩ ⟨rfl, T0⟩ T0 ?_
 refine t_op rfl (sp_seql rfl hs1) ⟨I0, I0, T0⟩ T0 T0 ?_
 refine t_op rfl (sp_move (.tmp 9) (bv true) rfl) ⟨I0, T0⟩ T0 T0 ?_
 refine t_opG rfl (sp_fieldBox (off' := 1) (.tmp 2) rfl Tryd.underlying27 rfl (z := 1) (by kernel_rfl) (by decide) rfl) ⟨I0, T0⟩ T0 T0 ?_
 refine t_opG rfl (sp_loadBox1 (Y := .box 27 (cFm a)) (X := iv a.top) (.tmp 11) rfl Tryd.underlying3 rfl rfl) ⟨I0, T0⟩ ⟨rfl, T0⟩ T0 ?_
 refine t_opG rfl (sp_fieldBox (off' := 1) (.tmp 3) rfl Tryd.underlying27 rfl (z := 1) (by kernel_rfl) (by decide) rfl) ⟨I0, T0⟩ T0 T0 ?_
 refine t_opG rfl (sp_loadBox1 (Y := .box 27 (cFm b)) (X := iv b.top) (.tmp 13) rfl Tryd.underlying3 rfl rfl) ⟨I0, T0⟩ ⟨rfl, T0⟩ T0 ?_
 refine t_opG rfl (sp_eql rfl (dT hs2)) ⟨I0, I0, T0⟩ T0 T0 ?_
 refine t_op rfl (sp_pick (.tmp 10) (.tmp 15) (.const (.bool false)) true (bv true) (bv false) rfl) ⟨I0, I0, I0, T0⟩ T0 T0 ?_
 refine t_op rfl (sp_move (.tmp 16) (bv true) rfl) ⟨I0, T0⟩ T0 T0 ?_
 refine t_opG rfl (sp_fieldBox (off' := 5) (.tmp 2) rfl Tryd.underlying27 rfl (z := 1) (by kernel_rfl) (by decide) rfl) ⟨I0, T0⟩ T0 T0 ?_
 refine t_opG rfl (sp_loadBox1 (Y := .box 27 (cFm a)) (X := iv a.fault) (.tmp 18) rfl Tryd.underlying3 rfl rfl) ⟨I0, T0⟩ ⟨rfl, T0⟩ T0 ?_
 refine t_opG rfl (sp_fieldBox (off' := 5) (.tmp 3) rfl Tryd.underlying27 rfl (z := 1) (by kernel_rfl) (by decide) rfl) ⟨I0, T0⟩ T0 T0 ?_
 refine t_opG rfl (sp_loadBox1 (Y := .box 27 (cFm b)) (X := iv b.fault) (.tmp 20) rfl Tryd.underlying3 rfl rfl) ⟨I0, T0⟩ ⟨rfl, T0⟩ T0 ?_
 refine t_opG rfl (sp_eql rfl (dT hs3)) ⟨I0, I0, T0⟩ T0 T0 ?_
 refine t_op rfl (sp_pick (.tmp 17) (.tmp 22) (.const (.bool false)) true (bv true) (bv false) rfl) ⟨I0, I0, I0, T0⟩ T0 T0 ?_
 refine t_op rfl (sp_move (.tmp 23) (bv true) rfl) ⟨I0, T0⟩ T0 T0 ?_
 refine t_opG rfl (sp_fieldBox (off' := 2) (.tmp 2) rfl Tryd.underlying27 rfl (z := 1) (by kernel_rfl) (by decide) rfl) ⟨I0, T0⟩ T0 T0 ?_
 refine t_opG rfl (sp_loadBox1 (Y := .box 27 (cFm a)) (X := strsA a.states) (.tmp 25) rfl Tryd.underlying22 rfl rfl) ⟨I0, T0⟩ ⟨rfl, T0⟩ T0 ?_
 refine t_opG rfl (sp_fieldBox (off' := 2) (.tmp 3) rfl Tryd.underlying27 rfl (z := 1) (by kernel_rfl) (by decide) rfl) ⟨I0, T0⟩ T0 T0 ?_
 refine t_opG rfl (sp_loadBox1 (Y := .box 27 (cFm b)) (X := strsA b.states) (.tmp 27) rfl Tryd.underlying22 rfl rfl) ⟨I0, T0⟩ ⟨rfl, T0⟩ T0 ?_
 refine t_opG rfl (sp_call (c := .func 71) (xs := #[.tmp 26, .tmp 28]) [] (ctr_b (eqTextsG a.states b.states HA.lstates HB.lstates) hs4) rfl (by kernel_rfl) rfl (Xs := [strsA a.states, strsA b.states]) rfl rfl rfl) ⟨I0, I0, I0, T0⟩ T0 T0 ?_
 refine t_op rfl (sp_pick (.tmp 24) (.tmp 29) (.const (.bool false)) true (bv true) (bv false) rfl) ⟨I0, I0, I0, T0⟩ T0 T0 ?_
 refine t_op rfl (sp_move (.tmp 30) (bv true) rfl) ⟨I0, T0⟩ T0 T0 ?_
 refine t_opG rfl (sp_fieldBox (off' := 3) (.tmp 2) rfl Tryd.underlying27 rfl (z := 1) (by kernel_rfl) (by decide) rfl) ⟨I0, T0⟩ T0 T0 ?_
 refine t_opG rfl (sp_loadBox1 (Y := .box 27 (cFm a)) (X := strsA a.msgs) (.tmp 32) rfl Tryd.underlying22 rfl rfl) ⟨I0, T0⟩ ⟨rfl, T0⟩ T0 ?_
 refine t_opG rfl (sp_fieldBox (off' := 3) (.tmp 3) rfl Tryd.underlying27 rfl (z := 1) (by kernel_rfl) (by decide) rfl) ⟨I0, T0⟩ T0 T0 ?_
 refine t_opG rfl (sp_loadBox1 (Y := .box 27 (cFm b)) (X := strsA b.msgs) (.tmp 34) rfl Tryd.underlying22 rfl rfl) ⟨I0, T0⟩ ⟨rfl, T0⟩ T0 ?_
 refine t_opG rfl (sp_call (c := .func 71) (xs := #[.tmp 33, .tmp 35]) [] (ctr_b (eqTextsG a.msgs b.msgs HA.lmsgs HB.lmsgs) hs5) rfl (by kernel_rfl) rfl (Xs := [strsA a.msgs, strsA b.msgs]) rfl rfl rfl) ⟨I0, I0, I0, T0⟩ T0 T0 ?_
 refine t_op rfl (sp_pick (.tmp 31) (.tmp 36) (.const (.bool false)) true (bv true) (bv false) rfl) ⟨I0, I0, I0, T0⟩ T0 T0 ?_
 refine t_op rfl (sp_move (.tmp 37) (bv true) rfl) ⟨I0, T0⟩ T0 T0 ?_
 refine t_opG rfl (sp_fieldBox (off' := 4) (.tmp 2) rfl Tryd.underlying27 rfl (z := 1) (by kernel_rfl) (by decide) rfl) ⟨I0, T0⟩ T0 T0 ?_
 refine t_opG rfl (sp_loadBox1 (Y := .box 27 (cFm a)) (X := strsA a.vals) (.tmp 39) rfl Tryd.underlying22 rfl rfl) ⟨I0, T0⟩ ⟨rfl, T0⟩ T0 ?_
 refine t_opG rfl (sp_fieldBox (off' := 4) (.tmp 3) rfl Tryd.underlying27 rfl (z := 1) (by kernel_rfl) (by decide) rfl) ⟨I0, T0⟩ T0 T0 ?_
 refine t_opG rfl (sp_loadBox1 (Y := .box 27 (cFm b)) (X := strsA b.vals) (.tmp 41) rfl Tryd.underlying22 rfl rfl) ⟨I0, T0⟩ ⟨rfl, T0⟩ T0 ?_
 refine t_opG rfl (sp_call (c := .func 71) (xs := #[.tmp 40, .tmp 42]) [] (ctr_b (eqTextsG a.vals b.vals HA.lvals HB.lvals) hs6) rfl (by kernel_rfl) rfl (Xs := [strsA a.vals, strsA b.vals]) rfl rfl rfl) ⟨I0, I0, I0, T0⟩ T0 T0 ?_
 refine t_op rfl (sp_pick (.tmp 38) (.tmp 43) (.const (.bool false)) true (bv true) (bv false) rfl) ⟨I0, I0, I0, T0⟩ T0 T0 ?_
 refine t_op rfl (sp_move (.tmp 44) (bv true) rfl) ⟨I0, T0⟩ T0 T0 ?_
 refine t_opG rfl (sp_fieldBox (off' := 6) (.tmp 2) rfl Tryd.underlying27 rfl (z := 1) (by kernel_rfl) (by decide) rfl) ⟨I0, T0⟩ T0 T0 ?_
 refine t_opG rfl (sp_loadBox1 (Y := .box 27 (cFm a)) (X := slA 4 cLn a.res) (.tmp 46) rfl Tryd.underlying23 rfl rfl) ⟨I0, T0⟩ ⟨rfl, T0⟩ T0 ?_
 refine t_opG rfl (sp_fieldBox (off' := 6) (.tmp 3) rfl Tryd.underlying27 rfl (z := 1) (by kernel_rfl) (by decide) rfl) ⟨I0, T0⟩ T0 T0 ?_
 refine t_opG rfl (sp_loadBox1 (Y := .box 27 (cFm b)) (X := slA 4 cLn b.res) (.tmp 48) rfl Tryd.underlying23 rfl rfl) ⟨I0, T0⟩ ⟨rfl, T0⟩ T0 ?_
 refine t_opG rfl (sp_call (c := .func 72) (xs := #[.tmp 47, .tmp 49]) [] (ctr_b (eqLinearsG a.res b.res HA.lres HB.lres) hs7f) rfl (by kernel_rfl) rfl (Xs := [slA 4 cLn a.res, slA 4 cLn b.res]) rfl rfl rfl) ⟨I0, I0, I0, T0⟩ T0 T0 ?_
 refine t_op rfl (sp_pick (.tmp 45) (.tmp 50) (.const (.bool false)) true (bv false) (bv false) rfl) ⟨I0, I0, I0, T0⟩ T0 T0 ?_
 refine t_op rfl (sp_move (.tmp 51) (bv false) rfl) ⟨I0, T0⟩ T0 T0 ?_
 refine t_skip rfl ?_
 refine t_skip rfl ?_
 refine t_skip rfl ?_
 refine t_skip rfl ?_
 refine t_skip rfl ?_
 refine t_op rfl (sp_pick (.tmp 52) (.tmp 57) (.const (.bool false)) false (.v (.tuple #[])) (bv false) rfl) ⟨I0, I0, I0, T0⟩ T0 T0 ?_
 refine t_op rfl (sp_move (.tmp 58) (bv false) rfl) ⟨I0, T0⟩ T0 T0 ?_
 refine t_skip rfl ?_
 refine t_skip rfl ?_
 refine t_skip rfl ?_
 refine t_skip rfl ?_
 refine t_skip rfl ?_
 refine t_op rfl (sp_pick (.tmp 59) (.tmp 64) (.const (.bool false)) false (.v (.tuple #[])) (bv false) rfl) ⟨I0, I0, I0, T0⟩ T0 T0 ?_
 refine t_op rfl (sp_move (.tmp 65) (bv false) rfl) ⟨I0, T0⟩ T0 T0 ?_
 refine t_skip rfl ?_
 refine t_skip rfl ?_
 refine t_skip rfl ?_
 refine t_skip rfl ?_
 refine t_skip rfl ?_
 refine t_op rfl (sp_pick (.tmp 66) (.tmp 71) (.const (.bool false)) false (.v (.tuple #[])) (bv false) rfl) ⟨I0, I0, I0, T0⟩ T0 T0 ?_
 refine t_op rfl (sp_assign (.tmp 72) (bv false) rfl) ⟨I0, T0⟩ T0 T0 ?_
 refine tri_nil ?_
 refine tri_wk (wk_keep [] [(4, bv false)] (n := 73)) ?_
 refine t_then ?_
 refine tri_ret ?_
 refine tri_end1 Tryd.results27 (.tmp rfl) ?_
 exact congrArg (fun x : Bool => AV.v (.bool x)) ((dec_f (fun h => congrArg Fm.res h) (of_decide_eq_false hs7f)).symm)
 have hs6f : (decide (a.vals = b.vals)) = false := by simpa using hs6
 refine tri_region ?_
 refine t_op rfl (sp_fieldBox (off' := 0) (.tmp 2) rfl Tryd.underlying27 rfl (z := 1) (by kernel_rfl) (by decide) rfl) ⟨I0, T0⟩ T0 T0 ?_
 refine t_op rfl (sp_loadBox1 (Y := .box 27 (cFm a)) (X := sv a.nm) (.tmp 5) rfl Tryd.underlying9 rfl rfl) ⟨I0, T0⟩ ⟨rfl, T0⟩ T0 ?_
 refine t_op rfl (sp_fieldBox (off' := 0) (.tmp 3) rfl Tryd.underlying27 rfl (z := 1) (by kernel_rfl) (by decide) rfl) ⟨I0, T0⟩ T0 T0 ?_
 refine t_op rfl (sp_loadBox1 (Y := .box 27 (cFm b)) (X := sv b.nm) (.tmp 7) rfl Tryd.underlying9 rfl rfl) ⟨I0, T0⟩ ⟨rfl, T0⟩ T0 ?_
 refine t_op rfl (sp_seql rfl hs1) ⟨I0, I0, T0⟩ T0 T0 ?_
 refine t_op rfl (sp_move (.tmp 9) (bv true) rfl) ⟨I0, T0⟩ T0 T0 ?_
 refine t_opG rfl (sp_fieldBox (off' := 1) (.tmp 2) rfl Tryd.underlying27 rfl (z := 1) (by kernel_rfl) (by decide) rfl) ⟨I0, T0⟩ T0 T0 ?_
 refine t_opG rfl (sp_loadBox1 (Y := .box 27 (cFm a)) (X := iv a.top) (.tmp 11) rfl Tryd.underlying3 rfl rfl) ⟨I0, T0⟩ ⟨rfl, T0⟩ T0 ?_
 refine t_opG rfl (sp_fieldBox (off' := 1) (.tmp 3) rfl Tryd.underlying27 rfl (z := 1) (by kernel_rfl) (by decide) rfl) ⟨I0, T0⟩ T0 T0 ?_
 refine t_opG rfl (sp_loadBox1 (Y := .box 27 (cFm b)) (X := iv b.top) (.tmp 13) rfl Tryd.underlying3 rfl rfl) ⟨I0, T0⟩ ⟨rfl, T0⟩ T0 ?_
 refine t_opG rfl (sp_eql rfl (dT hs2)) ⟨I0, I0, T0⟩ T0 T0 ?_
 refine t_op rfl (sp_pick (.tmp 10) (.tmp 15) (.const (.bool false)) true (bv true) (bv false) rfl) ⟨I0, I0, I0, T0⟩ T0 T0 ?_
 refine t_op rfl (sp_move (.tmp 16) (bv true) rfl) ⟨I0, T0⟩ T0 T0 ?_
 refine t_opG rfl (sp_fieldBox (off' := 5) (.tmp 2) rfl Tryd.underlying27 rfl (z := 1) (by kernel_rfl) (by decide) rfl) ⟨I0, T0⟩ T0 T0 ?_
 refine t_opG rfl (sp_loadBox1 (Y := .box 27 (cFm a)) (X := iv a.fault) (.tmp 18) rfl Tryd.underlying3 rfl rfl) ⟨I0, T0⟩ ⟨rfl, T0⟩ T0 ?_
 refine t_opG rfl (sp_fieldBox (off' := 5) (.tmp 3) rfl Tryd.underlying27 rfl (z := 1) (by kernel_rfl) (by decide) rfl) ⟨I0, T0⟩ T0 T0 ?_
 refine t_opG rfl (sp_loadBox1 (Y := .box 27 (cFm b)) (X := iv b.fault) (.tmp 20) rfl Tryd.underlying3 rfl rfl) ⟨I0, T0⟩ ⟨rfl, T0⟩ T0 ?_
 refine t_opG rfl (sp_eql rfl (dT hs3)) ⟨I0, I0, T0⟩ T0 T0 ?_
 refine t_op rfl (sp_pick (.tmp 17) (.tmp 22) (.const (.bool false)) true (bv true) (bv false) rfl) ⟨I0, I0, I0, T0⟩ T0 T0 ?_
 refine t_op rfl (sp_move (.tmp 23) (bv true) rfl) ⟨I0, T0⟩ T0 T0 ?_
 refine t_opG rfl (sp_fieldBox (off' := 2) (.tmp 2) rfl Tryd.underlying27 rfl (z := 1) (by kernel_rfl) (by decide) rfl) ⟨I0, T0⟩ T0 T0 ?_
 refine t_opG rfl (sp_loadBox1 (Y := .box 27 (cFm a)) (X := strsA a.states) (.tmp 25) rfl Tryd.underlying22 rfl rfl) ⟨I0, T0⟩ ⟨rfl, T0⟩ T0 ?_
 refine t_opG rfl (sp_fieldBox (off' := 2) (.tmp 3) rfl Tryd.underlying27 rfl (z := 1) (by kernel_rfl) (by decide) rfl) ⟨I0, T0⟩ T0 T0 ?_
 refine t_opG rfl (sp_loadBox1 (Y := .box 27 (cFm b)) (X := strsA b.states) (.tmp 27) rfl Tryd.underlying22 rfl rfl) ⟨I0, T0⟩ ⟨rfl, T0⟩ T0 ?_
 refine t_opG rfl (sp_call (c := .func 71) (xs := #[.tmp 26, .tmp 28]) [] (ctr_b (eqTextsG a.states b.states HA.lstates HB.lstates) hs4) rfl (by kernel_rfl) rfl (Xs := [strsA a.states, strsA b.states]) rfl rfl rfl) ⟨I0, I0, I0, T0⟩ T0 T0 ?_
 refine t_op rfl (sp_pick (.tmp 24) (.tmp 29) (.const (.bool false)) true (bv true) (bv false) rfl) ⟨I0, I0, I0, T0⟩ T0 T0 ?_
 refine t_op rfl (sp_move (.tmp 30) (bv true) rfl) ⟨I0, T0⟩ T0 T0 ?_
 refine t_opG rfl (sp_fieldBox (off' := 3) (.tmp 2) rfl Tryd.underlying27 rfl (z := 1) (by kernel_rfl) (by decide) rfl) ⟨I0, T0⟩ T0 T0 ?_
 refine t_opG rfl (sp_loadBox1 (Y := .box 27 (cFm a)) (X := strsA a.msgs) (.tmp 32) rfl Tryd.underlying22 rfl rfl) ⟨I0, T0⟩ ⟨rfl, T0⟩ T0 ?_
 refine t_opG rfl (sp_fieldBox (off' := 3) (.tmp 3) rfl Tryd.underlying27 rfl (z := 1) (by kernel_rfl) (by decide) rfl) ⟨I0, T0⟩ T0 T0 ?_
 refine t_opG rfl (sp_loadBox1 (Y := .box 27 (cFm b)) (X := strsA b.msgs) (.tmp 34) rfl Tryd.underlying22 rfl rfl) ⟨I0, T0⟩ ⟨rfl, T0⟩ T0 ?_
 refine t_opG rfl (sp_call (c := .func 71) (xs := #[.tmp 33, .tmp 35]) [] (ctr_b (eqTextsG a.msgs b.msgs HA.lmsgs HB.lmsgs) hs5) rfl (by kernel_rfl) rfl (Xs := [strsA a.msgs, strsA b.msgs]) rfl rfl rfl) ⟨I0, I0, I0, T0⟩ T0 T0 ?_
 refine t_op rfl (sp_pick (.tmp 31) (.tmp 36) (.const (.bool false)) true (bv true) (bv false) rfl) ⟨I0, I0, I0, T0⟩ T0 T0 ?_
 refine t_op rfl (sp_move (.tmp 37) (bv true) rfl) ⟨I0, T0⟩ T0 T0 ?_
 refine t_opG rfl (sp_fieldBox (off' := 4) (.tmp 2) rfl Tryd.underlying27 rfl (z := 1) (by kernel_rfl) (by decide) rfl) ⟨I0, T0⟩ T0 T0 ?_
 refine t_opG rfl (sp_loadBox1 (Y := .box 27 (cFm a)) (X := strsA a.vals) (.tmp 39) rfl Tryd.underlying22 rfl rfl) ⟨I0, T0⟩ ⟨rfl, T0⟩ T0 ?_
 refine t_opG rfl (sp_fieldBox (off' := 4) (.tmp 3) rfl Tryd.underlying27 rfl (z := 1) (by kernel_rfl) (by decide) rfl) ⟨I0, T0⟩ T0 T0 ?_
 refine t_opG rfl (sp_loadBox1 (Y := .box 27 (cFm b)) (X := strsA b.vals) (.tmp 41) rfl Tryd.underlying22 rfl rfl) ⟨I0, T0⟩ ⟨rfl, T0⟩ T0 ?_
 refine t_opG rfl (sp_call (c := .func 71) (xs := #[.tmp 40, .tmp 42]) [] (ctr_b (eqTextsG a.vals b.vals HA.lvals HB.lvals) hs6f) rfl (by kernel_rfl) rfl (Xs := [strsA a.vals, strsA b.vals]) rfl rfl rfl) ⟨I0, I0, I0, T0⟩ T0 T0 ?_
 refine t_op rfl (sp_pick (.tmp 38) (.tmp 43) (.const (.bool false)) true (bv false) (bv false) rfl) ⟨I0, I0, I0, T0⟩ T0 T0 ?_
 refine t_op rfl (sp_move (.tmp 44) (bv false) rfl) ⟨I0, T0⟩ T0 T0 ?_
 refine t_skip rfl ?_
 refine t_skip rfl ?_
 refine t_skip rfl ?_
 refine t_skip rfl ?_
 refine t_skip rfl ?_
 refine t_op rfl (sp_pick (.tmp 45) (.tmp 50) (.const (.bool false)) false (.v (.tuple #[])) (bv false) rfl) ⟨I0, I0, I0, T0⟩ T0 T0 ?_
 refine t_op rfl (sp_move (.tmp 51) (bv false) rfl) ⟨I0, T0⟩ T0 T0 ?_
 refine t_skip rfl ?_
 refine t_skip rfl ?_
 refine t_skip rfl ?_
 refine t_skip rfl ?_
 refine t_skip rfl ?_
 refine t_op rfl (sp_pick (.tmp 52) (.tmp 57) (.const (.bool false)) false (.v (.tuple #[])) (bv false) rfl) ⟨I0, I0, I0, T0⟩ T0 T0 ?_
 refine t_op rfl (sp_move (.tmp 58) (bv false) rfl) ⟨I0, T0⟩ T0 T0 ?_
 refine t_skip rfl ?_
 refine t_skip rfl ?_
 refine t_skip rfl ?_
 refine t_skip rfl ?_
 refine t_skip rfl ?_
 refine t_op rfl (sp_pick (.tmp 59) (.tmp 64) (.const (.bool false)) false (.v (.tuple #[])) (bv false) rfl) ⟨I0, I0, I0, T0⟩ T0 T0 ?_
 refine t_op rfl (sp_move (.tmp 65) (bv false) rfl) ⟨I0, T0⟩ T0 T0 ?_
 refine t_skip rfl ?_
 refine t_skip rfl ?_
 refine t_skip rfl ?_
 refine t_skip rfl ?_
 refine t_skip rfl ?_
 refine t_op rfl (sp_pick (.tmp 66) (.tmp 71) (.const (.bool false)) false (.v (.tuple #[])) (bv false) rfl) ⟨I0, I0, I0, T0⟩ T0 T0 ?_
 refine t_op rfl (sp_assign (.tmp 72) (bv false) rfl) ⟨I0, T0⟩ T0 T0 ?_
 refine tri_nil ?_
 refine tri_wk (wk_keep [] [(4, bv false)] (n := 73)) ?_
 refine t_then ?_
 refine tri_ret ?_
 refine tri_end1 Tryd.results27 (.tmp rfl) ?_
 exact congrArg (fun x : Bool => AV.v (.bool x)) ((dec_f (fun h => congrArg Fm.vals h) (of_decide_eq_false hs6f)).symm)
 have hs5f : (decide (a.msgs = b.msgs)) = false := by simpa using hs5
 refine tri_region ?_
 refine t_op rfl (sp_fieldBox (off' := 0) (.tmp 2) rfl Tryd.underlying27 rfl (z := 1) (by kernel_rfl) (by decide) rfl) ⟨I0, T0⟩ T0 T0 ?_
 refine t_op rfl (sp_loadBox1 (Y := .box 27 (cFm a)) (X := sv a.nm) (.tmp 5) rfl Tryd.underlying9 rfl rfl) ⟨I0, T0⟩ ⟨rfl, T0⟩ T0 ?_
 refine t_op rfl (sp_fieldBox (off' := 0) (.tmp 3) rfl Tryd.underlying27 rfl (z := 1) (by kernel_rfl) (by decide) rfl) ⟨I0, T0⟩ T0 T0 ?_
 refine t_op rfl (sp_loadBox1 (Y := .box 27 (cFm b)) (X := sv b.nm) (.tmp 7) rfl Tryd.underlying9 rfl rfl) ⟨I0, T0⟩ ⟨rfl, T0⟩ T0 ?_
 refine t_op rfl (sp_seql rfl hs1) ⟨I0, I0, T0⟩ T0 T0 ?_
 refine t_op rfl (sp_move (.tmp 9) (bv true) rfl) ⟨I0, T0⟩ T0 T0 ?_
 refine t_opG rfl (sp_fieldBox (off' := 1) (.tmp 2) rfl Tryd.underlying27 rfl (z := 1) (by kernel_rfl) (by decide) rfl) ⟨I0, T0⟩ T0 T0 ?_
 refine t_opG rfl (sp_loadBox1 (Y := .box 27 (cFm a)) (X := iv a.top) (.tmp 11) rfl Tryd.underlying3 rfl rfl) ⟨I0, T0⟩ ⟨rfl, T0⟩ T0 ?_
 refine t_opG rfl (sp_fieldBox (off' := 1) (.tmp 3) rfl Tryd.underlying27 rfl (z := 1) (by kernel_rfl) (by decide) rfl) ⟨I0, T0⟩ T0 T0 ?_
 refine t_opG rfl (sp_loadBox1 (Y := .box 27 (cFm b)) (X := iv b.top) (.tmp 13) rfl Tryd.underlying3 rfl rfl) ⟨I0, T0⟩ ⟨rfl, T0⟩ T0 ?_
 refine t_opG rfl (sp_eql rfl (dT hs2)) ⟨I0, I0, T0⟩ T0 T0 ?_
 refine t_op rfl (sp_pick (.tmp 10) (.tmp 15) (.const (.bool false)) true (bv true) (bv false) rfl) ⟨I0, I0, I0, T0⟩ T0 T0 ?_
 refine t_op rfl (sp_move (.tmp 16) (bv true) rfl) ⟨I0, T0⟩ T0 T0 ?_
 refine t_opG rfl (sp_fieldBox (off' := 5) (.tmp 2) rfl Tryd.underlying27 rfl (z := 1) (by kernel_rfl) (by decide) rfl) ⟨I0, T0⟩ T0 T0 ?_
 refine t_opG rfl (sp_loadBox1 (Y := .box 27 (cFm a)) (X := iv a.fault) (.tmp 18) rfl Tryd.underlying3 rfl rfl) ⟨I0, T0⟩ ⟨rfl, T0⟩ T0 ?_
 refine t_opG rfl (sp_fieldBox (off' := 5) (.tmp 3) rfl Tryd.underlying27 rfl (z := 1) (by kernel_rfl) (by decide) rfl) ⟨I0, T0⟩ T0 T0 ?_
 refine t_opG rfl (sp_loadBox1 (Y := .box 27 (cFm b)) (X := iv b.fault) (.tmp 20) rfl Tryd.underlying3 rfl rfl) ⟨I0, T0⟩ ⟨rfl, T0⟩ T0 ?_
 refine t_opG rfl (sp_eql rfl (dT hs3)) ⟨I0, I0, T0⟩ T0 T0 ?_
 refine t_op rfl (sp_pick (.tmp 17) (.tmp 22) (.const (.bool false)) true (bv true) (bv false) rfl) ⟨I0, I0, I0, T0⟩ T0 T0 ?_
 refine t_op rfl (sp_move (.tmp 23) (bv true) rfl) ⟨I0, T0⟩ T0 T0 ?_
 refine t_opG rfl (sp_fieldBox (off' := 2) (.tmp 2) rfl Tryd.underlying27 rfl (z := 1) (by kernel_rfl) (by decide) rfl) ⟨I0, T0⟩ T0 T0 ?_
 refine t_opG rfl (sp_loadBox1 (Y := .box 27 (cFm a)) (X := strsA a.states) (.tmp 25) rfl Tryd.underlying22 rfl rfl) ⟨I0, T0⟩ ⟨rfl, T0⟩ T0 ?_
 refine t_opG rfl (sp_fieldBox (off' := 2) (.tmp 3) rfl Tryd.underlying27 rfl (z := 1) (by kernel_rfl) (by decide) rfl) ⟨I0, T0⟩ T0 T0 ?_
 refine t_opG rfl (sp_loadBox1 (Y := .box 27 (cFm b)) (X := strsA b.states) (.tmp 27) rfl Tryd.underlying22 rfl rfl) ⟨I0, T0⟩ ⟨rfl, T0⟩ T0 ?_
 refine t_opG rfl (sp_call (c := .func 71) (xs := #[.tmp 26, .tmp 28]) [] (ctr_b (eqTextsG a.states b.states HA.lstates HB.lstates) hs4) rfl (by kernel_rfl) rfl (Xs := [strsA a.states, strsA b.states]) rfl rfl rfl) ⟨I0, I0, I0, T0⟩ T0 T0 ?_
 refine t_op rfl (sp_pick (.tmp 24) (.tmp 29) (.const (.bool false)) true (bv true) (bv false) rfl) ⟨I0, I0, I0, T0⟩ T0 T0 ?_
 refine t_op rfl (sp_move (.tmp 30) (bv true) rfl) ⟨I0, T0⟩ T0 T0 ?_
 refine t_opG rfl (sp_fieldBox (off' := 3) (.tmp 2) rfl Tryd.underlying27 rfl (z := 1) (by kernel_rfl) (by decide) rfl) ⟨I0, T0⟩ T0 T0 ?_
 refine t_opG rfl (sp_loadBox1 (Y := .box 27 (cFm a)) (X := strsA a.msgs) (.tmp 32) rfl Tryd.underlying22 rfl rfl) ⟨I0, T0⟩ ⟨rfl, T0⟩ T0 ?_
 refine t_opG rfl (sp_fieldBox (off' := 3) (.tmp 3) rfl Tryd.underlying27 rfl (z := 1) (by kernel_rfl) (by decide) rfl) ⟨I0, T0⟩ T0 T0 ?_
 refine t_opG rfl (sp_loadBox1 (Y := .box 27 (cFm b)) (X := strsA b.msgs) (.tmp 34) rfl Tryd.underlying22 rfl rfl) ⟨I0, T0⟩ ⟨rfl, T0⟩ T0 ?_
 refine t_opG rfl (sp_call (c := .func 71) (xs := #[.tmp 33, .tmp 35]) [] (ctr_b (eqTextsG a.msgs b.msgs HA.lmsgs HB.lmsgs) hs5f) rfl (by kernel_rfl) rfl (Xs := [strsA a.msgs, strsA b.msgs]) rfl rfl rfl) ⟨I0, I0, I0, T0⟩ T0 T0 ?_
 refine t_op rfl (sp_pick (.tmp 31) (.tmp 36) (.const (.bool false)) true (bv false) (bv false) rfl) ⟨I0, I0, I0, T0⟩ T0 T0 ?_
 refine t_op rfl (sp_move (.tmp 37) (bv false) rfl) ⟨I0, T0⟩ T0 T0 ?_
 refine t_skip rfl ?_
 refine t_skip rfl ?_
 refine t_skip rfl ?_
 refine t_skip rfl ?_
 refine t_skip rfl ?_
 refine t_op rfl (sp_pick (.tmp 38) (.tmp 43) (.const (.bool false)) false (.v (.tuple #[])) (bv false) rfl) ⟨I0, I0, I0, T0⟩ T0 T0 ?_
 refine t_op rfl (sp_move (.tmp 44) (bv false) rfl) ⟨I0, T0⟩ T0 T0 ?_
 refine t_skip rfl ?_
 refine t_skip rfl ?_
 refine t_skip rfl ?_
 refine t_skip rfl ?_
 refine t_skip rfl ?_
 refine t_op rfl (sp_pick (.tmp 45) (.tmp 50) (.const (.bool false)) false (.v (.tuple #[])) (bv false) rfl) ⟨I0, I0, I0, T0⟩ T0 T0 ?_
 refine t_op rfl (sp_move (.tmp 51) (bv false) rfl) ⟨I0, T0⟩ T0 T0 ?_
 refine t_skip rfl ?_
 refine t_skip rfl ?_
 refine t_skip rfl ?_
 refine t_skip rfl ?_
 refine t_skip rfl ?_
 refine t_op rfl (sp_pick (.tmp 52) (.tmp 57) (.const (.bool false)) false (.v (.tuple #[])) (bv false) rfl) ⟨I0, I0, I0, T0⟩ T0 T0 ?_
 refine t_op rfl (sp_move (.tmp 58) (bv false) rfl) ⟨I0, T0⟩ T0 T0 ?_
 refine t_skip rfl ?_
 refine t_skip rfl ?_
 refine t_skip rfl ?_
 refine t_skip rfl ?_
 refine t_skip rfl ?_
 refine t_op rfl (sp_pick (.tmp 59) (.tmp 64) (.const (.bool false)) false (.v (.tuple #[])) (bv false) rfl) ⟨I0, I0, I0, T0⟩ T0 T0 ?_
 refine t_op rfl (sp_move (.tmp 65) (bv false) rfl) ⟨I0, T0⟩ T0 T0 ?_
 refine t_skip rfl ?_
 refine t_skip rfl ?_
 refine t_skip rfl ?_
 refine t_skip rfl ?_
 refine t_skip rfl ?_
 refine t_op rfl (sp_pick (.tmp 66) (.tmp 71) (.const (.bool false)) false (.v (.tuple #[])) (bv false) rfl) ⟨I0, I0, I0, T0⟩ T0 T0 ?_
 refine t_op rfl (sp_assign (.tmp 72) (bv false) rfl) ⟨I0, T0⟩ T0 T0 ?_
 refine tri_nil ?_
 refine tri_wk (wk_keep [] [(4, bv false)] (n := 73)) ?_
 refine t_then ?_
 refine tri_ret ?_
 refine tri_end1 Tryd.results27 (.tmp rfl) ?_
 exact congrArg (fun x : Bool => AV.v (.bool x)) ((dec_f (fun h => congrArg Fm.msgs h) (of_decide_eq_false hs5f)).symm)
 have hs4f : (decide (a.states = b.states)) = false := by simpa using hs4
 refine tri_region ?_
 refine t_op rfl (sp_fieldBox (off' := 0) (.tmp 2) rfl Tryd.underlying27 rfl (z := 1) (by kernel_rfl) (by decide) rfl) ⟨I0, T0⟩ T0 T0 ?_
 refine t_op rfl (sp_loadBox1 (Y := .box 27 (cFm a)) (X := sv a.nm) (.tmp 5) rfl Tryd.underlying9 rfl rfl) ⟨I0, T0⟩ ⟨rfl, T0⟩ T0 ?_
 refine t_op rfl (sp_fieldBox (off' := 0) (.tmp 3) rfl Tryd.underlying27 rfl (z := 1) (by kernel_rfl) (by decide) rfl) ⟨I0, T0⟩ T0 T0 ?_
 refine t_op rfl (sp_loadBox1 (Y := .box 27 (cFm b)) (X := sv b.nm) (.tmp 7) rfl Tryd.underlying9 rfl rfl) ⟨I0, T0⟩ ⟨rfl, T0⟩ T0 ?_
 refine t_op rfl (sp_seql rfl hs1) ⟨I0, I0, T0⟩ T0 T0 ?_
 refine t_op rfl (sp_move (.tmp 9) (bv true) rfl) ⟨I0, T0⟩ T0 T0 ?_
 refine t_opG rfl (sp_fieldBox (off' := 1) (.tmp 2) rfl Tryd.underlying27 rfl (z := 1) (by kernel_rfl) (by decide) rfl) ⟨I0, T0⟩ T0 T0 ?_
 refine t_opG rfl (sp_loadBox1 (Y := .box 27 (cFm a)) (X := iv a.top) (.tmp 11) rfl Tryd.underlying3 rfl rfl) ⟨I0, T0⟩ ⟨rfl, T0⟩ T0 ?_
 refine t_opG rfl (sp_fieldBox (off' := 1) (.tmp 3) rfl Tryd.underlying27 rfl (z := 1) (by kernel_rfl) (by decide) rfl) ⟨I0, T0⟩ T0 T0 ?_
 refine t_opG rfl (sp_loadBox1 (Y := .box 27 (cFm b)) (X := iv b.top) (.tmp 13) rfl Tryd.underlying3 rfl rfl) ⟨I0, T0⟩ ⟨rfl, T0⟩ T0 ?_
 refine t_opG rfl (sp_eql rfl (dT hs2)) ⟨I0, I0, T0⟩ T0 T0 ?_
 refine t_op rfl (sp_pick (.tmp 10) (.tmp 15) (.const (.bool false)) true (bv true) (bv false) rfl) ⟨I0, I0, I0, T0⟩ T0 T0 ?_
 refine t_op rfl (sp_move (.tmp 16) (bv true) rfl) ⟨I0, T0⟩ T0 T0 ?_
 refine t_opG rfl (sp_fieldBox (off' := 5) (.tmp 2) rfl Tryd.underlying27 rfl (z := 1) (by kernel_rfl) (by decide) rfl) ⟨I0, T0⟩ T0 T0 ?_
 refine t_opG rfl (sp_loadBox1 (Y := .box 27 (cFm a)) (X := iv a.fault) (.tmp 18) rfl Tryd.underlying3 rfl rfl) ⟨I0, T0⟩ ⟨rfl, T0⟩ T0 ?_
 refine t_opG rfl (sp_fieldBox (off' := 5) (.tmp 3) rfl Tryd.underlying27 rfl (z := 1) (by kernel_rfl) (by decide) rfl) ⟨I0, T0⟩ T0 T0 ?_
 refine t_opG rfl (sp_loadBox1 (Y := .box 27 (cFm b)) (X := iv b.fault) (.tmp 20) rfl Tryd.underlying3 rfl rfl) ⟨I0, T0⟩ ⟨rfl, T0⟩ T0 ?_
 refine t_opG rfl (sp_eql rfl (dT hs3)) ⟨I0, I0, T0⟩ T0 T0 ?_
 refine t_op rfl (sp_pick (.tmp 17) (.tmp 22) (.const (.bool false)) true (bv true) (bv false) rfl) ⟨I0, I0, I0, T0⟩ T0 T0 ?_
 refine t_op rfl (sp_move (.tmp 23) (bv true) rfl) ⟨I0, T0⟩ T0 T0 ?_
 refine t_opG rfl (sp_fieldBox (off' := 2) (.tmp 2) rfl Tryd.underlying27 rfl (z := 1) (by kernel_rfl) (by decide) rfl) ⟨I0, T0⟩ T0 T0 ?_
 refine t_opG rfl (sp_loadBox1 (Y := .box 27 (cFm a)) (X := strsA a.states) (.tmp 25) rfl Tryd.underlying22 rfl rfl) ⟨I0, T0⟩ ⟨rfl, T0⟩ T0 ?_
 refine t_opG rfl (sp_fieldBox (off' := 2) (.tmp 3) rfl Tryd.underlying27 rfl (z := 1) (by kernel_rfl) (by decide) rfl) ⟨I0, T0⟩ T0 T0 ?_
 refine t_opG rfl (sp_loadBox1 (Y := .box 27 (cFm b)) (X := strsA b.states) (.tmp 27) rfl Tryd.underlying22 rfl rfl) ⟨I0, T0⟩ ⟨rfl, T0⟩ T0 ?_
 refine t_opG rfl (sp_call (c := .func 71) (xs := #[.tmp 26, .tmp 28]) [] (ctr_b (eqTextsG a.states b.states HA.lstates HB.lstates) hs4f) rfl (by kernel_rfl) rfl (Xs := [strsA a.states, strsA b.states]) rfl rfl rfl) ⟨I0, I0, I0, T0⟩ T0 T0 ?_
 refine t_op rfl (sp_pick (.tmp 24) (.tmp 29) (.const (.bool false)) true (bv false) (bv false) rfl) ⟨I0, I0, I0, T0⟩ T0 T0 ?_
 refine t_op rfl (sp_move (.tmp 30) (bv false) rfl) ⟨I0, T0⟩ T0 T0 ?_
 refine t_skip rfl ?_
 refine t_skip rfl ?_
 refine t_skip rfl ?_
 refine t_skip rfl ?_
 refine t_skip rfl ?_
 refine t_op rfl (sp_pick (.tmp 31) (.tmp 36) (.const (.bool false)) false (.v (.tuple #[])) (bv false) rfl) ⟨I0, I0, I0, T0⟩ T0 T0 ?_
 refine t_op rfl (sp_move (.tmp 37) (bv false) rfl) ⟨I0, T0⟩ T0 T0 ?_
 refine t_skip rfl ?_
 refine t_skip rfl ?_
 refine t_skip rfl ?_
 refine t_skip rfl ?_
 refine t_skip rfl ?_
 refine t_op rfl (sp_pick (.tmp 38) (.tmp 43) (.const (.bool false)) false (.v (.tuple #[])) (bv false) rfl) ⟨I0, I0, I0, T0⟩ T0 T0 ?_
 refine t_op rfl (sp_move (.tmp 44) (bv false) rfl) ⟨I0, T0⟩ T0 T0 ?_
 refine t_skip rfl ?_
 refine t_skip rfl ?_
 refine t_skip rfl ?_
 refine t_skip rfl ?_
 refine t_skip rfl ?_
 refine t_op rfl (sp_pick (.tmp 45) (.tmp 50) (.const (.bool false)) false (.v (.tuple #[])) (bv false) rfl) ⟨I0, I0, I0, T0⟩ T0 T0 ?_
 refine t_op rfl (sp_move (.tmp 51) (bv false) rfl) ⟨I0, T0⟩ T0 T0 ?_
 refine t_skip rfl ?_
 refine t_skip rfl ?_
 refine t_skip rfl ?_
 refine t_skip rfl ?_
 refine t_skip rfl ?_
 refine t_op rfl (sp_pick (.tmp 52) (.tmp 57) (.const (.bool false)) false (.v (.tuple #[])) (bv false) rfl) ⟨I0, I0, I0, T0⟩ T0 T0 ?_
 refine t_op rfl (sp_move (.tmp 58) (bv false) rfl) ⟨I0, T0⟩ T0 T0 ?_
 refine t_skip rfl ?_
 refine t_skip rfl ?_
 refine t_skip rfl ?_
 refine t_skip rfl ?_
 refine t_skip rfl ?_
 refine t_op rfl (sp_pick (.tmp 59) (.tmp 64) (.const (.bool false)) false (.v (.tuple #[])) (bv false) rfl) ⟨I0, I0, I0, T0⟩ T0 T0 ?_
 refine t_op rfl (sp_move (.tmp 65) (bv false) rfl) ⟨I0, T0⟩ T0 T0 ?_
 refine t_skip rfl ?_
 refine t_skip rfl ?_
 refine t_skip rfl ?_
 refine t_skip rfl ?_
 refine t_skip rfl ?_
 refine t_op rfl (sp_pick (.tmp 66) (.tmp 71) (.const (.bool false)) false (.v (.tuple #[])) (bv false) rfl) ⟨I0, I0, I0, T0⟩ T0 T0 ?_
 refine t_op rfl (sp_assign (.tmp 72) (bv false) rfl) ⟨I0, T0⟩ T0 T0 ?_
 refine tri_nil ?_
 refine tri_wk (wk_keep [] [(4, bv false)] (n := 73)) ?_
 refine t_then ?_
 refine tri_ret ?_
 refine tri_end1 Tryd.results27 (.tmp rfl) ?_
 exact congrArg (fun x : Bool => AV.v (.bool x)) ((dec_f (fun h => congrArg Fm.states h) (of_decide_eq_false hs4f)).symm)
 refine tri_region ?_
 refine t_op rfl (sp_fieldBox (off' := 0) (.tmp 2) rfl Tryd.underlying27 rfl (z := 1) (by kernel_rfl) (by decide) rfl) ⟨I0, T0⟩ T0 T0 ?_
 refine t_op rfl (sp_loadBox1 (Y := .box 27 (cFm a)) (X := sv a.nm) (.tmp 5) rfl Tryd.underlying9 rfl rfl) ⟨I0, T0⟩ ⟨rfl, T0⟩ T0 ?_
 refine t_op rfl (sp_fieldBox (off' := 0) (.tmp 3) rfl Tryd.underlying27 rfl (z := 1) (by kernel_rfl) (by decide) rfl) ⟨I0, T0⟩ T0 T0 ?_
 refine t_op rfl (sp_loadBox1 (Y := .box 27 (cFm b)) (X := sv b.nm) (.tmp 7) rfl Tryd.underlying9 rfl rfl) ⟨I0, T0⟩ ⟨rfl, T0⟩ T0 ?_
 refine t_op rfl (sp_seql rfl hs1) ⟨I0, I0, T0⟩ T0 T0 ?_
 refine t_op rfl (sp_move (.tmp 9) (bv true) rfl) ⟨I0, T0⟩ T0 T0 ?_
 refine t_opG rfl (sp_fieldBox (off' := 1) (.tmp 2) rfl Tryd.underlying27 rfl (z := 1) (by kernel_rfl) (by decide) rfl) ⟨I0, T0⟩ T0 T0 ?_
 refine t_opG rfl (sp_loadBox1 (Y := .box 27 (cFm a)) (X := iv a.top) (.tmp 11) rfl Tryd.underlying3 rfl rfl) ⟨I0, T0⟩ ⟨rfl, T0⟩ T0 ?_
 refine t_opG rfl (sp_fieldBox (off' := 1) (.tmp 3) rfl Tryd.underlying27 rfl (z := 1) (by kernel_rfl) (by decide) rfl) ⟨I0, T0⟩ T0 T0 ?_
 refine t_opG rfl (sp_loadBox1 (Y := .box 27 (cFm b)) (X := iv b.top) (.tmp 13) rfl Tryd.underlying3 rfl rfl) ⟨I0, T0⟩ ⟨rfl, T0⟩ T0 ?_
 refine t_opG rfl (sp_eql rfl (dT hs2)) ⟨I0, I0, T0⟩ T0 T0 ?_
 refine t_op rfl (sp_pick (.tmp 10) (.tmp 15) (.const (.bool false)) true (bv true) (bv false) rfl) ⟨I0, I0, I0, T0⟩ T0 T0 ?_
 refine t_op rfl (sp_move (.tmp 16) (bv true) rfl) ⟨I0, T0⟩ T0 T0 ?_
 refine t_opG rfl (sp_fieldBox (off' := 5) (.tmp 2) rfl Tryd.underlying27 rfl (z := 1) (by kernel_rfl) (by decide) rfl) ⟨I0, T0⟩ T0 T0 ?_
 refine t_opG rfl (sp_loadBox1 (Y := .box 27 (cFm a)) (X := iv a.fault) (.tmp 18) rfl Tryd.underlying3 rfl rfl) ⟨I0, T0⟩ ⟨rfl, T0⟩ T0 ?_
 refine t_opG rfl (sp_fieldBox (off' := 5) (.tmp 3) rfl Tryd.underlying27 rfl (z := 1) (by kernel_rfl) (by decide) rfl) ⟨I0, T0⟩ T0 T0 ?_
 refine t_opG rfl (sp_loadBox1 (Y := .box 27 (cFm b)) (X := iv b.fault) (.tmp 20) rfl Tryd.underlying3 rfl rfl) ⟨I0, T0⟩ ⟨rfl, T0⟩ T0 ?_
 refine t_opG rfl (sp_eql rfl (dF hs3)) ⟨I0, I0, T0⟩ T0 T0 ?_
 refine t_op rfl (sp_pick (.tmp 17) (.tmp 22) (.const (.bool false)) true (bv false) (bv false) rfl) ⟨I0, I0, I0, T0⟩ T0 T0 ?_
 refine t_op rfl (sp_move (.tmp 23) (bv false) rfl) ⟨I0, T0⟩ T0 T0 ?_
 refine t_skip rfl ?_
 refine t_skip rfl ?_
 refine t_skip rfl ?_
 refine t_skip rfl ?_
 refine t_skip rfl ?_
 refine t_op rfl (sp_pick (.tmp 24) (.tmp 29) (.const (.bool false)) false (.v (.tuple #[])) (bv false) rfl) ⟨I0, I0, I0, T0⟩ T0 T0 ?_
 refine t_op rfl (sp_move (.tmp 30) (bv false) rfl) ⟨I0, T0⟩ T0 T0 ?_
 refine t_skip rfl ?_
 refine t_skip rfl ?_
 refine t_skip rfl ?_
 refine t_skip rfl ?_
 refine t_skip rfl ?_
 refine t_op rfl (sp_pick (.tmp 31) (.tmp 36) (.const (.bool false)) false (.v (.tuple #[])) (bv false) rfl) ⟨I0, I0, I0, T0⟩ T0 T0 ?_
 refine t_op rfl (sp_move (.tmp 37) (bv false) rfl) ⟨I0, T0⟩ T0 T0 ?_
 refine t_skip rfl ?_
 refine t_skip rfl ?_
 refine t_skip rfl ?_
 refine t_skip rfl ?_
 refine t_skip rfl ?_
 refine t_op rfl (sp_pick (.tmp 38) (.tmp 43) (.const (.bool false)) false (.v (.tuple #[])) (bv false) rfl) ⟨I0, I0, I0, T0⟩ T0 T0 ?_
 refine t_op rfl (sp_move (.tmp 44) (bv false) rfl) ⟨I0, T0⟩ T0 T0 ?_
 refine t_skip rfl ?_
 refine t_skip rfl ?_
 refine t_skip rfl ?_
 refine t_skip rfl ?_
 refine t_skip rfl ?_
 refine t_op rfl (sp_pick (.tmp 45) (.tmp 50) (.const (.bool false)) false (.v (.tuple #[])) (bv false) rfl) ⟨I0, I0, I0, T0⟩ T0 T0 ?_
 refine t_op rfl (sp_move (.tmp 51) (bv false) rfl) ⟨I0, T0⟩ T0 T0 ?_
 refine t_skip rfl ?_
 refine t_skip rfl ?_
 refine t_skip rfl ?_
 refine t_skip rfl ?_
 refine t_skip rfl ?_
 refine t_op rfl (sp_pick (.tmp 52) (.tmp 57) (.const (.bool false)) false (.v (.tuple #[])) (bv false) rfl) ⟨I0, I0, I0, T0⟩ T0 T0 ?_
 refine t_op rfl (sp_move (.tmp 58) (bv false) rfl) ⟨I0, T0⟩ T0 T0 ?_
 refine t_skip rfl ?_
 refine t_skip rfl ?_
 refine t_skip rfl ?_
 refine t_skip rfl ?_
 refine t_skip rfl ?_
 refine t_op rfl (sp_pick (.tmp 59) (.tmp 64) (.const (.bool false)) false (.v (.tuple #[])) (bv false) rfl) ⟨I0, I0, I0, T0⟩ T0 T0 ?_
 refine t_op rfl (sp_move (.tmp 65) (bv false) rfl) ⟨I0, T0⟩ T0 T0 ?_
 refine t_skip rfl ?_
 refine t_skip rfl ?_
 refine t_skip rfl ?_
 refine t_skip rfl ?_
 refine t_skip rfl ?_
 refine t_op rfl (sp_pick (.tmp 66) (.tmp 71) (.const (.bool false)) false (.v (.tuple #[])) (bv false) rfl) ⟨I0, I0, I0, T0⟩ T0 T0 ?_
 refine t_op rfl (sp_assign (.tmp 72) (bv false) rfl) ⟨I0, T0⟩ T0 T0 ?_
 refine tri_nil ?_
 refine tri_wk (wk_keep [] [(4, bv false)] (n := 73)) ?_
 refine t_then ?_
 refine tri_ret ?_
 refine tri_end1 Tryd.results27 (.tmp rfl) ?_
 exact congrArg (fun x : Bool => AV.v (.bool x)) ((dec_f (fun h => congrArg Fm.fault h) hs3).symm)
 refine tri_region ?_
 refine t_op rfl (sp_fieldBox (off' := 0) (.tmp 2) rfl Tryd.underlying27 rfl (z := 1) (by kernel_rfl) (by decide) rfl) ⟨I0, T0⟩ T0 T0 ?_
 refine t_op rfl (sp_loadBox1 (Y := .box 27 (cFm a)) (X := sv a.nm) (.tmp 5) rfl Tryd.underlying9 rfl rfl) ⟨I0, T0⟩ ⟨rfl, T0⟩ T0 ?_
 refine t_op rfl (sp_fieldBox (off' := 0) (.tmp 3) rfl Tryd.underlying27 rfl (z := 1) (by kernel_rfl) (by decide) rfl) ⟨I0, T0⟩ T0 T0 ?_
 refine t_op rfl (sp_loadBox1 (Y := .box 27 (cFm b)) (X := sv b.nm) (.tmp 7) rfl Tryd.underlying9 rfl rfl) ⟨I0, T0⟩ ⟨rfl, T0⟩ T0 ?_
 refine t_op rfl (sp_seql rfl hs1) ⟨I0, I0, T0⟩ T0 T0 ?_
 refine t_op rfl (sp_move (.tmp 9) (bv true) rfl) ⟨I0, T0⟩ T0 T0 ?_
 refine t_opG rfl (sp_fieldBox (off' := 1) (.tmp 2) rfl Tryd.underlying27 rfl (z := 1) (by kernel_rfl) (by decide) rfl) ⟨I0, T0⟩ T0 T0 ?_
 refine t_opG rfl (sp_loadBox1 (Y := .box 27 (cFm a)) (X := iv a.top) (.tmp 11) rfl Tryd.underlying3 rfl rfl) ⟨I0, T0⟩ ⟨rfl, T0⟩ T0 ?_
 refine t_opG rfl (sp_fieldBox (off' := 1) (.tmp 3) rfl Tryd.underlying27 rfl (z := 1) (by kernel_rfl) (by decide) rfl) ⟨I0, T0⟩ T0 T0 ?_
 refine t_opG rfl (sp_loadBox1 (Y := .box 27 (cFm b)) (X := iv b.top) (.tmp 13) rfl Tryd.underlying3 rfl rfl) ⟨I0, T0⟩ ⟨rfl, T0⟩ T0 ?_
 refine t_opG rfl (sp_eql rfl (dF hs2)) ⟨I0, I0, T0⟩ T0 T0 ?_
 refine t_op rfl (sp_pick (.tmp 10) (.tmp 15) (.const (.bool false)) true (bv false) (bv false) rfl) ⟨I0, I0, I0, T0⟩ T0 T0 ?_
 refine t_op rfl (sp_move (.tmp 16) (bv false) rfl) ⟨I0, T0⟩ T0 T0 ?_
 refine t_skip rfl ?_
 refine t_skip rfl ?_
 refine t_skip rfl ?_
 refine t_skip rfl ?_
 refine t_skip rfl ?_
 refine t_op rfl (sp_pick (.tmp 17) (.tmp 22) (.const (.bool false)) false (.v (.tuple #[])) (bv false) rfl) ⟨I0, I0, I0, T0⟩ T0 T0 ?_
 refine t_op rfl (sp_move (.tmp 23) (bv false) rfl) ⟨I0, T0⟩ T0 T0 ?_
 refine t_skip rfl ?_
 refine t_skip rfl ?_
 refine t_skip rfl ?_
 refine t_skip rfl ?_
 refine t_skip rfl ?_
 refine t_op rfl (sp_pick (.tmp 24) (.tmp 29) (.const (.bool false)) false (.v (.tuple #[])) (bv false) rfl) ⟨I0, I0, I0, T0⟩ T0 T0 ?_
 refine t_op rfl (sp_move (.tmp 30) (bv false) rfl) ⟨I0, T0⟩ T0 T0 ?_
 refine t_skip rfl ?_
 refine t_skip rfl ?_
 refine t_skip rfl ?_
 refine t_skip rfl ?_
 refine t_skip rfl ?_
 refine t_op rfl (sp_pick (.tmp 31) (.tmp 36) (.const (.bool false)) false (.v (.tuple #[])) (bv false) rfl) ⟨I0, I0, I0, T0⟩ T0 T0 ?_
 refine t_op rfl (sp_move (.tmp 37) (bv false) rfl) ⟨I0, T0⟩ T0 T0 ?_
 refine t_skip rfl ?_
 refine t_skip rfl ?_
 refine t_skip rfl ?_
 refine t_skip rfl ?_
 refine t_skip rfl ?_
 refine t_op rfl (sp_pick (.tmp 38) (.tmp 43) (.const (.bool false)) false (.v (.tuple #[])) (bv false) rfl) ⟨I0, I0, I0, T0⟩ T0 T0 ?_
 refine t_op rfl (sp_move (.tmp 44) (bv false) rfl) ⟨I0, T0⟩ T0 T0 ?_
 refine t_skip rfl ?_
 refine t_skip rfl ?_
 refine t_skip rfl ?_
 refine t_skip rfl ?_
 refine t_skip rfl ?_
 refine t_op rfl (sp_pick (.tmp 45) (.tmp 50) (.const (.bool false)) false (.v (.tuple #[])) (bv false) rfl) ⟨I0, I0, I0, T0⟩ T0 T0 ?_
 refine t_op rfl (sp_move (.tmp 51) (bv false) rfl) ⟨I0, T0⟩ T0 T0 ?_
 refine t_skip rfl ?_
 refine t_skip rfl ?_
 refine t_skip rfl ?_
 refine t_skip rfl ?_
 refine t_skip rfl ?_
 refine t_op rfl (sp_pick (.tmp 52) (.tmp 57) (.const (.bool false)) false (.v (.tuple #[])) (bv false) rfl) ⟨I0, I0, I0, T0⟩ T0 T0 ?_
 refine t_op rfl (sp_move (.tmp 58) (bv false) rfl) ⟨I0, T0⟩ T0 T0 ?_
 refine t_skip rfl ?_
 refine t_skip rfl ?_
 refine t_skip rfl ?_
 refine t_skip rfl ?_
 refine t_skip rfl ?_
 refine t_op rfl (sp_pick (.tmp 59) (.tmp 64) (.const (.bool false)) false (.v (.tuple #[])) (bv false) rfl) ⟨I0, I0, I0, T0⟩ T0 T0 ?_
 refine t_op rfl (sp_move (.tmp 65) (bv false) rfl) ⟨I0, T0⟩ T0 T0 ?_
 refine t_skip rfl ?_
 refine t_skip rfl ?_
 refine t_skip rfl ?_
 refine t_skip rfl ?_
 refine t_skip rfl ?_
 refine t_op rfl (sp_pick (.tmp 66) (.tmp 71) (.const (.bool false)) false (.v (.tuple #[])) (bv false) rfl) ⟨I0, I0, I0, T0⟩ T0 T0 ?_
 refine t_op rfl (sp_assign (.tmp 72) (bv false) rfl) ⟨I0, T0⟩ T0 T0 ?_
 refine tri_nil ?_
 refine tri_wk (wk_keep [] [(4, bv false)] (n := 73)) ?_
 refine t_then ?_
 refine tri_ret ?_
 refine tri_end1 Tryd.results27 (.tmp rfl) ?_
 exact congrArg (fun x : Bool => AV.v (.bool x)) ((dec_f (fun h => congrArg Fm.top h) hs2).symm)
 have hs1f : (a.nm.toList == b.nm.toList) = false := by simpa using hs1
 refine tri_region ?_
 refine t_op rfl (sp_fieldBox (off' := 0) (.tmp 2) rfl Tryd.underlying27 rfl (z := 1) (by kernel_rfl) (by decide) rfl) ⟨I0, T0⟩ T0 T0 ?_
 refine t_op rfl (sp_loadBox1 (Y := .box 27 (cFm a)) (X := sv a.nm) (.tmp 5) rfl Tryd.underlying9 rfl rfl) ⟨I0, T0⟩ ⟨rfl, T0⟩ T0 ?_
 refine t_op rfl (sp_fieldBox (off' := 0) (.tmp 3) rfl Tryd.underlying27 rfl (z := 1) (by kernel_rfl) (by decide) rfl) ⟨I0, T0⟩ T0 T0 ?_
 refine t_op rfl (sp_loadBox1 (Y := .box 27 (cFm b)) (X := sv b.nm) (.tmp 7) rfl Tryd.underlying9 rfl rfl) ⟨I0, T0⟩ ⟨rfl, T0⟩ T0 ?_
 refine t_op rfl (sp_seql rfl hs1f) ⟨I0, I0, T0⟩ T0 T0 ?_
 refine t_op rfl (sp_move (.tmp 9) (bv false) rfl) ⟨I0, T0⟩ T0 T0 ?_
 refine t_skip rfl ?_
 refine t_skip rfl ?_
 refine t_skip rfl ?_
 refine t_skip rfl ?_
 refine t_skip rfl ?_
 refine t_op rfl (sp_pick (.tmp 10) (.tmp 15) (.const (.bool false)) false (.v (.tuple #[])) (bv false) rfl) ⟨I0, I0, I0, T0⟩ T0 T0 ?_
 refine t_op rfl (sp_move (.tmp 16) (bv false) rfl) ⟨I0, T0⟩ T0 T0 ?_
 refine t_skip rfl ?_
 refine t_skip rfl ?_
 refine t_skip rfl ?_
 refine t_skip rfl ?_
 refine t_skip rfl ?_
 refine t_op rfl (sp_pick (.tmp 17) (.tmp 22) (.const (.bool false)) false (.v (.tuple #[])) (bv false) rfl) ⟨I0, I0, I0, T0⟩ T0 T0 ?_
 refine t_op rfl (sp_move (.tmp 23) (bv false) rfl) ⟨I0, T0⟩ T0 T0 ?_
 refine t_skip rfl ?_
 refine t_skip rfl ?_
 refine t_skip rfl ?_
 refine t_skip rfl ?_
 refine t_skip rfl ?_
 refine t_op rfl (sp_pick (.tmp 24) (.tmp 29) (.const (.bool false)) false (.v (.tuple #[])) (bv false) rfl) ⟨I0, I0, I0, T0⟩ T0 T0 ?_
 refine t_op rfl (sp_move (.tmp 30) (bv false) rfl) ⟨I0, T0⟩ T0 T0 ?_
 refine t_skip rfl ?_
 refine t_skip rfl ?_
 refine t_skip rfl ?_
 refine t_skip rfl ?_
 refine t_skip rfl ?_
 refine t_op rfl (sp_pick (.tmp 31) (.tmp 36) (.const (.bool false)) false (.v (.tuple #[])) (bv false) rfl) ⟨I0, I0, I0, T0⟩ T0 T0 ?_
 refine t_op rfl (sp_move (.tmp 37) (bv false) rfl) ⟨I0, T0⟩ T0 T0 ?_
 refine t_skip rfl ?_
 refine t_skip rfl ?_
 refine t_skip rfl ?_
 refine t_skip rfl ?_
 refine t_skip rfl ?_
 refine t_op rfl (sp_pick (.tmp 38) (.tmp 43) (.const (.bool false)) false (.v (.tuple #[])) (bv false) rfl) ⟨I0, I0, I0, T0⟩ T0 T0 ?_
 refine t_op rfl (sp_move (.tmp 44) (bv false) rfl) ⟨I0, T0⟩ T0 T0 ?_
 refine t_skip rfl ?_
 refine t_skip rfl ?_
 refine t_skip rfl ?_
 refine t_skip rfl ?_
 refine t_skip rfl ?_
 refine t_op rfl (sp_pick (.tmp 45) (.tmp 50) (.const (.bool false)) false (.v (.tuple #[])) (bv false) rfl) ⟨I0, I0, I0, T0⟩ T0 T0 ?_
 refine t_op rfl (sp_move (.tmp 51) (bv false) rfl) ⟨I0, T0⟩ T0 T0 ?_
 refine t_skip rfl ?_
 refine t_skip rfl ?_
 refine t_skip rfl ?_
 refine t_skip rfl ?_
 refine t_skip rfl ?_
 refine t_op rfl (sp_pick (.tmp 52) (.tmp 57) (.const (.bool false)) false (.v (.tuple #[])) (bv false) rfl) ⟨I0, I0, I0, T0⟩ T0 T0 ?_
 refine t_op rfl (sp_move (.tmp 58) (bv false) rfl) ⟨I0, T0⟩ T0 T0 ?_
 refine t_skip rfl ?_
 refine t_skip rfl ?_
 refine t_skip rfl ?_
 refine t_skip rfl ?_
 refine t_skip rfl ?_
 refine t_op rfl (sp_pick (.tmp 59) (.tmp 64) (.const (.bool false)) false (.v (.tuple #[])) (bv false) rfl) ⟨I0, I0, I0, T0⟩ T0 T0 ?_
 refine t_op rfl (sp_move (.tmp 65) (bv false) rfl) ⟨I0, T0⟩ T0 T0 ?_
 refine t_skip rfl ?_
 refine t_skip rfl ?_
 refine t_skip rfl ?_
 refine t_skip rfl ?_
 refine t_skip rfl ?_
 refine t_op rfl (sp_pick (.tmp 66) (.tmp 71) (.const (.bool false)) false (.v (.tuple #[])) (bv false) rfl) ⟨I0, I0, I0, T0⟩ T0 T0 ?_
 refine t_op rfl (sp_assign (.tmp 72) (bv false) rfl) ⟨I0, T0⟩ T0 T0 ?_
 refine tri_nil ?_
 refine tri_wk (wk_keep [] [(4, bv false)] (n := 73)) ?_
 refine t_then ?_
 refine tri_ret ?_
 refine tri_end1 Tryd.results27 (.tmp rfl) ?_
 exact congrArg (fun x : Bool => AV.v (.bool x)) ((dec_f (fun h => congrArg Fm.nm h) (str_ne hs1f)).symm)
set_option linter.unusedSimpArgs false in
set_option linter.unusedVariables false in
set_option maxRecDepth 100000 in
set_option maxHeartbeats 6400000 in
theorem rEqualG {a b : Fm} (HA : FmOk a) (HB : FmOk b) : Ctr Tryd.prog J 18 [.agg (cFm a), .agg (cFm b)] (bv (decide (a = b))) := by
 have l1 := HA.lrules
 have l2 := HB.lrules
 refine ctr_of_tri Tryd.func18 rfl (by intro X hX; simp only [List.mem_cons, List.not_mem_nil, or_false] at hX; rcases hX with rfl | rfl; exact plain_agg (plain_fm a); exact plain_agg (plain_fm b)) (n := 110) rfl (by simp) (fun w0 => ?_)
 refine tri_wk (wk_keep [] [(0, .agg (cFm a)), (1, .agg (cFm b))] (n := 110)) ?_
 refine tri_seq ?_
 refine tri_region ?_
 refine t_op rfl (sp_box (X := .agg (cFm a)) (k := 1) (.tmp 0) rfl rfl) ⟨I0, T0⟩ T0 rfl ?_
 refine t_op rfl (sp_box (X := .agg (cFm b)) (k := 2) (.tmp 1) rfl rfl) ⟨I0, T0⟩ T0 rfl ?_
 refine t_op rfl (sp_assign (.const (.bool false)) (bv false) rfl) ⟨I0, T0⟩ T0 T0 ?_
 refine tri_nil ?_
 refine tri_wk (wk_keep [(1, .box 27 (cFm a)), (2, .box 27 (cFm b))] [(2, .box 1 0), (3, .box 2 0), (4, bv false)] (n := 110)) ?_
 refine t_then ?_
 refine tri_seq ?_
 refine tri_seq ?_
 by_cases hs1 : (a.nm.toList == b.nm.toList) = true
 by_cases hs2 : a.top = b.top
 by_cases hs3 : a.fault = b.fault
 by_cases hs4 : ((a.rules.length : Nat) : Int) = ((b.rules.length : Nat) : Int)
 refine tri_region ?_
 refine t_op rfl (sp_fieldBox (off' := 0) (.tmp 2) rfl Tryd.underlying27 rfl (z := 1) (by kernel_rfl) (by decide) rfl) ⟨I0, T0⟩ T0 T0 ?_
 refine t_op rfl (sp_loadBox1 (Y := .box 27 (cFm a)) (X := sv a.nm) (.tmp 7) rfl Tryd.underlying9 rfl rfl) ⟨I0, T0⟩ ⟨rfl, T0⟩ T0 ?_
 refine t_op rfl (sp_fieldBox (off' := 0) (.tmp 3) rfl Tryd.underlying27 rfl (z := 1) (by kernel_rfl) (by decide) rfl) ⟨I0, T0⟩ T0 T0 ?_
 refine t_op rfl (sp_loadBox1 (Y := .box 27 (cFm b)) (X := sv b.nm) (.tmp 9) rfl Tryd.underlying9 rfl rfl) ⟨I0, T0⟩ ⟨rfl, T0⟩ T0 ?_
 refine t_op rfl (sp_sneq (r := false) rfl hs1) ⟨I0, I0, T0⟩ T0 T0 ?_
 refine t_op rfl (sp_move (.tmp 11) (bv false) rfl) ⟨I0, T0⟩ T0 T0 ?_
 refine t_opG rfl (sp_fieldBox (off' := 1) (.tmp 2) rfl Tryd.underlying27 rfl (z := 1) (by kernel_rfl) (by decide) rfl) ⟨I0, T0⟩ T0 T0 ?_
 refine t_opG rfl (sp_loadBox1 (Y := .box 27 (cFm a)) (X := iv a.top) (.tmp 13) rfl Tryd.underlying3 rfl rfl) ⟨I0, T0⟩ ⟨rfl, T0⟩ T0 ?_
 refine t_opG rfl (sp_fieldBox (off' := 1) (.tmp 3) rfl Tryd.underlying27 rfl (z := 1) (by kernel_rfl) (by decide) rfl) ⟨I0, T0⟩ T0 T0 ?_
 refine t_opG rfl (sp_loadBox1 (Y := .box 27 (cFm b)) (X := iv b.top) (.tmp 15) rfl Tryd.underlying3 rfl rfl) ⟨I0, T0⟩ ⟨rfl, T0⟩ T0 ?_
 refine t_opG rfl (sp_neq rfl (dT' hs2)) ⟨I0, I0, T0⟩ T0 T0 ?_
 refine t_op rfl (sp_pick (.tmp 12) (.const (.bool true)) (.tmp 17) false (bv true) (bv false) rfl) ⟨I0, I0, I0, T0⟩ T0 T0 ?_
 refine t_op rfl (sp_move (.tmp 18) (bv false) rfl) ⟨I0, T0⟩ T0 T0 ?_
 refine t_opG rfl (sp_fieldBox (off' := 5) (.tmp 2) rfl Tryd.underlying27 rfl (z := 1) (by kernel_rfl) (by decide) rfl) ⟨I0, T0⟩ T0 T0 ?_
 refine t_opG rfl (sp_loadBox1 (Y := .box 27 (cFm a)) (X := iv a.fault) (.tmp 20) rfl Tryd.underlying3 rfl rfl) ⟨I0, T0⟩ ⟨rfl, T0⟩ T0 ?_
 refine t_opG rfl (sp_fieldBox (off' := 5) (.tmp 3) rfl Tryd.underlying27 rfl (z := 1) (by kernel_rfl) (by decide) rfl) ⟨I0, T0⟩ T0 T0 ?_
 refine t_opG rfl (sp_loadBox1 (Y := .box 27 (cFm b)) (X := iv b.fault) (.tmp 22) rfl Tryd.underlying3 rfl rfl) ⟨I0, T0⟩ ⟨rfl, T0⟩ T0 ?_
 refine t_opG rfl (sp_neq rfl (dT' hs3)) ⟨I0, I0, T0⟩ T0 T0 ?_
 refine t_op rfl (sp_pick (.tmp 19) (.const (.bool true)) (.tmp 24) false (bv true) (bv false) rfl) ⟨I0, I0, I0, T0⟩ T0 T0 ?_
 refine t_op rfl (sp_move (.tmp 25) (bv false) rfl) ⟨I0, T0⟩ T0 T0 ?_
 refine t_opG rfl (sp_fieldBox (off' := 9) (.tmp 2) rfl Tryd.underlying27 rfl (z := 1) (by kernel_rfl) (by decide) rfl) ⟨I0, T0⟩ T0 T0 ?_
 refine t_opG rfl (sp_loadBox1 (Y := .box 27 (cFm a)) (X := slA 18 cRu a.rules) (.tmp 27) rfl Tryd.underlying25 rfl rfl) ⟨I0, T0⟩ ⟨rfl, T0⟩ T0 ?_
 refine t_opG rfl (sp_lenSl (.tmp 28) rfl Tryd.underlying25) ⟨I0, T0⟩ T0 T0 ?_
 refine t_opG rfl (sp_fieldBox (off' := 9) (.tmp 3) rfl Tryd.underlying27 rfl (z := 1) (by kernel_rfl) (by decide) rfl) ⟨I0, T0⟩ T0 T0 ?_
 refine t_opG rfl (sp_loadBox1 (Y := .box 27 (cFm b)) (X := slA 18 cRu b.rules) (.tmp 30) rfl Tryd.underlying25 rfl rfl) ⟨I0, T0⟩ ⟨rfl, T0⟩ T0 ?_
 refine t_opG rfl (sp_lenSl (.tmp 31) rfl Tryd.underlying25) ⟨I0, T0⟩ T0 T0 ?_
 refine t_opG rfl (sp_neq rfl (dT' hs4)) ⟨I0, I0, T0⟩ T0 T0 ?_
 refine t_op rfl (sp_pick (.tmp 26) (.const (.bool true)) (.tmp 33) false (bv true) (bv false) rfl) ⟨I0, I0, I0, T0⟩ T0 T0 ?_
 refine tri_nil ?_
 refine tri_wk (wk_keep [(1, .box 27 (cFm a)), (2, .box 27 (cFm b))] [(2, .box 1 0), (3, .box 2 0), (4, bv false), (34, bv false)] (n := 110)) ?_
 refine t_then ?_
 refine t_condF rfl ?_
 refine tri_skip ?_
 refine t_then ?_
 refine tri_seq ?_
 refine tri_seq ?_
 refine tri_region ?_
 refine t_op rfl (sp_assign (.const (.int .i64 0)) (iv 0) rfl) ⟨I0, T0⟩ T0 T0 ?_
 refine tri_nil ?_
 refine tri_wk (wk_keep [(1, .box 27 (cFm a)), (2, .box 27 (cFm b))] [(2, .box 1 0), (3, .box 2 0), (4, bv false), (5, iv 0)] (n := 110)) ?_
 refine t_then ?_
 refine t_cut (decide (a.rules = b.rules) = true) (ofL [(1, .box 27 (cFm a)), (2, .box 27 (cFm b))]) (ofT 110 [(2, .box 1 0), (3, .box 2 0)]) ?_ (fun RQ => ?_)
 refine tri_block ?_
 refine tri_loop (σ := {k : Nat // k ≤ a.rules.length ∧ agK a.rules b.rules k}) (fun s => (ofL [(1, .box 27 (cFm a)), (2, .box 27 (cFm b))], ofT 110 [(2, .box 1 0), (3, .box 2 0), (5, iv s.1)])) (fun s => a.rules.length - s.1) ⟨0, Nat.zero_le _, agK_zero _ _⟩ (wk_keep _ _ rfl (by kernel_rfl) (by kernel_rfl)) (fun s => ?_)
 obtain ⟨k, hk0, hs0⟩ := s
 show ETri J w0 (ofL [(1, .box 27 (cFm a)), (2, .box 27 (cFm b))]) (ofT 110 [(2, .box 1 0), (3, .box 2 0), (5, iv k)]) _
 refine tri_seq ?_
 refine tri_seq ?_
 by_cases hs5 : ((k : Nat) : Int) < ((a.rules.length : Nat) : Int)
 refine tri_region ?_
 refine t_op rfl (sp_move (.tmp 5) (iv k) rfl) ⟨I0, T0⟩ T0 T0 ?_
 refine t_op rfl (sp_fieldBox (off' := 9) (.tmp 2) rfl Tryd.underlying27 rfl (z := 1) (by kernel_rfl) (by decide) rfl) ⟨I0, T0⟩ T0 T0 ?_
 refine t_op rfl (sp_loadBox1 (Y := .box 27 (cFm a)) (X := slA 18 cRu a.rules) (.tmp 36) rfl Tryd.underlying25 rfl rfl) ⟨I0, T0⟩ ⟨rfl, T0⟩ T0 ?_
 refine t_op rfl (sp_lenSl (.tmp 37) rfl Tryd.underlying25) ⟨I0, T0⟩ T0 T0 ?_
 refine t_op rfl (sp_lss rfl (dT hs5)) ⟨I0, I0, T0⟩ T0 T0 ?_
 refine tri_nil ?_
 refine tri_wk (wk_keep [(1, .box 27 (cFm a)), (2, .box 27 (cFm b))] [(2, .box 1 0), (3, .box 2 0), (5, iv k), (39, bv true)] (n := 110)) ?_
 refine t_then ?_
 refine t_condT rfl ?_
 refine tri_skip ?_
 refine t_then ?_
 refine tri_seq ?_
 refine tri_block ?_
 refine tri_seq ?_
 by_cases hs6 : (a.rules[k].nm.toList == b.rules[k].nm.toList) = true
 by_cases hs7 : (samP a.rules[k] b.rules[k]) = true
 refine tri_draw [⟨[(.tmp 2, .box 1 0)], [], .box 1 9, .no⟩, ⟨[(.tmp 42, .box 1 9)], [(1, .box 27 (cFm a))], slA 18 cRu a.rules, .no⟩, ⟨[(.tmp 5, iv k)], [], iv k, .no⟩, ⟨[(.tmp 43, slA 18 cRu a.rules), (.tmp 44, iv k)], [], .el (a.rules.flatMap cRu) (k * 18), .no⟩, ⟨[(.tmp 45, .el (a.rules.flatMap cRu) (k * 18))], [], .el (a.rules.flatMap cRu) (k * 18), .no⟩, ⟨[(.tmp 46, .el (a.rules.flatMap cRu) (k * 18))], [], sv a.rules[k].nm, .no⟩, ⟨[(.tmp 3, .box 2 0)], [], .box 2 9, .no⟩, ⟨[(.tmp 48, .box 2 9)], [(2, .box 27 (cFm b))], slA 18 cRu b.rules, .no⟩, ⟨[(.tmp 5, iv k)], [], iv k, .no⟩, ⟨[(.tmp 49, slA 18 cRu b.rules), (.tmp 50, iv k)], [], .el (b.rules.flatMap cRu) (k * 18), .no⟩, ⟨[(.tmp 51, .el (b.rules.flatMap cRu) (k * 18))], [], .el (b.rules.flatMap cRu) (k * 18), .no⟩, ⟨[(.tmp 52, .el (b.rules.flatMap cRu) (k * 18))], [], sv b.rules[k].nm, .no⟩, ⟨[(.tmp 47, sv a.rules[k].nm), (.tmp 53, sv b.rules[k].nm)], [], bv false, .no⟩, ⟨[(.tmp 54, bv false)], [], bv false, .no⟩, ⟨[(.tmp 2, .box 1 0)], [], .box 1 9, .no⟩, ⟨[(.tmp 56, .box 1 9)], [(1, .box 27 (cFm a))], slA 18 cRu a.rules, .no⟩, ⟨[(.tmp 5, iv k)], [], iv k, .no⟩, ⟨[(.tmp 57, slA 18 cRu a.rules), (.tmp 58, iv k)], [], .el (a.rules.flatMap cRu) (k * 18), .no⟩, ⟨[(.tmp 59, .el (a.rules.flatMap cRu) (k * 18))], [], .agg (cRu a.rules[k]), .no⟩, ⟨[(.tmp 3, .box 2 0)], [], .box 2 9, .no⟩, ⟨[(.tmp 61, .box 2 9)], [(2, .box 27 (cFm b))], slA 18 cRu b.rules, .no⟩, ⟨[(.tmp 5, iv k)], [], iv k, .no⟩, ⟨[(.tmp 62, slA 18 cRu b.rules), (.tmp 63, iv k)], [], .el (b.rules.flatMap cRu) (k * 18), .no⟩, ⟨[(.tmp 64, .el (b.rules.flatMap cRu) (k * 18))], [], .agg (cRu b.rules[k]), .no⟩, ⟨[(.func 62, .v (.func (.func 62) #[] #[])), (.tmp 60, .agg (cRu a.rules[k])), (.tmp 65, .agg (cRu b.rules[k]))], [], bv true, .no⟩, ⟨[(.tmp 66, bv true)], [], bv false, .no⟩, ⟨[(.tmp 55, bv false), (.const (.bool true), bv true), (.tmp 67, bv false)], [], bv false, .no⟩] (by kernel_rfl) (by kernel_rfl) ?_
 refine ⟨app_yes rfl (sp_fieldBox (off' := 9) (.tmp 2) rfl Tryd.underlying27 rfl (z := 1) (by kernel_rfl) (by decide) rfl) ⟨I0, T0⟩ T0 T0, ?_⟩
 refine ⟨app_yes rfl (sp_loadBox1 (Y := .box 27 (cFm a)) (X := slA 18 cRu a.rules) (.tmp 42) rfl Tryd.underlying25 rfl rfl) ⟨I0, T0⟩ ⟨rfl, T0⟩ T0, ?_⟩
 refine ⟨app_yes rfl (sp_move (.tmp 5) (iv k) rfl) ⟨I0, T0⟩ T0 T0, ?_⟩
 refine ⟨app_yes rfl (sp_indexSl (off := k * 18) (.tmp 43) (.tmp 44) rfl Tryd.underlying25 (by kernel_rfl) (by omega) (by omega) rfl) ⟨I0, I0, T0⟩ T0 T0, ?_⟩
 refine ⟨app_yes rfl (sp_fieldEl (off' := k * 18) (.tmp 45) rfl Tryd.underlying76 rfl (z := 1) (by kernel_rfl) (by decide) rfl) ⟨I0, T0⟩ T0 T0, ?_⟩
 refine ⟨app_yes rfl (sp_loadEl1 (X := sv a.rules[k].nm) (.tmp 46) rfl Tryd.underlying9 rfl ((eflat_get lenRu a.rules k 0 (by omega) (by decide)).trans rfl)) ⟨I0, T0⟩ T0 T0, ?_⟩
 refine ⟨app_yes rfl (sp_fieldBox (off' := 9) (.tmp 3) rfl Tryd.underlying27 rfl (z := 1) (by kernel_rfl) (by decide) rfl) ⟨I0, T0⟩ T0 T0, ?_⟩
 refine ⟨app_yes rfl (sp_loadBox1 (Y := .box 27 (cFm b)) (X := slA 18 cRu b.rules) (.tmp 48) rfl Tryd.underlying25 rfl rfl) ⟨I0, T0⟩ ⟨rfl, T0⟩ T0, ?_⟩
 refine ⟨app_yes rfl (sp_move (.tmp 5) (iv k) rfl) ⟨I0, T0⟩ T0 T0, ?_⟩
 refine ⟨app_yes rfl (sp_indexSl (off := k * 18) (.tmp 49) (.tmp 50) rfl Tryd.underlying25 (by kernel_rfl) (by omega) (by omega) rfl) ⟨I0, I0, T0⟩ T0 T0, ?_⟩
 refine ⟨app_yes rfl (sp_fieldEl (off' := k * 18) (.tmp 51) rfl Tryd.underlying76 rfl (z := 1) (by kernel_rfl) (by decide) rfl) ⟨I0, T0⟩ T0 T0, ?_⟩
 refine ⟨app_yes rfl (sp_loadEl1 (X := sv b.rules[k].nm) (.tmp 52) rfl Tryd.underlying9 rfl ((eflat_get lenRu b.rules k 0 (by omega) (by decide)).trans rfl)) ⟨I0, T0⟩ T0 T0, ?_⟩
 refine ⟨app_yes rfl (sp_sneq (r := false) rfl hs6) ⟨I0, I0, T0⟩ T0 T0, ?_⟩
 refine ⟨app_yes rfl (sp_move (.tmp 54) (bv false) rfl) ⟨I0, T0⟩ T0 T0, ?_⟩
 refine ⟨app_yes rfl (sp_fieldBox (off' := 9) (.tmp 2) rfl Tryd.underlying27 rfl (z := 1) (by kernel_rfl) (by decide) rfl) ⟨I0, T0⟩ T0 T0, ?_⟩
 refine ⟨app_yes rfl (sp_loadBox1 (Y := .box 27 (cFm a)) (X := slA 18 cRu a.rules) (.tmp 56) rfl Tryd.underlying25 rfl rfl) ⟨I0, T0⟩ ⟨rfl, T0⟩ T0, ?_⟩
 refine ⟨app_yes rfl (sp_move (.tmp 5) (iv k) rfl) ⟨I0, T0⟩ T0 T0, ?_⟩
 refine ⟨app_yes rfl (sp_indexSl (off := k * 18) (.tmp 57) (.tmp 58) rfl Tryd.underlying25 (by kernel_rfl) (by omega) (by omega) rfl) ⟨I0, I0, T0⟩ T0 T0, ?_⟩
 refine ⟨app_yes rfl (sp_loadElS (z := 18) (.tmp 59) rfl Tryd.underlying76 rfl (by kernel_rfl) (flat_take lenRu a.rules k (by omega)) rfl) ⟨I0, T0⟩ T0 T0, ?_⟩
 refine ⟨app_yes rfl (sp_fieldBox (off' := 9) (.tmp 3) rfl Tryd.underlying27 rfl (z := 1) (by kernel_rfl) (by decide) rfl) ⟨I0, T0⟩ T0 T0, ?_⟩
 refine ⟨app_yes rfl (sp_loadBox1 (Y := .box 27 (cFm b)) (X := slA 18 cRu b.rules) (.tmp 61) rfl Tryd.underlying25 rfl rfl) ⟨I0, T0⟩ ⟨rfl, T0⟩ T0, ?_⟩
 refine ⟨app_yes rfl (sp_move (.tmp 5) (iv k) rfl) ⟨I0, T0⟩ T0 T0, ?_⟩
 refine ⟨app_yes rfl (sp_indexSl (off := k * 18) (.tmp 62) (.tmp 63) rfl Tryd.underlying25 (by kernel_rfl) (by omega) (by omega) rfl) ⟨I0, I0, T0⟩ T0 T0, ?_⟩
 refine ⟨app_yes rfl (sp_loadElS (z := 18) (.tmp 64) rfl Tryd.underlying76 rfl (by kernel_rfl) (flat_take lenRu b.rules k (by omega)) rfl) ⟨I0, T0⟩ T0 T0, ?_⟩
 refine ⟨app_yes rfl (sp_call (c := .func 62) (xs := #[.tmp 60, .tmp 65]) [] (ctr_b (sameButG (HA.rules a.rules[k] (List.getElem_mem (by omega))) (HB.rules b.rules[k] (List.getElem_mem (by omega)))) hs7) rfl (by kernel_rfl) rfl (Xs := [.agg (cRu a.rules[k]), .agg (cRu b.rules[k])]) rfl rfl rfl) ⟨I0, I0, I0, T0⟩ T0 T0, ?_⟩
 refine ⟨app_yes rfl (sp_not rfl rfl) ⟨I0, T0⟩ T0 T0, ?_⟩
 refine ⟨app_yes rfl (sp_pick (.tmp 55) (.const (.bool true)) (.tmp 67) false (bv true) (bv false) rfl) ⟨I0, I0, I0, T0⟩ T0 T0, ?_⟩
 show ETri J w0 _ _ _
 refine tri_wk (wk_keep [(1, .box 27 (cFm a)), (2, .box 27 (cFm b))] [(2, .box 1 0), (3, .box 2 0), (5, iv k), (39, bv true), (68, bv false)] (n := 110)) ?_
 refine t_then ?_
 refine t_condF rfl ?_
 refine tri_skip ?_
 refine t_block ?_
 refine t_then ?_
 refine tri_region ?_
 refine t_op rfl (sp_move (.tmp 5) (iv k) rfl) ⟨I0, T0⟩ T0 T0 ?_
 refine t_op rfl (sp_add (c := ((k + 1 : Nat) : Int)) rfl (w64 (by omega) (by omega) (by omega))) ⟨I0, I0, T0⟩ T0 T0 ?_
 refine t_op rfl (sp_assign (.tmp 41) (iv (k + 1 : Nat)) rfl) ⟨I0, T0⟩ T0 T0 ?_
 refine tri_nil ?_
 refine tri_wk (wk_keep [(1, .box 27 (cFm a)), (2, .box 27 (cFm b))] [(2, .box 1 0), (3, .box 2 0), (5, iv (k + 1 : Nat)), (39, bv true), (68, bv false)] (n := 110)) ?_
 refine t_then ?_
 refine tri_again ⟨k + 1, by omega, agK_succ (by omega) (by omega) hs0 ((rule_eq_iff _ _).2 ⟨str_eq.1 hs6, hs7⟩)⟩ (show a.rules.length - (k + 1) < a.rules.length - k by omega) ?_
 exact wk_keep _ _ rfl (by kernel_rfl) (by kernel_rfl)
 have hs7f : (samP a.rules[k] b.rules[k]) = false := by simpa using hs7
 refine tri_draw [⟨[(.tmp 2, .box 1 0)], [], .box 1 9, .no⟩, ⟨[(.tmp 42, .box 1 9)], [(1, .box 27 (cFm a))], slA 18 cRu a.rules, .no⟩, ⟨[(.tmp 5, iv k)], [], iv k, .no⟩, ⟨[(.tmp 43, slA 18 cRu a.rules), (.tmp 44, iv k)], [], .el (a.rules.flatMap cRu) (k * 18), .no⟩, ⟨[(.tmp 45, .el (a.rules.flatMap cRu) (k * 18))], [], .el (a.rules.flatMap cRu) (k * 18), .no⟩, ⟨[(.tmp 46, .el (a.rules.flatMap cRu) (k * 18))], [], sv a.rules[k].nm, .no⟩, ⟨[(.tmp 3, .box 2 0)], [], .box 2 9, .no⟩, ⟨[(.tmp 48, .box 2 9)], [(2, .box 27 (cFm b))], slA 18 cRu b.rules, .no⟩, ⟨[(.tmp 5, iv k)], [], iv k, .no⟩, ⟨[(.tmp 49, slA 18 cRu b.rules), (.tmp 50, iv k)], [], .el (b.rules.flatMap cRu) (k * 18), .no⟩, ⟨[(.tmp 51, .el (b.rules.flatMap cRu) (k * 18))], [], .el (b.rules.flatMap cRu) (k * 18), .no⟩, ⟨[(.tmp 52, .el (b.rules.flatMap cRu) (k * 18))], [], sv b.rules[k].nm, .no⟩, ⟨[(.tmp 47, sv a.rules[k].nm), (.tmp 53, sv b.rules[k].nm)], [], bv false, .no⟩, ⟨[(.tmp 54, bv false)], [], bv false, .no⟩, ⟨[(.tmp 2, .box 1 0)], [], .box 1 9, .no⟩, ⟨[(.tmp 56, .box 1 9)], [(1, .box 27 (cFm a))], slA 18 cRu a.rules, .no⟩, ⟨[(.tmp 5, iv k)], [], iv k, .no⟩, ⟨[(.tmp 57, slA 18 cRu a.rules), (.tmp 58, iv k)], [], .el (a.rules.flatMap cRu) (k * 18), .no⟩, ⟨[(.tmp 59, .el (a.rules.flatMap cRu) (k * 18))], [], .agg (cRu a.rules[k]), .no⟩, ⟨[(.tmp 3, .box 2 0)], [], .box 2 9, .no⟩, ⟨[(.tmp 61, .box 2 9)], [(2, .box 27 (cFm b))], slA 18 cRu b.rules, .no⟩, ⟨[(.tmp 5, iv k)], [], iv k, .no⟩, ⟨[(.tmp 62, slA 18 cRu b.rules), (.tmp 63, iv k)], [], .el (b.rules.flatMap cRu) (k * 18), .no⟩, ⟨[(.tmp 64, .el (b.rules.flatMap cRu) (k * 18))], [], .agg (cRu b.rules[k]), .no⟩, ⟨[(.func 62, .v (.func (.func 62) #[] #[])), (.tmp 60, .agg (cRu a.rules[k])), (.tmp 65, .agg (cRu b.rules[k]))], [], bv false, .no⟩, ⟨[(.tmp 66, bv false)], [], bv true, .no⟩, ⟨[(.tmp 55, bv false), (.const (.bool true), bv true), (.tmp 67, bv true)], [], bv true, .no⟩] (by kernel_rfl) (by kernel_rfl) ?_
 refine ⟨app_yes rfl (sp_fieldBox (off' := 9) (.tmp 2) rfl Tryd.underlying27 rfl (z := 1) (by kernel_rfl) (by decide) rfl) ⟨I0, T0⟩ T0 T0, ?_⟩
 refine ⟨app_yes rfl (sp_loadBox1 (Y := .box 27 (cFm a)) (X := slA 18 cRu a.rules) (.tmp 42) rfl Tryd.underlying25 rfl rfl) ⟨I0, T0⟩ ⟨rfl, T0⟩ T0, ?_⟩
 refine ⟨app_yes rfl (sp_move (.tmp 5) (iv k) rfl) ⟨I0, T0⟩ T0 T0, ?_⟩
 refine ⟨app_yes rfl (sp_indexSl (off := k * 18) (.tmp 43) (.tmp 44) rfl Tryd.underlying25 (by kernel_rfl) (by omega) (by omega) rfl) ⟨I0, I0, T0⟩ T0 T0, ?_⟩
 refine ⟨app_yes rfl (sp_fieldEl (off' := k * 18) (.tmp 45) rfl Tryd.underlying76 rfl (z := 1) (by kernel_rfl) (by decide) rfl) ⟨I0, T0⟩ T0 T0, ?_⟩
 refine ⟨app_yes rfl (sp_loadEl1 (X := sv a.rules[k].nm) (.tmp 46) rfl Tryd.underlying9 rfl ((eflat_get lenRu a.rules k 0 (by omega) (by decide)).trans rfl)) ⟨I0, T0⟩ T0 T0, ?_⟩
 refine ⟨app_yes rfl (sp_fieldBox (off' := 9) (.tmp 3) rfl Tryd.underlying27 rfl (z := 1) (by kernel_rfl) (by decide) rfl) ⟨I0, T0⟩ T0 T0, ?_⟩
 refine ⟨app_yes rfl (sp_loadBox1 (Y := .box 27 (cFm b)) (X := slA 18 cRu b.rules) (.tmp 48) rfl Tryd.underlying25 rfl rfl) ⟨I0, T0⟩ ⟨rfl, T0⟩ T0, ?_⟩
 refine ⟨app_yes rfl (sp_move (.tmp 5) (iv k) rfl) ⟨I0, T0⟩ T0 T0, ?_⟩
 refine ⟨app_yes rfl (sp_indexSl (off := k * 18) (.tmp 49) (.tmp 50) rfl Tryd.underlying25 (by kernel_rfl) (by omega) (by omega) rfl) ⟨I0, I0, T0⟩ T0 T0, ?_⟩
 refine ⟨app_yes rfl (sp_fieldEl (off' := k * 18) (.tmp 51) rfl Tryd.underlying76 rfl (z := 1) (by kernel_rfl) (by decide) rfl) ⟨I0, T0⟩ T0 T0, ?_⟩
 refine ⟨app_yes rfl (sp_loadEl1 (X := sv b.rules[k].nm) (.tmp 52) rfl Tryd.underlying9 rfl ((eflat_get lenRu b.rules k 0 (by omega) (by decide)).trans rfl)) ⟨I0, T0⟩ T0 T0, ?_⟩
 refine ⟨app_yes rfl (sp_sneq (r := false) rfl hs6) ⟨I0, I0, T0⟩ T0 T0, ?_⟩
 refine ⟨app_yes rfl (sp_move (.tmp 54) (bv false) rfl) ⟨I0, T0⟩ T0 T0, ?_⟩
 refine ⟨app_yes rfl (sp_fieldBox (off' := 9) (.tmp 2) rfl Tryd.underlying27 rfl (z := 1) (by kernel_rfl) (by decide) rfl) ⟨I0, T0⟩ T0 T0, ?_⟩
 refine ⟨app_yes rfl (sp_loadBox1 (Y := .box 27 (cFm a)) (X := slA 18 cRu a.rules) (.tmp 56) rfl Tryd.underlying25 rfl rfl) ⟨I0, T0⟩ ⟨rfl, T0⟩ T0, ?_⟩
 refine ⟨app_yes rfl (sp_move (.tmp 5) (iv k) rfl) ⟨I0, T0⟩ T0 T0, ?_⟩
 refine ⟨app_yes rfl (sp_indexSl (off := k * 18) (.tmp 57) (.tmp 58) rfl Tryd.underlying25 (by kernel_rfl) (by omega) (by omega) rfl) ⟨I0, I0, T0⟩ T0 T0, ?_⟩
 refine ⟨app_yes rfl (sp_loadElS (z := 18) (.tmp 59) rfl Tryd.underlying76 rfl (by kernel_rfl) (flat_take lenRu a.rules k (by omega)) rfl) ⟨I0, T0⟩ T0 T0, ?_⟩
 refine ⟨app_yes rfl (sp_fieldBox (off' := 9) (.tmp 3) rfl Tryd.underlying27 rfl (z := 1) (by kernel_rfl) (by decide) rfl) ⟨I0, T0⟩ T0 T0, ?_⟩
 refine ⟨app_yes rfl (sp_loadBox1 (Y := .box 27 (cFm b)) (X := slA 18 cRu b.rules) (.tmp 61) rfl Tryd.underlying25 rfl rfl) ⟨I0, T0⟩ ⟨rfl, T0⟩ T0, ?_⟩
 refine ⟨app_yes rfl (sp_move (.tmp 5) (iv k) rfl) ⟨I0, T0⟩ T0 T0, ?_⟩
 refine ⟨app_yes rfl (sp_indexSl (off := k * 18) (.tmp 62) (.tmp 63) rfl Tryd.underlying25 (by kernel_rfl) (by omega) (by omega) rfl) ⟨I0, I0, T0⟩ T0 T0, ?_⟩
 refine ⟨app_yes rfl (sp_loadElS (z := 18) (.tmp 64) rfl Tryd.underlying76 rfl (by kernel_rfl) (flat_take lenRu b.rules k (by omega)) rfl) ⟨I0, T0⟩ T0 T0, ?_⟩
 refine ⟨app_yes rfl (sp_call (c := .func 62) (xs := #[.tmp 60, .tmp 65]) [] (ctr_b (sameButG (HA.rules a.rules[k] (List.getElem_mem (by omega))) (HB.rules b.rules[k] (List.getElem_mem (by omega)))) hs7f) rfl (by kernel_rfl) rfl (Xs := [.agg (cRu a.rules[k]), .agg (cRu b.rules[k])]) rfl rfl rfl) ⟨I0, I0, I0, T0⟩ T0 T0, ?_⟩
 refine ⟨app_yes rfl (sp_not rfl rfl) ⟨I0, T0⟩ T0 T0, ?_⟩
 refine ⟨app_yes rfl (sp_pick (.tmp 55) (.const (.bool true)) (.tmp 67) false (bv true) (bv true) rfl) ⟨I0, I0, I0, T0⟩ T0 T0, ?_⟩
 show ETri J w0 _ _ _
 refine tri_wk (wk_keep [(1, .box 27 (cFm a)), (2, .box 27 (cFm b))] [(2, .box 1 0), (3, .box 2 0), (5, iv k), (39, bv true), (68, bv true)] (n := 110)) ?_
 refine t_then ?_
 refine t_condT rfl ?_
 refine tri_seq ?_
 refine tri_region ?_
 refine t_op rfl (sp_assign (.const (.bool false)) (bv false) rfl) ⟨I0, T0⟩ T0 T0 ?_
 refine tri_nil ?_
 refine tri_wk (wk_keep [(1, .box 27 (cFm a)), (2, .box 27 (cFm b))] [(2, .box 1 0), (3, .box 2 0), (4, bv false), (5, iv k), (39, bv true), (68, bv true)] (n := 110)) ?_
 refine t_then ?_
 refine tri_ret ?_
 refine t_block_ret ?_
 refine t_then_ret ?_
 refine t_then_ret ?_
 refine t_block_ret ?_
 refine t_cut_ret ?_
 refine t_then_ret ?_
 refine tri_end1 Tryd.results18 (.tmp rfl) ?_
 exact congrArg (fun x : Bool => AV.v (.bool x)) ((dec_f (fun h => congrArg Fm.rules h) (of_decide_eq_false (ag_no (k := k) (by omega) (by omega) (fun e => by have := ((rule_eq_iff _ _).1 e).2; rw [hs7f] at this; cases this)))).symm)
 have hs6f : (a.rules[k].nm.toList == b.rules[k].nm.toList) = false := by simpa using hs6
 refine tri_draw [⟨[(.tmp 2, .box 1 0)], [], .box 1 9, .no⟩, ⟨[(.tmp 42, .box 1 9)], [(1, .box 27 (cFm a))], slA 18 cRu a.rules, .no⟩, ⟨[(.tmp 5, iv k)], [], iv k, .no⟩, ⟨[(.tmp 43, slA 18 cRu a.rules), (.tmp 44, iv k)], [], .el (a.rules.flatMap cRu) (k * 18), .no⟩, ⟨[(.tmp 45, .el (a.rules.flatMap cRu) (k * 18))], [], .el (a.rules.flatMap cRu) (k * 18), .no⟩, ⟨[(.tmp 46, .el (a.rules.flatMap cRu) (k * 18))], [], sv a.rules[k].nm, .no⟩, ⟨[(.tmp 3, .box 2 0)], [], .box 2 9, .no⟩, ⟨[(.tmp 48, .box 2 9)], [(2, .box 27 (cFm b))], slA 18 cRu b.rules, .no⟩, ⟨[(.tmp 5, iv k)], [], iv k, .no⟩, ⟨[(.tmp 49, slA 18 cRu b.rules), (.tmp 50, iv k)], [], .el (b.rules.flatMap cRu) (k * 18), .no⟩, ⟨[(.tmp 51, .el (b.rules.flatMap cRu) (k * 18))], [], .el (b.rules.flatMap cRu) (k * 18), .no⟩, ⟨[(.tmp 52, .el (b.rules.flatMap cRu) (k * 18))], [], sv b.rules[k].nm, .no⟩, ⟨[(.tmp 47, sv a.rules[k].nm), (.tmp 53, sv b.rules[k].nm)], [], bv true, .no⟩, ⟨[(.tmp 54, bv true)], [], bv true, .no⟩, ⟨[], [], .v undef, .no⟩, ⟨[], [], .v undef, .no⟩, ⟨[], [], .v undef, .no⟩, ⟨[], [], .v undef, .no⟩, ⟨[], [], .v undef, .no⟩, ⟨[], [], .v undef, .no⟩, ⟨[], [], .v undef, .no⟩, ⟨[], [], .v undef, .no⟩, ⟨[], [], .v undef, .no⟩, ⟨[], [], .v undef, .no⟩, ⟨[], [], .v undef, .no⟩, ⟨[], [], .v undef, .no⟩, ⟨[(.tmp 55, bv true), (.const (.bool true), bv true), (.tmp 67, .v (.tuple #[]))], [], bv true, .no⟩] (by kernel_rfl) (by kernel_rfl) ?_
 refine ⟨app_yes rfl (sp_fieldBox (off' := 9) (.tmp 2) rfl Tryd.underlying27 rfl (z := 1) (by kernel_rfl) (by decide) rfl) ⟨I0, T0⟩ T0 T0, ?_⟩
 refine ⟨app_yes rfl (sp_loadBox1 (Y := .box 27 (cFm a)) (X := slA 18 cRu a.rules) (.tmp 42) rfl Tryd.underlying25 rfl rfl) ⟨I0, T0⟩ ⟨rfl, T0⟩ T0, ?_⟩
 refine ⟨app_yes rfl (sp_move (.tmp 5) (iv k) rfl) ⟨I0, T0⟩ T0 T0, ?_⟩
 refine ⟨app_yes rfl (sp_indexSl (off := k * 18) (.tmp 43) (.tmp 44) rfl Tryd.underlying25 (by kernel_rfl) (by omega) (by omega) rfl) ⟨I0, I0, T0⟩ T0 T0, ?_⟩
 refine ⟨app_yes rfl (sp_fieldEl (off' := k * 18) (.tmp 45) rfl Tryd.underlying76 rfl (z := 1) (by kernel_rfl) (by decide) rfl) ⟨I0, T0⟩ T0 T0, ?_⟩
 refine ⟨app_yes rfl (sp_loadEl1 (X := sv a.rules[k].nm) (.tmp 46) rfl Tryd.underlying9 rfl ((eflat_get lenRu a.rules k 0 (by omega) (by decide)).trans rfl)) ⟨I0, T0⟩ T0 T0, ?_⟩
 refine ⟨app_yes rfl (sp_fieldBox (off' := 9) (.tmp 3) rfl Tryd.underlying27 rfl (z := 1) (by kernel_rfl) (by decide) rfl) ⟨I0, T0⟩ T0 T0, ?_⟩
 refine ⟨app_yes rfl (sp_loadBox1 (Y := .box 27 (cFm b)) (X := slA 18 cRu b.rules) (.tmp 48) rfl Tryd.underlying25 rfl rfl) ⟨I0, T0⟩ ⟨rfl, T0⟩ T0, ?_⟩
 refine ⟨app_yes rfl (sp_move (.tmp 5) (iv k) rfl) ⟨I0, T0⟩ T0 T0, ?_⟩
 refine ⟨app_yes rfl (sp_indexSl (off := k * 18) (.tmp 49) (.tmp 50) rfl Tryd.underlying25 (by kernel_rfl) (by omega) (by omega) rfl) ⟨I0, I0, T0⟩ T0 T0, ?_⟩
 refine ⟨app_yes rfl (sp_fieldEl (off' := k * 18) (.tmp 51) rfl Tryd.underlying76 rfl (z := 1) (by kernel_rfl) (by decide) rfl) ⟨I0, T0⟩ T0 T0, ?_⟩
 refine ⟨app_yes rfl (sp_loadEl1 (X := sv b.rules[k].nm) (.tmp 52) rfl Tryd.underlying9 rfl ((eflat_get lenRu b.rules k 0 (by omega) (by decide)).trans rfl)) ⟨I0, T0⟩ T0 T0, ?_⟩
 refine ⟨app_yes rfl (sp_sneq (r := true) rfl hs6f) ⟨I0, I0, T0⟩ T0 T0, ?_⟩
 refine ⟨app_yes rfl (sp_move (.tmp 54) (bv true) rfl) ⟨I0, T0⟩ T0 T0, ?_⟩
 refine ⟨app_no rfl, ?_⟩
 refine ⟨app_no rfl, ?_⟩
 refine ⟨app_no rfl, ?_⟩
 refine ⟨app_no rfl, ?_⟩
 refine ⟨app_no rfl, ?_⟩
 refine ⟨app_no rfl, ?_⟩
 refine ⟨app_no rfl, ?_⟩
 refine ⟨app_no rfl, ?_⟩
 refine ⟨app_no rfl, ?_⟩
 refine ⟨app_no rfl, ?_⟩
 refine ⟨app_no rfl, ?_⟩
 refine ⟨app_no rfl, ?_⟩
 refine ⟨app_yes rfl (sp_pick (.tmp 55) (.const (.bool true)) (.tmp 67) true (bv true) (.v (.tuple #[])) rfl) ⟨I0, I0, I0, T0⟩ T0 T0, ?_⟩
 show ETri J w0 _ _ _
 refine tri_wk (wk_keep [(1, .box 27 (cFm a)), (2, .box 27 (cFm b))] [(2, .box 1 0), (3, .box 2 0), (5, iv k), (39, bv true), (68, bv true)] (n := 110)) ?_
 refine t_then ?_
 refine t_condT rfl ?_
 refine tri_seq ?_
 refine tri_region ?_
 refine t_op rfl (sp_assign (.const (.bool false)) (bv false) rfl) ⟨I0, T0⟩ T0 T0 ?_
 refine tri_nil ?_
 refine tri_wk (wk_keep [(1, .box 27 (cFm a)), (2, .box 27 (cFm b))] [(2, .box 1 0), (3, .box 2 0), (4, bv false), (5, iv k), (39, bv true), (68, bv true)] (n := 110)) ?_
 refine t_then ?_
 refine tri_ret ?_
 refine t_block_ret ?_
 refine t_then_ret ?_
 refine t_then_ret ?_
 refine t_block_ret ?_
 refine t_cut_ret ?_
 refine t_then_ret ?_
 refine tri_end1 Tryd.results18 (.tmp rfl) ?_
 exact congrArg (fun x : Bool => AV.v (.bool x)) ((dec_f (fun h => congrArg Fm.rules h) (of_decide_eq_false (ag_no (k := k) (by omega) (by omega) (fun e => str_ne hs6f (congrArg Ru.nm e))))).symm)
 refine tri_region ?_
 refine t_op rfl (sp_move (.tmp 5) (iv k) rfl) ⟨I0, T0⟩ T0 T0 ?_
 refine t_op rfl (sp_fieldBox (off' := 9) (.tmp 2) rfl Tryd.underlying27 rfl (z := 1) (by kernel_rfl) (by decide) rfl) ⟨I0, T0⟩ T0 T0 ?_
 refine t_op rfl (sp_loadBox1 (Y := .box 27 (cFm a)) (X := slA 18 cRu a.rules) (.tmp 36) rfl Tryd.underlying25 rfl rfl) ⟨I0, T0⟩ ⟨rfl, T0⟩ T0 ?_
 refine t_op rfl (sp_lenSl (.tmp 37) rfl Tryd.underlying25) ⟨I0, T0⟩ T0 T0 ?_
 refine t_op rfl (sp_lss rfl (dF hs5)) ⟨I0, I0, T0⟩ T0 T0 ?_
 refine tri_nil ?_
 refine tri_wk (wk_keep [(1, .box 27 (cFm a)), (2, .box 27 (cFm b))] [(2, .box 1 0), (3, .box 2 0), (5, iv k), (39, bv false)] (n := 110)) ?_
 refine t_then ?_
 refine t_condF rfl ?_
 refine tri_exit ?_
 refine t_then_exit ?_
 refine t_then_exit ?_
 refine t_hit ?_
 exact t_meet (ag_end hs4 (by omega) hs0) (wk_keep _ _ rfl (by kernel_rfl) (by kernel_rfl))
 refine t_then ?_
 refine tri_seq ?_
 by_cases hs8 : (decide (a.states = b.states)) = true
 by_cases hs9 : (decide (a.msgs = b.msgs)) = true
 refine tri_region ?_
 refine t_op rfl (sp_fieldBox (off' := 2) (.tmp 2) rfl Tryd.underlying27 rfl (z := 1) (by kernel_rfl) (by decide) rfl) ⟨I0, T0⟩ T0 T0 ?_
 refine t_op rfl (sp_loadBox1 (Y := .box 27 (cFm a)) (X := strsA a.states) (.tmp 69) rfl Tryd.underlying22 rfl rfl) ⟨I0, T0⟩ ⟨rfl, T0⟩ T0 ?_
 refine t_op rfl (sp_fieldBox (off' := 2) (.tmp 3) rfl Tryd.underlying27 rfl (z := 1) (by kernel_rfl) (by decide) rfl) ⟨I0, T0⟩ T0 T0 ?_
 refine t_op rfl (sp_loadBox1 (Y := .box 27 (cFm b)) (X := strsA b.states) (.tmp 71) rfl Tryd.underlying22 rfl rfl) ⟨I0, T0⟩ ⟨rfl, T0⟩ T0 ?_
 refine t_op rfl (sp_call (c := .func 63) (xs := #[.tmp 70, .tmp 72]) [] (ctr_b (sameTextsG a.states b.states HA.lstates HB.lstates) hs8) rfl (by kernel_rfl) rfl (Xs := [strsA a.states, strsA b.states]) rfl rfl rfl) ⟨I0, I0, I0, T0⟩ T0 T0 ?_
 refine t_op rfl (sp_move (.tmp 73) (bv true) rfl) ⟨I0, T0⟩ T0 T0 ?_
 refine t_opG rfl (sp_fieldBox (off' := 3) (.tmp 2) rfl Tryd.underlying27 rfl (z := 1) (by kernel_rfl) (by decide) rfl) ⟨I0, T0⟩ T0 T0 ?_
 refine t_opG rfl (sp_loadBox1 (Y := .box 27 (cFm a)) (X := strsA a.msgs) (.tmp 75) rfl Tryd.underlying22 rfl rfl) ⟨I0, T0⟩ ⟨rfl, T0⟩ T0 ?_
 refine t_opG rfl (sp_fieldBox (off' := 3) (.tmp 3) rfl Tryd.underlying27 rfl (z := 1) (by kernel_rfl) (by decide) rfl) ⟨I0, T0⟩ T0 T0 ?_
 refine t_opG rfl (sp_loadBox1 (Y := .box 27 (cFm b)) (X := strsA b.msgs) (.tmp 77) rfl Tryd.underlying22 rfl rfl) ⟨I0, T0⟩ ⟨rfl, T0⟩ T0 ?_
 refine t_opG rfl (sp_call (c := .func 63) (xs := #[.tmp 76, .tmp 78]) [] (ctr_b (sameTextsG a.msgs b.msgs HA.lmsgs HB.lmsgs) hs9) rfl (by kernel_rfl) rfl (Xs := [strsA a.msgs, strsA b.msgs]) rfl rfl rfl) ⟨I0, I0, I0, T0⟩ T0 T0 ?_
 refine t_op rfl (sp_pick (.tmp 74) (.tmp 79) (.const (.bool false)) true (bv true) (bv false) rfl) ⟨I0, I0, I0, T0⟩ T0 T0 ?_
 refine t_op rfl (sp_move (.tmp 80) (bv true) rfl) ⟨I0, T0⟩ T0 T0 ?_
 refine t_opG rfl (sp_fieldBox (off' := 4) (.tmp 2) rfl Tryd.underlying27 rfl (z := 1) (by kernel_rfl) (by decide) rfl) ⟨I0, T0⟩ T0 T0 ?_
 refine t_opG rfl (sp_loadBox1 (Y := .box 27 (cFm a)) (X := strsA a.vals) (.tmp 82) rfl Tryd.underlying22 rfl rfl) ⟨I0, T0⟩ ⟨rfl, T0⟩ T0 ?_
 refine t_opG rfl (sp_fieldBox (off' := 4) (.tmp 3) rfl Tryd.underlying27 rfl (z := 1) (by kernel_rfl) (by decide) rfl) ⟨I0, T0⟩ T0 T0 ?_
 refine t_opG rfl (sp_loadBox1 (Y := .box 27 (cFm b)) (X := strsA b.vals) (.tmp 84) rfl Tryd.underlying22 rfl rfl) ⟨I0, T0⟩ ⟨rfl, T0⟩ T0 ?_
 refine t_opG rfl (sp_call (c := .func 63) (xs := #[.tmp 83, .tmp 85]) [] (sameTextsG a.vals b.vals HA.lvals HB.lvals) rfl (by kernel_rfl) rfl (Xs := [strsA a.vals, strsA b.vals]) rfl rfl rfl) ⟨I0, I0, I0, T0⟩ T0 T0 ?_
 refine t_op rfl (sp_pick (.tmp 81) (.tmp 86) (.const (.bool false)) true (bv (decide (a.vals = b.vals))) (bv false) rfl) ⟨I0, I0, I0, T0⟩ T0 T0 ?_
 refine t_op rfl (sp_assign (.tmp 87) (bv (decide (a.vals = b.vals))) rfl) ⟨I0, T0⟩ T0 T0 ?_
 refine tri_nil ?_
 refine tri_wk (wk_keep [(1, .box 27 (cFm a)), (2, .box 27 (cFm b))] [(2, .box 1 0), (3, .box 2 0), (6, bv (decide (a.vals = b.vals)))] (n := 110)) ?_
 refine t_then ?_
 refine tri_seq ?_
 by_cases hs10 : (decide (a.vals = b.vals)) = true
 rw [hs10]
 refine tri_wk (wk_keep [(1, .box 27 (cFm a)), (2, .box 27 (cFm b))] [(2, .box 1 0), (3, .box 2 0), (6, bv true)] (n := 110)) ?_
 by_cases hs11 : (decide (a.res = b.res)) = true
 by_cases hs12 : (decide (a.init = b.init)) = true
 refine tri_region ?_
 refine t_op rfl (sp_move (.tmp 6) (bv true) rfl) ⟨I0, T0⟩ T0 T0 ?_
 refine t_op rfl (sp_move (.tmp 88) (bv true) rfl) ⟨I0, T0⟩ T0 T0 ?_
 refine t_opG rfl (sp_fieldBox (off' := 6) (.tmp 2) rfl Tryd.underlying27 rfl (z := 1) (by kernel_rfl) (by decide) rfl) ⟨I0, T0⟩ T0 T0 ?_
 refine t_opG rfl (sp_loadBox1 (Y := .box 27 (cFm a)) (X := slA 4 cLn a.res) (.tmp 90) rfl Tryd.underlying23 rfl rfl) ⟨I0, T0⟩ ⟨rfl, T0⟩ T0 ?_
 refine t_opG rfl (sp_fieldBox (off' := 6) (.tmp 3) rfl Tryd.underlying27 rfl (z := 1) (by kernel_rfl) (by decide) rfl) ⟨I0, T0⟩ T0 T0 ?_
 refine t_opG rfl (sp_loadBox1 (Y := .box 27 (cFm b)) (X := slA 4 cLn b.res) (.tmp 92) rfl Tryd.underlying23 rfl rfl) ⟨I0, T0⟩ ⟨rfl, T0⟩ T0 ?_
 refine t_opG rfl (sp_call (c := .func 64) (xs := #[.tmp 91, .tmp 93]) [] (ctr_b (sameLinearsG a.res b.res HA.lres HB.lres) hs11) rfl (by kernel_rfl) rfl (Xs := [slA 4 cLn a.res, slA 4 cLn b.res]) rfl rfl rfl) ⟨I0, I0, I0, T0⟩ T0 T0 ?_
 refine t_op rfl (sp_pick (.tmp 89) (.tmp 94) (.const (.bool false)) true (bv true) (bv false) rfl) ⟨I0, I0, I0, T0⟩ T0 T0 ?_
 refine t_op rfl (sp_move (.tmp 95) (bv true) rfl) ⟨I0, T0⟩ T0 T0 ?_
 refine t_opG rfl (sp_fieldBox (off' := 7) (.tmp 2) rfl Tryd.underlying27 rfl (z := 1) (by kernel_rfl) (by decide) rfl) ⟨I0, T0⟩ T0 T0 ?_
 refine t_opG rfl (sp_loadBox1 (Y := .box 27 (cFm a)) (X := intsA a.init) (.tmp 97) rfl Tryd.underlying24 rfl rfl) ⟨I0, T0⟩ ⟨rfl, T0⟩ T0 ?_
 refine t_opG rfl (sp_fieldBox (off' := 7) (.tmp 3) rfl Tryd.underlying27 rfl (z := 1) (by kernel_rfl) (by decide) rfl) ⟨I0, T0⟩ T0 T0 ?_
 refine t_opG rfl (sp_loadBox1 (Y := .box 27 (cFm b)) (X := intsA b.init) (.tmp 99) rfl Tryd.underlying24 rfl rfl) ⟨I0, T0⟩ ⟨rfl, T0⟩ T0 ?_
 refine t_opG rfl (sp_call (c := .func 35) (xs := #[.tmp 98, .tmp 100]) [] (ctr_b (sameIntsG a.init b.init HA.init HB.init) hs12) rfl (by kernel_rfl) rfl (Xs := [intsA a.init, intsA b.init]) rfl rfl rfl) ⟨I0, I0, I0, T0⟩ T0 T0 ?_
 refine t_op rfl (sp_pick (.tmp 96) (.tmp 101) (.const (.bool false)) true (bv true) (bv false) rfl) ⟨I0, I0, I0, T0⟩ T0 T0 ?_
 refine t_op rfl (sp_move (.tmp 102) (bv true) rfl) ⟨I0, T0⟩ T0 T0 ?_
 refine t_opG rfl (sp_fieldBox (off' := 8) (.tmp 2) rfl Tryd.underlying27 rfl (z := 1) (by kernel_rfl) (by decide) rfl) ⟨I0, T0⟩ T0 T0 ?_
 refine t_opG rfl (sp_loadBox1 (Y := .box 27 (cFm a)) (X := intsA a.leader) (.tmp 104) rfl Tryd.underlying24 rfl rfl) ⟨I0, T0⟩ ⟨rfl, T0⟩ T0 ?_
 refine t_opG rfl (sp_fieldBox (off' := 8) (.tmp 3) rfl Tryd.underlying27 rfl (z := 1) (by kernel_rfl) (by decide) rfl) ⟨I0, T0⟩ T0 T0 ?_
 refine t_opG rfl (sp_loadBox1 (Y := .box 27 (cFm b)) (X := intsA b.leader) (.tmp 106) rfl Tryd.underlying24 rfl rfl) ⟨I0, T0⟩ ⟨rfl, T0⟩ T0 ?_
 refine t_opG rfl (sp_call (c := .func 35) (xs := #[.tmp 105, .tmp 107]) [] (sameIntsG a.leader b.leader HA.leader HB.leader) rfl (by kernel_rfl) rfl (Xs := [intsA a.leader, intsA b.leader]) rfl rfl rfl) ⟨I0, I0, I0, T0⟩ T0 T0 ?_
 refine t_op rfl (sp_pick (.tmp 103) (.tmp 108) (.const (.bool false)) true (bv (decide (a.leader = b.leader))) (bv false) rfl) ⟨I0, I0, I0, T0⟩ T0 T0 ?_
 refine t_op rfl (sp_assign (.tmp 109) (bv (decide (a.leader = b.leader))) rfl) ⟨I0, T0⟩ T0 T0 ?_
 refine tri_nil ?_
 refine tri_wk (wk_keep [] [(4, bv (decide (a.leader = b.leader)))] (n := 110)) ?_
 refine t_then ?_
 refine tri_ret ?_
 refine tri_end1 Tryd.results18 (.tmp rfl) ?_
 exact congrArg (fun x : Bool => AV.v (.bool x)) (show decide (a.leader = b.leader) = decide (a = b) from Bool.eq_iff_iff.2 ⟨fun h => dec_t (fm_eq (str_eq.1 hs1) hs2 (of_decide_eq_true hs8) (of_decide_eq_true hs9) (of_decide_eq_true hs10) hs3 (of_decide_eq_true hs11) (of_decide_eq_true hs12) (of_decide_eq_true h) (of_decide_eq_true RQ)), fun h => dec_t (congrArg Fm.leader (of_decide_eq_true h))⟩)
 have hs12f : (decide (a.init = b.init)) = false := by simpa using hs12
 refine tri_region ?_
 refine t_op rfl (sp_move (.tmp 6) (bv true) rfl) ⟨I0, T0⟩ T0 T0 ?_
 refine t_op rfl (sp_move (.tmp 88) (bv true) rfl) ⟨I0, T0⟩ T0 T0 ?_
 refine t_opG rfl (sp_fieldBox (off' := 6) (.tmp 2) rfl Tryd.underlying27 rfl (z := 1) (by kernel_rfl) (by decide) rfl) ⟨I0, T0⟩ T0 T0 ?_
 refine t_opG rfl (sp_loadBox1 (Y := .box 27 (cFm a)) (X := slA 4 cLn a.res) (.tmp 90) rfl Tryd.underlying23 rfl rfl) ⟨I0, T0⟩ ⟨rfl, T0⟩ T0 ?_
 refine t_opG rfl (sp_fieldBox (off' := 6) (.tmp 3) rfl Tryd.underlying27 rfl (z := 1) (by kernel_rfl) (by decide) rfl) ⟨I0, T0⟩ T0 T0 ?_
 refine t_opG rfl (sp_loadBox1 (Y := .box 27 (cFm b)) (X := slA 4 cLn b.res) (.tmp 92) rfl Tryd.underlying23 rfl rfl) ⟨I0, T0⟩ ⟨rfl, T0⟩ T0 ?_
 refine t_opG rfl (sp_call (c := .func 64) (xs := #[.tmp 91, .tmp 93]) [] (ctr_b (sameLinearsG a.res b.res HA.lres HB.lres) hs11) rfl (by kernel_rfl) rfl (Xs := [slA 4 cLn a.res, slA 4 cLn b.res]) rfl rfl rfl) ⟨I0, I0, I0, T0⟩ T0 T0 ?_
 refine t_op rfl (sp_pick (.tmp 89) (.tmp 94) (.const (.bool false)) true (bv true) (bv false) rfl) ⟨I0, I0, I0, T0⟩ T0 T0 ?_
 refine t_op rfl (sp_move (.tmp 95) (bv true) rfl) ⟨I0, T0⟩ T0 T0 ?_
 refine t_opG rfl (sp_fieldBox (off' := 7) (.tmp 2) rfl Tryd.underlying27 rfl (z := 1) (by kernel_rfl) (by decide) rfl) ⟨I0, T0⟩ T0 T0 ?_
 refine t_opG rfl (sp_loadBox1 (Y := .box 27 (cFm a)) (X := intsA a.init) (.tmp 97) rfl Tryd.underlying24 rfl rfl) ⟨I0, T0⟩ ⟨rfl, T0⟩ T0 ?_
 refine t_opG rfl (sp_fieldBox (off' := 7) (.tmp 3) rfl Tryd.underlying27 rfl (z := 1) (by kernel_rfl) (by decide) rfl) ⟨I0, T0⟩ T0 T0 ?_
 refine t_opG rfl (sp_loadBox1 (Y := .box 27 (cFm b)) (X := intsA b.init) (.tmp 99) rfl Tryd.underlying24 rfl rfl) ⟨I0, T0⟩ ⟨rfl, T0⟩ T0 ?_
 refine t_opG rfl (sp_call (c := .func 35) (xs := #[.tmp 98, .tmp 100]) [] (ctr_b (sameIntsG a.init b.init HA.init HB.init) hs12f) rfl (by kernel_rfl) rfl (Xs := [intsA a.init, intsA b.init]) rfl rfl rfl) ⟨I0, I0, I0, T0⟩ T0 T0 ?_
 refine t_op rfl (sp_pick (.tmp 96) (.tmp 101) (.const (.bool false)) true (bv false) (bv false) rfl) ⟨I0, I0, I0, T0⟩ T0 T0 ?_
 refine t_op rfl (sp_move (.tmp 102) (bv false) rfl) ⟨I0, T0⟩ T0 T0 ?_
 refine t_skip rfl ?_
 refine t_skip rfl ?_
 refine t_skip rfl ?_
 refine t_skip rfl ?_
 refine t_skip rfl ?_
 refine t_op rfl (sp_pick (.tmp 103) (.tmp 108) (.const (.bool false)) false (.v (.tuple #[])) (bv false) rfl) ⟨I0, I0, I0, T0⟩ T0 T0 ?_
 refine t_op rfl (sp_assign (.tmp 109) (bv false) rfl) ⟨I0, T0⟩ T0 T0 ?_
 refine tri_nil ?_
 refine tri_wk (wk_keep [] [(4, bv false)] (n := 110)) ?_
 refine t_then ?_
 refine tri_ret ?_
 refine tri_end1 Tryd.results18 (.tmp rfl) ?_
 exact congrArg (fun x : Bool => AV.v (.bool x)) ((dec_f (fun h => congrArg Fm.init h) (of_decide_eq_false hs12f)).symm)
 have hs11f : (decide (a.res = b.res)) = false := by simpa using hs11
 refine tri_region ?_
 refine t_op rfl (sp_move (.tmp 6) (bv true) rfl) ⟨I0, T0⟩ T0 T0 ?_
 refine t_op rfl (sp_move (.tmp 88) (bv true) rfl) ⟨I0, T0⟩ T0 T0 ?_
 refine t_opG rfl (sp_fieldBox (off' := 6) (.tmp 2) rfl Tryd.underlying27 rfl (z := 1) (by kernel_rfl) (by decide) rfl) ⟨I0, T0⟩ T0 T0 ?_
 refine t_opG rfl (sp_loadBox1 (Y := .box 27 (cFm a)) (X := slA 4 cLn a.res) (.tmp 90) rfl Tryd.underlying23 rfl rfl) ⟨I0, T0⟩ ⟨rfl, T0⟩ T0 ?_
 refine t_opG rfl (sp_fieldBox (off' := 6) (.tmp 3) rfl Tryd.underlying27 rfl (z := 1) (by kernel_rfl) (by decide) rfl) ⟨I0, T0⟩ T0 T0 ?_
 refine t_opG rfl (sp_loadBox1 (Y := .box 27 (cFm b)) (X := slA 4 cLn b.res) (.tmp 92) rfl Tryd.underlying23 rfl rfl) ⟨I0, T0⟩ ⟨rfl, T0⟩ T0 ?_
 refine t_opG rfl (sp_call (c := .func 64) (xs := #[.tmp 91, .tmp 93]) [] (ctr_b (sameLinearsG a.res b.res HA.lres HB.lres) hs11f) rfl (by kernel_rfl) rfl (Xs := [slA 4 cLn a.res, slA 4 cLn b.res]) rfl rfl rfl) ⟨I0, I0, I0, T0⟩ T0 T0 ?_
 refine t_op rfl (sp_pick (.tmp 89) (.tmp 94) (.const (.bool false)) true (bv false) (bv false) rfl) ⟨I0, I0, I0, T0⟩ T0 T0 ?_
 refine t_op rfl (sp_move (.tmp 95) (bv false) rfl) ⟨I0, T0⟩ T0 T0 ?_
 refine t_skip rfl ?_
 refine t_skip rfl ?_
 refine t_skip rfl ?_
 refine t_skip rfl ?_
 refine t_skip rfl ?_
 refine t_op rfl (sp_pick (.tmp 96) (.tmp 101) (.const (.bool false)) false (.v (.tuple #[])) (bv false) rfl) ⟨I0, I0, I0, T0⟩ T0 T0 ?_
 refine t_op rfl (sp_move (.tmp 102) (bv false) rfl) ⟨I0, T0⟩ T0 T0 ?_
 refine t_skip rfl ?_
 refine t_skip rfl ?_
 refine t_skip rfl ?_
 refine t_skip rfl ?_
 refine t_skip rfl ?_
 refine t_op rfl (sp_pick (.tmp 103) (.tmp 108) (.const (.bool false)) false (.v (.tuple #[])) (bv false) rfl) ⟨I0, I0, I0, T0⟩ T0 T0 ?_
 refine t_op rfl (sp_assign (.tmp 109) (bv false) rfl) ⟨I0, T0⟩ T0 T0 ?_
 refine tri_nil ?_
 refine tri_wk (wk_keep [] [(4, bv false)] (n := 110)) ?_
 refine t_then ?_
 refine tri_ret ?_
 refine tri_end1 Tryd.results18 (.tmp rfl) ?_
 exact congrArg (fun x : Bool => AV.v (.bool x)) ((dec_f (fun h => congrArg Fm.res h) (of_decide_eq_false hs11f)).symm)
 have hs10f : (decide (a.vals = b.vals)) = false := by simpa using hs10
 rw [hs10f]
 refine tri_wk (wk_keep [(1, .box 27 (cFm a)), (2, .box 27 (cFm b))] [(2, .box 1 0), (3, .box 2 0), (6, bv false)] (n := 110)) ?_
 refine tri_region ?_
 refine t_op rfl (sp_move (.tmp 6) (bv false) rfl) ⟨I0, T0⟩ T0 T0 ?_
 refine t_op rfl (sp_move (.tmp 88) (bv false) rfl) ⟨I0, T0⟩ T0 T0 ?_
 refine t_skip rfl ?_
 refine t_skip rfl ?_
 refine t_skip rfl ?_
 refine t_skip rfl ?_
 refine t_skip rfl ?_
 refine t_op rfl (sp_pick (.tmp 89) (.tmp 94) (.const (.bool false)) false (.v (.tuple #[])) (bv false) rfl) ⟨I0, I0, I0, T0⟩ T0 T0 ?_
 refine t_op rfl (sp_move (.tmp 95) (bv false) rfl) ⟨I0, T0⟩ T0 T0 ?_
 refine t_skip rfl ?_
 refine t_skip rfl ?_
 refine t_skip rfl ?_
 refine t_skip rfl ?_
 refine t_skip rfl ?_
 refine t_op rfl (sp_pick (.tmp 96) (.tmp 101) (.const (.bool false)) false (.v (.tuple #[])) (bv false) rfl) ⟨I0, I0, I0, T0⟩ T0 T0 ?_
 refine t_op rfl (sp_move (.tmp 102) (bv false) rfl) ⟨I0, T0⟩ T0 T0 ?_
 refine t_skip rfl ?_
 refine t_skip rfl ?_
 refine t_skip rfl ?_
 refine t_skip rfl ?_
 refine t_skip rfl ?_
 refine t_op rfl (sp_pick (.tmp 103) (.tmp 108) (.const (.bool false)) false (.v (.tuple #[])) (bv false) rfl) ⟨I0, I0, I0, T0⟩ T0 T0 ?_
 refine t_op rfl (sp_assign (.tmp 109) (bv false) rfl) ⟨I0, T0⟩ T0 T0 ?_
 refine tri_nil ?_
 refine tri_wk (wk_keep [] [(4, bv false)] (n := 110)) ?_
 refine t_then ?_
 refine tri_ret ?_
 refine tri_end1 Tryd.results18 (.tmp rfl) ?_
 exact congrArg (fun x : Bool => AV.v (.bool x)) ((dec_f (fun h => congrArg Fm.vals h) (of_decide_eq_false hs10f)).symm)
 have hs9f : (decide (a.msgs = b.msgs)) = false := by simpa using hs9
 refine tri_region ?_
 refine t_op rfl (sp_fieldBox (off' := 2) (.tmp 2) rfl Tryd.underlying27 rfl (z := 1) (by kernel_rfl) (by decide) rfl) ⟨I0, T0⟩ T0 T0 ?_
 refine t_op rfl (sp_loadBox1 (Y := .box 27 (cFm a)) (X := strsA a.states) (.tmp 69) rfl Tryd.underlying22 rfl rfl) ⟨I0, T0⟩ ⟨rfl, T0⟩ T0 ?_
 refine t_op rfl (sp_fieldBox (off' := 2) (.tmp 3) rfl Tryd.underlying27 rfl (z := 1) (by kernel_rfl) (by decide) rfl) ⟨I0, T0⟩ T0 T0 ?_
 refine t_op rfl (sp_loadBox1 (Y := .box 27 (cFm b)) (X := strsA b.states) (.tmp 71) rfl Tryd.underlying22 rfl rfl) ⟨I0, T0⟩ ⟨rfl, T0⟩ T0 ?_
 refine t_op rfl (sp_call (c := .func 63) (xs := #[.tmp 70, .tmp 72]) [] (ctr_b (sameTextsG a.states b.states HA.lstates HB.lstates) hs8) rfl (by kernel_rfl) rfl (Xs := [strsA a.states, strsA b.states]) rfl rfl rfl) ⟨I0, I0, I0, T0⟩ T0 T0 ?_
 refine t_op rfl (sp_move (.tmp 73) (bv true) rfl) ⟨I0, T0⟩ T0 T0 ?_
 refine t_opG rfl (sp_fieldBox (off' := 3) (.tmp 2) rfl Tryd.underlying27 rfl (z := 1) (by kernel_rfl) (by decide) rfl) ⟨I0, T0⟩ T0 T0 ?_
 refine t_opG rfl (sp_loadBox1 (Y := .box 27 (cFm a)) (X := strsA a.msgs) (.tmp 75) rfl Tryd.underlying22 rfl rfl) ⟨I0, T0⟩ ⟨rfl, T0⟩ T0 ?_
 refine t_opG rfl (sp_fieldBox (off' := 3) (.tmp 3) rfl Tryd.underlying27 rfl (z := 1) (by kernel_rfl) (by decide) rfl) ⟨I0, T0⟩ T0 T0 ?_
 refine t_opG rfl (sp_loadBox1 (Y := .box 27 (cFm b)) (X := strsA b.msgs) (.tmp 77) rfl Tryd.underlying22 rfl rfl) ⟨I0, T0⟩ ⟨rfl, T0⟩ T0 ?_
 refine t_opG rfl (sp_call (c := .func 63) (xs := #[.tmp 76, .tmp 78]) [] (ctr_b (sameTextsG a.msgs b.msgs HA.lmsgs HB.lmsgs) hs9f) rfl (by kernel_rfl) rfl (Xs := [strsA a.msgs, strsA b.msgs]) rfl rfl rfl) ⟨I0, I0, I0, T0⟩ T0 T0 ?_
 refine t_op rfl (sp_pick (.tmp 74) (.tmp 79) (.const (.bool false)) true (bv false) (bv false) rfl) ⟨I0, I0, I0, T0⟩ T0 T0 ?_
 refine t_op rfl (sp_move (.tmp 80) (bv false) rfl) ⟨I0, T0⟩ T0 T0 ?_
 refine t_skip rfl ?_
 refine t_skip rfl ?_
 refine t_skip rfl ?_
 refine t_skip rfl ?_
 refine t_skip rfl ?_
 refine t_op rfl (sp_pick (.tmp 81) (.tmp 86) (.const (.bool false)) false (.v (.tuple #[])) (bv false) rfl) ⟨I0, I0, I0, T0⟩ T0 T0 ?_
 refine t_op rfl (sp_assign (.tmp 87) (bv false) rfl) ⟨I0, T0⟩ T0 T0 ?_
 refine tri_nil ?_
 refine tri_wk (wk_keep [(1, .box 27 (cFm a)), (2, .box 27 (cFm b))] [(2, .box 1 0), (3, .box 2 0), (6, bv false)] (n := 110)) ?_
 refine t_then ?_
 refine tri_seq ?_
 refine tri_region ?_
 refine t_op rfl (sp_move (.tmp 6) (bv false) rfl) ⟨I0, T0⟩ T0 T0 ?_
 refine t_op rfl (sp_move (.tmp 88) (bv false) rfl) ⟨I0, T0⟩ T0 T0 ?_
 refine t_skip rfl ?_
 refine t_skip rfl ?_
 refine t_skip rfl ?_
 refine t_skip rfl ?_
 refine t_skip rfl ?_
 refine t_op rfl (sp_pick (.tmp 89) (.tmp 94) (.const (.bool false)) false (.v (.tuple #[])) (bv false) rfl) ⟨I0, I0, I0, T0⟩ T0 T0 ?_
 refine t_op rfl (sp_move (.tmp 95) (bv false) rfl) ⟨I0, T0⟩ T0 T0 ?_
 refine t_skip rfl ?_
 refine t_skip rfl ?_
 refine t_skip rfl ?_
 refine t_skip rfl ?_
 refine t_skip rfl ?_
 refine t_op rfl (sp_pick (.tmp 96) (.tmp 101) (.const (.bool false)) false (.v (.tuple #[])) (bv false) rfl) ⟨I0, I0, I0, T0⟩ T0 T0 ?_
 refine t_op rfl (sp_move (.tmp 102) (bv false) rfl) ⟨I0, T0⟩ T0 T0 ?_
 refine t_skip rfl ?_
 refine t_skip rfl ?_
 refine t_skip rfl ?_
 refine t_skip rfl ?_
 refine t_skip rfl ?_
 refine t_op rfl (sp_pick (.tmp 103) (.tmp 108) (.const (.bool false)) false (.v (.tuple #[])) (bv false) rfl) ⟨I0, I0, I0, T0⟩ T0 T0 ?_
 refine t_op rfl (sp_assign (.tmp 109) (bv false) rfl) ⟨I0, T0⟩ T0 T0 ?_
 refine tri_nil ?_
 refine tri_wk (wk_keep [] [(4, bv false)] (n := 110)) ?_
 refine t_then ?_
 refine tri_ret ?_
 refine tri_end1 Tryd.results18 (.tmp rfl) ?_
 exact congrArg (fun x : Bool => AV.v (.bool x)) ((dec_f (fun h => congrArg Fm.msgs h) (of_decide_eq_false hs9f)).symm)
 have hs8f : (decide (a.states = b.states)) = false := by simpa using hs8
 refine tri_region ?_
 refine t_op rfl (sp_fieldBox (off' := 2) (.tmp 2) rfl Tryd.underlying27 rfl (z := 1) (by kernel_rfl) (by decide) rfl) ⟨I0, T0⟩ T0 T0 ?_
 refine t_op rfl (sp_loadBox1 (Y := .box 27 (cFm a)) (X := strsA a.states) (.tmp 69) rfl Tryd.underlying22 rfl rfl) ⟨I0, T0⟩ ⟨rfl, T0⟩ T0 ?_
 refine t_op rfl (sp_fieldBox (off' := 2) (.tmp 3) rfl Tryd.underlying27 rfl (z := 1) (by kernel_rfl) (by decide) rfl) ⟨I0, T0⟩ T0 T0 ?_
 refine t_op rfl (sp_loadBox1 (Y := .box 27 (cFm b)) (X := strsA b.states) (.tmp 71) rfl Tryd.underlying22 rfl rfl) ⟨I0, T0⟩ ⟨rfl, T0⟩ T0 ?_
 refine t_op rfl (sp_call (c := .func 63) (xs := #[.tmp 70, .tmp 72]) [] (ctr_b (sameTextsG a.states b.states HA.lstates HB.lstates) hs8f) rfl (by kernel_rfl) rfl (Xs := [strsA a.states, strsA b.states]) rfl rfl rfl) ⟨I0, I0, I0, T0⟩ T0 T0 ?_
 refine t_op rfl (sp_move (.tmp 73) (bv false) rfl) ⟨I0, T0⟩ T0 T0 ?_
 refine t_skip rfl ?_
 refine t_skip rfl ?_
 refine t_skip rfl ?_
 refine t_skip rfl ?_
 refine t_skip rfl ?_
 refine t_op rfl (sp_pick (.tmp 74) (.tmp 79) (.const (.bool false)) false (.v (.tuple #[])) (bv false) rfl) ⟨I0, I0, I0, T0⟩ T0 T0 ?_
 refine t_op rfl (sp_move (.tmp 80) (bv false) rfl) ⟨I0, T0⟩ T0 T0 ?_
 refine t_skip rfl ?_
 refine t_skip rfl ?_
 refine t_skip rfl ?_
 refine t_skip rfl ?_
 refine t_skip rfl ?_
 refine t_op rfl (sp_pick (.tmp 81) (.tmp 86) (.const (.bool false)) false (.v (.tuple #[])) (bv false) rfl) ⟨I0, I0, I0, T0⟩ T0 T0 ?_
 refine t_op rfl (sp_assign (.tmp 87) (bv false) rfl) ⟨I0, T0⟩ T0 T0 ?_
 refine tri_nil ?_
 refine tri_wk (wk_keep [(1, .box 27 (cFm a)), (2, .box 27 (cFm b))] [(2, .box 1 0), (3, .box 2 0), (6, bv false)] (n := 110)) ?_
 refine t_then ?_
 refine tri_seq ?_
 refine tri_region ?_
 refine t_op rfl (sp_move (.tmp 6) (bv false) rfl) ⟨I0, T0⟩ T0 T0 ?_
 refine t_op rfl (sp_move (.tmp 88) (bv false) rfl) ⟨I0, T0⟩ T0 T0 ?_
 refine t_skip rfl ?_
 refine t_skip rfl ?_
 refine t_skip rfl ?_
 refine t_skip rfl ?_
 refine t_skip rfl ?_
 refine t_op rfl (sp_pick (.tmp 89) (.tmp 94) (.const (.bool false)) false (.v (.tuple #[])) (bv false) rfl) ⟨I0, I0, I0, T0⟩ T0 T0 ?_
 refine t_op rfl (sp_move (.tmp 95) (bv false) rfl) ⟨I0, T0⟩ T0 T0 ?_
 refine t_skip rfl ?_
 refine t_skip rfl ?_
 refine t_skip rfl ?_
 refine t_skip rfl ?_
 refine t_skip rfl ?_
 refine t_op rfl (sp_pick (.tmp 96) (.tmp 101) (.const (.bool false)) false (.v (.tuple #[])) (bv false) rfl) ⟨I0, I0, I0, T0⟩ T0 T0 ?_
 refine t_op rfl (sp_move (.tmp 102) (bv false) rfl) ⟨I0, T0⟩ T0 T0 ?_
 refine t_skip rfl ?_
 refine t_skip rfl ?_
 refine t_skip rfl ?_
 refine t_skip rfl ?_
 refine t_skip rfl ?_
 refine t_op rfl (sp_pick (.tmp 103) (.tmp 108) (.const (.bool false)) false (.v (.tuple #[])) (bv false) rfl) ⟨I0, I0, I0, T0⟩ T0 T0 ?_
 refine t_op rfl (sp_assign (.tmp 109) (bv false) rfl) ⟨I0, T0⟩ T0 T0 ?_
 refine tri_nil ?_
 refine tri_wk (wk_keep [] [(4, bv false)] (n := 110)) ?_
 refine t_then ?_
 refine tri_ret ?_
 refine tri_end1 Tryd.results18 (.tmp rfl) ?_
 exact congrArg (fun x : Bool => AV.v (.bool x)) ((dec_f (fun h => congrArg Fm.states h) (of_decide_eq_false hs8f)).symm)
 refine tri_region ?_
 refine t_op rfl (sp_fieldBox (off' := 0) (.tmp 2) rfl Tryd.underlying27 rfl (z := 1) (by kernel_rfl) (by decide) rfl) ⟨I0, T0⟩ T0 T0 ?_
 refine t_op rfl (sp_loadBox1 (Y := .box 27 (cFm a)) (X := sv a.nm) (.tmp 7) rfl Tryd.underlying9 rfl rfl) ⟨I0, T0⟩ ⟨rfl, T0⟩ T0 ?_
 refine t_op rfl (sp_fieldBox (off' := 0) (.tmp 3) rfl Tryd.underlying27 rfl (z := 1) (by kernel_rfl) (by decide) rfl) ⟨I0, T0⟩ T0 T0 ?_
 refine t_op rfl (sp_loadBox1 (Y := .box 27 (cFm b)) (X := sv b.nm) (.tmp 9) rfl Tryd.underlying9 rfl rfl) ⟨I0, T0⟩ ⟨rfl, T0⟩ T0 ?_
 refine t_op rfl (sp_sneq (r := false) rfl hs1) ⟨I0, I0, T0⟩ T0 T0 ?_
 refine t_op rfl (sp_move (.tmp 11) (bv false) rfl) ⟨I0, T0⟩ T0 T0 ?_
 refine t_opG rfl (sp_fieldBox (off' := 1) (.tmp 2) rfl Tryd.underlying27 rfl (z := 1) (by kernel_rfl) (by decide) rfl) ⟨I0, T0⟩ T0 T0 ?_
 refine t_opG rfl (sp_loadBox1 (Y := .box 27 (cFm a)) (X := iv a.top) (.tmp 13) rfl Tryd.underlying3 rfl rfl) ⟨I0, T0⟩ ⟨rfl, T0⟩ T0 ?_
 refine t_opG rfl (sp_fieldBox (off' := 1) (.tmp 3) rfl Tryd.underlying27 rfl (z := 1) (by kernel_rfl) (by decide) rfl) ⟨I0, T0⟩ T0 T0 ?_
 refine t_opG rfl (sp_loadBox1 (Y := .box 27 (cFm b)) (X := iv b.top) (.tmp 15) rfl Tryd.underlying3 rfl rfl) ⟨I0, T0⟩ ⟨rfl, T0⟩ T0 ?_
 refine t_opG rfl (sp_neq rfl (dT' hs2)) ⟨I0, I0, T0⟩ T0 T0 ?_
 refine t_op rfl (sp_pick (.tmp 12) (.const (.bool true)) (.tmp 17) false (bv true) (bv false) rfl) ⟨I0, I0, I0, T0⟩ T0 T0 ?_
 refine t_op rfl (sp_move (.tmp 18) (bv false) rfl) ⟨I0, T0⟩ T0 T0 ?_
 refine t_opG rfl (sp_fieldBox (off' := 5) (.tmp 2) rfl Tryd.underlying27 rfl (z := 1) (by kernel_rfl) (by decide) rfl) ⟨I0, T0⟩ T0 T0 ?_
 refine t_opG rfl (sp_loadBox1 (Y := .box 27 (cFm a)) (X := iv a.fault) (.tmp 20) rfl Tryd.underlying3 rfl rfl) ⟨I0, T0⟩ ⟨rfl, T0⟩ T0 ?_
 refine t_opG rfl (sp_fieldBox (off' := 5) (.tmp 3) rfl Tryd.underlying27 rfl (z := 1) (by kernel_rfl) (by decide) rfl) ⟨I0, T0⟩ T0 T0 ?_
 refine t_opG rfl (sp_loadBox1 (Y := .box 27 (cFm b)) (X := iv b.fault) (.tmp 22) rfl Tryd.underlying3 rfl rfl) ⟨I0, T0⟩ ⟨rfl, T0⟩ T0 ?_
 refine t_opG rfl (sp_neq rfl (dT' hs3)) ⟨I0, I0, T0⟩ T0 T0 ?_
 refine t_op rfl (sp_pick (.tmp 19) (.const (.bool true)) (.tmp 24) false (bv true) (bv false) rfl) ⟨I0, I0, I0, T0⟩ T0 T0 ?_
 refine t_op rfl (sp_move (.tmp 25) (bv false) rfl) ⟨I0, T0⟩ T0 T0 ?_
 refine t_opG rfl (sp_fieldBox (off' := 9) (.tmp 2) rfl Tryd.underlying27 rfl (z := 1) (by kernel_rfl) (by decide) rfl) ⟨I0, T0⟩ T0 T0 ?_
 refine t_opG rfl (sp_loadBox1 (Y := .box 27 (cFm a)) (X := slA 18 cRu a.rules) (.tmp 27) rfl Tryd.underlying25 rfl rfl) ⟨I0, T0⟩ ⟨rfl, T0⟩ T0 ?_
 refine t_opG rfl (sp_lenSl (.tmp 28) rfl Tryd.underlying25) ⟨I0, T0⟩ T0 T0 ?_
 refine t_opG rfl (sp_fieldBox (off' := 9) (.tmp 3) rfl Tryd.underlying27 rfl (z := 1) (by kernel_rfl) (by decide) rfl) ⟨I0, T0⟩ T0 T0 ?_
 refine t_opG rfl (sp_loadBox1 (Y := .box 27 (cFm b)) (X := slA 18 cRu b.rules) (.tmp 30) rfl Tryd.underlying25 rfl rfl) ⟨I0, T0⟩ ⟨rfl, T0⟩ T0 ?_
 refine t_opG rfl (sp_lenSl (.tmp 31) rfl Tryd.underlying25) ⟨I0, T0⟩ T0 T0 ?_
 refine t_opG rfl (sp_neq rfl (dF' hs4)) ⟨I0, I0, T0⟩ T0 T0 ?_
 refine t_op rfl (sp_pick (.tmp 26) (.const (.bool true)) (.tmp 33) false (bv true) (bv true) rfl) ⟨I0, I0, I0, T0⟩ T0 T0 ?_
 refine tri_nil ?_
 refine tri_wk (wk_keep [(1, .box 27 (cFm a)), (2, .box 27 (cFm b))] [(2, .box 1 0), (3, .box 2 0), (4, bv false), (34, bv true)] (n := 110)) ?_
 refine t_then ?_
 refine t_condT rfl ?_
 refine tri_seq ?_
 refine tri_region ?_
 refine t_op rfl (sp_assign (.const (.bool false)) (bv false) rfl) ⟨I0, T0⟩ T0 T0 ?_
 refine tri_nil ?_
 refine tri_wk (wk_keep [(1, .box 27 (cFm a)), (2, .box 27 (cFm b))] [(2, .box 1 0), (3, .box 2 0), (4, bv false)] (n := 110)) ?_
 refine t_then ?_
 refine tri_ret ?_
 refine t_then_ret ?_
 refine tri_end1 Tryd.results18 (.tmp rfl) ?_
 exact congrArg (fun x : Bool => AV.v (.bool x)) ((dec_f (fun h => congrArg (fun x : Fm => ((x.rules.length : Nat) : Int)) h) hs4).symm)
 refine tri_region ?_
 refine t_op rfl (sp_fieldBox (off' := 0) (.tmp 2) rfl Tryd.underlying27 rfl (z := 1) (by kernel_rfl) (by decide) rfl) ⟨I0, T0⟩ T0 T0 ?_
 refine t_op rfl (sp_loadBox1 (Y := .box 27 (cFm a)) (X := sv a.nm) (.tmp 7) rfl Tryd.underlying9 rfl rfl) ⟨I0, T0⟩ ⟨rfl, T0⟩ T0 ?_
 refine t_op rfl (sp_fieldBox (off' := 0) (.tmp 3) rfl Tryd.underlying27 rfl (z := 1) (by kernel_rfl) (by decide) rfl) ⟨I0, T0⟩ T0 T0 ?_
 refine t_op rfl (sp_loadBox1 (Y := .box 27 (cFm b)) (X := sv b.nm) (.tmp 9) rfl Tryd.underlying9 rfl rfl) ⟨I0, T0⟩ ⟨rfl, T0⟩ T0 ?_
 refine t_op rfl (sp_sneq (r := false) rfl hs1) ⟨I0, I0, T0⟩ T0 T0 ?_
 refine t_op rfl (sp_move (.tmp 11) (bv false) rfl) ⟨I0, T0⟩ T0 T0 ?_
 refine t_opG rfl (sp_fieldBox (off' := 1) (.tmp 2) rfl Tryd.underlying27 rfl (z := 1) (by kernel_rfl) (by decide) rfl) ⟨I0, T0⟩ T0 T0 ?_
 refine t_opG rfl (sp_loadBox1 (Y := .box 27 (cFm a)) (X := iv a.top) (.tmp 13) rfl Tryd.underlying3 rfl rfl) ⟨I0, T0⟩ ⟨rfl, T0⟩ T0 ?_
 refine t_opG rfl (sp_fieldBox (off' := 1) (.tmp 3) rfl Tryd.underlying27 rfl (z := 1) (by kernel_rfl) (by decide) rfl) ⟨I0, T0⟩ T0 T0 ?_
 refine t_opG rfl (sp_loadBox1 (Y := .box 27 (cFm b)) (X := iv b.top) (.tmp 15) rfl Tryd.underlying3 rfl rfl) ⟨I0, T0⟩ ⟨rfl, T0⟩ T0 ?_
 refine t_opG rfl (sp_neq rfl (dT' hs2)) ⟨I0, I0, T0⟩ T0 T0 ?_
 refine t_op rfl (sp_pick (.tmp 12) (.const (.bool true)) (.tmp 17) false (bv true) (bv false) rfl) ⟨I0, I0, I0, T0⟩ T0 T0 ?_
 refine t_op rfl (sp_move (.tmp 18) (bv false) rfl) ⟨I0, T0⟩ T0 T0 ?_
 refine t_opG rfl (sp_fieldBox (off' := 5) (.tmp 2) rfl Tryd.underlying27 rfl (z := 1) (by kernel_rfl) (by decide) rfl) ⟨I0, T0⟩ T0 T0 ?_
 refine t_opG rfl (sp_loadBox1 (Y := .box 27 (cFm a)) (X := iv a.fault) (.tmp 20) rfl Tryd.underlying3 rfl rfl) ⟨I0, T0⟩ ⟨rfl, T0⟩ T0 ?_
 refine t_opG rfl (sp_fieldBox (off' := 5) (.tmp 3) rfl Tryd.underlying27 rfl (z := 1) (by kernel_rfl) (by decide) rfl) ⟨I0, T0⟩ T0 T0 ?_
 refine t_opG rfl (sp_loadBox1 (Y := .box 27 (cFm b)) (X := iv b.fault) (.tmp 22) rfl Tryd.underlying3 rfl rfl) ⟨I0, T0⟩ ⟨rfl, T0⟩ T0 ?_
 refine t_opG rfl (sp_neq rfl (dF' hs3)) ⟨I0, I0, T0⟩ T0 T0 ?_
 refine t_op rfl (sp_pick (.tmp 19) (.const (.bool true)) (.tmp 24) false (bv true) (bv true) rfl) ⟨I0, I0, I0, T0⟩ T0 T0 ?_
 refine t_op rfl (sp_move (.tmp 25) (bv true) rfl) ⟨I0, T0⟩ T0 T0 ?_
 refine t_skip rfl ?_
 refine t_skip rfl ?_
 refine t_skip rfl ?_
 refine t_skip rfl ?_
 refine t_skip rfl ?_
 refine t_skip rfl ?_
 refine t_skip rfl ?_
 refine t_op rfl (sp_pick (.tmp 26) (.const (.bool true)) (.tmp 33) true (bv true) (.v (.tuple #[])) rfl) ⟨I0, I0, I0, T0⟩ T0 T0 ?_
 refine tri_nil ?_
 refine tri_wk (wk_keep [(1, .box 27 (cFm a)), (2, .box 27 (cFm b))] [(2, .box 1 0), (3, .box 2 0), (4, bv false), (34, bv true)] (n := 110)) ?_
 refine t_then ?_
 refine t_condT rfl ?_
 refine tri_seq ?_
 refine tri_region ?_
 refine t_op rfl (sp_assign (.const (.bool false)) (bv false) rfl) ⟨I0, T0⟩ T0 T0 ?_
 refine tri_nil ?_
 refine tri_wk (wk_keep [(1, .box 27 (cFm a)), (2, .box 27 (cFm b))] [(2, .box 1 0), (3, .box 2 0), (4, bv false)] (n := 110)) ?_
 refine t_then ?_
 refine tri_ret ?_
 refine t_then_ret ?_
 refine tri_end1 Tryd.results18 (.tmp rfl) ?_
 exact congrArg (fun x : Bool => AV.v (.bool x)) ((dec_f (fun h => congrArg Fm.fault h) hs3).symm)
 refine tri_region ?_
 refine t_op rfl (sp_fieldBox (off' := 0) (.tmp 2) rfl Tryd.underlying27 rfl (z := 1) (by kernel_rfl) (by decide) rfl) ⟨I0, T0⟩ T0 T0 ?_
 refine t_op rfl (sp_loadBox1 (Y := .box 27 (cFm a)) (X := sv a.nm) (.tmp 7) rfl Tryd.underlying9 rfl rfl) ⟨I0, T0⟩ ⟨rfl, T0⟩ T0 ?_
 refine t_op rfl (sp_fieldBox (off' := 0) (.tmp 3) rfl Tryd.underlying27 rfl (z := 1) (by kernel_rfl) (by decide) rfl) ⟨I0, T0⟩ T0 T0 ?_
 refine t_op rfl (sp_loadBox1 (Y := .box 27 (cFm b)) (X := sv b.nm) (.tmp 9) rfl Tryd.underlying9 rfl rfl) ⟨I0, T0⟩ ⟨rfl, T0⟩ T0 ?_
 refine t_op rfl (sp_sneq (r := false) rfl hs1) ⟨I0, I0, T0⟩ T0 T0 ?_
 refine t_op rfl (sp_move (.tmp 11) (bv false) rfl) ⟨I0, T0⟩ T0 T0 ?_
 refine t_opG rfl (sp_fieldBox (off' := 1) (.tmp 2) rfl Tryd.underlying27 rfl (z := 1) (by kernel_rfl) (by decide) rfl) ⟨I0, T0⟩ T0 T0 ?_
 refine t_opG rfl (sp_loadBox1 (Y := .box 27 (cFm a)) (X := iv a.top) (.tmp 13) rfl Tryd.underlying3 rfl rfl) ⟨I0, T0⟩ ⟨rfl, T0⟩ T0 ?_
 refine t_opG rfl (sp_fieldBox (off' := 1) (.tmp 3) rfl Tryd.underlying27 rfl (z := 1) (by kernel_rfl) (by decide) rfl) ⟨I0, T0⟩ T0 T0 ?_
 refine t_opG rfl (sp_loadBox1 (Y := .box 27 (cFm b)) (X := iv b.top) (.tmp 15) rfl Tryd.underlying3 rfl rfl) ⟨I0, T0⟩ ⟨rfl, T0⟩ T0 ?_
 refine t_opG rfl (sp_neq rfl (dF' hs2)) ⟨I0, I0, T0⟩ T0 T0 ?_
 refine t_op rfl (sp_pick (.tmp 12) (.const (.bool true)) (.tmp 17) false (bv true) (bv true) rfl) ⟨I0, I0, I0, T0⟩ T0 T0 ?_
 refine t_op rfl (sp_move (.tmp 18) (bv true) rfl) ⟨I0, T0⟩ T0 T0 ?_
 refine t_skip rfl ?_
 refine t_skip rfl ?_
 refine t_skip rfl ?_
 refine t_skip rfl ?_
 refine t_skip rfl ?_
 refine t_op rfl (sp_pick (.tmp 19) (.const (.bool true)) (.tmp 24) true (bv true) (.v (.tuple #[])) rfl) ⟨I0, I0, I0, T0⟩ T0 T0 ?_
 refine t_op rfl (sp_move (.tmp 25) (bv true) rfl) ⟨I0, T0⟩ T0 T0 ?_
 refine t_skip rfl ?_
 refine t_skip rfl ?_
 refine t_skip rfl ?_
 refine t_skip rfl ?_
 refine t_skip rfl ?_
 refine t_skip rfl ?_
 refine t_skip rfl ?_
 refine t_op rfl (sp_pick (.tmp 26) (.const (.bool true)) (.tmp 33) true (bv true) (.v (.tuple #[])) rfl) ⟨I0, I0, I0, T0⟩ T0 T0 ?_
 refine tri_nil ?_
 refine tri_wk (wk_keep [(1, .box 27 (cFm a)), (2, .box 27 (cFm b))] [(2, .box 1 0), (3, .box 2 0), (4, bv false), (34, bv true)] (n := 110)) ?_
 refine t_then ?_
 refine t_condT rfl ?_
 refine tri_seq ?_
 refine tri_region ?_
 refine t_op rfl (sp_assign (.const (.bool false)) (bv false) rfl) ⟨I0, T0⟩ T0 T0 ?_
 refine tri_nil ?_
 refine tri_wk (wk_keep [(1, .box 27 (cFm a)), (2, .box 27 (cFm b))] [(2, .box 1 0), (3, .box 2 0), (4, bv false)] (n := 110)) ?_
 refine t_then ?_
 refine tri_ret ?_
 refine t_then_ret ?_
 refine tri_end1 Tryd.results18 (.tmp rfl) ?_
 exact congrArg (fun x : Bool => AV.v (.bool x)) ((dec_f (fun h => congrArg Fm.top h) hs2).symm)
 have hs1f : (a.nm.toList == b.nm.toList) = false := by simpa using hs1
 refine tri_region ?_
 refine t_op rfl (sp_fieldBox (off' := 0) (.tmp 2) rfl Tryd.underlying27 rfl (z := 1) (by kernel_rfl) (by decide) rfl) ⟨I0, T0⟩ T0 T0 ?_
 refine t_op rfl (sp_loadBox1 (Y := .box 27 (cFm a)) (X := sv a.nm) (.tmp 7) rfl Tryd.underlying9 rfl rfl) ⟨I0, T0⟩ ⟨rfl, T0⟩ T0 ?_
 refine t_op rfl (sp_fieldBox (off' := 0) (.tmp 3) rfl Tryd.underlying27 rfl (z := 1) (by kernel_rfl) (by decide) rfl) ⟨I0, T0⟩ T0 T0 ?_
 refine t_op rfl (sp_loadBox1 (Y := .box 27 (cFm b)) (X := sv b.nm) (.tmp 9) rfl Tryd.underlying9 rfl rfl) ⟨I0, T0⟩ ⟨rfl, T0⟩ T0 ?_
 refine t_op rfl (sp_sneq (r := true) rfl hs1f) ⟨I0, I0, T0⟩ T0 T0 ?_
 refine t_op rfl (sp_move (.tmp 11) (bv true) rfl) ⟨I0, T0⟩ T0 T0 ?_
 refine t_skip rfl ?_
 refine t_skip rfl ?_
 refine t_skip rfl ?_
 refine t_skip rfl ?_
 refine t_skip rfl ?_
 refine t_op rfl (sp_pick (.tmp 12) (.const (.bool true)) (.tmp 17) true (bv true) (.v (.tuple #[])) rfl) ⟨I0, I0, I0, T0⟩ T0 T0 ?_
 refine t_op rfl (sp_move (.tmp 18) (bv true) rfl) ⟨I0, T0⟩ T0 T0 ?_
 refine t_skip rfl ?_
 refine t_skip rfl ?_
 refine t_skip rfl ?_
 refine t_skip rfl ?_
 refine t_skip rfl ?_
 refine t_op rfl (sp_pick (.tmp 19) (.const (.bool true)) (.tmp 24) true (bv true) (.v (.tuple #[])) rfl) ⟨I0, I0, I0, T0⟩ T0 T0 ?_
 refine t_op rfl (sp_move (.tmp 25) (bv true) rfl) ⟨I0, T0⟩ T0 T0 ?_
 refine t_skip rfl ?_
 refine t_skip rfl ?_
 refine t_skip rfl ?_
 refine t_skip rfl ?_
 refine t_skip rfl ?_
 refine t_skip rfl ?_
 refine t_skip rfl ?_
 refine t_op rfl (sp_pick (.tmp 26) (.const (.bool true)) (.tmp 33) true (bv true) (.v (.tuple #[])) rfl) ⟨I0, I0, I0, T0⟩ T0 T0 ?_
 refine tri_nil ?_
 refine tri_wk (wk_keep [(1, .box 27 (cFm a)), (2, .box 27 (cFm b))] [(2, .box 1 0), (3, .box 2 0), (4, bv false), (34, bv true)] (n := 110)) ?_
 refine t_then ?_
 refine t_condT rfl ?_
 refine tri_seq ?_
 refine tri_region ?_
 refine t_op rfl (sp_assign (.const (.bool false)) (bv false) rfl) ⟨I0, T0⟩ T0 T0 ?_
 refine tri_nil ?_
 refine tri_wk (wk_keep [(1, .box 27 (cFm a)), (2, .box 27 (cFm b))] [(2, .box 1 0), (3, .box 2 0), (4, bv false)] (n := 110)) ?_
 refine t_then ?_
 refine tri_ret ?_
 refine t_then_ret ?_
 refine tri_end1 Tryd.results18 (.tmp rfl) ?_
 exact congrArg (fun x : Bool => AV.v (.bool x)) ((dec_f (fun h => congrArg Fm.nm h) (str_ne hs1f)).symm)
end Go.Proofs.YtmpbfdfjcfanoaaDoor
