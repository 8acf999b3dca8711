import Derived.Test.YtmpbfdfjcfanoaaDoorGrpijpilmhn
set_option linter.all false
/-
  EQUAL TO ITSELF, OF THE REFERENCE.
-/
namespace Go.Proofs.YtmpbfdfjcfanoaaDoor
open Go.RowKit Go.Deep
variable {J : World → Prop}
set_option linter.unusedSimpArgs false in
set_option linter.unusedVariables false in
set_option maxRecDepth 100000 in
set_option maxHeartbeats 6400000 in
theorem sameTexts_c (xs : List ByteArray) (hx : xs.length ≤ 9223372036854775807) : Ctr Tryd.prog J 63 [strsA xs, strsA xs] (bv true) := by
 refine ctr_of_tri Tryd.func63 rfl (by intro X hX; simp only [List.mem_cons, List.not_mem_nil, or_false] at hX; rcases hX with rfl | rfl <;> exact plain_strs _) (n := 26) rfl (by simp) (fun w0 => ?_)
 refine tri_wk (wk_keep [] [(0, strsA xs), (1, strsA xs)] (n := 26) rfl (by kernel_rfl) (by kernel_rfl)) ?_
 refine tri_seq ?_
 refine tri_region ?_
 refine t_op rfl (sp_assign (.const (.bool false)) (bv false) rfl) ⟨.inl rfl, trivial⟩ trivial trivial ?_
 refine tri_nil ?_
 refine tri_wk (wk_keep [] [(0, strsA xs), (1, strsA xs), (4, bv false)] (n := 26) rfl (by kernel_rfl) (by kernel_rfl)) ?_
 refine t_then ?_
 refine tri_seq ?_
 refine tri_seq ?_
 refine tri_region ?_
 refine t_op rfl (sp_move (.tmp 0) (strsA xs) rfl) ⟨.inl rfl, trivial⟩ trivial trivial ?_
 refine t_op rfl (sp_lenSl (.tmp 6) rfl Tryd.underlying22) ⟨.inl rfl, trivial⟩ trivial trivial ?_
 refine t_op rfl (sp_move (.tmp 1) (strsA xs) rfl) ⟨.inl rfl, trivial⟩ trivial trivial ?_
 refine t_op rfl (sp_lenSl (.tmp 8) rfl Tryd.underlying22) ⟨.inl rfl, trivial⟩ trivial trivial ?_
 refine t_op rfl (sp_neq rfl (dT' rfl)) ⟨.inl rfl, .inl rfl, trivial⟩ trivial trivial ?_
 refine tri_nil ?_
 refine tri_wk (wk_keep [] [(0, strsA xs), (1, strsA xs), (4, bv false), (10, bv false)] (n := 26) rfl (by kernel_rfl) (by kernel_rfl)) ?_
 refine t_then ?_
 refine t_condF rfl ?_
 refine tri_skip ?_
 refine t_then ?_
 refine tri_seq ?_
 refine tri_seq ?_
 refine tri_region ?_
 refine t_op rfl (sp_assign (.const (.int .i64 0)) (iv 0) rfl) ⟨.inl rfl, trivial⟩ trivial trivial ?_
 refine tri_nil ?_
 refine tri_wk (wk_keep [] [(0, strsA xs), (1, strsA xs), (4, bv false), (5, iv 0)] (n := 26) rfl (by kernel_rfl) (by kernel_rfl)) ?_
 refine t_then ?_
 refine tri_block ?_
 refine tri_loop (σ := {k : Nat // k ≤ xs.length}) (fun s => (ofL [], ofT 26 [(0, strsA xs), (1, strsA xs), (5, iv s.1)])) (fun s => xs.length - s.1) ⟨0, Nat.zero_le _⟩ (wk_keep [] _ rfl (by kernel_rfl) (by kernel_rfl)) (fun s => ?_)
 obtain ⟨k, hk0⟩ := s
 show ETri J w0 (ofL []) (ofT 26 [(0, strsA xs), (1, strsA xs), (5, iv k)]) _
 refine tri_seq ?_
 refine tri_seq ?_
 by_cases hs1 : ((k : Nat) : Int) < ((xs.length : Nat) : Int)
 refine tri_region ?_
 refine t_op rfl (sp_move (.tmp 5) (iv k) rfl) ⟨.inl rfl, trivial⟩ trivial trivial ?_
 refine t_op rfl (sp_move (.tmp 0) (strsA xs) rfl) ⟨.inl rfl, trivial⟩ trivial trivial ?_
 refine t_op rfl (sp_lenSl (.tmp 12) rfl Tryd.underlying22) ⟨.inl rfl, trivial⟩ trivial trivial ?_
 refine t_op rfl (sp_lss rfl (dT hs1)) ⟨.inl rfl, .inl rfl, trivial⟩ trivial trivial ?_
 refine tri_nil ?_
 refine tri_wk (wk_keep [] [(0, strsA xs), (1, strsA xs), (5, iv k), (14, bv true)] (n := 26) rfl (by kernel_rfl) (by kernel_rfl)) ?_
 refine t_then ?_
 refine t_condT rfl ?_
 refine tri_skip ?_
 refine t_then ?_
 refine tri_seq ?_
 refine tri_block ?_
 refine tri_seq ?_
 refine tri_draw [⟨[(.tmp 0, strsA xs)], [], strsA xs, .no⟩, ⟨[(.tmp 5, iv k)], [], iv k, .no⟩, ⟨[(.tmp 17, strsA xs), (.tmp 18, iv k)], [], .el (xs.map sv) (k * 1), .no⟩, ⟨[(.tmp 19, .el (xs.map sv) (k * 1))], [], sv xs[k], .no⟩, ⟨[(.tmp 1, strsA xs)], [], strsA xs, .no⟩, ⟨[(.tmp 5, iv k)], [], iv k, .no⟩, ⟨[(.tmp 21, strsA xs), (.tmp 22, iv k)], [], .el (xs.map sv) (k * 1), .no⟩, ⟨[(.tmp 23, .el (xs.map sv) (k * 1))], [], sv xs[k], .no⟩, ⟨[(.tmp 20, sv xs[k]), (.tmp 24, sv xs[k])], [], bv false, .no⟩] (by kernel_rfl) (by kernel_rfl) ?_
 refine ⟨app_yes rfl (sp_move (.tmp 0) (strsA xs) rfl) ⟨.inl rfl, trivial⟩ trivial trivial, ?_⟩
 refine ⟨app_yes rfl (sp_move (.tmp 5) (iv k) rfl) ⟨.inl rfl, trivial⟩ trivial trivial, ?_⟩
 refine ⟨app_yes rfl (sp_indexSl (off := k * 1) (.tmp 17) (.tmp 18) rfl Tryd.underlying22 (by kernel_rfl) (by omega) (by omega) rfl) ⟨.inl rfl, .inl rfl, trivial⟩ trivial trivial, ?_⟩
 refine ⟨app_yes rfl (sp_loadEl1 (X := sv xs[k]) (.tmp 19) rfl Tryd.underlying9 rfl (map_at1 xs (by omega))) ⟨.inl rfl, trivial⟩ trivial trivial, ?_⟩
 refine ⟨app_yes rfl (sp_move (.tmp 1) (strsA xs) rfl) ⟨.inl rfl, trivial⟩ trivial trivial, ?_⟩
 refine ⟨app_yes rfl (sp_move (.tmp 5) (iv k) rfl) ⟨.inl rfl, trivial⟩ trivial trivial, ?_⟩
 refine ⟨app_yes rfl (sp_indexSl (off := k * 1) (.tmp 21) (.tmp 22) rfl Tryd.underlying22 (by kernel_rfl) (by omega) (by omega) rfl) ⟨.inl rfl, .inl rfl, trivial⟩ trivial trivial, ?_⟩
 refine ⟨app_yes rfl (sp_loadEl1 (X := sv xs[k]) (.tmp 23) rfl Tryd.underlying9 rfl (map_at1 xs (by omega))) ⟨.inl rfl, trivial⟩ trivial trivial, ?_⟩
 refine ⟨app_yes rfl (sp_sneq (r := false) rfl (beq_self_eq_true _)) ⟨.inl rfl, .inl rfl, trivial⟩ trivial trivial, ?_⟩
 show ETri J w0 _ _ _
 refine tri_wk (wk_keep [] [(0, strsA xs), (1, strsA xs), (5, iv k), (14, bv true), (25, bv false)] (n := 26) rfl (by kernel_rfl) (by kernel_rfl)) ?_
 refine t_then ?_
 refine t_condF rfl ?_
 refine tri_skip ?_
 refine t_block ?_
 refine t_then ?_
 refine tri_region ?_
 refine t_op rfl (sp_move (.tmp 5) (iv k) rfl) ⟨.inl rfl, trivial⟩ trivial trivial ?_
 refine t_op rfl (sp_add (c := ((k + 1 : Nat) : Int)) rfl (w64 (by omega) (by omega) (by omega))) ⟨.inl rfl, .inl rfl, trivial⟩ trivial trivial ?_
 refine t_op rfl (sp_assign (.tmp 16) (iv (k + 1 : Nat)) rfl) ⟨.inl rfl, trivial⟩ trivial trivial ?_
 refine tri_nil ?_
 refine tri_wk (wk_keep [] [(0, strsA xs), (1, strsA xs), (5, iv (k + 1 : Nat)), (14, bv true), (25, bv false)] (n := 26) rfl (by kernel_rfl) (by kernel_rfl)) ?_
 refine t_then ?_
 refine tri_again ⟨k + 1, by omega⟩ (show xs.length - (k + 1) < xs.length - k by omega) ?_
 exact wk_keep [] _ rfl (by kernel_rfl) (by kernel_rfl)
 refine tri_region ?_
 refine t_op rfl (sp_move (.tmp 5) (iv k) rfl) ⟨.inl rfl, trivial⟩ trivial trivial ?_
 refine t_op rfl (sp_move (.tmp 0) (strsA xs) rfl) ⟨.inl rfl, trivial⟩ trivial trivial ?_
 refine t_op rfl (sp_lenSl (.tmp 12) rfl Tryd.underlying22) ⟨.inl rfl, trivial⟩ trivial trivial ?_
 refine t_op rfl (sp_lss rfl (dF hs1)) ⟨.inl rfl, .inl rfl, trivial⟩ trivial trivial ?_
 refine tri_nil ?_
 refine tri_wk (wk_keep [] [(0, strsA xs), (1, strsA xs), (5, iv k), (14, bv false)] (n := 26) rfl (by kernel_rfl) (by kernel_rfl)) ?_
 refine t_then ?_
 refine t_condF rfl ?_
 refine tri_exit ?_
 refine t_then_exit ?_
 refine t_then_exit ?_
 refine t_hit ?_
 refine t_then ?_
 refine tri_seq ?_
 refine tri_region ?_
 refine t_op rfl (sp_assign (.const (.bool true)) (bv true) rfl) ⟨.inl rfl, trivial⟩ trivial trivial ?_
 refine tri_nil ?_
 refine tri_wk (wk_keep [] [(4, bv true)] (n := 26) rfl (by kernel_rfl) (by kernel_rfl)) ?_
 refine t_then ?_
 refine tri_ret ?_
 refine tri_end1 Tryd.results63 (.tmp rfl) ?_
 exact rfl
set_option linter.unusedSimpArgs false in
set_option linter.unusedVariables false in
set_option maxRecDepth 100000 in
set_option maxHeartbeats 6400000 in
theorem sameLinears_c (xs : List Ln) (hx : xs.length ≤ 9223372036854775807) : Ctr Tryd.prog J 64 [slA 4 cLn xs, slA 4 cLn xs] (bv true) := by
 refine ctr_of_tri Tryd.func64 rfl (by intro X hX; simp only [List.mem_cons, List.not_mem_nil, or_false] at hX; rcases hX with rfl | rfl <;> exact plain_sl plain_ln _) (n := 26) rfl (by simp) (fun w0 => ?_)
 refine tri_wk (wk_keep [] [(0, slA 4 cLn xs), (1, slA 4 cLn xs)] (n := 26) rfl (by kernel_rfl) (by kernel_rfl)) ?_
 refine tri_seq ?_
 refine tri_region ?_
 refine t_op rfl (sp_assign (.const (.bool false)) (bv false) rfl) ⟨.inl rfl, trivial⟩ trivial trivial ?_
 refine tri_nil ?_
 refine tri_wk (wk_keep [] [(0, slA 4 cLn xs), (1, slA 4 cLn xs), (4, bv false)] (n := 26) rfl (by kernel_rfl) (by kernel_rfl)) ?_
 refine t_then ?_
 refine tri_seq ?_
 refine tri_seq ?_
 refine tri_region ?_
 refine t_op rfl (sp_move (.tmp 0) (slA 4 cLn xs) rfl) ⟨.inl rfl, trivial⟩ trivial trivial ?_
 refine t_op rfl (sp_lenSl (.tmp 6) rfl Tryd.underlying23) ⟨.inl rfl, trivial⟩ trivial trivial ?_
 refine t_op rfl (sp_move (.tmp 1) (slA 4 cLn xs) rfl) ⟨.inl rfl, trivial⟩ trivial trivial ?_
 refine t_op rfl (sp_lenSl (.tmp 8) rfl Tryd.underlying23) ⟨.inl rfl, trivial⟩ trivial trivial ?_
 refine t_op rfl (sp_neq rfl (dT' rfl)) ⟨.inl rfl, .inl rfl, trivial⟩ trivial trivial ?_
 refine tri_nil ?_
 refine tri_wk (wk_keep [] [(0, slA 4 cLn xs), (1, slA 4 cLn xs), (4, bv false), (10, bv false)] (n := 26) rfl (by kernel_rfl) (by kernel_rfl)) ?_
 refine t_then ?_
 refine t_condF rfl ?_
 refine tri_skip ?_
 refine t_then ?_
 refine tri_seq ?_
 refine tri_seq ?_
 refine tri_region ?_
 refine t_op rfl (sp_assign (.const (.int .i64 0)) (iv 0) rfl) ⟨.inl rfl, trivial⟩ trivial trivial ?_
 refine tri_nil ?_
 refine tri_wk (wk_keep [] [(0, slA 4 cLn xs), (1, slA 4 cLn xs), (4, bv false), (5, iv 0)] (n := 26) rfl (by kernel_rfl) (by kernel_rfl)) ?_
 refine t_then ?_
 refine tri_block ?_
 refine tri_loop (σ := {k : Nat // k ≤ xs.length}) (fun s => (ofL [], ofT 26 [(0, slA 4 cLn xs), (1, slA 4 cLn xs), (5, iv s.1)])) (fun s => xs.length - s.1) ⟨0, Nat.zero_le _⟩ (wk_keep [] _ rfl (by kernel_rfl) (by kernel_rfl)) (fun s => ?_)
 obtain ⟨k, hk0⟩ := s
 show ETri J w0 (ofL []) (ofT 26 [(0, slA 4 cLn xs), (1, slA 4 cLn xs), (5, iv k)]) _
 refine tri_seq ?_
 refine tri_seq ?_
 by_cases hs1 : ((k : Nat) : Int) < ((xs.length : Nat) : Int)
 refine tri_region ?_
 refine t_op rfl (sp_move (.tmp 5) (iv k) rfl) ⟨.inl rfl, trivial⟩ trivial trivial ?_
 refine t_op rfl (sp_move (.tmp 0) (slA 4 cLn xs) rfl) ⟨.inl rfl, trivial⟩ trivial trivial ?_
 refine t_op rfl (sp_lenSl (.tmp 12) rfl Tryd.underlying23) ⟨.inl rfl, trivial⟩ trivial trivial ?_
 refine t_op rfl (sp_lss rfl (dT hs1)) ⟨.inl rfl, .inl rfl, trivial⟩ trivial trivial ?_
 refine tri_nil ?_
 refine tri_wk (wk_keep [] [(0, slA 4 cLn xs), (1, slA 4 cLn xs), (5, iv k), (14, bv true)] (n := 26) rfl (by kernel_rfl) (by kernel_rfl)) ?_
 refine t_then ?_
 refine t_condT rfl ?_
 refine tri_skip ?_
 refine t_then ?_
 refine tri_seq ?_
 refine tri_block ?_
 refine tri_seq ?_
 refine tri_draw [⟨[(.tmp 0, slA 4 cLn xs)], [], slA 4 cLn xs, .no⟩, ⟨[(.tmp 5, iv k)], [], iv k, .no⟩, ⟨[(.tmp 17, slA 4 cLn xs), (.tmp 18, iv k)], [], .el (xs.flatMap cLn) (k * 4), .no⟩, ⟨[(.tmp 19, .el (xs.flatMap cLn) (k * 4))], [], .agg (cLn xs[k]), .no⟩, ⟨[(.tmp 1, slA 4 cLn xs)], [], slA 4 cLn xs, .no⟩, ⟨[(.tmp 5, iv k)], [], iv k, .no⟩, ⟨[(.tmp 21, slA 4 cLn xs), (.tmp 22, iv k)], [], .el (xs.flatMap cLn) (k * 4), .no⟩, ⟨[(.tmp 23, .el (xs.flatMap cLn) (k * 4))], [], .agg (cLn xs[k]), .no⟩, ⟨[(.tmp 20, .agg (cLn xs[k])), (.tmp 24, .agg (cLn xs[k]))], [], bv false, .no⟩] (by kernel_rfl) (by kernel_rfl) ?_
 refine ⟨app_yes rfl (sp_move (.tmp 0) (slA 4 cLn xs) rfl) ⟨.inl rfl, trivial⟩ trivial trivial, ?_⟩
 refine ⟨app_yes rfl (sp_move (.tmp 5) (iv k) rfl) ⟨.inl rfl, trivial⟩ trivial trivial, ?_⟩
 refine ⟨app_yes rfl (sp_indexSl (off := k * 4) (.tmp 17) (.tmp 18) rfl Tryd.underlying23 (by kernel_rfl) (by omega) (by omega) rfl) ⟨.inl rfl, .inl rfl, trivial⟩ trivial trivial, ?_⟩
 refine ⟨app_yes rfl (sp_loadElS (z := 4) (.tmp 19) rfl Tryd.underlying53 rfl (by kernel_rfl) (flat_take lenLn xs k (by omega)) rfl) ⟨.inl rfl, trivial⟩ trivial trivial, ?_⟩
 refine ⟨app_yes rfl (sp_move (.tmp 1) (slA 4 cLn xs) rfl) ⟨.inl rfl, trivial⟩ trivial trivial, ?_⟩
 refine ⟨app_yes rfl (sp_move (.tmp 5) (iv k) rfl) ⟨.inl rfl, trivial⟩ trivial trivial, ?_⟩
 refine ⟨app_yes rfl (sp_indexSl (off := k * 4) (.tmp 21) (.tmp 22) rfl Tryd.underlying23 (by kernel_rfl) (by omega) (by omega) rfl) ⟨.inl rfl, .inl rfl, trivial⟩ trivial trivial, ?_⟩
 refine ⟨app_yes rfl (sp_loadElS (z := 4) (.tmp 23) rfl Tryd.underlying53 rfl (by kernel_rfl) (flat_take lenLn xs k (by omega)) rfl) ⟨.inl rfl, trivial⟩ trivial trivial, ?_⟩
 refine ⟨app_yes rfl (sp_aggNeq [.int .i64 xs[k].c, .int .i64 xs[k].n, .int .i64 xs[k].t, .int .i64 xs[k].f] rfl (by kernel_rfl) (fun w => eqn_ln _ _ _ _ w)) ⟨.inl rfl, .inl rfl, trivial⟩ trivial trivial, ?_⟩
 show ETri J w0 _ _ _
 refine tri_wk (wk_keep [] [(0, slA 4 cLn xs), (1, slA 4 cLn xs), (5, iv k), (14, bv true), (25, bv false)] (n := 26) rfl (by kernel_rfl) (by kernel_rfl)) ?_
 refine t_then ?_
 refine t_condF rfl ?_
 refine tri_skip ?_
 refine t_block ?_
 refine t_then ?_
 refine tri_region ?_
 refine t_op rfl (sp_move (.tmp 5) (iv k) rfl) ⟨.inl rfl, trivial⟩ trivial trivial ?_
 refine t_op rfl (sp_add (c := ((k + 1 : Nat) : Int)) rfl (w64 (by omega) (by omega) (by omega))) ⟨.inl rfl, .inl rfl, trivial⟩ trivial trivial ?_
 refine t_op rfl (sp_assign (.tmp 16) (iv (k + 1 : Nat)) rfl) ⟨.inl rfl, trivial⟩ trivial trivial ?_
 refine tri_nil ?_
 refine tri_wk (wk_keep [] [(0, slA 4 cLn xs), (1, slA 4 cLn xs), (5, iv (k + 1 : Nat)), (14, bv true), (25, bv false)] (n := 26) rfl (by kernel_rfl) (by kernel_rfl)) ?_
 refine t_then ?_
 refine tri_again ⟨k + 1, by omega⟩ (show xs.length - (k + 1) < xs.length - k by omega) ?_
 exact wk_keep [] _ rfl (by kernel_rfl) (by kernel_rfl)
 refine tri_region ?_
 refine t_op rfl (sp_move (.tmp 5) (iv k) rfl) ⟨.inl rfl, trivial⟩ trivial trivial ?_
 refine t_op rfl (sp_move (.tmp 0) (slA 4 cLn xs) rfl) ⟨.inl rfl, trivial⟩ trivial trivial ?_
 refine t_op rfl (sp_lenSl (.tmp 12) rfl Tryd.underlying23) ⟨.inl rfl, trivial⟩ trivial trivial ?_
 refine t_op rfl (sp_lss rfl (dF hs1)) ⟨.inl rfl, .inl rfl, trivial⟩ trivial trivial ?_
 refine tri_nil ?_
 refine tri_wk (wk_keep [] [(0, slA 4 cLn xs), (1, slA 4 cLn xs), (5, iv k), (14, bv false)] (n := 26) rfl (by kernel_rfl) (by kernel_rfl)) ?_
 refine t_then ?_
 refine t_condF rfl ?_
 refine tri_exit ?_
 refine t_then_exit ?_
 refine t_then_exit ?_
 refine t_hit ?_
 refine t_then ?_
 refine tri_seq ?_
 refine tri_region ?_
 refine t_op rfl (sp_assign (.const (.bool true)) (bv true) rfl) ⟨.inl rfl, trivial⟩ trivial trivial ?_
 refine tri_nil ?_
 refine tri_wk (wk_keep [] [(4, bv true)] (n := 26) rfl (by kernel_rfl) (by kernel_rfl)) ?_
 refine t_then ?_
 refine tri_ret ?_
 refine tri_end1 Tryd.results64 (.tmp rfl) ?_
 exact rfl
set_option linter.unusedSimpArgs false in
set_option linter.unusedVariables false in
set_option maxRecDepth 100000 in
set_option maxHeartbeats 6400000 in
theorem sameBut_c {r : Ru} (HR : RuOk r) : Ctr Tryd.prog J 62 [.agg (cRu r), .agg (cRu r)] (bv true) := by
 have l1 := HR.lguards
 refine ctr_of_tri Tryd.func62 rfl (by intro X hX; simp only [List.mem_cons, List.not_mem_nil, or_false] at hX; rcases hX with rfl | rfl <;> exact plain_agg (plain_ru r)) (n := 126) rfl (by simp) (fun w0 => ?_)
 refine tri_wk (wk_keep [] [(0, .agg (cRu r)), (1, .agg (cRu r))] (n := 126) rfl (by kernel_rfl) (by kernel_rfl)) ?_
 refine tri_seq ?_
 refine tri_region ?_
 refine t_op rfl (sp_box (X := .agg (cRu r)) (k := 1) (.tmp 0) rfl rfl) ⟨.inl rfl, trivial⟩ trivial rfl ?_
 refine t_op rfl (sp_box (X := .agg (cRu r)) (k := 2) (.tmp 1) rfl rfl) ⟨.inl rfl, trivial⟩ trivial rfl ?_
 refine t_op rfl (sp_assign (.const (.bool false)) (bv false) rfl) ⟨.inl rfl, trivial⟩ trivial trivial ?_
 refine tri_nil ?_
 refine tri_wk (wk_keep [(1, .box 76 (cRu r)), (2, .box 76 (cRu r))] [(2, .box 1 0), (3, .box 2 0), (4, bv false)] (n := 126) rfl (by kernel_rfl) (by kernel_rfl)) ?_
 refine t_then ?_
 refine tri_seq ?_
 refine tri_seq ?_
 refine tri_region ?_
 refine t_op rfl (sp_fieldBox (off' := 7) (.tmp 2) rfl Tryd.underlying76 rfl (z := 1) (by kernel_rfl) (by decide) rfl) ⟨.inl rfl, trivial⟩ trivial trivial ?_
 refine t_op rfl (sp_loadBox1 (Y := .box 76 (cRu r)) (X := slA 6 cTh r.guards) (.tmp 9) rfl Tryd.underlying49 rfl rfl) ⟨.inl rfl, trivial⟩ ⟨rfl, trivial⟩ trivial ?_
 refine t_op rfl (sp_lenSl (.tmp 10) rfl Tryd.underlying49) ⟨.inl rfl, trivial⟩ trivial trivial ?_
 refine t_op rfl (sp_fieldBox (off' := 7) (.tmp 3) rfl Tryd.underlying76 rfl (z := 1) (by kernel_rfl) (by decide) rfl) ⟨.inl rfl, trivial⟩ trivial trivial ?_
 refine t_op rfl (sp_loadBox1 (Y := .box 76 (cRu r)) (X := slA 6 cTh r.guards) (.tmp 12) rfl Tryd.underlying49 rfl rfl) ⟨.inl rfl, trivial⟩ ⟨rfl, trivial⟩ trivial ?_
 refine t_op rfl (sp_lenSl (.tmp 13) rfl Tryd.underlying49) ⟨.inl rfl, trivial⟩ trivial trivial ?_
 refine t_op rfl (sp_neq rfl (dT' rfl)) ⟨.inl rfl, .inl rfl, trivial⟩ trivial trivial ?_
 refine tri_nil ?_
 refine tri_wk (wk_keep [(1, .box 76 (cRu r)), (2, .box 76 (cRu r))] [(2, .box 1 0), (3, .box 2 0), (4, bv false), (15, bv false)] (n := 126) rfl (by kernel_rfl) (by kernel_rfl)) ?_
 refine t_then ?_
 refine t_condF rfl ?_
 refine tri_skip ?_
 refine t_then ?_
 refine tri_seq ?_
 refine tri_seq ?_
 refine tri_region ?_
 refine t_op rfl (sp_assign (.const (.int .i64 0)) (iv 0) rfl) ⟨.inl rfl, trivial⟩ trivial trivial ?_
 refine tri_nil ?_
 refine tri_wk (wk_keep [(1, .box 76 (cRu r)), (2, .box 76 (cRu r))] [(2, .box 1 0), (3, .box 2 0), (4, bv false), (5, iv 0)] (n := 126) rfl (by kernel_rfl) (by kernel_rfl)) ?_
 refine t_then ?_
 refine tri_block ?_
 refine tri_loop (σ := {k : Nat // k ≤ r.guards.length}) (fun s => (ofL [(1, .box 76 (cRu r)), (2, .box 76 (cRu r))], ofT 126 [(2, .box 1 0), (3, .box 2 0), (5, iv s.1)])) (fun s => r.guards.length - s.1) ⟨0, Nat.zero_le _⟩ (wk_keep _ _ rfl (by kernel_rfl) (by kernel_rfl)) (fun s => ?_)
 obtain ⟨k, hk0⟩ := s
 show ETri J w0 (ofL [(1, .box 76 (cRu r)), (2, .box 76 (cRu r))]) (ofT 126 [(2, .box 1 0), (3, .box 2 0), (5, iv k)]) _
 refine tri_seq ?_
 refine tri_seq ?_
 by_cases hs1 : ((k : Nat) : Int) < ((r.guards.length : Nat) : Int)
 refine tri_region ?_
 refine t_op rfl (sp_move (.tmp 5) (iv k) rfl) ⟨.inl rfl, trivial⟩ trivial trivial ?_
 refine t_op rfl (sp_fieldBox (off' := 7) (.tmp 2) rfl Tryd.underlying76 rfl (z := 1) (by kernel_rfl) (by decide) rfl) ⟨.inl rfl, trivial⟩ trivial trivial ?_
 refine t_op rfl (sp_loadBox1 (Y := .box 76 (cRu r)) (X := slA 6 cTh r.guards) (.tmp 17) rfl Tryd.underlying49 rfl rfl) ⟨.inl rfl, trivial⟩ ⟨rfl, trivial⟩ trivial ?_
 refine t_op rfl (sp_lenSl (.tmp 18) rfl Tryd.underlying49) ⟨.inl rfl, trivial⟩ trivial trivial ?_
 refine t_op rfl (sp_lss rfl (dT hs1)) ⟨.inl rfl, .inl rfl, trivial⟩ trivial trivial ?_
 refine tri_nil ?_
 refine tri_wk (wk_keep [(1, .box 76 (cRu r)), (2, .box 76 (cRu r))] [(2, .box 1 0), (3, .box 2 0), (5, iv k), (20, bv true)] (n := 126) rfl (by kernel_rfl) (by kernel_rfl)) ?_
 refine t_then ?_
 refine t_condT rfl ?_
 refine tri_skip ?_
 refine t_then ?_
 refine tri_seq ?_
 refine tri_block ?_
 refine tri_seq ?_
 refine tri_draw [⟨[(.tmp 2, .box 1 0)], [], .box 1 7, .no⟩, ⟨[(.tmp 23, .box 1 7)], [(1, .box 76 (cRu r))], slA 6 cTh r.guards, .no⟩, ⟨[(.tmp 5, iv k)], [], iv k, .no⟩, ⟨[(.tmp 24, slA 6 cTh r.guards), (.tmp 25, iv k)], [], .el (r.guards.flatMap cTh) (k * 6), .no⟩, ⟨[(.tmp 26, .el (r.guards.flatMap cTh) (k * 6))], [], .agg (cTh r.guards[k]), .no⟩, ⟨[(.tmp 3, .box 2 0)], [], .box 2 7, .no⟩, ⟨[(.tmp 28, .box 2 7)], [(2, .box 76 (cRu r))], slA 6 cTh r.guards, .no⟩, ⟨[(.tmp 5, iv k)], [], iv k, .no⟩, ⟨[(.tmp 29, slA 6 cTh r.guards), (.tmp 30, iv k)], [], .el (r.guards.flatMap cTh) (k * 6), .no⟩, ⟨[(.tmp 31, .el (r.guards.flatMap cTh) (k * 6))], [], .agg (cTh r.guards[k]), .no⟩, ⟨[(.func 103, .v (.func (.func 103) #[] #[])), (.tmp 27, .agg (cTh r.guards[k])), (.tmp 32, .agg (cTh r.guards[k]))], [], bv true, .no⟩, ⟨[(.tmp 33, bv true)], [], bv false, .no⟩] (by kernel_rfl) (by kernel_rfl) ?_
 refine ⟨app_yes rfl (sp_fieldBox (off' := 7) (.tmp 2) rfl Tryd.underlying76 rfl (z := 1) (by kernel_rfl) (by decide) rfl) ⟨.inl rfl, trivial⟩ trivial trivial, ?_⟩
 refine ⟨app_yes rfl (sp_loadBox1 (Y := .box 76 (cRu r)) (X := slA 6 cTh r.guards) (.tmp 23) rfl Tryd.underlying49 rfl rfl) ⟨.inl rfl, trivial⟩ ⟨rfl, trivial⟩ trivial, ?_⟩
 refine ⟨app_yes rfl (sp_move (.tmp 5) (iv k) rfl) ⟨.inl rfl, trivial⟩ trivial trivial, ?_⟩
 refine ⟨app_yes rfl (sp_indexSl (off := k * 6) (.tmp 24) (.tmp 25) rfl Tryd.underlying49 (by kernel_rfl) (by omega) (by omega) rfl) ⟨.inl rfl, .inl rfl, trivial⟩ trivial trivial, ?_⟩
 refine ⟨app_yes rfl (sp_loadElS (z := 6) (.tmp 26) rfl Tryd.underlying55 rfl (by kernel_rfl) (flat_take lenTh r.guards k (by omega)) rfl) ⟨.inl rfl, trivial⟩ trivial trivial, ?_⟩
 refine ⟨app_yes rfl (sp_fieldBox (off' := 7) (.tmp 3) rfl Tryd.underlying76 rfl (z := 1) (by kernel_rfl) (by decide) rfl) ⟨.inl rfl, trivial⟩ trivial trivial, ?_⟩
 refine ⟨app_yes rfl (sp_loadBox1 (Y := .box 76 (cRu r)) (X := slA 6 cTh r.guards) (.tmp 28) rfl Tryd.underlying49 rfl rfl) ⟨.inl rfl, trivial⟩ ⟨rfl, trivial⟩ trivial, ?_⟩
 refine ⟨app_yes rfl (sp_move (.tmp 5) (iv k) rfl) ⟨.inl rfl, trivial⟩ trivial trivial, ?_⟩
 refine ⟨app_yes rfl (sp_indexSl (off := k * 6) (.tmp 29) (.tmp 30) rfl Tryd.underlying49 (by kernel_rfl) (by omega) (by omega) rfl) ⟨.inl rfl, .inl rfl, trivial⟩ trivial trivial, ?_⟩
 refine ⟨app_yes rfl (sp_loadElS (z := 6) (.tmp 31) rfl Tryd.underlying55 rfl (by kernel_rfl) (flat_take lenTh r.guards k (by omega)) rfl) ⟨.inl rfl, trivial⟩ trivial trivial, ?_⟩
 refine ⟨app_yes rfl (sp_call (c := .func 103) (xs := #[.tmp 27, .tmp 32]) [] (sameTh_c r.guards[k]) rfl (by kernel_rfl) rfl (Xs := [.agg (cTh r.guards[k]), .agg (cTh r.guards[k])]) rfl rfl rfl) ⟨.inl rfl, .inl rfl, .inl rfl, trivial⟩ trivial trivial, ?_⟩
 refine ⟨app_yes rfl (sp_not rfl rfl) ⟨.inl rfl, trivial⟩ trivial trivial, ?_⟩
 show ETri J w0 _ _ _
 refine tri_wk (wk_keep [(1, .box 76 (cRu r)), (2, .box 76 (cRu r))] [(2, .box 1 0), (3, .box 2 0), (5, iv k), (20, bv true), (34, bv false)] (n := 126) rfl (by kernel_rfl) (by kernel_rfl)) ?_
 refine t_then ?_
 refine t_condF rfl ?_
 refine tri_skip ?_
 refine t_block ?_
 refine t_then ?_
 refine tri_region ?_
 refine t_op rfl (sp_move (.tmp 5) (iv k) rfl) ⟨.inl rfl, trivial⟩ trivial trivial ?_
 refine t_op rfl (sp_add (c := ((k + 1 : Nat) : Int)) rfl (w64 (by omega) (by omega) (by omega))) ⟨.inl rfl, .inl rfl, trivial⟩ trivial trivial ?_
 refine t_op rfl (sp_assign (.tmp 22) (iv (k + 1 : Nat)) rfl) ⟨.inl rfl, trivial⟩ trivial trivial ?_
 refine tri_nil ?_
 refine tri_wk (wk_keep [(1, .box 76 (cRu r)), (2, .box 76 (cRu r))] [(2, .box 1 0), (3, .box 2 0), (5, iv (k + 1 : Nat)), (20, bv true), (34, bv false)] (n := 126) rfl (by kernel_rfl) (by kernel_rfl)) ?_
 refine t_then ?_
 refine tri_again ⟨k + 1, by omega⟩ (show r.guards.length - (k + 1) < r.guards.length - k by omega) ?_
 exact wk_keep _ _ rfl (by kernel_rfl) (by kernel_rfl)
 refine tri_region ?_
 refine t_op rfl (sp_move (.tmp 5) (iv k) rfl) ⟨.inl rfl, trivial⟩ trivial trivial ?_
 refine t_op rfl (sp_fieldBox (off' := 7) (.tmp 2) rfl Tryd.underlying76 rfl (z := 1) (by kernel_rfl) (by decide) rfl) ⟨.inl rfl, trivial⟩ trivial trivial ?_
 refine t_op rfl (sp_loadBox1 (Y := .box 76 (cRu r)) (X := slA 6 cTh r.guards) (.tmp 17) rfl Tryd.underlying49 rfl rfl) ⟨.inl rfl, trivial⟩ ⟨rfl, trivial⟩ trivial ?_
 refine t_op rfl (sp_lenSl (.tmp 18) rfl Tryd.underlying49) ⟨.inl rfl, trivial⟩ trivial trivial ?_
 refine t_op rfl (sp_lss rfl (dF hs1)) ⟨.inl rfl, .inl rfl, trivial⟩ trivial trivial ?_
 refine tri_nil ?_
 refine tri_wk (wk_keep [(1, .box 76 (cRu r)), (2, .box 76 (cRu r))] [(2, .box 1 0), (3, .box 2 0), (5, iv k), (20, bv false)] (n := 126) rfl (by kernel_rfl) (by kernel_rfl)) ?_
 refine t_then ?_
 refine t_condF rfl ?_
 refine tri_exit ?_
 refine t_then_exit ?_
 refine t_then_exit ?_
 refine t_hit ?_
 refine t_then ?_
 refine tri_seq ?_
 refine tri_region ?_
 refine t_op rfl (sp_fieldBox (off' := 1) (.tmp 2) rfl Tryd.underlying76 rfl (z := 1) (by kernel_rfl) (by decide) rfl) ⟨.inl rfl, trivial⟩ trivial trivial ?_
 refine t_op rfl (sp_loadBox1 (Y := .box 76 (cRu r)) (X := iv r.kind) (.tmp 35) rfl Tryd.underlying3 rfl rfl) ⟨.inl rfl, trivial⟩ ⟨rfl, trivial⟩ trivial ?_
 refine t_op rfl (sp_fieldBox (off' := 2) (.tmp 2) rfl Tryd.underlying76 rfl (z := 1) (by kernel_rfl) (by decide) rfl) ⟨.inl rfl, trivial⟩ trivial trivial ?_
 refine t_op rfl (sp_loadBox1 (Y := .box 76 (cRu r)) (X := iv r.frm) (.tmp 37) rfl Tryd.underlying3 rfl rfl) ⟨.inl rfl, trivial⟩ ⟨rfl, trivial⟩ trivial ?_
 refine t_op rfl (sp_fieldBox (off' := 3) (.tmp 2) rfl Tryd.underlying76 rfl (z := 1) (by kernel_rfl) (by decide) rfl) ⟨.inl rfl, trivial⟩ trivial trivial ?_
 refine t_op rfl (sp_loadBox1 (Y := .box 76 (cRu r)) (X := iv r.to) (.tmp 39) rfl Tryd.underlying3 rfl rfl) ⟨.inl rfl, trivial⟩ ⟨rfl, trivial⟩ trivial ?_
 refine t_op rfl (sp_fieldBox (off' := 4) (.tmp 2) rfl Tryd.underlying76 rfl (z := 1) (by kernel_rfl) (by decide) rfl) ⟨.inl rfl, trivial⟩ trivial trivial ?_
 refine t_op rfl (sp_loadBox1 (Y := .box 76 (cRu r)) (X := iv r.pf) (.tmp 41) rfl Tryd.underlying3 rfl rfl) ⟨.inl rfl, trivial⟩ ⟨rfl, trivial⟩ trivial ?_
 refine t_op rfl (sp_fieldBox (off' := 5) (.tmp 2) rfl Tryd.underlying76 rfl (z := 1) (by kernel_rfl) (by decide) rfl) ⟨.inl rfl, trivial⟩ trivial trivial ?_
 refine t_op rfl (sp_loadBox1 (Y := .box 76 (cRu r)) (X := iv r.pt) (.tmp 43) rfl Tryd.underlying3 rfl rfl) ⟨.inl rfl, trivial⟩ ⟨rfl, trivial⟩ trivial ?_
 refine t_op rfl (sp_fieldBox (off' := 10) (.tmp 2) rfl Tryd.underlying76 rfl (z := 1) (by kernel_rfl) (by decide) rfl) ⟨.inl rfl, trivial⟩ trivial trivial ?_
 refine t_op rfl (sp_loadBox1 (Y := .box 76 (cRu r)) (X := iv r.rd) (.tmp 45) rfl Tryd.underlying3 rfl rfl) ⟨.inl rfl, trivial⟩ ⟨rfl, trivial⟩ trivial ?_
 refine t_op rfl (sp_fieldBox (off' := 11) (.tmp 2) rfl Tryd.underlying76 rfl (z := 1) (by kernel_rfl) (by decide) rfl) ⟨.inl rfl, trivial⟩ trivial trivial ?_
 refine t_op rfl (sp_loadBox1 (Y := .box 76 (cRu r)) (X := iv r.wr) (.tmp 47) rfl Tryd.underlying3 rfl rfl) ⟨.inl rfl, trivial⟩ ⟨rfl, trivial⟩ trivial ?_
 refine t_op rfl (sp_fieldBox (off' := 13) (.tmp 2) rfl Tryd.underlying76 rfl (z := 1) (by kernel_rfl) (by decide) rfl) ⟨.inl rfl, trivial⟩ trivial trivial ?_
 refine t_op rfl (sp_loadBox1 (Y := .box 76 (cRu r)) (X := iv r.pos) (.tmp 49) rfl Tryd.underlying3 rfl rfl) ⟨.inl rfl, trivial⟩ ⟨rfl, trivial⟩ trivial ?_
 refine t_op rfl (sp_fieldBox (off' := 17) (.tmp 2) rfl Tryd.underlying76 rfl (z := 1) (by kernel_rfl) (by decide) rfl) ⟨.inl rfl, trivial⟩ trivial trivial ?_
 refine t_op rfl (sp_loadBox1 (Y := .box 76 (cRu r)) (X := iv r.dir) (.tmp 51) rfl Tryd.underlying3 rfl rfl) ⟨.inl rfl, trivial⟩ ⟨rfl, trivial⟩ trivial ?_
 refine t_op rfl (sp_build (z := 1) (k := 3) (fr := true) (cs := [iv r.kind, iv r.frm, iv r.to, iv r.pf, iv r.pt, iv r.rd, iv r.wr, iv r.pos, iv r.dir]) [.tmp 36, .tmp 38, .tmp 40, .tmp 42, .tmp 44, .tmp 46, .tmp 48, .tmp 50, .tmp 52] [iv r.kind, iv r.frm, iv r.to, iv r.pf, iv r.pt, iv r.rd, iv r.wr, iv r.pos, iv r.dir] rfl Tryd.underlying24 (by kernel_rfl) (by decide) (by decide) rfl rfl rfl (by kernel_rfl) (by decide) (fun _ => by simp [AV.cellsOf, AV.isNew, cLn, cTh]) (by kernel_rfl)) ⟨.inl rfl, .inl rfl, .inl rfl, .inl rfl, .inl rfl, .inl rfl, .inl rfl, .inl rfl, .inl rfl, trivial⟩ trivial rfl ?_
 refine t_op rfl (sp_assign (.tmp 53) (.own 3) rfl) ⟨.inl rfl, trivial⟩ trivial trivial ?_
 refine tri_nil ?_
 refine tri_wk (wk_keep [(1, .box 76 (cRu r)), (2, .box 76 (cRu r)), (3, .row true 3 1 9 ([iv r.kind, iv r.frm, iv r.to, iv r.pf, iv r.pt, iv r.rd, iv r.wr, iv r.pos, iv r.dir]))] [(2, .box 1 0), (3, .box 2 0), (6, .own 3)] (n := 126) rfl (by kernel_rfl) (by kernel_rfl)) ?_
 refine t_then ?_
 refine tri_seq ?_
 refine tri_region ?_
 refine t_op rfl (sp_fieldBox (off' := 1) (.tmp 3) rfl Tryd.underlying76 rfl (z := 1) (by kernel_rfl) (by decide) rfl) ⟨.inl rfl, trivial⟩ trivial trivial ?_
 refine t_op rfl (sp_loadBox1 (Y := .box 76 (cRu r)) (X := iv r.kind) (.tmp 54) rfl Tryd.underlying3 rfl rfl) ⟨.inl rfl, trivial⟩ ⟨rfl, trivial⟩ trivial ?_
 refine t_op rfl (sp_fieldBox (off' := 2) (.tmp 3) rfl Tryd.underlying76 rfl (z := 1) (by kernel_rfl) (by decide) rfl) ⟨.inl rfl, trivial⟩ trivial trivial ?_
 refine t_op rfl (sp_loadBox1 (Y := .box 76 (cRu r)) (X := iv r.frm) (.tmp 56) rfl Tryd.underlying3 rfl rfl) ⟨.inl rfl, trivial⟩ ⟨rfl, trivial⟩ trivial ?_
 refine t_op rfl (sp_fieldBox (off' := 3) (.tmp 3) rfl Tryd.underlying76 rfl (z := 1) (by kernel_rfl) (by decide) rfl) ⟨.inl rfl, trivial⟩ trivial trivial ?_
 refine t_op rfl (sp_loadBox1 (Y := .box 76 (cRu r)) (X := iv r.to) (.tmp 58) rfl Tryd.underlying3 rfl rfl) ⟨.inl rfl, trivial⟩ ⟨rfl, trivial⟩ trivial ?_
 refine t_op rfl (sp_fieldBox (off' := 4) (.tmp 3) rfl Tryd.underlying76 rfl (z := 1) (by kernel_rfl) (by decide) rfl) ⟨.inl rfl, trivial⟩ trivial trivial ?_
 refine t_op rfl (sp_loadBox1 (Y := .box 76 (cRu r)) (X := iv r.pf) (.tmp 60) rfl Tryd.underlying3 rfl rfl) ⟨.inl rfl, trivial⟩ ⟨rfl, trivial⟩ trivial ?_
 refine t_op rfl (sp_fieldBox (off' := 5) (.tmp 3) rfl Tryd.underlying76 rfl (z := 1) (by kernel_rfl) (by decide) rfl) ⟨.inl rfl, trivial⟩ trivial trivial ?_
 refine t_op rfl (sp_loadBox1 (Y := .box 76 (cRu r)) (X := iv r.pt) (.tmp 62) rfl Tryd.underlying3 rfl rfl) ⟨.inl rfl, trivial⟩ ⟨rfl, trivial⟩ trivial ?_
 refine t_op rfl (sp_fieldBox (off' := 10) (.tmp 3) rfl Tryd.underlying76 rfl (z := 1) (by kernel_rfl) (by decide) rfl) ⟨.inl rfl, trivial⟩ trivial trivial ?_
 refine t_op rfl (sp_loadBox1 (Y := .box 76 (cRu r)) (X := iv r.rd) (.tmp 64) rfl Tryd.underlying3 rfl rfl) ⟨.inl rfl, trivial⟩ ⟨rfl, trivial⟩ trivial ?_
 refine t_op rfl (sp_fieldBox (off' := 11) (.tmp 3) rfl Tryd.underlying76 rfl (z := 1) (by kernel_rfl) (by decide) rfl) ⟨.inl rfl, trivial⟩ trivial trivial ?_
 refine t_op rfl (sp_loadBox1 (Y := .box 76 (cRu r)) (X := iv r.wr) (.tmp 66) rfl Tryd.underlying3 rfl rfl) ⟨.inl rfl, trivial⟩ ⟨rfl, trivial⟩ trivial ?_
 refine t_op rfl (sp_fieldBox (off' := 13) (.tmp 3) rfl Tryd.underlying76 rfl (z := 1) (by kernel_rfl) (by decide) rfl) ⟨.inl rfl, trivial⟩ trivial trivial ?_
 refine t_op rfl (sp_loadBox1 (Y := .box 76 (cRu r)) (X := iv r.pos) (.tmp 68) rfl Tryd.underlying3 rfl rfl) ⟨.inl rfl, trivial⟩ ⟨rfl, trivial⟩ trivial ?_
 refine t_op rfl (sp_fieldBox (off' := 17) (.tmp 3) rfl Tryd.underlying76 rfl (z := 1) (by kernel_rfl) (by decide) rfl) ⟨.inl rfl, trivial⟩ trivial trivial ?_
 refine t_op rfl (sp_loadBox1 (Y := .box 76 (cRu r)) (X := iv r.dir) (.tmp 70) rfl Tryd.underlying3 rfl rfl) ⟨.inl rfl, trivial⟩ ⟨rfl, trivial⟩ trivial ?_
 refine t_op rfl (sp_build (z := 1) (k := 4) (fr := true) (cs := [iv r.kind, iv r.frm, iv r.to, iv r.pf, iv r.pt, iv r.rd, iv r.wr, iv r.pos, iv r.dir]) [.tmp 55, .tmp 57, .tmp 59, .tmp 61, .tmp 63, .tmp 65, .tmp 67, .tmp 69, .tmp 71] [iv r.kind, iv r.frm, iv r.to, iv r.pf, iv r.pt, iv r.rd, iv r.wr, iv r.pos, iv r.dir] rfl Tryd.underlying24 (by kernel_rfl) (by decide) (by decide) rfl rfl rfl (by kernel_rfl) (by decide) (fun _ => by simp [AV.cellsOf, AV.isNew, cLn, cTh]) (by kernel_rfl)) ⟨.inl rfl, .inl rfl, .inl rfl, .inl rfl, .inl rfl, .inl rfl, .inl rfl, .inl rfl, .inl rfl, trivial⟩ trivial rfl ?_
 refine t_op rfl (sp_assign (.tmp 72) (.own 4) rfl) ⟨.inl rfl, trivial⟩ trivial trivial ?_
 refine tri_nil ?_
 refine tri_wk (wk_keep [(1, .box 76 (cRu r)), (2, .box 76 (cRu r)), (3, .row true 3 1 9 ([iv r.kind, iv r.frm, iv r.to, iv r.pf, iv r.pt, iv r.rd, iv r.wr, iv r.pos, iv r.dir])), (4, .row true 3 1 9 ([iv r.kind, iv r.frm, iv r.to, iv r.pf, iv r.pt, iv r.rd, iv r.wr, iv r.pos, iv r.dir]))] [(2, .box 1 0), (3, .box 2 0), (6, .own 3), (7, .own 4)] (n := 126) rfl (by kernel_rfl) (by kernel_rfl)) ?_
 refine t_then ?_
 refine tri_seq ?_
 refine tri_region ?_
 refine t_op rfl (sp_move (.tmp 6) (.own 3) rfl) ⟨.inl rfl, trivial⟩ trivial trivial ?_
 refine t_op rfl (sp_move (.tmp 7) (.own 4) rfl) ⟨.inl rfl, trivial⟩ trivial trivial ?_
 refine t_op rfl (sp_call (c := .func 35) (xs := #[.tmp 73, .tmp 74]) [(3, .row true 3 1 9 ([iv r.kind, iv r.frm, iv r.to, iv r.pf, iv r.pt, iv r.rd, iv r.wr, iv r.pos, iv r.dir])), (4, .row true 3 1 9 ([iv r.kind, iv r.frm, iv r.to, iv r.pf, iv r.pt, iv r.rd, iv r.wr, iv r.pos, iv r.dir]))] (sameInts_c ([r.kind, r.frm, r.to, r.pf, r.pt, r.rd, r.wr, r.pos, r.dir]) (ruInts HR)) rfl (by kernel_rfl) rfl (Xs := [.own 3, .own 4]) rfl rfl rfl) ⟨.inl rfl, .inl rfl, .inl rfl, trivial⟩ ⟨rfl, rfl, trivial⟩ trivial ?_
 refine t_op rfl (sp_move (.tmp 75) (bv true) rfl) ⟨.inl rfl, trivial⟩ trivial trivial ?_
 refine t_opG rfl (sp_fieldBox (off' := 6) (.tmp 2) rfl Tryd.underlying76 rfl (z := 1) (by kernel_rfl) (by decide) rfl) ⟨.inl rfl, trivial⟩ trivial trivial ?_
 refine t_opG rfl (sp_loadBox1 (Y := .box 76 (cRu r)) (X := intsA r.resp) (.tmp 77) rfl Tryd.underlying24 rfl rfl) ⟨.inl rfl, trivial⟩ ⟨rfl, trivial⟩ trivial ?_
 refine t_opG rfl (sp_fieldBox (off' := 6) (.tmp 3) rfl Tryd.underlying76 rfl (z := 1) (by kernel_rfl) (by decide) rfl) ⟨.inl rfl, trivial⟩ trivial trivial ?_
 refine t_opG rfl (sp_loadBox1 (Y := .box 76 (cRu r)) (X := intsA r.resp) (.tmp 79) rfl Tryd.underlying24 rfl rfl) ⟨.inl rfl, trivial⟩ ⟨rfl, trivial⟩ trivial ?_
 refine t_opG rfl (sp_call (c := .func 35) (xs := #[.tmp 78, .tmp 80]) [] (sameInts_c r.resp HR.resp) rfl (by kernel_rfl) rfl (Xs := [intsA r.resp, intsA r.resp]) rfl rfl rfl) ⟨.inl rfl, .inl rfl, .inl rfl, trivial⟩ trivial trivial ?_
 refine t_op rfl (sp_pick (.tmp 76) (.tmp 81) (.const (.bool false)) true (bv true) (bv false) rfl) ⟨.inl rfl, .inl rfl, .inl rfl, trivial⟩ trivial trivial ?_
 refine t_op rfl (sp_move (.tmp 82) (bv true) rfl) ⟨.inl rfl, trivial⟩ trivial trivial ?_
 refine t_opG rfl (sp_fieldBox (off' := 8) (.tmp 2) rfl Tryd.underlying76 rfl (z := 1) (by kernel_rfl) (by decide) rfl) ⟨.inl rfl, trivial⟩ trivial trivial ?_
 refine t_opG rfl (sp_loadBox1 (Y := .box 76 (cRu r)) (X := intsA r.ex) (.tmp 84) rfl Tryd.underlying24 rfl rfl) ⟨.inl rfl, trivial⟩ ⟨rfl, trivial⟩ trivial ?_
 refine t_opG rfl (sp_fieldBox (off' := 8) (.tmp 3) rfl Tryd.underlying76 rfl (z := 1) (by kernel_rfl) (by decide) rfl) ⟨.inl rfl, trivial⟩ trivial trivial ?_
 refine t_opG rfl (sp_loadBox1 (Y := .box 76 (cRu r)) (X := intsA r.ex) (.tmp 86) rfl Tryd.underlying24 rfl rfl) ⟨.inl rfl, trivial⟩ ⟨rfl, trivial⟩ trivial ?_
 refine t_opG rfl (sp_call (c := .func 35) (xs := #[.tmp 85, .tmp 87]) [] (sameInts_c r.ex HR.ex) rfl (by kernel_rfl) rfl (Xs := [intsA r.ex, intsA r.ex]) rfl rfl rfl) ⟨.inl rfl, .inl rfl, .inl rfl, trivial⟩ trivial trivial ?_
 refine t_op rfl (sp_pick (.tmp 83) (.tmp 88) (.const (.bool false)) true (bv true) (bv false) rfl) ⟨.inl rfl, .inl rfl, .inl rfl, trivial⟩ trivial trivial ?_
 refine t_op rfl (sp_move (.tmp 89) (bv true) rfl) ⟨.inl rfl, trivial⟩ trivial trivial ?_
 refine t_opG rfl (sp_fieldBox (off' := 9) (.tmp 2) rfl Tryd.underlying76 rfl (z := 1) (by kernel_rfl) (by decide) rfl) ⟨.inl rfl, trivial⟩ trivial trivial ?_
 refine t_opG rfl (sp_loadBox1 (Y := .box 76 (cRu r)) (X := intsA r.fa) (.tmp 91) rfl Tryd.underlying24 rfl rfl) ⟨.inl rfl, trivial⟩ ⟨rfl, trivial⟩ trivial ?_
 refine t_opG rfl (sp_fieldBox (off' := 9) (.tmp 3) rfl Tryd.underlying76 rfl (z := 1) (by kernel_rfl) (by decide) rfl) ⟨.inl rfl, trivial⟩ trivial trivial ?_
 refine t_opG rfl (sp_loadBox1 (Y := .box 76 (cRu r)) (X := intsA r.fa) (.tmp 93) rfl Tryd.underlying24 rfl rfl) ⟨.inl rfl, trivial⟩ ⟨rfl, trivial⟩ trivial ?_
 refine t_opG rfl (sp_call (c := .func 35) (xs := #[.tmp 92, .tmp 94]) [] (sameInts_c r.fa HR.fa) rfl (by kernel_rfl) rfl (Xs := [intsA r.fa, intsA r.fa]) rfl rfl rfl) ⟨.inl rfl, .inl rfl, .inl rfl, trivial⟩ trivial trivial ?_
 refine t_op rfl (sp_pick (.tmp 90) (.tmp 95) (.const (.bool false)) true (bv true) (bv false) rfl) ⟨.inl rfl, .inl rfl, .inl rfl, trivial⟩ trivial trivial ?_
 refine t_op rfl (sp_assign (.tmp 96) (bv true) rfl) ⟨.inl rfl, trivial⟩ trivial trivial ?_
 refine tri_nil ?_
 refine tri_wk (wk_keep [(1, .box 76 (cRu r)), (2, .box 76 (cRu r))] [(2, .box 1 0), (3, .box 2 0), (8, bv true)] (n := 126) rfl (by kernel_rfl) (by kernel_rfl)) ?_
 refine t_then ?_
 refine tri_seq ?_
 refine tri_region ?_
 refine t_op rfl (sp_move (.tmp 8) (bv true) rfl) ⟨.inl rfl, trivial⟩ trivial trivial ?_
 refine t_op rfl (sp_move (.tmp 97) (bv true) rfl) ⟨.inl rfl, trivial⟩ trivial trivial ?_
 refine t_opG rfl (sp_fieldBox (off' := 12) (.tmp 2) rfl Tryd.underlying76 rfl (z := 1) (by kernel_rfl) (by decide) rfl) ⟨.inl rfl, trivial⟩ trivial trivial ?_
 refine t_opG rfl (sp_loadBox1 (Y := .box 76 (cRu r)) (X := intsA r.send) (.tmp 99) rfl Tryd.underlying24 rfl rfl) ⟨.inl rfl, trivial⟩ ⟨rfl, trivial⟩ trivial ?_
 refine t_opG rfl (sp_fieldBox (off' := 12) (.tmp 3) rfl Tryd.underlying76 rfl (z := 1) (by kernel_rfl) (by decide) rfl) ⟨.inl rfl, trivial⟩ trivial trivial ?_
 refine t_opG rfl (sp_loadBox1 (Y := .box 76 (cRu r)) (X := intsA r.send) (.tmp 101) rfl Tryd.underlying24 rfl rfl) ⟨.inl rfl, trivial⟩ ⟨rfl, trivial⟩ trivial ?_
 refine t_opG rfl (sp_call (c := .func 35) (xs := #[.tmp 100, .tmp 102]) [] (sameInts_c r.send HR.send) rfl (by kernel_rfl) rfl (Xs := [intsA r.send, intsA r.send]) rfl rfl rfl) ⟨.inl rfl, .inl rfl, .inl rfl, trivial⟩ trivial trivial ?_
 refine t_op rfl (sp_pick (.tmp 98) (.tmp 103) (.const (.bool false)) true (bv true) (bv false) rfl) ⟨.inl rfl, .inl rfl, .inl rfl, trivial⟩ trivial trivial ?_
 refine t_op rfl (sp_move (.tmp 104) (bv true) rfl) ⟨.inl rfl, trivial⟩ trivial trivial ?_
 refine t_opG rfl (sp_fieldBox (off' := 14) (.tmp 2) rfl Tryd.underlying76 rfl (z := 1) (by kernel_rfl) (by decide) rfl) ⟨.inl rfl, trivial⟩ trivial trivial ?_
 refine t_opG rfl (sp_loadBox1 (Y := .box 76 (cRu r)) (X := intsA r.left) (.tmp 106) rfl Tryd.underlying24 rfl rfl) ⟨.inl rfl, trivial⟩ ⟨rfl, trivial⟩ trivial ?_
 refine t_opG rfl (sp_fieldBox (off' := 14) (.tmp 3) rfl Tryd.underlying76 rfl (z := 1) (by kernel_rfl) (by decide) rfl) ⟨.inl rfl, trivial⟩ trivial trivial ?_
 refine t_opG rfl (sp_loadBox1 (Y := .box 76 (cRu r)) (X := intsA r.left) (.tmp 108) rfl Tryd.underlying24 rfl rfl) ⟨.inl rfl, trivial⟩ ⟨rfl, trivial⟩ trivial ?_
 refine t_opG rfl (sp_call (c := .func 35) (xs := #[.tmp 107, .tmp 109]) [] (sameInts_c r.left HR.left) rfl (by kernel_rfl) rfl (Xs := [intsA r.left, intsA r.left]) rfl rfl rfl) ⟨.inl rfl, .inl rfl, .inl rfl, trivial⟩ trivial trivial ?_
 refine t_op rfl (sp_pick (.tmp 105) (.tmp 110) (.const (.bool false)) true (bv true) (bv false) rfl) ⟨.inl rfl, .inl rfl, .inl rfl, trivial⟩ trivial trivial ?_
 refine t_op rfl (sp_move (.tmp 111) (bv true) rfl) ⟨.inl rfl, trivial⟩ trivial trivial ?_
 refine t_opG rfl (sp_fieldBox (off' := 15) (.tmp 2) rfl Tryd.underlying76 rfl (z := 1) (by kernel_rfl) (by decide) rfl) ⟨.inl rfl, trivial⟩ trivial trivial ?_
 refine t_opG rfl (sp_loadBox1 (Y := .box 76 (cRu r)) (X := intsA r.right) (.tmp 113) rfl Tryd.underlying24 rfl rfl) ⟨.inl rfl, trivial⟩ ⟨rfl, trivial⟩ trivial ?_
 refine t_opG rfl (sp_fieldBox (off' := 15) (.tmp 3) rfl Tryd.underlying76 rfl (z := 1) (by kernel_rfl) (by decide) rfl) ⟨.inl rfl, trivial⟩ trivial trivial ?_
 refine t_opG rfl (sp_loadBox1 (Y := .box 76 (cRu r)) (X := intsA r.right) (.tmp 115) rfl Tryd.underlying24 rfl rfl) ⟨.inl rfl, trivial⟩ ⟨rfl, trivial⟩ trivial ?_
 refine t_opG rfl (sp_call (c := .func 35) (xs := #[.tmp 114, .tmp 116]) [] (sameInts_c r.right HR.right) rfl (by kernel_rfl) rfl (Xs := [intsA r.right, intsA r.right]) rfl rfl rfl) ⟨.inl rfl, .inl rfl, .inl rfl, trivial⟩ trivial trivial ?_
 refine t_op rfl (sp_pick (.tmp 112) (.tmp 117) (.const (.bool false)) true (bv true) (bv false) rfl) ⟨.inl rfl, .inl rfl, .inl rfl, trivial⟩ trivial trivial ?_
 refine t_op rfl (sp_move (.tmp 118) (bv true) rfl) ⟨.inl rfl, trivial⟩ trivial trivial ?_
 refine t_opG rfl (sp_fieldBox (off' := 16) (.tmp 2) rfl Tryd.underlying76 rfl (z := 1) (by kernel_rfl) (by decide) rfl) ⟨.inl rfl, trivial⟩ trivial trivial ?_
 refine t_opG rfl (sp_loadBox1 (Y := .box 76 (cRu r)) (X := intsA r.parent) (.tmp 120) rfl Tryd.underlying24 rfl rfl) ⟨.inl rfl, trivial⟩ ⟨rfl, trivial⟩ trivial ?_
 refine t_opG rfl (sp_fieldBox (off' := 16) (.tmp 3) rfl Tryd.underlying76 rfl (z := 1) (by kernel_rfl) (by decide) rfl) ⟨.inl rfl, trivial⟩ trivial trivial ?_
 refine t_opG rfl (sp_loadBox1 (Y := .box 76 (cRu r)) (X := intsA r.parent) (.tmp 122) rfl Tryd.underlying24 rfl rfl) ⟨.inl rfl, trivial⟩ ⟨rfl, trivial⟩ trivial ?_
 refine t_opG rfl (sp_call (c := .func 35) (xs := #[.tmp 121, .tmp 123]) [] (sameInts_c r.parent HR.parent) rfl (by kernel_rfl) rfl (Xs := [intsA r.parent, intsA r.parent]) rfl rfl rfl) ⟨.inl rfl, .inl rfl, .inl rfl, trivial⟩ trivial trivial ?_
 refine t_op rfl (sp_pick (.tmp 119) (.tmp 124) (.const (.bool false)) true (bv true) (bv false) rfl) ⟨.inl rfl, .inl rfl, .inl rfl, trivial⟩ trivial trivial ?_
 refine t_op rfl (sp_assign (.tmp 125) (bv true) rfl) ⟨.inl rfl, trivial⟩ trivial trivial ?_
 refine tri_nil ?_
 refine tri_wk (wk_keep [] [(4, bv true)] (n := 126) rfl (by kernel_rfl) (by kernel_rfl)) ?_
 refine t_then ?_
 refine tri_ret ?_
 refine tri_end1 Tryd.results62 (.tmp rfl) ?_
 exact rfl
set_option linter.unusedSimpArgs false in
set_option linter.unusedVariables false in
set_option maxRecDepth 100000 in
set_option maxHeartbeats 6400000 in
theorem rEqual_s {q : Fm} (HQ : FmOk q) : Ctr Tryd.prog J 18 [.agg (cFm q), .agg (cFm q)] (bv true) := by
 have l1 := HQ.lrules
 refine ctr_of_tri Tryd.func18 rfl (by intro X hX; simp only [List.mem_cons, List.not_mem_nil, or_false] at hX; rcases hX with rfl | rfl <;> exact plain_agg (plain_fm q)) (n := 110) rfl (by simp) (fun w0 => ?_)
 refine tri_wk (wk_keep [] [(0, .agg (cFm q)), (1, .agg (cFm q))] (n := 110) rfl (by kernel_rfl) (by kernel_rfl)) ?_
 refine tri_seq ?_
 refine tri_region ?_
 refine t_op rfl (sp_box (X := .agg (cFm q)) (k := 1) (.tmp 0) rfl rfl) ⟨.inl rfl, trivial⟩ trivial rfl ?_
 refine t_op rfl (sp_box (X := .agg (cFm q)) (k := 2) (.tmp 1) rfl rfl) ⟨.inl rfl, trivial⟩ trivial rfl ?_
 refine t_op rfl (sp_assign (.const (.bool false)) (bv false) rfl) ⟨.inl rfl, trivial⟩ trivial trivial ?_
 refine tri_nil ?_
 refine tri_wk (wk_keep [(1, .box 27 (cFm q)), (2, .box 27 (cFm q))] [(2, .box 1 0), (3, .box 2 0), (4, bv false)] (n := 110) rfl (by kernel_rfl) (by kernel_rfl)) ?_
 refine t_then ?_
 refine tri_seq ?_
 refine tri_seq ?_
 refine tri_region ?_
 refine t_op rfl (sp_fieldBox (off' := 0) (.tmp 2) rfl Tryd.underlying27 rfl (z := 1) (by kernel_rfl) (by decide) rfl) ⟨.inl rfl, trivial⟩ trivial trivial ?_
 refine t_op rfl (sp_loadBox1 (Y := .box 27 (cFm q)) (X := sv q.nm) (.tmp 7) rfl Tryd.underlying9 rfl rfl) ⟨.inl rfl, trivial⟩ ⟨rfl, trivial⟩ trivial ?_
 refine t_op rfl (sp_fieldBox (off' := 0) (.tmp 3) rfl Tryd.underlying27 rfl (z := 1) (by kernel_rfl) (by decide) rfl) ⟨.inl rfl, trivial⟩ trivial trivial ?_
 refine t_op rfl (sp_loadBox1 (Y := .box 27 (cFm q)) (X := sv q.nm) (.tmp 9) rfl Tryd.underlying9 rfl rfl) ⟨.inl rfl, trivial⟩ ⟨rfl, trivial⟩ trivial ?_
 refine t_op rfl (sp_sneq (r := false) rfl (beq_self_eq_true _)) ⟨.inl rfl, .inl rfl, trivial⟩ trivial trivial ?_
 refine t_op rfl (sp_move (.tmp 11) (bv false) rfl) ⟨.inl rfl, trivial⟩ trivial trivial ?_
 refine t_opG rfl (sp_fieldBox (off' := 1) (.tmp 2) rfl Tryd.underlying27 rfl (z := 1) (by kernel_rfl) (by decide) rfl) ⟨.inl rfl, trivial⟩ trivial trivial ?_
 refine t_opG rfl (sp_loadBox1 (Y := .box 27 (cFm q)) (X := iv q.top) (.tmp 13) rfl Tryd.underlying3 rfl rfl) ⟨.inl rfl, trivial⟩ ⟨rfl, trivial⟩ trivial ?_
 refine t_opG rfl (sp_fieldBox (off' := 1) (.tmp 3) rfl Tryd.underlying27 rfl (z := 1) (by kernel_rfl) (by decide) rfl) ⟨.inl rfl, trivial⟩ trivial trivial ?_
 refine t_opG rfl (sp_loadBox1 (Y := .box 27 (cFm q)) (X := iv q.top) (.tmp 15) rfl Tryd.underlying3 rfl rfl) ⟨.inl rfl, trivial⟩ ⟨rfl, trivial⟩ trivial ?_
 refine t_opG rfl (sp_neq rfl (dT' rfl)) ⟨.inl rfl, .inl rfl, trivial⟩ trivial trivial ?_
 refine t_op rfl (sp_pick (.tmp 12) (.const (.bool true)) (.tmp 17) false (bv true) (bv false) rfl) ⟨.inl rfl, .inl rfl, .inl rfl, trivial⟩ trivial trivial ?_
 refine t_op rfl (sp_move (.tmp 18) (bv false) rfl) ⟨.inl rfl, trivial⟩ trivial trivial ?_
 refine t_opG rfl (sp_fieldBox (off' := 5) (.tmp 2) rfl Tryd.underlying27 rfl (z := 1) (by kernel_rfl) (by decide) rfl) ⟨.inl rfl, trivial⟩ trivial trivial ?_
 refine t_opG rfl (sp_loadBox1 (Y := .box 27 (cFm q)) (X := iv q.fault) (.tmp 20) rfl Tryd.underlying3 rfl rfl) ⟨.inl rfl, trivial⟩ ⟨rfl, trivial⟩ trivial ?_
 refine t_opG rfl (sp_fieldBox (off' := 5) (.tmp 3) rfl Tryd.underlying27 rfl (z := 1) (by kernel_rfl) (by decide) rfl) ⟨.inl rfl, trivial⟩ trivial trivial ?_
 refine t_opG rfl (sp_loadBox1 (Y := .box 27 (cFm q)) (X := iv q.fault) (.tmp 22) rfl Tryd.underlying3 rfl rfl) ⟨.inl rfl, trivial⟩ ⟨rfl, trivial⟩ trivial ?_
 refine t_opG rfl (sp_neq rfl (dT' rfl)) ⟨.inl rfl, .inl rfl, trivial⟩ trivial trivial ?_
 refine t_op rfl (sp_pick (.tmp 19) (.const (.bool true)) (.tmp 24) false (bv true) (bv false) rfl) ⟨.inl rfl, .inl rfl, .inl rfl, trivial⟩ trivial trivial ?_
 refine t_op rfl (sp_move (.tmp 25) (bv false) rfl) ⟨.inl rfl, trivial⟩ trivial trivial ?_
 refine t_opG rfl (sp_fieldBox (off' := 9) (.tmp 2) rfl Tryd.underlying27 rfl (z := 1) (by kernel_rfl) (by decide) rfl) ⟨.inl rfl, trivial⟩ trivial trivial ?_
 refine t_opG rfl (sp_loadBox1 (Y := .box 27 (cFm q)) (X := slA 18 cRu q.rules) (.tmp 27) rfl Tryd.underlying25 rfl rfl) ⟨.inl rfl, trivial⟩ ⟨rfl, trivial⟩ trivial ?_
 refine t_opG rfl (sp_lenSl (.tmp 28) rfl Tryd.underlying25) ⟨.inl rfl, trivial⟩ trivial trivial ?_
 refine t_opG rfl (sp_fieldBox (off' := 9) (.tmp 3) rfl Tryd.underlying27 rfl (z := 1) (by kernel_rfl) (by decide) rfl) ⟨.inl rfl, trivial⟩ trivial trivial ?_
 refine t_opG rfl (sp_loadBox1 (Y := .box 27 (cFm q)) (X := slA 18 cRu q.rules) (.tmp 30) rfl Tryd.underlying25 rfl rfl) ⟨.inl rfl, trivial⟩ ⟨rfl, trivial⟩ trivial ?_
 refine t_opG rfl (sp_lenSl (.tmp 31) rfl Tryd.underlying25) ⟨.inl rfl, trivial⟩ trivial trivial ?_
 refine t_opG rfl (sp_neq rfl (dT' rfl)) ⟨.inl rfl, .inl rfl, trivial⟩ trivial trivial ?_
 refine t_op rfl (sp_pick (.tmp 26) (.const (.bool true)) (.tmp 33) false (bv true) (bv false) rfl) ⟨.inl rfl, .inl rfl, .inl rfl, trivial⟩ trivial trivial ?_
 refine tri_nil ?_
 refine tri_wk (wk_keep [(1, .box 27 (cFm q)), (2, .box 27 (cFm q))] [(2, .box 1 0), (3, .box 2 0), (4, bv false), (34, bv false)] (n := 110) rfl (by kernel_rfl) (by kernel_rfl)) ?_
 refine t_then ?_
 refine t_condF rfl ?_
 refine tri_skip ?_
 refine t_then ?_
 refine tri_seq ?_
 refine tri_seq ?_
 refine tri_region ?_
 refine t_op rfl (sp_assign (.const (.int .i64 0)) (iv 0) rfl) ⟨.inl rfl, trivial⟩ trivial trivial ?_
 refine tri_nil ?_
 refine tri_wk (wk_keep [(1, .box 27 (cFm q)), (2, .box 27 (cFm q))] [(2, .box 1 0), (3, .box 2 0), (4, bv false), (5, iv 0)] (n := 110) rfl (by kernel_rfl) (by kernel_rfl)) ?_
 refine t_then ?_
 refine tri_block ?_
 refine tri_loop (σ := {k : Nat // k ≤ q.rules.length}) (fun s => (ofL [(1, .box 27 (cFm q)), (2, .box 27 (cFm q))], ofT 110 [(2, .box 1 0), (3, .box 2 0), (5, iv s.1)])) (fun s => q.rules.length - s.1) ⟨0, Nat.zero_le _⟩ (wk_keep _ _ rfl (by kernel_rfl) (by kernel_rfl)) (fun s => ?_)
 obtain ⟨k, hk0⟩ := s
 show ETri J w0 (ofL [(1, .box 27 (cFm q)), (2, .box 27 (cFm q))]) (ofT 110 [(2, .box 1 0), (3, .box 2 0), (5, iv k)]) _
 refine tri_seq ?_
 refine tri_seq ?_
 by_cases hs1 : ((k : Nat) : Int) < ((q.rules.length : Nat) : Int)
 refine tri_region ?_
 refine t_op rfl (sp_move (.tmp 5) (iv k) rfl) ⟨.inl rfl, trivial⟩ trivial trivial ?_
 refine t_op rfl (sp_fieldBox (off' := 9) (.tmp 2) rfl Tryd.underlying27 rfl (z := 1) (by kernel_rfl) (by decide) rfl) ⟨.inl rfl, trivial⟩ trivial trivial ?_
 refine t_op rfl (sp_loadBox1 (Y := .box 27 (cFm q)) (X := slA 18 cRu q.rules) (.tmp 36) rfl Tryd.underlying25 rfl rfl) ⟨.inl rfl, trivial⟩ ⟨rfl, trivial⟩ trivial ?_
 refine t_op rfl (sp_lenSl (.tmp 37) rfl Tryd.underlying25) ⟨.inl rfl, trivial⟩ trivial trivial ?_
 refine t_op rfl (sp_lss rfl (dT hs1)) ⟨.inl rfl, .inl rfl, trivial⟩ trivial trivial ?_
 refine tri_nil ?_
 refine tri_wk (wk_keep [(1, .box 27 (cFm q)), (2, .box 27 (cFm q))] [(2, .box 1 0), (3, .box 2 0), (5, iv k), (39, bv true)] (n := 110) rfl (by kernel_rfl) (by kernel_rfl)) ?_
 refine t_then ?_
 refine t_condT rfl ?_
 refine tri_skip ?_
 refine t_then ?_
 refine tri_seq ?_
 refine tri_block ?_
 refine tri_seq ?_
 refine tri_draw [⟨[(.tmp 2, .box 1 0)], [], .box 1 9, .no⟩, ⟨[(.tmp 42, .box 1 9)], [(1, .box 27 (cFm q))], slA 18 cRu q.rules, .no⟩, ⟨[(.tmp 5, iv k)], [], iv k, .no⟩, ⟨[(.tmp 43, slA 18 cRu q.rules), (.tmp 44, iv k)], [], .el (q.rules.flatMap cRu) (k * 18), .no⟩, ⟨[(.tmp 45, .el (q.rules.flatMap cRu) (k * 18))], [], .el (q.rules.flatMap cRu) (k * 18), .no⟩, ⟨[(.tmp 46, .el (q.rules.flatMap cRu) (k * 18))], [], sv q.rules[k].nm, .no⟩, ⟨[(.tmp 3, .box 2 0)], [], .box 2 9, .no⟩, ⟨[(.tmp 48, .box 2 9)], [(2, .box 27 (cFm q))], slA 18 cRu q.rules, .no⟩, ⟨[(.tmp 5, iv k)], [], iv k, .no⟩, ⟨[(.tmp 49, slA 18 cRu q.rules), (.tmp 50, iv k)], [], .el (q.rules.flatMap cRu) (k * 18), .no⟩, ⟨[(.tmp 51, .el (q.rules.flatMap cRu) (k * 18))], [], .el (q.rules.flatMap cRu) (k * 18), .no⟩, ⟨[(.tmp 52, .el (q.rules.flatMap cRu) (k * 18))], [], sv q.rules[k].nm, .no⟩, ⟨[(.tmp 47, sv q.rules[k].nm), (.tmp 53, sv q.rules[k].nm)], [], bv false, .no⟩, ⟨[(.tmp 54, bv false)], [], bv false, .no⟩, ⟨[(.tmp 2, .box 1 0)], [], .box 1 9, .no⟩, ⟨[(.tmp 56, .box 1 9)], [(1, .box 27 (cFm q))], slA 18 cRu q.rules, .no⟩, ⟨[(.tmp 5, iv k)], [], iv k, .no⟩, ⟨[(.tmp 57, slA 18 cRu q.rules), (.tmp 58, iv k)], [], .el (q.rules.flatMap cRu) (k * 18), .no⟩, ⟨[(.tmp 59, .el (q.rules.flatMap cRu) (k * 18))], [], .agg (cRu q.rules[k]), .no⟩, ⟨[(.tmp 3, .box 2 0)], [], .box 2 9, .no⟩, ⟨[(.tmp 61, .box 2 9)], [(2, .box 27 (cFm q))], slA 18 cRu q.rules, .no⟩, ⟨[(.tmp 5, iv k)], [], iv k, .no⟩, ⟨[(.tmp 62, slA 18 cRu q.rules), (.tmp 63, iv k)], [], .el (q.rules.flatMap cRu) (k * 18), .no⟩, ⟨[(.tmp 64, .el (q.rules.flatMap cRu) (k * 18))], [], .agg (cRu q.rules[k]), .no⟩, ⟨[(.func 62, .v (.func (.func 62) #[] #[])), (.tmp 60, .agg (cRu q.rules[k])), (.tmp 65, .agg (cRu q.rules[k]))], [], bv true, .no⟩, ⟨[(.tmp 66, bv true)], [], bv false, .no⟩, ⟨[(.tmp 55, bv false), (.const (.bool true), bv true), (.tmp 67, bv false)], [], bv false, .no⟩] (by kernel_rfl) (by kernel_rfl) ?_
 refine ⟨app_yes rfl (sp_fieldBox (off' := 9) (.tmp 2) rfl Tryd.underlying27 rfl (z := 1) (by kernel_rfl) (by decide) rfl) ⟨.inl rfl, trivial⟩ trivial trivial, ?_⟩
 refine ⟨app_yes rfl (sp_loadBox1 (Y := .box 27 (cFm q)) (X := slA 18 cRu q.rules) (.tmp 42) rfl Tryd.underlying25 rfl rfl) ⟨.inl rfl, trivial⟩ ⟨rfl, trivial⟩ trivial, ?_⟩
 refine ⟨app_yes rfl (sp_move (.tmp 5) (iv k) rfl) ⟨.inl rfl, trivial⟩ trivial trivial, ?_⟩
 refine ⟨app_yes rfl (sp_indexSl (off := k * 18) (.tmp 43) (.tmp 44) rfl Tryd.underlying25 (by kernel_rfl) (by omega) (by omega) rfl) ⟨.inl rfl, .inl rfl, trivial⟩ trivial trivial, ?_⟩
 refine ⟨app_yes rfl (sp_fieldEl (off' := k * 18) (.tmp 45) rfl Tryd.underlying76 rfl (z := 1) (by kernel_rfl) (by decide) rfl) ⟨.inl rfl, trivial⟩ trivial trivial, ?_⟩
 refine ⟨app_yes rfl (sp_loadEl1 (X := sv q.rules[k].nm) (.tmp 46) rfl Tryd.underlying9 rfl ((eflat_get lenRu q.rules k 0 (by omega) (by decide)).trans rfl)) ⟨.inl rfl, trivial⟩ trivial trivial, ?_⟩
 refine ⟨app_yes rfl (sp_fieldBox (off' := 9) (.tmp 3) rfl Tryd.underlying27 rfl (z := 1) (by kernel_rfl) (by decide) rfl) ⟨.inl rfl, trivial⟩ trivial trivial, ?_⟩
 refine ⟨app_yes rfl (sp_loadBox1 (Y := .box 27 (cFm q)) (X := slA 18 cRu q.rules) (.tmp 48) rfl Tryd.underlying25 rfl rfl) ⟨.inl rfl, trivial⟩ ⟨rfl, trivial⟩ trivial, ?_⟩
 refine ⟨app_yes rfl (sp_move (.tmp 5) (iv k) rfl) ⟨.inl rfl, trivial⟩ trivial trivial, ?_⟩
 refine ⟨app_yes rfl (sp_indexSl (off := k * 18) (.tmp 49) (.tmp 50) rfl Tryd.underlying25 (by kernel_rfl) (by omega) (by omega) rfl) ⟨.inl rfl, .inl rfl, trivial⟩ trivial trivial, ?_⟩
 refine ⟨app_yes rfl (sp_fieldEl (off' := k * 18) (.tmp 51) rfl Tryd.underlying76 rfl (z := 1) (by kernel_rfl) (by decide) rfl) ⟨.inl rfl, trivial⟩ trivial trivial, ?_⟩
 refine ⟨app_yes rfl (sp_loadEl1 (X := sv q.rules[k].nm) (.tmp 52) rfl Tryd.underlying9 rfl ((eflat_get lenRu q.rules k 0 (by omega) (by decide)).trans rfl)) ⟨.inl rfl, trivial⟩ trivial trivial, ?_⟩
 refine ⟨app_yes rfl (sp_sneq (r := false) rfl (beq_self_eq_true _)) ⟨.inl rfl, .inl rfl, trivial⟩ trivial trivial, ?_⟩
 refine ⟨app_yes rfl (sp_move (.tmp 54) (bv false) rfl) ⟨.inl rfl, trivial⟩ trivial trivial, ?_⟩
 refine ⟨app_yes rfl (sp_fieldBox (off' := 9) (.tmp 2) rfl Tryd.underlying27 rfl (z := 1) (by kernel_rfl) (by decide) rfl) ⟨.inl rfl, trivial⟩ trivial trivial, ?_⟩
 refine ⟨app_yes rfl (sp_loadBox1 (Y := .box 27 (cFm q)) (X := slA 18 cRu q.rules) (.tmp 56) rfl Tryd.underlying25 rfl rfl) ⟨.inl rfl, trivial⟩ ⟨rfl, trivial⟩ trivial, ?_⟩
 refine ⟨app_yes rfl (sp_move (.tmp 5) (iv k) rfl) ⟨.inl rfl, trivial⟩ trivial trivial, ?_⟩
 refine ⟨app_yes rfl (sp_indexSl (off := k * 18) (.tmp 57) (.tmp 58) rfl Tryd.underlying25 (by kernel_rfl) (by omega) (by omega) rfl) ⟨.inl rfl, .inl rfl, trivial⟩ trivial trivial, ?_⟩
 refine ⟨app_yes rfl (sp_loadElS (z := 18) (.tmp 59) rfl Tryd.underlying76 rfl (by kernel_rfl) (flat_take lenRu q.rules k (by omega)) rfl) ⟨.inl rfl, trivial⟩ trivial trivial, ?_⟩
 refine ⟨app_yes rfl (sp_fieldBox (off' := 9) (.tmp 3) rfl Tryd.underlying27 rfl (z := 1) (by kernel_rfl) (by decide) rfl) ⟨.inl rfl, trivial⟩ trivial trivial, ?_⟩
 refine ⟨app_yes rfl (sp_loadBox1 (Y := .box 27 (cFm q)) (X := slA 18 cRu q.rules) (.tmp 61) rfl Tryd.underlying25 rfl rfl) ⟨.inl rfl, trivial⟩ ⟨rfl, trivial⟩ trivial, ?_⟩
 refine ⟨app_yes rfl (sp_move (.tmp 5) (iv k) rfl) ⟨.inl rfl, trivial⟩ trivial trivial, ?_⟩
 refine ⟨app_yes rfl (sp_indexSl (off := k * 18) (.tmp 62) (.tmp 63) rfl Tryd.underlying25 (by kernel_rfl) (by omega) (by omega) rfl) ⟨.inl rfl, .inl rfl, trivial⟩ trivial trivial, ?_⟩
 refine ⟨app_yes rfl (sp_loadElS (z := 18) (.tmp 64) rfl Tryd.underlying76 rfl (by kernel_rfl) (flat_take lenRu q.rules k (by omega)) rfl) ⟨.inl rfl, trivial⟩ trivial trivial, ?_⟩
 refine ⟨app_yes rfl (sp_call (c := .func 62) (xs := #[.tmp 60, .tmp 65]) [] (sameBut_c (HQ.rules q.rules[k] (List.getElem_mem (by omega)))) rfl (by kernel_rfl) rfl (Xs := [.agg (cRu q.rules[k]), .agg (cRu q.rules[k])]) rfl rfl rfl) ⟨.inl rfl, .inl rfl, .inl rfl, trivial⟩ trivial trivial, ?_⟩
 refine ⟨app_yes rfl (sp_not rfl rfl) ⟨.inl rfl, trivial⟩ trivial trivial, ?_⟩
 refine ⟨app_yes rfl (sp_pick (.tmp 55) (.const (.bool true)) (.tmp 67) false (bv true) (bv false) rfl) ⟨.inl rfl, .inl rfl, .inl rfl, trivial⟩ trivial trivial, ?_⟩
 show ETri J w0 _ _ _
 refine tri_wk (wk_keep [(1, .box 27 (cFm q)), (2, .box 27 (cFm q))] [(2, .box 1 0), (3, .box 2 0), (5, iv k), (39, bv true), (68, bv false)] (n := 110) rfl (by kernel_rfl) (by kernel_rfl)) ?_
 refine t_then ?_
 refine t_condF rfl ?_
 refine tri_skip ?_
 refine t_block ?_
 refine t_then ?_
 refine tri_region ?_
 refine t_op rfl (sp_move (.tmp 5) (iv k) rfl) ⟨.inl rfl, trivial⟩ trivial trivial ?_
 refine t_op rfl (sp_add (c := ((k + 1 : Nat) : Int)) rfl (w64 (by omega) (by omega) (by omega))) ⟨.inl rfl, .inl rfl, trivial⟩ trivial trivial ?_
 refine t_op rfl (sp_assign (.tmp 41) (iv (k + 1 : Nat)) rfl) ⟨.inl rfl, trivial⟩ trivial trivial ?_
 refine tri_nil ?_
 refine tri_wk (wk_keep [(1, .box 27 (cFm q)), (2, .box 27 (cFm q))] [(2, .box 1 0), (3, .box 2 0), (5, iv (k + 1 : Nat)), (39, bv true), (68, bv false)] (n := 110) rfl (by kernel_rfl) (by kernel_rfl)) ?_
 refine t_then ?_
 refine tri_again ⟨k + 1, by omega⟩ (show q.rules.length - (k + 1) < q.rules.length - k by omega) ?_
 exact wk_keep _ _ rfl (by kernel_rfl) (by kernel_rfl)
 refine tri_region ?_
 refine t_op rfl (sp_move (.tmp 5) (iv k) rfl) ⟨.inl rfl, trivial⟩ trivial trivial ?_
 refine t_op rfl (sp_fieldBox (off' := 9) (.tmp 2) rfl Tryd.underlying27 rfl (z := 1) (by kernel_rfl) (by decide) rfl) ⟨.inl rfl, trivial⟩ trivial trivial ?_
 refine t_op rfl (sp_loadBox1 (Y := .box 27 (cFm q)) (X := slA 18 cRu q.rules) (.tmp 36) rfl Tryd.underlying25 rfl rfl) ⟨.inl rfl, trivial⟩ ⟨rfl, trivial⟩ trivial ?_
 refine t_op rfl (sp_lenSl (.tmp 37) rfl Tryd.underlying25) ⟨.inl rfl, trivial⟩ trivial trivial ?_
 refine t_op rfl (sp_lss rfl (dF hs1)) ⟨.inl rfl, .inl rfl, trivial⟩ trivial trivial ?_
 refine tri_nil ?_
 refine tri_wk (wk_keep [(1, .box 27 (cFm q)), (2, .box 27 (cFm q))] [(2, .box 1 0), (3, .box 2 0), (5, iv k), (39, bv false)] (n := 110) rfl (by kernel_rfl) (by kernel_rfl)) ?_
 refine t_then ?_
 refine t_condF rfl ?_
 refine tri_exit ?_
 refine t_then_exit ?_
 refine t_then_exit ?_
 refine t_hit ?_
 refine t_then ?_
 refine tri_seq ?_
 refine tri_region ?_
 refine t_op rfl (sp_fieldBox (off' := 2) (.tmp 2) rfl Tryd.underlying27 rfl (z := 1) (by kernel_rfl) (by decide) rfl) ⟨.inl rfl, trivial⟩ trivial trivial ?_
 refine t_op rfl (sp_loadBox1 (Y := .box 27 (cFm q)) (X := strsA q.states) (.tmp 69) rfl Tryd.underlying22 rfl rfl) ⟨.inl rfl, trivial⟩ ⟨rfl, trivial⟩ trivial ?_
 refine t_op rfl (sp_fieldBox (off' := 2) (.tmp 3) rfl Tryd.underlying27 rfl (z := 1) (by kernel_rfl) (by decide) rfl) ⟨.inl rfl, trivial⟩ trivial trivial ?_
 refine t_op rfl (sp_loadBox1 (Y := .box 27 (cFm q)) (X := strsA q.states) (.tmp 71) rfl Tryd.underlying22 rfl rfl) ⟨.inl rfl, trivial⟩ ⟨rfl, trivial⟩ trivial ?_
 refine t_op rfl (sp_call (c := .func 63) (xs := #[.tmp 70, .tmp 72]) [] (sameTexts_c q.states HQ.lstates) rfl (by kernel_rfl) rfl (Xs := [strsA q.states, strsA q.states]) rfl rfl rfl) ⟨.inl rfl, .inl rfl, .inl rfl, trivial⟩ trivial trivial ?_
 refine t_op rfl (sp_move (.tmp 73) (bv true) rfl) ⟨.inl rfl, trivial⟩ trivial trivial ?_
 refine t_opG rfl (sp_fieldBox (off' := 3) (.tmp 2) rfl Tryd.underlying27 rfl (z := 1) (by kernel_rfl) (by decide) rfl) ⟨.inl rfl, trivial⟩ trivial trivial ?_
 refine t_opG rfl (sp_loadBox1 (Y := .box 27 (cFm q)) (X := strsA q.msgs) (.tmp 75) rfl Tryd.underlying22 rfl rfl) ⟨.inl rfl, trivial⟩ ⟨rfl, trivial⟩ trivial ?_
 refine t_opG rfl (sp_fieldBox (off' := 3) (.tmp 3) rfl Tryd.underlying27 rfl (z := 1) (by kernel_rfl) (by decide) rfl) ⟨.inl rfl, trivial⟩ trivial trivial ?_
 refine t_opG rfl (sp_loadBox1 (Y := .box 27 (cFm q)) (X := strsA q.msgs) (.tmp 77) rfl Tryd.underlying22 rfl rfl) ⟨.inl rfl, trivial⟩ ⟨rfl, trivial⟩ trivial ?_
 refine t_opG rfl (sp_call (c := .func 63) (xs := #[.tmp 76, .tmp 78]) [] (sameTexts_c q.msgs HQ.lmsgs) rfl (by kernel_rfl) rfl (Xs := [strsA q.msgs, strsA q.msgs]) rfl rfl rfl) ⟨.inl rfl, .inl rfl, .inl rfl, trivial⟩ trivial trivial ?_
 refine t_op rfl (sp_pick (.tmp 74) (.tmp 79) (.const (.bool false)) true (bv true) (bv false) rfl) ⟨.inl rfl, .inl rfl, .inl rfl, trivial⟩ trivial trivial ?_
 refine t_op rfl (sp_move (.tmp 80) (bv true) rfl) ⟨.inl rfl, trivial⟩ trivial trivial ?_
 refine t_opG rfl (sp_fieldBox (off' := 4) (.tmp 2) rfl Tryd.underlying27 rfl (z := 1) (by kernel_rfl) (by decide) rfl) ⟨.inl rfl, trivial⟩ trivial trivial ?_
 refine t_opG rfl (sp_loadBox1 (Y := .box 27 (cFm q)) (X := strsA q.vals) (.tmp 82) rfl Tryd.underlying22 rfl rfl) ⟨.inl rfl, trivial⟩ ⟨rfl, trivial⟩ trivial ?_
 refine t_opG rfl (sp_fieldBox (off' := 4) (.tmp 3) rfl Tryd.underlying27 rfl (z := 1) (by kernel_rfl) (by decide) rfl) ⟨.inl rfl, trivial⟩ trivial trivial ?_
 refine t_opG rfl (sp_loadBox1 (Y := .box 27 (cFm q)) (X := strsA q.vals) (.tmp 84) rfl Tryd.underlying22 rfl rfl) ⟨.inl rfl, trivial⟩ ⟨rfl, trivial⟩ trivial ?_
 refine t_opG rfl (sp_call (c := .func 63) (xs := #[.tmp 83, .tmp 85]) [] (sameTexts_c q.vals HQ.lvals) rfl (by kernel_rfl) rfl (Xs := [strsA q.vals, strsA q.vals]) rfl rfl rfl) ⟨.inl rfl, .inl rfl, .inl rfl, trivial⟩ trivial trivial ?_
 refine t_op rfl (sp_pick (.tmp 81) (.tmp 86) (.const (.bool false)) true (bv true) (bv false) rfl) ⟨.inl rfl, .inl rfl, .inl rfl, trivial⟩ trivial trivial ?_
 refine t_op rfl (sp_assign (.tmp 87) (bv true) rfl) ⟨.inl rfl, trivial⟩ trivial trivial ?_
 refine tri_nil ?_
 refine tri_wk (wk_keep [(1, .box 27 (cFm q)), (2, .box 27 (cFm q))] [(2, .box 1 0), (3, .box 2 0), (6, bv true)] (n := 110) rfl (by kernel_rfl) (by kernel_rfl)) ?_
 refine t_then ?_
 refine tri_seq ?_
 refine tri_region ?_
 refine t_op rfl (sp_move (.tmp 6) (bv true) rfl) ⟨.inl rfl, trivial⟩ trivial trivial ?_
 refine t_op rfl (sp_move (.tmp 88) (bv true) rfl) ⟨.inl rfl, trivial⟩ trivial trivial ?_
 refine t_opG rfl (sp_fieldBox (off' := 6) (.tmp 2) rfl Tryd.underlying27 rfl (z := 1) (by kernel_rfl) (by decide) rfl) ⟨.inl rfl, trivial⟩ trivial trivial ?_
 refine t_opG rfl (sp_loadBox1 (Y := .box 27 (cFm q)) (X := slA 4 cLn q.res) (.tmp 90) rfl Tryd.underlying23 rfl rfl) ⟨.inl rfl, trivial⟩ ⟨rfl, trivial⟩ trivial ?_
 refine t_opG rfl (sp_fieldBox (off' := 6) (.tmp 3) rfl Tryd.underlying27 rfl (z := 1) (by kernel_rfl) (by decide) rfl) ⟨.inl rfl, trivial⟩ trivial trivial ?_
 refine t_opG rfl (sp_loadBox1 (Y := .box 27 (cFm q)) (X := slA 4 cLn q.res) (.tmp 92) rfl Tryd.underlying23 rfl rfl) ⟨.inl rfl, trivial⟩ ⟨rfl, trivial⟩ trivial ?_
 refine t_opG rfl (sp_call (c := .func 64) (xs := #[.tmp 91, .tmp 93]) [] (sameLinears_c q.res HQ.lres) rfl (by kernel_rfl) rfl (Xs := [slA 4 cLn q.res, slA 4 cLn q.res]) rfl rfl rfl) ⟨.inl rfl, .inl rfl, .inl rfl, trivial⟩ trivial trivial ?_
 refine t_op rfl (sp_pick (.tmp 89) (.tmp 94) (.const (.bool false)) true (bv true) (bv false) rfl) ⟨.inl rfl, .inl rfl, .inl rfl, trivial⟩ trivial trivial ?_
 refine t_op rfl (sp_move (.tmp 95) (bv true) rfl) ⟨.inl rfl, trivial⟩ trivial trivial ?_
 refine t_opG rfl (sp_fieldBox (off' := 7) (.tmp 2) rfl Tryd.underlying27 rfl (z := 1) (by kernel_rfl) (by decide) rfl) ⟨.inl rfl, trivial⟩ trivial trivial ?_
 refine t_opG rfl (sp_loadBox1 (Y := .box 27 (cFm q)) (X := intsA q.init) (.tmp 97) rfl Tryd.underlying24 rfl rfl) ⟨.inl rfl, trivial⟩ ⟨rfl, trivial⟩ trivial ?_
 refine t_opG rfl (sp_fieldBox (off' := 7) (.tmp 3) rfl Tryd.underlying27 rfl (z := 1) (by kernel_rfl) (by decide) rfl) ⟨.inl rfl, trivial⟩ trivial trivial ?_
 refine t_opG rfl (sp_loadBox1 (Y := .box 27 (cFm q)) (X := intsA q.init) (.tmp 99) rfl Tryd.underlying24 rfl rfl) ⟨.inl rfl, trivial⟩ ⟨rfl, trivial⟩ trivial ?_
 refine t_opG rfl (sp_call (c := .func 35) (xs := #[.tmp 98, .tmp 100]) [] (sameInts_c q.init HQ.init) rfl (by kernel_rfl) rfl (Xs := [intsA q.init, intsA q.init]) rfl rfl rfl) ⟨.inl rfl, .inl rfl, .inl rfl, trivial⟩ trivial trivial ?_
 refine t_op rfl (sp_pick (.tmp 96) (.tmp 101) (.const (.bool false)) true (bv true) (bv false) rfl) ⟨.inl rfl, .inl rfl, .inl rfl, trivial⟩ trivial trivial ?_
 refine t_op rfl (sp_move (.tmp 102) (bv true) rfl) ⟨.inl rfl, trivial⟩ trivial trivial ?_
 refine t_opG rfl (sp_fieldBox (off' := 8) (.tmp 2) rfl Tryd.underlying27 rfl (z := 1) (by kernel_rfl) (by decide) rfl) ⟨.inl rfl, trivial⟩ trivial trivial ?_
 refine t_opG rfl (sp_loadBox1 (Y := .box 27 (cFm q)) (X := intsA q.leader) (.tmp 104) rfl Tryd.underlying24 rfl rfl) ⟨.inl rfl, trivial⟩ ⟨rfl, trivial⟩ trivial ?_
 refine t_opG rfl (sp_fieldBox (off' := 8) (.tmp 3) rfl Tryd.underlying27 rfl (z := 1) (by kernel_rfl) (by decide) rfl) ⟨.inl rfl, trivial⟩ trivial trivial ?_
 refine t_opG rfl (sp_loadBox1 (Y := .box 27 (cFm q)) (X := intsA q.leader) (.tmp 106) rfl Tryd.underlying24 rfl rfl) ⟨.inl rfl, trivial⟩ ⟨rfl, trivial⟩ trivial ?_
 refine t_opG rfl (sp_call (c := .func 35) (xs := #[.tmp 105, .tmp 107]) [] (sameInts_c q.leader HQ.leader) rfl (by kernel_rfl) rfl (Xs := [intsA q.leader, intsA q.leader]) rfl rfl rfl) ⟨.inl rfl, .inl rfl, .inl rfl, trivial⟩ trivial trivial ?_
 refine t_op rfl (sp_pick (.tmp 103) (.tmp 108) (.const (.bool false)) true (bv true) (bv false) rfl) ⟨.inl rfl, .inl rfl, .inl rfl, trivial⟩ trivial trivial ?_
 refine t_op rfl (sp_assign (.tmp 109) (bv true) rfl) ⟨.inl rfl, trivial⟩ trivial trivial ?_
 refine tri_nil ?_
 refine tri_wk (wk_keep [] [(4, bv true)] (n := 110) rfl (by kernel_rfl) (by kernel_rfl)) ?_
 refine t_then ?_
 refine tri_ret ?_
 refine tri_end1 Tryd.results18 (.tmp rfl) ?_
 exact rfl
end Go.Proofs.YtmpbfdfjcfanoaaDoor
