import Derived.Test.YtpadmggccpgajaaDoorGrpmhappimk
import Derived.Test.YtpadmggccpgajaaDoorGrpbkpminam
set_option linter.all false
namespace Go.Proofs.YtpadmggccpgajaaDoor
open Go.RowKit Go.Deep
variable {J : World → Prop}
set_option linter.unusedSimpArgs false in
set_option linter.unusedVariables false in
set_option maxRecDepth 100000 in
set_option maxHeartbeats 6400000 in
theorem has_c (xs : List Int) (x : Int) (hx : xs.length ≤ 9223372036854775807) : Ctr Tryd.prog J 100 [intsA xs, iv x] (bv (decide (x ∈ xs))) := by
 refine ctr_of_tri Tryd.func100 rfl (by intro X hX; simp only [List.mem_cons, List.not_mem_nil, or_false] at hX; rcases hX with rfl | rfl; exact plain_ints _; exact .v _) (n := 18) rfl (by simp) (fun w0 => ?_)
 refine kW 18 [] [(0, intsA xs), (1, iv x)] ?_
 refine tri_seq ?_
 refine tri_region ?_
 refine oA (sp_assign (.const (.bool false)) (bv false) rfl) I0 ?_
 refine kN 18 [] [(0, intsA xs), (1, iv x), (4, bv false)] ?_
 refine t_then ?_
 refine tri_seq ?_
 refine tri_seq ?_
 refine tri_region ?_
 refine oA (sp_assign (.const (.int .i64 0)) (iv 0) rfl) I0 ?_
 refine kN 18 [] [(0, intsA xs), (1, iv x), (4, bv false), (5, iv 0)] ?_
 refine t_then ?_
 refine tri_block ?_
 refine tri_loop (σ := {k : Nat // k ≤ xs.length ∧ noI xs x k}) (fun s => (ofL [], ofT 18 [(0, intsA xs), (1, iv x), (5, iv s.1)])) (fun s => xs.length - s.1) ⟨0, Nat.zero_le _, noI_zero _ _⟩ (wk_keep [] _ rfl (by kernel_rfl) (by kernel_rfl)) (fun s => ?_)
 obtain ⟨k, hk0, hs0⟩ := s
 show ETri J w0 (ofL []) (ofT 18 [(0, intsA xs), (1, iv x), (5, iv k)]) _
 refine tri_seq ?_
 refine tri_seq ?_
 by_cases hs1 : ((k : Nat) : Int) < ((xs.length : Nat) : Int)
 refine tri_region ?_
 refine oA (sp_move (.tmp 5) (iv k) rfl) I0 ?_
 refine oA (sp_move (.tmp 0) (intsA xs) rfl) I0 ?_
 refine oA (sp_lenSl (.tmp 7) rfl Tryd.underlying24) I0 ?_
 refine oC (sp_lss rfl (dT hs1)) I0 I0 ?_
 refine kN 18 [] [(0, intsA xs), (1, iv x), (5, iv k), (9, bv true)] ?_
 refine t_then ?_
 refine t_condT rfl ?_
 refine tri_skip ?_
 refine t_then ?_
 refine tri_seq ?_
 refine tri_block ?_
 refine tri_seq ?_
 by_cases hs2 : xs[k] = x
 refine tri_region ?_
 refine oA (sp_move (.tmp 0) (intsA xs) rfl) I0 ?_
 refine oA (sp_move (.tmp 5) (iv k) rfl) I0 ?_
 refine oC (sp_indexSl (off := k * 1) (.tmp 12) (.tmp 13) rfl Tryd.underlying24 (by kernel_rfl) (by omega) (by omega) rfl) I0 I0 ?_
 refine oA (sp_loadEl1 (X := iv xs[k]) (.tmp 14) rfl Tryd.underlying3 rfl (map_at1 xs (by omega))) I0 ?_
 refine oA (sp_move (.tmp 1) (iv x) rfl) I0 ?_
 refine oC (sp_eql rfl (dT hs2)) I0 I0 ?_
 refine kN 18 [] [(0, intsA xs), (1, iv x), (5, iv k), (9, bv true), (17, bv true)] ?_
 refine t_then ?_
 refine t_condT rfl ?_
 refine tri_seq ?_
 refine tri_region ?_
 refine oA (sp_assign (.const (.bool true)) (bv true) rfl) I0 ?_
 refine kN 18 [] [(0, intsA xs), (1, iv x), (4, bv true), (5, iv k), (9, bv true), (17, bv true)] ?_
 refine t_then ?_
 refine tri_ret ?_
 refine t_block_ret ?_
 refine t_then_ret ?_
 refine t_then_ret ?_
 refine t_block_ret ?_
 refine t_then_ret ?_
 refine tri_end1 Tryd.results100 (.tmp rfl) ?_
 exact congrArg (fun b : Bool => AV.v (.bool b)) ((has_yes (k := k) (by omega) hs2).symm)
 refine tri_region ?_
 refine oA (sp_move (.tmp 0) (intsA xs) rfl) I0 ?_
 refine oA (sp_move (.tmp 5) (iv k) rfl) I0 ?_
 refine oC (sp_indexSl (off := k * 1) (.tmp 12) (.tmp 13) rfl Tryd.underlying24 (by kernel_rfl) (by omega) (by omega) rfl) I0 I0 ?_
 refine oA (sp_loadEl1 (X := iv xs[k]) (.tmp 14) rfl Tryd.underlying3 rfl (map_at1 xs (by omega))) I0 ?_
 refine oA (sp_move (.tmp 1) (iv x) rfl) I0 ?_
 refine oC (sp_eql rfl (dF hs2)) I0 I0 ?_
 refine kN 18 [] [(0, intsA xs), (1, iv x), (5, iv k), (9, bv true), (17, bv false)] ?_
 refine t_then ?_
 refine t_condF rfl ?_
 refine tri_skip ?_
 refine t_block ?_
 refine t_then ?_
 refine tri_region ?_
 refine oA (sp_move (.tmp 5) (iv k) rfl) I0 ?_
 refine oC (sp_add (c := ((k + 1 : Nat) : Int)) rfl (w64 (by omega) (by omega) (by omega))) I0 I0 ?_
 refine oA (sp_assign (.tmp 11) (iv (k + 1 : Nat)) rfl) I0 ?_
 refine kN 18 [] [(0, intsA xs), (1, iv x), (5, iv (k + 1 : Nat)), (9, bv true), (17, bv false)] ?_
 refine t_then ?_
 refine tri_again ⟨k + 1, by omega, noI_succ' (by omega) hs0 hs2⟩ (show xs.length - (k + 1) < xs.length - k by omega) ?_
 exact wk_keep [] _ rfl (by kernel_rfl) (by kernel_rfl)
 refine tri_region ?_
 refine oA (sp_move (.tmp 5) (iv k) rfl) I0 ?_
 refine oA (sp_move (.tmp 0) (intsA xs) rfl) I0 ?_
 refine oA (sp_lenSl (.tmp 7) rfl Tryd.underlying24) I0 ?_
 refine oC (sp_lss rfl (dF hs1)) I0 I0 ?_
 refine kN 18 [] [(0, intsA xs), (1, iv x), (5, iv k), (9, bv false)] ?_
 refine t_then ?_
 refine t_condF rfl ?_
 refine tri_exit ?_
 refine t_then_exit ?_
 refine t_then_exit ?_
 refine t_hit ?_
 refine t_then ?_
 refine tri_seq ?_
 refine tri_region ?_
 refine oA (sp_assign (.const (.bool false)) (bv false) rfl) I0 ?_
 refine kN 18 [] [(4, bv false)] ?_
 refine t_then ?_
 refine tri_ret ?_
 refine tri_end1 Tryd.results100 (.tmp rfl) ?_
 exact congrArg (fun b : Bool => AV.v (.bool b)) ((has_no (k := k) (by omega) hs0).symm)
set_option linter.unusedSimpArgs false in
set_option linter.unusedVariables false in
set_option maxRecDepth 100000 in
set_option maxHeartbeats 6400000 in
theorem index_c (xs : List Int) (x : Int) (hx : xs.length ≤ 9223372036854775807) : Ctr Tryd.prog J 140 [intsA xs, iv x] (iv (idxI xs x)) := by
 refine ctr_of_tri Tryd.func140 rfl (by intro X hX; simp only [List.mem_cons, List.not_mem_nil, or_false] at hX; rcases hX with rfl | rfl; exact plain_ints _; exact .v _) (n := 19) rfl (by simp) (fun w0 => ?_)
 refine kW 19 [] [(0, intsA xs), (1, iv x)] ?_
 refine tri_seq ?_
 refine tri_region ?_
 refine oA (sp_assign (.const (.int .i64 0)) (iv 0) rfl) I0 ?_
 refine kN 19 [] [(0, intsA xs), (1, iv x), (4, iv 0)] ?_
 refine t_then ?_
 refine tri_seq ?_
 refine tri_seq ?_
 refine tri_region ?_
 refine oA (sp_move (.tmp 0) (intsA xs) rfl) I0 ?_
 refine oA (sp_lenSl (.tmp 6) rfl Tryd.underlying24) I0 ?_
 refine oA (sp_move (.const (.int .i64 0)) (iv 0) rfl) I0 ?_
 refine kN 19 [] [(0, intsA xs), (1, iv x), (4, iv 0), (7, iv xs.length), (8, iv 0)] ?_
 refine t_then ?_
 refine tri_block ?_
 refine tri_loop (σ := {k : Nat // k ≤ xs.length ∧ noI xs x k}) (fun s => (ofL [], ofT 19 [(0, intsA xs), (1, iv x), (7, iv xs.length), (8, iv s.1)])) (fun s => xs.length - s.1) ⟨0, Nat.zero_le _, noI_zero _ _⟩ (wk_keep [] _ rfl (by kernel_rfl) (by kernel_rfl)) (fun s => ?_)
 obtain ⟨k, hk0, hs0⟩ := s
 show ETri J w0 (ofL []) (ofT 19 [(0, intsA xs), (1, iv x), (7, iv xs.length), (8, iv k)]) _
 refine tri_seq ?_
 by_cases hs1 : ((k : Nat) : Int) < ((xs.length : Nat) : Int)
 refine tri_region ?_
 refine oC (sp_lss rfl (dT hs1)) I0 I0 ?_
 refine kN 19 [] [(0, intsA xs), (1, iv x), (7, iv xs.length), (8, iv k), (9, bv true)] ?_
 refine t_then ?_
 refine tri_seq ?_
 refine t_condT rfl ?_
 refine tri_skip ?_
 refine t_then ?_
 refine tri_seq ?_
 refine tri_block ?_
 refine tri_seq ?_
 refine tri_region ?_
 refine oA (sp_move (.tmp 8) (iv k) rfl) I0 ?_
 refine oA (sp_assign (.tmp 10) (iv k) rfl) I0 ?_
 refine kN 19 [] [(0, intsA xs), (1, iv x), (5, iv k), (7, iv xs.length), (8, iv k), (9, bv true)] ?_
 refine t_then ?_
 refine tri_seq ?_
 by_cases hs2 : x = xs[k]
 refine tri_region ?_
 refine oA (sp_move (.tmp 1) (iv x) rfl) I0 ?_
 refine oA (sp_move (.tmp 0) (intsA xs) rfl) I0 ?_
 refine oA (sp_move (.tmp 5) (iv k) rfl) I0 ?_
 refine oC (sp_indexSl (off := k * 1) (.tmp 12) (.tmp 13) rfl Tryd.underlying24 (by kernel_rfl) (by omega) (by omega) rfl) I0 I0 ?_
 refine oA (sp_loadEl1 (X := iv xs[k]) (.tmp 14) rfl Tryd.underlying3 rfl (map_at1 xs (by omega))) I0 ?_
 refine oC (sp_eql rfl (dT hs2)) I0 I0 ?_
 refine kN 19 [] [(0, intsA xs), (1, iv x), (5, iv k), (7, iv xs.length), (8, iv k), (9, bv true), (16, bv true)] ?_
 refine t_then ?_
 refine t_condT rfl ?_
 refine tri_seq ?_
 refine tri_region ?_
 refine oA (sp_move (.tmp 5) (iv k) rfl) I0 ?_
 refine oA (sp_assign (.tmp 17) (iv k) rfl) I0 ?_
 refine kN 19 [] [(0, intsA xs), (1, iv x), (4, iv k), (5, iv k), (7, iv xs.length), (8, iv k), (9, bv true), (16, bv true)] ?_
 refine t_then ?_
 refine tri_ret ?_
 refine t_block_ret ?_
 refine t_then_ret ?_
 refine t_then_ret ?_
 refine t_block_ret ?_
 refine t_then_ret ?_
 refine tri_end1 Tryd.results140 (.tmp rfl) ?_
 exact congrArg (fun x : Int => AV.v (.int .i64 x)) (idx_yes (by omega) hs0 hs2)
 refine tri_region ?_
 refine oA (sp_move (.tmp 1) (iv x) rfl) I0 ?_
 refine oA (sp_move (.tmp 0) (intsA xs) rfl) I0 ?_
 refine oA (sp_move (.tmp 5) (iv k) rfl) I0 ?_
 refine oC (sp_indexSl (off := k * 1) (.tmp 12) (.tmp 13) rfl Tryd.underlying24 (by kernel_rfl) (by omega) (by omega) rfl) I0 I0 ?_
 refine oA (sp_loadEl1 (X := iv xs[k]) (.tmp 14) rfl Tryd.underlying3 rfl (map_at1 xs (by omega))) I0 ?_
 refine oC (sp_eql rfl (dF hs2)) I0 I0 ?_
 refine kN 19 [] [(0, intsA xs), (1, iv x), (5, iv k), (7, iv xs.length), (8, iv k), (9, bv true), (16, bv false)] ?_
 refine t_then ?_
 refine t_condF rfl ?_
 refine tri_skip ?_
 refine t_block ?_
 refine t_then ?_
 refine tri_region ?_
 refine oC (sp_add (c := ((k + 1 : Nat) : Int)) rfl (w64 (by omega) (by omega) (by omega))) I0 I0 ?_
 refine oA (sp_move (.tmp 18) (iv (k + 1 : Nat)) rfl) I0 ?_
 refine kN 19 [] [(0, intsA xs), (1, iv x), (5, iv k), (7, iv xs.length), (8, iv (k + 1 : Nat)), (9, bv true), (16, bv false)] ?_
 refine t_then ?_
 refine tri_again ⟨k + 1, by omega, noI_succ (by omega) hs0 hs2⟩ (show xs.length - (k + 1) < xs.length - k by omega) ?_
 exact wk_keep [] _ rfl (by kernel_rfl) (by kernel_rfl)
 refine tri_region ?_
 refine oC (sp_lss rfl (dF hs1)) I0 I0 ?_
 refine kN 19 [] [(0, intsA xs), (1, iv x), (7, iv xs.length), (8, iv k), (9, bv false)] ?_
 refine t_then ?_
 refine tri_seq ?_
 refine t_condF rfl ?_
 refine tri_exit ?_
 refine t_then_exit ?_
 refine t_then_exit ?_
 refine t_hit ?_
 refine t_then ?_
 refine tri_seq ?_
 refine tri_region ?_
 refine oA (sp_assign (.const (.int .i64 (-1))) (iv (-1)) rfl) I0 ?_
 refine kN 19 [] [(4, iv (-1))] ?_
 refine t_then ?_
 refine tri_ret ?_
 refine tri_end1 Tryd.results140 (.tmp rfl) ?_
 exact congrArg (fun x : Int => AV.v (.int .i64 x)) (idx_no (k := k) (by omega) hs0)
set_option linter.unusedSimpArgs false in
set_option linter.unusedVariables false in
set_option maxRecDepth 100000 in
set_option maxHeartbeats 6400000 in
theorem contains_c (xs : List Int) (x : Int) (hx : xs.length ≤ 9223372036854775807) : Ctr Tryd.prog J 95 [intsA xs, iv x] (bv (decide (x ∈ xs))) := by
 refine ctr_of_tri Tryd.func95 rfl (by intro X hX; simp only [List.mem_cons, List.not_mem_nil, or_false] at hX; rcases hX with rfl | rfl; exact plain_ints _; exact .v _) (n := 9) rfl (by simp) (fun w0 => ?_)
 refine kW 9 [] [(0, intsA xs), (1, iv x)] ?_
 refine tri_seq ?_
 refine tri_region ?_
 refine oA (sp_assign (.const (.bool false)) (bv false) rfl) I0 ?_
 refine kN 9 [] [(0, intsA xs), (1, iv x), (4, bv false)] ?_
 refine t_then ?_
 refine tri_seq ?_
 refine tri_region ?_
 refine oA (sp_move (.tmp 0) (intsA xs) rfl) I0 ?_
 refine oA (sp_move (.tmp 1) (iv x) rfl) I0 ?_
 refine oD (sp_call (c := .func 140) (xs := #[.tmp 5, .tmp 6]) [] (index_c xs x hx) rfl (by kernel_rfl) rfl (Xs := [intsA xs, iv x]) rfl rfl rfl) I0 I0 I0 ?_
 refine oC (sp_geq rfl rfl) I0 I0 ?_
 refine oA (sp_assign (.tmp 8) (bv (decide (0 ≤ idxI xs x))) rfl) I0 ?_
 refine kN 9 [] [(4, bv (decide (0 ≤ idxI xs x)))] ?_
 refine t_then ?_
 refine tri_ret ?_
 refine tri_end1 Tryd.results95 (.tmp rfl) ?_
 exact congrArg (fun b : Bool => AV.v (.bool b)) (idx_has xs x)
set_option linter.unusedSimpArgs false in
set_option linter.unusedVariables false in
set_option maxRecDepth 100000 in
set_option maxHeartbeats 6400000 in
theorem adjacent_c {p : Fm} (HP : FmOk p) (xs : List Int) : Ctr Tryd.prog J 141 [.agg (cFm p), intsA xs] (iv (adjE p xs)) := by
 refine ctr_of_tri Tryd.func141 rfl (by intro X hX; simp only [List.mem_cons, List.not_mem_nil, or_false] at hX; rcases hX with rfl | rfl; exact plain_agg (plain_fm p); exact plain_ints _) (n := 36) rfl (by simp) (fun w0 => ?_)
 refine kW 36 [] [(0, .agg (cFm p)), (1, intsA xs)] ?_
 refine tri_seq ?_
 refine tri_region ?_
 refine t_op rfl (sp_box (X := .agg (cFm p)) (k := 1) (.tmp 0) rfl rfl) ⟨I0, T0⟩ T0 rfl ?_
 refine oA (sp_assign (.const (.int .i64 0)) (iv 0) rfl) I0 ?_
 refine kN 36 [(1, .box 27 (cFm p))] [(1, intsA xs), (2, .box 1 0), (4, iv 0)] ?_
 refine t_then ?_
 refine tri_seq ?_
 refine tri_block ?_
 refine tri_seq ?_
 by_cases hs1 : ((xs.length : Nat) : Int) = 0
 refine tri_region ?_
 refine oA (sp_move (.tmp 1) (intsA xs) rfl) I0 ?_
 refine oA (sp_lenSl (.tmp 6) rfl Tryd.underlying24) I0 ?_
 refine oC (sp_eql rfl (dT hs1)) I0 I0 ?_
 refine oA (sp_assign (.tmp 8) (bv true) rfl) I0 ?_
 refine kN 36 [(1, .box 27 (cFm p))] [(1, intsA xs), (2, .box 1 0), (4, iv 0), (5, bv true)] ?_
 refine t_then ?_
 refine t_condT rfl ?_
 refine tri_seq ?_
 refine tri_region ?_
 refine oA (sp_assign (.const (.int .i64 0)) (iv 0) rfl) I0 ?_
 refine kN 36 [] [(4, iv 0)] ?_
 refine t_then ?_
 refine tri_ret ?_
 refine t_block_ret ?_
 refine t_then_ret ?_
 refine tri_end1 Tryd.results141 (.tmp rfl) ?_
 exact congrArg (fun x : Int => AV.v (.int .i64 x)) ((adj_0 hs1).symm)
 refine tri_region ?_
 refine oA (sp_move (.tmp 1) (intsA xs) rfl) I0 ?_
 refine oA (sp_lenSl (.tmp 6) rfl Tryd.underlying24) I0 ?_
 refine oC (sp_eql rfl (dF hs1)) I0 I0 ?_
 refine oA (sp_assign (.tmp 8) (bv false) rfl) I0 ?_
 refine kN 36 [(1, .box 27 (cFm p))] [(1, intsA xs), (2, .box 1 0), (4, iv 0), (5, bv false)] ?_
 refine t_then ?_
 refine t_condF rfl ?_
 refine tri_seq ?_
 by_cases hs2 : p.top = 1
 refine tri_region ?_
 refine oA (fB 1 (.tmp 2) rfl Tryd.underlying27 rfl 1 rfl) I0 ?_
 refine oB (lB (.box 27 (cFm p)) (iv p.top) (.tmp 10) rfl Tryd.underlying3 rfl rfl) I0 rfl ?_
 refine oC (sp_eql rfl (dT hs2)) I0 I0 ?_
 refine oA (sp_assign (.tmp 12) (bv true) rfl) I0 ?_
 refine kN 36 [(1, .box 27 (cFm p))] [(1, intsA xs), (2, .box 1 0), (4, iv 0), (9, bv true)] ?_
 refine t_then ?_
 refine t_condT rfl ?_
 refine tri_seq ?_
 refine tri_region ?_
 refine oA (sp_assign (.const (.int .i64 6)) (iv 6) rfl) I0 ?_
 refine kN 36 [] [(4, iv 6)] ?_
 refine t_then ?_
 refine tri_ret ?_
 refine t_block_ret ?_
 refine t_then_ret ?_
 refine tri_end1 Tryd.results141 (.tmp rfl) ?_
 exact congrArg (fun x : Int => AV.v (.int .i64 x)) ((adj_6 hs1 hs2).symm)
 refine tri_region ?_
 refine oA (fB 1 (.tmp 2) rfl Tryd.underlying27 rfl 1 rfl) I0 ?_
 refine oB (lB (.box 27 (cFm p)) (iv p.top) (.tmp 10) rfl Tryd.underlying3 rfl rfl) I0 rfl ?_
 refine oC (sp_eql rfl (dF hs2)) I0 I0 ?_
 refine oA (sp_assign (.tmp 12) (bv false) rfl) I0 ?_
 refine kN 36 [(1, .box 27 (cFm p))] [(1, intsA xs), (2, .box 1 0), (4, iv 0), (9, bv false)] ?_
 refine t_then ?_
 refine t_condF rfl ?_
 refine tri_seq ?_
 by_cases hs3 : ((xs.length : Nat) : Int) = 2
 refine tri_region ?_
 refine oA (sp_move (.tmp 1) (intsA xs) rfl) I0 ?_
 refine oA (sp_lenSl (.tmp 14) rfl Tryd.underlying24) I0 ?_
 refine oC (sp_neq rfl (dT' hs3)) I0 I0 ?_
 refine oA (sp_assign (.tmp 16) (bv false) rfl) I0 ?_
 refine kN 36 [(1, .box 27 (cFm p))] [(1, intsA xs), (2, .box 1 0), (4, iv 0), (13, bv false)] ?_
 refine t_then ?_
 refine t_condF rfl ?_
 refine tri_seq ?_
 by_cases hs4 : (ixB p.states.length xs[0]) = true
 by_cases hs5 : (ixB p.states.length xs[1]) = true
 refine tri_draw [⟨[(.tmp 1, intsA xs)], [], intsA xs, .no⟩, ⟨[(.tmp 18, intsA xs), (.const (.int .i64 0), iv 0)], [], .el (xs.map iv) (0 * 1), .no⟩, ⟨[(.tmp 19, .el (xs.map iv) (0 * 1))], [], iv xs[0], .no⟩, ⟨[(.tmp 2, .box 1 0)], [], .box 1 2, .no⟩, ⟨[(.tmp 21, .box 1 2)], [(1, .box 27 (cFm p))], strsA p.states, .no⟩, ⟨[(.tmp 22, strsA p.states)], [], iv p.states.length, .no⟩, ⟨[(.func 139, .v (.func (.func 139) #[] #[])), (.tmp 20, iv xs[0]), (.tmp 23, iv p.states.length)], [], bv true, .no⟩, ⟨[(.tmp 24, bv true)], [], bv false, .no⟩, ⟨[(.tmp 25, bv false)], [], bv false, .no⟩, ⟨[(.tmp 1, intsA xs)], [], intsA xs, .no⟩, ⟨[(.tmp 27, intsA xs), (.const (.int .i64 1), iv 1)], [], .el (xs.map iv) (1 * 1), .no⟩, ⟨[(.tmp 28, .el (xs.map iv) (1 * 1))], [], iv xs[1], .no⟩, ⟨[(.tmp 2, .box 1 0)], [], .box 1 2, .no⟩, ⟨[(.tmp 30, .box 1 2)], [(1, .box 27 (cFm p))], strsA p.states, .no⟩, ⟨[(.tmp 31, strsA p.states)], [], iv p.states.length, .no⟩, ⟨[(.func 139, .v (.func (.func 139) #[] #[])), (.tmp 29, iv xs[1]), (.tmp 32, iv p.states.length)], [], bv true, .no⟩, ⟨[(.tmp 33, bv true)], [], bv false, .no⟩, ⟨[(.tmp 26, bv false), (.const (.bool true), bv true), (.tmp 34, bv false)], [], bv false, .no⟩, ⟨[(.tmp 35, bv false)], [], bv false, .no⟩] (by kernel_rfl) (by kernel_rfl) ?_
 refine ⟨app_yes rfl (sp_move (.tmp 1) (intsA xs) rfl) ⟨I0, T0⟩ T0 T0, ?_⟩
 refine ⟨app_yes rfl (sp_indexSl (off := 0 * 1) (.tmp 18) (.const (.int .i64 0)) rfl Tryd.underlying24 (by kernel_rfl) (by omega) (by omega) rfl) ⟨I0, I0, T0⟩ T0 T0, ?_⟩
 refine ⟨app_yes rfl (sp_loadEl1 (X := iv xs[0]) (.tmp 19) rfl Tryd.underlying3 rfl (map_at1 xs (by omega))) ⟨I0, T0⟩ T0 T0, ?_⟩
 refine ⟨app_yes rfl (fB 2 (.tmp 2) rfl Tryd.underlying27 rfl 1 rfl) ⟨I0, T0⟩ T0 T0, ?_⟩
 refine ⟨app_yes rfl (lB (.box 27 (cFm p)) (strsA p.states) (.tmp 21) rfl Tryd.underlying22 rfl rfl) ⟨I0, T0⟩ ⟨rfl, T0⟩ T0, ?_⟩
 refine ⟨app_yes rfl (sp_lenSl (.tmp 22) rfl Tryd.underlying22) ⟨I0, T0⟩ T0 T0, ?_⟩
 refine ⟨app_yes rfl (sp_call (c := .func 139) (xs := #[.tmp 20, .tmp 23]) [] (ctr_b (isIndex_c xs[0] p.states.length HP.lstates) hs4) rfl (by kernel_rfl) rfl (Xs := [iv xs[0], iv p.states.length]) rfl rfl rfl) ⟨I0, I0, I0, T0⟩ T0 T0, ?_⟩
 refine ⟨app_yes rfl (sp_not rfl rfl) ⟨I0, T0⟩ T0 T0, ?_⟩
 refine ⟨app_yes rfl (sp_move (.tmp 25) (bv false) rfl) ⟨I0, T0⟩ T0 T0, ?_⟩
 refine ⟨app_yes rfl (sp_move (.tmp 1) (intsA xs) rfl) ⟨I0, T0⟩ T0 T0, ?_⟩
 refine ⟨app_yes rfl (sp_indexSl (off := 1 * 1) (.tmp 27) (.const (.int .i64 1)) rfl Tryd.underlying24 (by kernel_rfl) (by omega) (by omega) rfl) ⟨I0, I0, T0⟩ T0 T0, ?_⟩
 refine ⟨app_yes rfl (sp_loadEl1 (X := iv xs[1]) (.tmp 28) rfl Tryd.underlying3 rfl (map_at1 xs (by omega))) ⟨I0, T0⟩ T0 T0, ?_⟩
 refine ⟨app_yes rfl (fB 2 (.tmp 2) rfl Tryd.underlying27 rfl 1 rfl) ⟨I0, T0⟩ T0 T0, ?_⟩
 refine ⟨app_yes rfl (lB (.box 27 (cFm p)) (strsA p.states) (.tmp 30) rfl Tryd.underlying22 rfl rfl) ⟨I0, T0⟩ ⟨rfl, T0⟩ T0, ?_⟩
 refine ⟨app_yes rfl (sp_lenSl (.tmp 31) rfl Tryd.underlying22) ⟨I0, T0⟩ T0 T0, ?_⟩
 refine ⟨app_yes rfl (sp_call (c := .func 139) (xs := #[.tmp 29, .tmp 32]) [] (ctr_b (isIndex_c xs[1] p.states.length HP.lstates) hs5) rfl (by kernel_rfl) rfl (Xs := [iv xs[1], iv p.states.length]) rfl rfl rfl) ⟨I0, I0, I0, T0⟩ T0 T0, ?_⟩
 refine ⟨app_yes rfl (sp_not rfl rfl) ⟨I0, T0⟩ T0 T0, ?_⟩
 refine ⟨app_yes rfl (sp_pick (.tmp 26) (.const (.bool true)) (.tmp 34) false (bv true) (bv false) rfl) ⟨I0, I0, I0, T0⟩ T0 T0, ?_⟩
 refine ⟨app_yes rfl (sp_assign (.tmp 35) (bv false) rfl) ⟨I0, T0⟩ T0 T0, ?_⟩
 show ETri J w0 _ _ _
 refine kW 36 [] [(4, iv 0), (17, bv false)] ?_
 refine t_then ?_
 refine t_condF rfl ?_
 refine tri_skip ?_
 refine t_block ?_
 refine t_then ?_
 refine tri_seq ?_
 refine tri_region ?_
 refine oA (sp_assign (.const (.int .i64 0)) (iv 0) rfl) I0 ?_
 refine kN 36 [] [(4, iv 0)] ?_
 refine t_then ?_
 refine tri_ret ?_
 refine tri_end1 Tryd.results141 (.tmp rfl) ?_
 exact congrArg (fun x : Int => AV.v (.int .i64 x)) ((adj_k hs1 hs2 hs3 (adj_two hs3 hs4 hs5)).symm)
 have hs5f : (ixB p.states.length xs[1]) = false := by simpa using hs5
 refine tri_draw [⟨[(.tmp 1, intsA xs)], [], intsA xs, .no⟩, ⟨[(.tmp 18, intsA xs), (.const (.int .i64 0), iv 0)], [], .el (xs.map iv) (0 * 1), .no⟩, ⟨[(.tmp 19, .el (xs.map iv) (0 * 1))], [], iv xs[0], .no⟩, ⟨[(.tmp 2, .box 1 0)], [], .box 1 2, .no⟩, ⟨[(.tmp 21, .box 1 2)], [(1, .box 27 (cFm p))], strsA p.states, .no⟩, ⟨[(.tmp 22, strsA p.states)], [], iv p.states.length, .no⟩, ⟨[(.func 139, .v (.func (.func 139) #[] #[])), (.tmp 20, iv xs[0]), (.tmp 23, iv p.states.length)], [], bv true, .no⟩, ⟨[(.tmp 24, bv true)], [], bv false, .no⟩, ⟨[(.tmp 25, bv false)], [], bv false, .no⟩, ⟨[(.tmp 1, intsA xs)], [], intsA xs, .no⟩, ⟨[(.tmp 27, intsA xs), (.const (.int .i64 1), iv 1)], [], .el (xs.map iv) (1 * 1), .no⟩, ⟨[(.tmp 28, .el (xs.map iv) (1 * 1))], [], iv xs[1], .no⟩, ⟨[(.tmp 2, .box 1 0)], [], .box 1 2, .no⟩, ⟨[(.tmp 30, .box 1 2)], [(1, .box 27 (cFm p))], strsA p.states, .no⟩, ⟨[(.tmp 31, strsA p.states)], [], iv p.states.length, .no⟩, ⟨[(.func 139, .v (.func (.func 139) #[] #[])), (.tmp 29, iv xs[1]), (.tmp 32, iv p.states.length)], [], bv false, .no⟩, ⟨[(.tmp 33, bv false)], [], bv true, .no⟩, ⟨[(.tmp 26, bv false), (.const (.bool true), bv true), (.tmp 34, bv true)], [], bv true, .no⟩, ⟨[(.tmp 35, bv true)], [], bv true, .no⟩] (by kernel_rfl) (by kernel_rfl) ?_
 refine ⟨app_yes rfl (sp_move (.tmp 1) (intsA xs) rfl) ⟨I0, T0⟩ T0 T0, ?_⟩
 refine ⟨app_yes rfl (sp_indexSl (off := 0 * 1) (.tmp 18) (.const (.int .i64 0)) rfl Tryd.underlying24 (by kernel_rfl) (by omega) (by omega) rfl) ⟨I0, I0, T0⟩ T0 T0, ?_⟩
 refine ⟨app_yes rfl (sp_loadEl1 (X := iv xs[0]) (.tmp 19) rfl Tryd.underlying3 rfl (map_at1 xs (by omega))) ⟨I0, T0⟩ T0 T0, ?_⟩
 refine ⟨app_yes rfl (fB 2 (.tmp 2) rfl Tryd.underlying27 rfl 1 rfl) ⟨I0, T0⟩ T0 T0, ?_⟩
 refine ⟨app_yes rfl (lB (.box 27 (cFm p)) (strsA p.states) (.tmp 21) rfl Tryd.underlying22 rfl rfl) ⟨I0, T0⟩ ⟨rfl, T0⟩ T0, ?_⟩
 refine ⟨app_yes rfl (sp_lenSl (.tmp 22) rfl Tryd.underlying22) ⟨I0, T0⟩ T0 T0, ?_⟩
 refine ⟨app_yes rfl (sp_call (c := .func 139) (xs := #[.tmp 20, .tmp 23]) [] (ctr_b (isIndex_c xs[0] p.states.length HP.lstates) hs4) rfl (by kernel_rfl) rfl (Xs := [iv xs[0], iv p.states.length]) rfl rfl rfl) ⟨I0, I0, I0, T0⟩ T0 T0, ?_⟩
 refine ⟨app_yes rfl (sp_not rfl rfl) ⟨I0, T0⟩ T0 T0, ?_⟩
 refine ⟨app_yes rfl (sp_move (.tmp 25) (bv false) rfl) ⟨I0, T0⟩ T0 T0, ?_⟩
 refine ⟨app_yes rfl (sp_move (.tmp 1) (intsA xs) rfl) ⟨I0, T0⟩ T0 T0, ?_⟩
 refine ⟨app_yes rfl (sp_indexSl (off := 1 * 1) (.tmp 27) (.const (.int .i64 1)) rfl Tryd.underlying24 (by kernel_rfl) (by omega) (by omega) rfl) ⟨I0, I0, T0⟩ T0 T0, ?_⟩
 refine ⟨app_yes rfl (sp_loadEl1 (X := iv xs[1]) (.tmp 28) rfl Tryd.underlying3 rfl (map_at1 xs (by omega))) ⟨I0, T0⟩ T0 T0, ?_⟩
 refine ⟨app_yes rfl (fB 2 (.tmp 2) rfl Tryd.underlying27 rfl 1 rfl) ⟨I0, T0⟩ T0 T0, ?_⟩
 refine ⟨app_yes rfl (lB (.box 27 (cFm p)) (strsA p.states) (.tmp 30) rfl Tryd.underlying22 rfl rfl) ⟨I0, T0⟩ ⟨rfl, T0⟩ T0, ?_⟩
 refine ⟨app_yes rfl (sp_lenSl (.tmp 31) rfl Tryd.underlying22) ⟨I0, T0⟩ T0 T0, ?_⟩
 refine ⟨app_yes rfl (sp_call (c := .func 139) (xs := #[.tmp 29, .tmp 32]) [] (ctr_b (isIndex_c xs[1] p.states.length HP.lstates) hs5f) rfl (by kernel_rfl) rfl (Xs := [iv xs[1], iv p.states.length]) rfl rfl rfl) ⟨I0, I0, I0, T0⟩ T0 T0, ?_⟩
 refine ⟨app_yes rfl (sp_not rfl rfl) ⟨I0, T0⟩ T0 T0, ?_⟩
 refine ⟨app_yes rfl (sp_pick (.tmp 26) (.const (.bool true)) (.tmp 34) false (bv true) (bv true) rfl) ⟨I0, I0, I0, T0⟩ T0 T0, ?_⟩
 refine ⟨app_yes rfl (sp_assign (.tmp 35) (bv true) rfl) ⟨I0, T0⟩ T0 T0, ?_⟩
 show ETri J w0 _ _ _
 refine kW 36 [] [(4, iv 0), (17, bv true)] ?_
 refine t_then ?_
 refine t_condT rfl ?_
 refine tri_seq ?_
 refine tri_region ?_
 refine oA (sp_assign (.const (.int .i64 5)) (iv 5) rfl) I0 ?_
 refine kN 36 [] [(4, iv 5)] ?_
 refine t_then ?_
 refine tri_ret ?_
 refine t_block_ret ?_
 refine t_then_ret ?_
 refine tri_end1 Tryd.results141 (.tmp rfl) ?_
 exact congrArg (fun x : Int => AV.v (.int .i64 x)) ((adj_5 hs1 hs2 hs3 (k := 1) (by omega) hs5f).symm)
 have hs4f : (ixB p.states.length xs[0]) = false := by simpa using hs4
 refine tri_draw [⟨[(.tmp 1, intsA xs)], [], intsA xs, .no⟩, ⟨[(.tmp 18, intsA xs), (.const (.int .i64 0), iv 0)], [], .el (xs.map iv) (0 * 1), .no⟩, ⟨[(.tmp 19, .el (xs.map iv) (0 * 1))], [], iv xs[0], .no⟩, ⟨[(.tmp 2, .box 1 0)], [], .box 1 2, .no⟩, ⟨[(.tmp 21, .box 1 2)], [(1, .box 27 (cFm p))], strsA p.states, .no⟩, ⟨[(.tmp 22, strsA p.states)], [], iv p.states.length, .no⟩, ⟨[(.func 139, .v (.func (.func 139) #[] #[])), (.tmp 20, iv xs[0]), (.tmp 23, iv p.states.length)], [], bv false, .no⟩, ⟨[(.tmp 24, bv false)], [], bv true, .no⟩, ⟨[(.tmp 25, bv true)], [], bv true, .no⟩, ⟨[], [], .v undef, .no⟩, ⟨[], [], .v undef, .no⟩, ⟨[], [], .v undef, .no⟩, ⟨[], [], .v undef, .no⟩, ⟨[], [], .v undef, .no⟩, ⟨[], [], .v undef, .no⟩, ⟨[], [], .v undef, .no⟩, ⟨[], [], .v undef, .no⟩, ⟨[(.tmp 26, bv true), (.const (.bool true), bv true), (.tmp 34, .v (.tuple #[]))], [], bv true, .no⟩, ⟨[(.tmp 35, bv true)], [], bv true, .no⟩] (by kernel_rfl) (by kernel_rfl) ?_
 refine ⟨app_yes rfl (sp_move (.tmp 1) (intsA xs) rfl) ⟨I0, T0⟩ T0 T0, ?_⟩
 refine ⟨app_yes rfl (sp_indexSl (off := 0 * 1) (.tmp 18) (.const (.int .i64 0)) rfl Tryd.underlying24 (by kernel_rfl) (by omega) (by omega) rfl) ⟨I0, I0, T0⟩ T0 T0, ?_⟩
 refine ⟨app_yes rfl (sp_loadEl1 (X := iv xs[0]) (.tmp 19) rfl Tryd.underlying3 rfl (map_at1 xs (by omega))) ⟨I0, T0⟩ T0 T0, ?_⟩
 refine ⟨app_yes rfl (fB 2 (.tmp 2) rfl Tryd.underlying27 rfl 1 rfl) ⟨I0, T0⟩ T0 T0, ?_⟩
 refine ⟨app_yes rfl (lB (.box 27 (cFm p)) (strsA p.states) (.tmp 21) rfl Tryd.underlying22 rfl rfl) ⟨I0, T0⟩ ⟨rfl, T0⟩ T0, ?_⟩
 refine ⟨app_yes rfl (sp_lenSl (.tmp 22) rfl Tryd.underlying22) ⟨I0, T0⟩ T0 T0, ?_⟩
 refine ⟨app_yes rfl (sp_call (c := .func 139) (xs := #[.tmp 20, .tmp 23]) [] (ctr_b (isIndex_c xs[0] p.states.length HP.lstates) hs4f) rfl (by kernel_rfl) rfl (Xs := [iv xs[0], iv p.states.length]) rfl rfl rfl) ⟨I0, I0, I0, T0⟩ T0 T0, ?_⟩
 refine ⟨app_yes rfl (sp_not rfl rfl) ⟨I0, T0⟩ T0 T0, ?_⟩
 refine ⟨app_yes rfl (sp_move (.tmp 25) (bv true) rfl) ⟨I0, T0⟩ T0 T0, ?_⟩
 refine ⟨app_no rfl, ?_⟩
 refine ⟨app_no rfl, ?_⟩
 refine ⟨app_no rfl, ?_⟩
 refine ⟨app_no rfl, ?_⟩
 refine ⟨app_no rfl, ?_⟩
 refine ⟨app_no rfl, ?_⟩
 refine ⟨app_no rfl, ?_⟩
 refine ⟨app_no rfl, ?_⟩
 refine ⟨app_yes rfl (sp_pick (.tmp 26) (.const (.bool true)) (.tmp 34) true (bv true) (.v (.tuple #[])) rfl) ⟨I0, I0, I0, T0⟩ T0 T0, ?_⟩
 refine ⟨app_yes rfl (sp_assign (.tmp 35) (bv true) rfl) ⟨I0, T0⟩ T0 T0, ?_⟩
 show ETri J w0 _ _ _
 refine kW 36 [] [(4, iv 0), (17, bv true)] ?_
 refine t_then ?_
 refine t_condT rfl ?_
 refine tri_seq ?_
 refine tri_region ?_
 refine oA (sp_assign (.const (.int .i64 5)) (iv 5) rfl) I0 ?_
 refine kN 36 [] [(4, iv 5)] ?_
 refine t_then ?_
 refine tri_ret ?_
 refine t_block_ret ?_
 refine t_then_ret ?_
 refine tri_end1 Tryd.results141 (.tmp rfl) ?_
 exact congrArg (fun x : Int => AV.v (.int .i64 x)) ((adj_5 hs1 hs2 hs3 (k := 0) (by omega) hs4f).symm)
 refine tri_region ?_
 refine oA (sp_move (.tmp 1) (intsA xs) rfl) I0 ?_
 refine oA (sp_lenSl (.tmp 14) rfl Tryd.underlying24) I0 ?_
 refine oC (sp_neq rfl (dF' hs3)) I0 I0 ?_
 refine oA (sp_assign (.tmp 16) (bv true) rfl) I0 ?_
 refine kN 36 [(1, .box 27 (cFm p))] [(1, intsA xs), (2, .box 1 0), (4, iv 0), (13, bv true)] ?_
 refine t_then ?_
 refine t_condT rfl ?_
 refine tri_seq ?_
 refine tri_region ?_
 refine oA (sp_assign (.const (.int .i64 1)) (iv 1) rfl) I0 ?_
 refine kN 36 [] [(4, iv 1)] ?_
 refine t_then ?_
 refine tri_ret ?_
 refine t_block_ret ?_
 refine t_then_ret ?_
 refine tri_end1 Tryd.results141 (.tmp rfl) ?_
 exact congrArg (fun x : Int => AV.v (.int .i64 x)) ((adj_1 hs1 hs2 hs3).symm)
set_option linter.unusedSimpArgs false in
set_option linter.unusedVariables false in
set_option maxRecDepth 100000 in
set_option maxHeartbeats 6400000 in
theorem badError_c {p : Fm} (HP : FmOk p) {q : Pq} (HQ : PqOk q) : Ctr Tryd.prog J 97 [.agg (cFm p), .agg (cPq q)] (iv (badE p q)) := by
 have l1 := HQ.lbad
 refine ctr_of_tri Tryd.func97 rfl (by intro X hX; simp only [List.mem_cons, List.not_mem_nil, or_false] at hX; rcases hX with rfl | rfl; exact plain_agg (plain_fm p); exact plain_agg (plain_pq q)) (n := 47) rfl (by simp) (fun w0 => ?_)
 refine kW 47 [] [(0, .agg (cFm p)), (1, .agg (cPq q))] ?_
 refine tri_seq ?_
 refine tri_region ?_
 refine t_op rfl (sp_box (X := .agg (cFm p)) (k := 1) (.tmp 0) rfl rfl) ⟨I0, T0⟩ T0 rfl ?_
 refine t_op rfl (sp_box (X := .agg (cPq q)) (k := 2) (.tmp 1) rfl rfl) ⟨I0, T0⟩ T0 rfl ?_
 refine oA (sp_assign (.const (.int .i64 0)) (iv 0) rfl) I0 ?_
 refine kN 47 [(1, .box 27 (cFm p)), (2, .box 30 (cPq q))] [(2, .box 1 0), (3, .box 2 0), (4, iv 0)] ?_
 refine t_then ?_
 refine tri_seq ?_
 refine tri_seq ?_
 by_cases hs1 : ((q.bad.length : Nat) : Int) = 0
 by_cases hs2 : ((q.adj.length : Nat) : Int) = 0
 refine tri_region ?_
 refine oA (fB 3 (.tmp 3) rfl Tryd.underlying30 rfl 1 rfl) I0 ?_
 refine oB (lB (.box 30 (cPq q)) (slA 2 cRw q.bad) (.tmp 8) rfl Tryd.underlying28 rfl rfl) I0 rfl ?_
 refine oA (sp_lenSl (.tmp 9) rfl Tryd.underlying28) I0 ?_
 refine oC (sp_eql rfl (dT hs1)) I0 I0 ?_
 refine oA (sp_move (.tmp 11) (bv true) rfl) I0 ?_
 refine gA (fB 4 (.tmp 3) rfl Tryd.underlying30 rfl 1 rfl) I0 ?_
 refine gB (lB (.box 30 (cPq q)) (intsA q.adj) (.tmp 13) rfl Tryd.underlying24 rfl rfl) I0 rfl ?_
 refine gA (sp_lenSl (.tmp 14) rfl Tryd.underlying24) I0 ?_
 refine gC (sp_eql rfl (dT hs2)) I0 I0 ?_
 refine oD (sp_pick (.tmp 12) (.tmp 16) (.const (.bool false)) true (bv true) (bv false) rfl) I0 I0 I0 ?_
 refine kN 47 [(1, .box 27 (cFm p)), (2, .box 30 (cPq q))] [(2, .box 1 0), (3, .box 2 0), (4, iv 0), (17, bv true)] ?_
 refine t_then ?_
 refine t_condT rfl ?_
 refine tri_seq ?_
 refine tri_region ?_
 refine oA (sp_assign (.const (.int .i64 1)) (iv 1) rfl) I0 ?_
 refine kN 47 [(1, .box 27 (cFm p)), (2, .box 30 (cPq q))] [(2, .box 1 0), (3, .box 2 0), (4, iv 1)] ?_
 refine t_then ?_
 refine tri_ret ?_
 refine t_then_ret ?_
 refine tri_end1 Tryd.results97 (.tmp rfl) ?_
 exact congrArg (fun x : Int => AV.v (.int .i64 x)) ((bad_0 hs1 hs2).symm)
 refine tri_region ?_
 refine oA (fB 3 (.tmp 3) rfl Tryd.underlying30 rfl 1 rfl) I0 ?_
 refine oB (lB (.box 30 (cPq q)) (slA 2 cRw q.bad) (.tmp 8) rfl Tryd.underlying28 rfl rfl) I0 rfl ?_
 refine oA (sp_lenSl (.tmp 9) rfl Tryd.underlying28) I0 ?_
 refine oC (sp_eql rfl (dT hs1)) I0 I0 ?_
 refine oA (sp_move (.tmp 11) (bv true) rfl) I0 ?_
 refine gA (fB 4 (.tmp 3) rfl Tryd.underlying30 rfl 1 rfl) I0 ?_
 refine gB (lB (.box 30 (cPq q)) (intsA q.adj) (.tmp 13) rfl Tryd.underlying24 rfl rfl) I0 rfl ?_
 refine gA (sp_lenSl (.tmp 14) rfl Tryd.underlying24) I0 ?_
 refine gC (sp_eql rfl (dF hs2)) I0 I0 ?_
 refine oD (sp_pick (.tmp 12) (.tmp 16) (.const (.bool false)) true (bv false) (bv false) rfl) I0 I0 I0 ?_
 refine kN 47 [(1, .box 27 (cFm p)), (2, .box 30 (cPq q))] [(2, .box 1 0), (3, .box 2 0), (4, iv 0), (17, bv false)] ?_
 refine t_then ?_
 refine t_condF rfl ?_
 refine tri_skip ?_
 refine t_then ?_
 refine tri_seq ?_
 refine tri_seq ?_
 refine tri_region ?_
 refine oA (fB 3 (.tmp 3) rfl Tryd.underlying30 rfl 1 rfl) I0 ?_
 refine oB (lB (.box 30 (cPq q)) (slA 2 cRw q.bad) (.tmp 18) rfl Tryd.underlying28 rfl rfl) I0 rfl ?_
 refine oA (sp_lenSl (.tmp 19) rfl Tryd.underlying28) I0 ?_
 refine oC (sp_gtr rfl (dF (show ¬ 3 < ((q.bad.length : Nat) : Int) by omega))) I0 I0 ?_
 refine kN 47 [(1, .box 27 (cFm p)), (2, .box 30 (cPq q))] [(2, .box 1 0), (3, .box 2 0), (4, iv 0), (21, bv false)] ?_
 refine t_then ?_
 refine t_condF rfl ?_
 refine tri_skip ?_
 refine t_then ?_
 refine tri_seq ?_
 refine tri_seq ?_
 refine tri_region ?_
 refine oA (fB 3 (.tmp 3) rfl Tryd.underlying30 rfl 1 rfl) I0 ?_
 refine oB (lB (.box 30 (cPq q)) (slA 2 cRw q.bad) (.tmp 22) rfl Tryd.underlying28 rfl rfl) I0 rfl ?_
 refine oA (sp_lenSl (.tmp 23) rfl Tryd.underlying28) I0 ?_
 refine oA (sp_move (.const (.int .i64 0)) (iv 0) rfl) I0 ?_
 refine kN 47 [(1, .box 27 (cFm p)), (2, .box 30 (cPq q))] [(2, .box 1 0), (3, .box 2 0), (4, iv 0), (23, slA 2 cRw q.bad), (24, iv q.bad.length), (25, iv 0)] ?_
 refine t_then ?_
 refine t_cut (cntOk p.states.length q.bad q.bad.length) (ofL [(1, .box 27 (cFm p)), (2, .box 30 (cPq q))]) (ofT 47 [(2, .box 1 0), (3, .box 2 0)]) ?_ (fun CNT => ?_)
 refine tri_block ?_
 refine tri_loop (σ := {k : Nat // k ≤ q.bad.length ∧ cntOk p.states.length q.bad k}) (fun s => (ofL [(1, .box 27 (cFm p)), (2, .box 30 (cPq q))], ofT 47 [(2, .box 1 0), (3, .box 2 0), (23, slA 2 cRw q.bad), (24, iv q.bad.length), (25, iv s.1)])) (fun s => q.bad.length - s.1) ⟨0, Nat.zero_le _, cntOk_zero _ _⟩ (wk_keep _ _ rfl (by kernel_rfl) (by kernel_rfl)) (fun s => ?_)
 obtain ⟨k, hk0, hs0⟩ := s
 show ETri J w0 (ofL [(1, .box 27 (cFm p)), (2, .box 30 (cPq q))]) (ofT 47 [(2, .box 1 0), (3, .box 2 0), (23, slA 2 cRw q.bad), (24, iv q.bad.length), (25, iv k)]) _
 refine tri_seq ?_
 by_cases hs3 : ((k : Nat) : Int) < ((q.bad.length : Nat) : Int)
 refine tri_region ?_
 refine oC (sp_lss rfl (dT hs3)) I0 I0 ?_
 refine kN 47 [(1, .box 27 (cFm p)), (2, .box 30 (cPq q))] [(2, .box 1 0), (3, .box 2 0), (23, slA 2 cRw q.bad), (24, iv q.bad.length), (25, iv k), (26, bv true)] ?_
 refine t_then ?_
 refine tri_seq ?_
 refine t_condT rfl ?_
 refine tri_skip ?_
 refine t_then ?_
 refine tri_seq ?_
 refine tri_block ?_
 refine tri_seq ?_
 refine tri_region ?_
 refine oC (sp_indexSl (off := k * 2) (.tmp 23) (.tmp 25) rfl Tryd.underlying28 (by kernel_rfl) (by omega) (by omega) rfl) I0 I0 ?_
 refine oA (sp_loadElS (z := 2) (.tmp 27) rfl Tryd.underlying84 rfl (by kernel_rfl) (flat_take lenRw q.bad k (by omega)) rfl) I0 ?_
 refine t_op rfl (sp_alloc (z := .agg #[.slice none 0 0, .int .i64 0]) (k := 3) rfl (by kernel_rfl)) T0 T0 rfl ?_
 refine t_op rfl (sp_storeBox (T0 := 84) (X := .agg (cRw q.bad[k])) (cs := [.v (.slice none 0 0), iv 0]) (ds := cRw q.bad[k]) (z := 2) (.tmp 6) (.tmp 28) rfl (by kernel_rfl) (by kernel_rfl) (by kernel_rfl) (of_decide_eq_true (by kernel_rfl)) (by kernel_rfl)) ⟨I0, I0, T0⟩ ⟨rfl, T0⟩ rfl ?_
 refine kN 47 [(1, .box 27 (cFm p)), (2, .box 30 (cPq q)), (3, .box 84 (cRw q.bad[k]))] [(2, .box 1 0), (3, .box 2 0), (6, .box 3 0), (23, slA 2 cRw q.bad), (24, iv q.bad.length), (25, iv k), (26, bv true)] ?_
 refine t_then ?_
 refine tri_seq ?_
 refine tri_seq ?_
 refine tri_region ?_
 refine oA (fB 0 (.tmp 6) rfl Tryd.underlying84 rfl 1 rfl) I0 ?_
 refine oB (lB (.box 84 (cRw q.bad[k])) (intsA q.bad[k].1) (.tmp 29) rfl Tryd.underlying24 rfl rfl) I0 rfl ?_
 refine oA (fB 2 (.tmp 2) rfl Tryd.underlying27 rfl 1 rfl) I0 ?_
 refine oB (lB (.box 27 (cFm p)) (strsA p.states) (.tmp 31) rfl Tryd.underlying22 rfl rfl) I0 rfl ?_
 refine oA (sp_lenSl (.tmp 32) rfl Tryd.underlying22) I0 ?_
 refine oD (sp_call (c := .func 96) (xs := #[.tmp 30, .tmp 33]) [] (someSetError_c p.states.length HP.lstates q.bad[k].1 (HQ.bad q.bad[k] (List.getElem_mem (by omega))).1) rfl (by kernel_rfl) rfl (Xs := [intsA q.bad[k].1, iv p.states.length]) rfl rfl rfl) I0 I0 I0 ?_
 refine oA (sp_assign (.tmp 34) (iv (someE p.states.length q.bad[k].1)) rfl) I0 ?_
 refine kN 47 [(1, .box 27 (cFm p)), (2, .box 30 (cPq q)), (3, .box 84 (cRw q.bad[k]))] [(2, .box 1 0), (3, .box 2 0), (6, .box 3 0), (7, iv (someE p.states.length q.bad[k].1)), (23, slA 2 cRw q.bad), (24, iv q.bad.length), (25, iv k), (26, bv true)] ?_
 refine t_then ?_
 refine tri_seq ?_
 by_cases hs4 : someE p.states.length q.bad[k].1 = 0
 refine tri_region ?_
 refine oA (sp_move (.tmp 7) (iv (someE p.states.length q.bad[k].1)) rfl) I0 ?_
 refine oC (sp_neq rfl (dT' hs4)) I0 I0 ?_
 refine kN 47 [(1, .box 27 (cFm p)), (2, .box 30 (cPq q)), (3, .box 84 (cRw q.bad[k]))] [(2, .box 1 0), (3, .box 2 0), (6, .box 3 0), (7, iv (someE p.states.length q.bad[k].1)), (23, slA 2 cRw q.bad), (24, iv q.bad.length), (25, iv k), (26, bv true), (36, bv false)] ?_
 refine t_then ?_
 refine t_condF rfl ?_
 refine tri_skip ?_
 refine t_then ?_
 refine tri_seq ?_
 by_cases hs5 : (inB 1 3 q.bad[k].2) = true
 refine tri_region ?_
 refine oA (fB 1 (.tmp 6) rfl Tryd.underlying84 rfl 1 rfl) I0 ?_
 refine oB (lB (.box 84 (cRw q.bad[k])) (iv q.bad[k].2) (.tmp 38) rfl Tryd.underlying3 rfl rfl) I0 rfl ?_
 refine t_op rfl (sp_call (c := .func 103) (xs := #[.tmp 39, .const (.int .i64 1), .const (.int .i64 3)]) [] (ctr_b (between_c q.bad[k].2 1 3) hs5) rfl (by kernel_rfl) rfl (Xs := [iv q.bad[k].2, iv 1, iv 3]) rfl rfl rfl) ⟨I0, I0, I0, I0, T0⟩ T0 T0 ?_
 refine oA (sp_not rfl rfl) I0 ?_
 refine kN 47 [(1, .box 27 (cFm p)), (2, .box 30 (cPq q)), (3, .box 84 (cRw q.bad[k]))] [(2, .box 1 0), (3, .box 2 0), (6, .box 3 0), (7, iv (someE p.states.length q.bad[k].1)), (23, slA 2 cRw q.bad), (24, iv q.bad.length), (25, iv k), (26, bv true), (36, bv false), (41, bv false)] ?_
 refine t_then ?_
 refine t_condF rfl ?_
 refine tri_skip ?_
 refine t_block ?_
 refine t_then ?_
 refine tri_region ?_
 refine oC (sp_add (c := ((k + 1 : Nat) : Int)) rfl (w64 (by omega) (by omega) (by omega))) I0 I0 ?_
 refine oA (sp_move (.tmp 42) (iv (k + 1 : Nat)) rfl) I0 ?_
 refine kN 47 [(1, .box 27 (cFm p)), (2, .box 30 (cPq q)), (3, .box 84 (cRw q.bad[k]))] [(2, .box 1 0), (3, .box 2 0), (6, .box 3 0), (7, iv (someE p.states.length q.bad[k].1)), (23, slA 2 cRw q.bad), (24, iv q.bad.length), (25, iv (k + 1 : Nat)), (26, bv true), (36, bv false), (41, bv false)] ?_
 refine t_then ?_
 refine tri_again ⟨k + 1, by omega, cntOk_succ (by omega) hs0 (cnt_0 (some_z hs4).1 (some_z hs4).2 hs5)⟩ (show q.bad.length - (k + 1) < q.bad.length - k by omega) ?_
 exact wk_keep _ _ rfl (by kernel_rfl) (by kernel_rfl)
 have hs5f : (inB 1 3 q.bad[k].2) = false := by simpa using hs5
 refine tri_region ?_
 refine oA (fB 1 (.tmp 6) rfl Tryd.underlying84 rfl 1 rfl) I0 ?_
 refine oB (lB (.box 84 (cRw q.bad[k])) (iv q.bad[k].2) (.tmp 38) rfl Tryd.underlying3 rfl rfl) I0 rfl ?_
 refine t_op rfl (sp_call (c := .func 103) (xs := #[.tmp 39, .const (.int .i64 1), .const (.int .i64 3)]) [] (ctr_b (between_c q.bad[k].2 1 3) hs5f) rfl (by kernel_rfl) rfl (Xs := [iv q.bad[k].2, iv 1, iv 3]) rfl rfl rfl) ⟨I0, I0, I0, I0, T0⟩ T0 T0 ?_
 refine oA (sp_not rfl rfl) I0 ?_
 refine kN 47 [(1, .box 27 (cFm p)), (2, .box 30 (cPq q)), (3, .box 84 (cRw q.bad[k]))] [(2, .box 1 0), (3, .box 2 0), (6, .box 3 0), (7, iv (someE p.states.length q.bad[k].1)), (23, slA 2 cRw q.bad), (24, iv q.bad.length), (25, iv k), (26, bv true), (36, bv false), (41, bv true)] ?_
 refine t_then ?_
 refine t_condT rfl ?_
 refine tri_seq ?_
 refine tri_region ?_
 refine oA (sp_assign (.const (.int .i64 1)) (iv 1) rfl) I0 ?_
 refine kN 47 [(1, .box 27 (cFm p)), (2, .box 30 (cPq q)), (3, .box 84 (cRw q.bad[k]))] [(2, .box 1 0), (3, .box 2 0), (4, iv 1), (6, .box 3 0), (7, iv (someE p.states.length q.bad[k].1)), (23, slA 2 cRw q.bad), (24, iv q.bad.length), (25, iv k), (26, bv true), (36, bv false), (41, bv true)] ?_
 refine t_then ?_
 refine tri_ret ?_
 refine t_block_ret ?_
 refine t_then_ret ?_
 refine t_then_ret ?_
 refine t_block_ret ?_
 refine t_cut_ret ?_
 refine t_then_ret ?_
 refine tri_end1 Tryd.results97 (.tmp rfl) ?_
 exact congrArg (fun x : Int => AV.v (.int .i64 x)) ((bad_c ⟨(fun h => hs2 h.2), (show ¬ 3 < ((q.bad.length : Nat) : Int) by omega)⟩ (k := k) (by omega) hs0 (cnt_b (some_z hs4).1 (some_z hs4).2 hs5f) (by decide)).symm)
 refine tri_region ?_
 refine oA (sp_move (.tmp 7) (iv (someE p.states.length q.bad[k].1)) rfl) I0 ?_
 refine oC (sp_neq rfl (dF' hs4)) I0 I0 ?_
 refine kN 47 [(1, .box 27 (cFm p)), (2, .box 30 (cPq q)), (3, .box 84 (cRw q.bad[k]))] [(2, .box 1 0), (3, .box 2 0), (6, .box 3 0), (7, iv (someE p.states.length q.bad[k].1)), (23, slA 2 cRw q.bad), (24, iv q.bad.length), (25, iv k), (26, bv true), (36, bv true)] ?_
 refine t_then ?_
 refine t_condT rfl ?_
 refine tri_seq ?_
 refine tri_region ?_
 refine oA (sp_move (.tmp 7) (iv (someE p.states.length q.bad[k].1)) rfl) I0 ?_
 refine oA (sp_assign (.tmp 37) (iv (someE p.states.length q.bad[k].1)) rfl) I0 ?_
 refine kN 47 [(1, .box 27 (cFm p)), (2, .box 30 (cPq q)), (3, .box 84 (cRw q.bad[k]))] [(2, .box 1 0), (3, .box 2 0), (4, iv (someE p.states.length q.bad[k].1)), (6, .box 3 0), (7, iv (someE p.states.length q.bad[k].1)), (23, slA 2 cRw q.bad), (24, iv q.bad.length), (25, iv k), (26, bv true), (36, bv true)] ?_
 refine t_then ?_
 refine tri_ret ?_
 refine t_then_ret ?_
 refine t_block_ret ?_
 refine t_then_ret ?_
 refine t_then_ret ?_
 refine t_block_ret ?_
 refine t_cut_ret ?_
 refine t_then_ret ?_
 refine tri_end1 Tryd.results97 (.tmp rfl) ?_
 exact congrArg (fun x : Int => AV.v (.int .i64 x)) ((bad_c ⟨(fun h => hs2 h.2), (show ¬ 3 < ((q.bad.length : Nat) : Int) by omega)⟩ (k := k) (by omega) hs0 (some_ne hs4) hs4).symm)
 refine tri_region ?_
 refine oC (sp_lss rfl (dF hs3)) I0 I0 ?_
 refine kN 47 [(1, .box 27 (cFm p)), (2, .box 30 (cPq q))] [(2, .box 1 0), (3, .box 2 0), (23, slA 2 cRw q.bad), (24, iv q.bad.length), (25, iv k), (26, bv false)] ?_
 refine t_then ?_
 refine tri_seq ?_
 refine t_condF rfl ?_
 refine tri_exit ?_
 refine t_then_exit ?_
 refine t_then_exit ?_
 refine t_hit ?_
 exact t_meet (by have : k = q.bad.length := (by omega); subst this; exact hs0) (wk_keep _ _ rfl (by kernel_rfl) (by kernel_rfl))
 refine t_then ?_
 refine tri_seq ?_
 refine tri_region ?_
 refine oB (sp_loadBoxS (Y := .box 27 (cFm p)) (ds := cFm p) (z := 10) (.tmp 2) rfl Tryd.underlying27 rfl (by kernel_rfl) (by decide) (by kernel_rfl) (by kernel_rfl)) I0 rfl ?_
 refine oA (fB 4 (.tmp 3) rfl Tryd.underlying30 rfl 1 rfl) I0 ?_
 refine oB (lB (.box 30 (cPq q)) (intsA q.adj) (.tmp 44) rfl Tryd.underlying24 rfl rfl) I0 rfl ?_
 refine oD (sp_call (c := .func 141) (xs := #[.tmp 43, .tmp 45]) [] (adjacent_c HP q.adj) rfl (by kernel_rfl) rfl (Xs := [.agg (cFm p), intsA q.adj]) rfl rfl rfl) I0 I0 I0 ?_
 refine oA (sp_assign (.tmp 46) (iv (adjE p q.adj)) rfl) I0 ?_
 refine kN 47 [] [(4, iv (adjE p q.adj))] ?_
 refine t_then ?_
 refine tri_ret ?_
 refine tri_end1 Tryd.results97 (.tmp rfl) ?_
 exact congrArg (fun x : Int => AV.v (.int .i64 x)) ((bad_z ⟨(fun h => hs2 h.2), (show ¬ 3 < ((q.bad.length : Nat) : Int) by omega)⟩ CNT).symm)
 refine tri_region ?_
 refine oA (fB 3 (.tmp 3) rfl Tryd.underlying30 rfl 1 rfl) I0 ?_
 refine oB (lB (.box 30 (cPq q)) (slA 2 cRw q.bad) (.tmp 8) rfl Tryd.underlying28 rfl rfl) I0 rfl ?_
 refine oA (sp_lenSl (.tmp 9) rfl Tryd.underlying28) I0 ?_
 refine oC (sp_eql rfl (dF hs1)) I0 I0 ?_
 refine oA (sp_move (.tmp 11) (bv false) rfl) I0 ?_
 refine t_skip rfl ?_
 refine t_skip rfl ?_
 refine t_skip rfl ?_
 refine t_skip rfl ?_
 refine oD (sp_pick (.tmp 12) (.tmp 16) (.const (.bool false)) false (.v (.tuple #[])) (bv false) rfl) I0 I0 I0 ?_
 refine kN 47 [(1, .box 27 (cFm p)), (2, .box 30 (cPq q))] [(2, .box 1 0), (3, .box 2 0), (4, iv 0), (17, bv false)] ?_
 refine t_then ?_
 refine t_condF rfl ?_
 refine tri_skip ?_
 refine t_then ?_
 refine tri_seq ?_
 refine tri_seq ?_
 by_cases hs6 : 3 < ((q.bad.length : Nat) : Int)
 refine tri_region ?_
 refine oA (fB 3 (.tmp 3) rfl Tryd.underlying30 rfl 1 rfl) I0 ?_
 refine oB (lB (.box 30 (cPq q)) (slA 2 cRw q.bad) (.tmp 18) rfl Tryd.underlying28 rfl rfl) I0 rfl ?_
 refine oA (sp_lenSl (.tmp 19) rfl Tryd.underlying28) I0 ?_
 refine oC (sp_gtr rfl (dT hs6)) I0 I0 ?_
 refine kN 47 [(1, .box 27 (cFm p)), (2, .box 30 (cPq q))] [(2, .box 1 0), (3, .box 2 0), (4, iv 0), (21, bv true)] ?_
 refine t_then ?_
 refine t_condT rfl ?_
 refine tri_seq ?_
 refine tri_region ?_
 refine oA (sp_assign (.const (.int .i64 4)) (iv 4) rfl) I0 ?_
 refine kN 47 [(1, .box 27 (cFm p)), (2, .box 30 (cPq q))] [(2, .box 1 0), (3, .box 2 0), (4, iv 4)] ?_
 refine t_then ?_
 refine tri_ret ?_
 refine t_then_ret ?_
 refine tri_end1 Tryd.results97 (.tmp rfl) ?_
 exact congrArg (fun x : Int => AV.v (.int .i64 x)) ((bad_4 (fun h => hs1 h.1) hs6).symm)
 refine tri_region ?_
 refine oA (fB 3 (.tmp 3) rfl Tryd.underlying30 rfl 1 rfl) I0 ?_
 refine oB (lB (.box 30 (cPq q)) (slA 2 cRw q.bad) (.tmp 18) rfl Tryd.underlying28 rfl rfl) I0 rfl ?_
 refine oA (sp_lenSl (.tmp 19) rfl Tryd.underlying28) I0 ?_
 refine oC (sp_gtr rfl (dF hs6)) I0 I0 ?_
 refine kN 47 [(1, .box 27 (cFm p)), (2, .box 30 (cPq q))] [(2, .box 1 0), (3, .box 2 0), (4, iv 0), (21, bv false)] ?_
 refine t_then ?_
 refine t_condF rfl ?_
 refine tri_skip ?_
 refine t_then ?_
 refine tri_seq ?_
 refine tri_seq ?_
 refine tri_region ?_
 refine oA (fB 3 (.tmp 3) rfl Tryd.underlying30 rfl 1 rfl) I0 ?_
 refine oB (lB (.box 30 (cPq q)) (slA 2 cRw q.bad) (.tmp 22) rfl Tryd.underlying28 rfl rfl) I0 rfl ?_
 refine oA (sp_lenSl (.tmp 23) rfl Tryd.underlying28) I0 ?_
 refine oA (sp_move (.const (.int .i64 0)) (iv 0) rfl) I0 ?_
 refine kN 47 [(1, .box 27 (cFm p)), (2, .box 30 (cPq q))] [(2, .box 1 0), (3, .box 2 0), (4, iv 0), (23, slA 2 cRw q.bad), (24, iv q.bad.length), (25, iv 0)] ?_
 refine t_then ?_
 refine t_cut (cntOk p.states.length q.bad q.bad.length) (ofL [(1, .box 27 (cFm p)), (2, .box 30 (cPq q))]) (ofT 47 [(2, .box 1 0), (3, .box 2 0)]) ?_ (fun CNT => ?_)
 refine tri_block ?_
 refine tri_loop (σ := {k : Nat // k ≤ q.bad.length ∧ cntOk p.states.length q.bad k}) (fun s => (ofL [(1, .box 27 (cFm p)), (2, .box 30 (cPq q))], ofT 47 [(2, .box 1 0), (3, .box 2 0), (23, slA 2 cRw q.bad), (24, iv q.bad.length), (25, iv s.1)])) (fun s => q.bad.length - s.1) ⟨0, Nat.zero_le _, cntOk_zero _ _⟩ (wk_keep _ _ rfl (by kernel_rfl) (by kernel_rfl)) (fun s => ?_)
 obtain ⟨k, hk0, hs0⟩ := s
 show ETri J w0 (ofL [(1, .box 27 (cFm p)), (2, .box 30 (cPq q))]) (ofT 47 [(2, .box 1 0), (3, .box 2 0), (23, slA 2 cRw q.bad), (24, iv q.bad.length), (25, iv k)]) _
 refine tri_seq ?_
 by_cases hs7 : ((k : Nat) : Int) < ((q.bad.length : Nat) : Int)
 refine tri_region ?_
 refine oC (sp_lss rfl (dT hs7)) I0 I0 ?_
 refine kN 47 [(1, .box 27 (cFm p)), (2, .box 30 (cPq q))] [(2, .box 1 0), (3, .box 2 0), (23, slA 2 cRw q.bad), (24, iv q.bad.length), (25, iv k), (26, bv true)] ?_
 refine t_then ?_
 refine tri_seq ?_
 refine t_condT rfl ?_
 refine tri_skip ?_
 refine t_then ?_
 refine tri_seq ?_
 refine tri_block ?_
 refine tri_seq ?_
 refine tri_region ?_
 refine oC (sp_indexSl (off := k * 2) (.tmp 23) (.tmp 25) rfl Tryd.underlying28 (by kernel_rfl) (by omega) (by omega) rfl) I0 I0 ?_
 refine oA (sp_loadElS (z := 2) (.tmp 27) rfl Tryd.underlying84 rfl (by kernel_rfl) (flat_take lenRw q.bad k (by omega)) rfl) I0 ?_
 refine t_op rfl (sp_alloc (z := .agg #[.slice none 0 0, .int .i64 0]) (k := 3) rfl (by kernel_rfl)) T0 T0 rfl ?_
 refine t_op rfl (sp_storeBox (T0 := 84) (X := .agg (cRw q.bad[k])) (cs := [.v (.slice none 0 0), iv 0]) (ds := cRw q.bad[k]) (z := 2) (.tmp 6) (.tmp 28) rfl (by kernel_rfl) (by kernel_rfl) (by kernel_rfl) (of_decide_eq_true (by kernel_rfl)) (by kernel_rfl)) ⟨I0, I0, T0⟩ ⟨rfl, T0⟩ rfl ?_
 refine kN 47 [(1, .box 27 (cFm p)), (2, .box 30 (cPq q)), (3, .box 84 (cRw q.bad[k]))] [(2, .box 1 0), (3, .box 2 0), (6, .box 3 0), (23, slA 2 cRw q.bad), (24, iv q.bad.length), (25, iv k), (26, bv true)] ?_
 refine t_then ?_
 refine tri_seq ?_
 refine tri_seq ?_
 refine tri_region ?_
 refine oA (fB 0 (.tmp 6) rfl Tryd.underlying84 rfl 1 rfl) I0 ?_
 refine oB (lB (.box 84 (cRw q.bad[k])) (intsA q.bad[k].1) (.tmp 29) rfl Tryd.underlying24 rfl rfl) I0 rfl ?_
 refine oA (fB 2 (.tmp 2) rfl Tryd.underlying27 rfl 1 rfl) I0 ?_
 refine oB (lB (.box 27 (cFm p)) (strsA p.states) (.tmp 31) rfl Tryd.underlying22 rfl rfl) I0 rfl ?_
 refine oA (sp_lenSl (.tmp 32) rfl Tryd.underlying22) I0 ?_
 refine oD (sp_call (c := .func 96) (xs := #[.tmp 30, .tmp 33]) [] (someSetError_c p.states.length HP.lstates q.bad[k].1 (HQ.bad q.bad[k] (List.getElem_mem (by omega))).1) rfl (by kernel_rfl) rfl (Xs := [intsA q.bad[k].1, iv p.states.length]) rfl rfl rfl) I0 I0 I0 ?_
 refine oA (sp_assign (.tmp 34) (iv (someE p.states.length q.bad[k].1)) rfl) I0 ?_
 refine kN 47 [(1, .box 27 (cFm p)), (2, .box 30 (cPq q)), (3, .box 84 (cRw q.bad[k]))] [(2, .box 1 0), (3, .box 2 0), (6, .box 3 0), (7, iv (someE p.states.length q.bad[k].1)), (23, slA 2 cRw q.bad), (24, iv q.bad.length), (25, iv k), (26, bv true)] ?_
 refine t_then ?_
 refine tri_seq ?_
 by_cases hs8 : someE p.states.length q.bad[k].1 = 0
 refine tri_region ?_
 refine oA (sp_move (.tmp 7) (iv (someE p.states.length q.bad[k].1)) rfl) I0 ?_
 refine oC (sp_neq rfl (dT' hs8)) I0 I0 ?_
 refine kN 47 [(1, .box 27 (cFm p)), (2, .box 30 (cPq q)), (3, .box 84 (cRw q.bad[k]))] [(2, .box 1 0), (3, .box 2 0), (6, .box 3 0), (7, iv (someE p.states.length q.bad[k].1)), (23, slA 2 cRw q.bad), (24, iv q.bad.length), (25, iv k), (26, bv true), (36, bv false)] ?_
 refine t_then ?_
 refine t_condF rfl ?_
 refine tri_skip ?_
 refine t_then ?_
 refine tri_seq ?_
 by_cases hs9 : (inB 1 3 q.bad[k].2) = true
 refine tri_region ?_
 refine oA (fB 1 (.tmp 6) rfl Tryd.underlying84 rfl 1 rfl) I0 ?_
 refine oB (lB (.box 84 (cRw q.bad[k])) (iv q.bad[k].2) (.tmp 38) rfl Tryd.underlying3 rfl rfl) I0 rfl ?_
 refine t_op rfl (sp_call (c := .func 103) (xs := #[.tmp 39, .const (.int .i64 1), .const (.int .i64 3)]) [] (ctr_b (between_c q.bad[k].2 1 3) hs9) rfl (by kernel_rfl) rfl (Xs := [iv q.bad[k].2, iv 1, iv 3]) rfl rfl rfl) ⟨I0, I0, I0, I0, T0⟩ T0 T0 ?_
 refine oA (sp_not rfl rfl) I0 ?_
 refine kN 47 [(1, .box 27 (cFm p)), (2, .box 30 (cPq q)), (3, .box 84 (cRw q.bad[k]))] [(2, .box 1 0), (3, .box 2 0), (6, .box 3 0), (7, iv (someE p.states.length q.bad[k].1)), (23, slA 2 cRw q.bad), (24, iv q.bad.length), (25, iv k), (26, bv true), (36, bv false), (41, bv false)] ?_
 refine t_then ?_
 refine t_condF rfl ?_
 refine tri_skip ?_
 refine t_block ?_
 refine t_then ?_
 refine tri_region ?_
 refine oC (sp_add (c := ((k + 1 : Nat) : Int)) rfl (w64 (by omega) (by omega) (by omega))) I0 I0 ?_
 refine oA (sp_move (.tmp 42) (iv (k + 1 : Nat)) rfl) I0 ?_
 refine kN 47 [(1, .box 27 (cFm p)), (2, .box 30 (cPq q)), (3, .box 84 (cRw q.bad[k]))] [(2, .box 1 0), (3, .box 2 0), (6, .box 3 0), (7, iv (someE p.states.length q.bad[k].1)), (23, slA 2 cRw q.bad), (24, iv q.bad.length), (25, iv (k + 1 : Nat)), (26, bv true), (36, bv false), (41, bv false)] ?_
 refine t_then ?_
 refine tri_again ⟨k + 1, by omega, cntOk_succ (by omega) hs0 (cnt_0 (some_z hs8).1 (some_z hs8).2 hs9)⟩ (show q.bad.length - (k + 1) < q.bad.length - k by omega) ?_
 exact wk_keep _ _ rfl (by kernel_rfl) (by kernel_rfl)
 have hs9f : (inB 1 3 q.bad[k].2) = false := by simpa using hs9
 refine tri_region ?_
 refine oA (fB 1 (.tmp 6) rfl Tryd.underlying84 rfl 1 rfl) I0 ?_
 refine oB (lB (.box 84 (cRw q.bad[k])) (iv q.bad[k].2) (.tmp 38) rfl Tryd.underlying3 rfl rfl) I0 rfl ?_
 refine t_op rfl (sp_call (c := .func 103) (xs := #[.tmp 39, .const (.int .i64 1), .const (.int .i64 3)]) [] (ctr_b (between_c q.bad[k].2 1 3) hs9f) rfl (by kernel_rfl) rfl (Xs := [iv q.bad[k].2, iv 1, iv 3]) rfl rfl rfl) ⟨I0, I0, I0, I0, T0⟩ T0 T0 ?_
 refine oA (sp_not rfl rfl) I0 ?_
 refine kN 47 [(1, .box 27 (cFm p)), (2, .box 30 (cPq q)), (3, .box 84 (cRw q.bad[k]))] [(2, .box 1 0), (3, .box 2 0), (6, .box 3 0), (7, iv (someE p.states.length q.bad[k].1)), (23, slA 2 cRw q.bad), (24, iv q.bad.length), (25, iv k), (26, bv true), (36, bv false), (41, bv true)] ?_
 refine t_then ?_
 refine t_condT rfl ?_
 refine tri_seq ?_
 refine tri_region ?_
 refine oA (sp_assign (.const (.int .i64 1)) (iv 1) rfl) I0 ?_
 refine kN 47 [(1, .box 27 (cFm p)), (2, .box 30 (cPq q)), (3, .box 84 (cRw q.bad[k]))] [(2, .box 1 0), (3, .box 2 0), (4, iv 1), (6, .box 3 0), (7, iv (someE p.states.length q.bad[k].1)), (23, slA 2 cRw q.bad), (24, iv q.bad.length), (25, iv k), (26, bv true), (36, bv false), (41, bv true)] ?_
 refine t_then ?_
 refine tri_ret ?_
 refine t_block_ret ?_
 refine t_then_ret ?_
 refine t_then_ret ?_
 refine t_block_ret ?_
 refine t_cut_ret ?_
 refine t_then_ret ?_
 refine tri_end1 Tryd.results97 (.tmp rfl) ?_
 exact congrArg (fun x : Int => AV.v (.int .i64 x)) ((bad_c ⟨(fun h => hs1 h.1), hs6⟩ (k := k) (by omega) hs0 (cnt_b (some_z hs8).1 (some_z hs8).2 hs9f) (by decide)).symm)
 refine tri_region ?_
 refine oA (sp_move (.tmp 7) (iv (someE p.states.length q.bad[k].1)) rfl) I0 ?_
 refine oC (sp_neq rfl (dF' hs8)) I0 I0 ?_
 refine kN 47 [(1, .box 27 (cFm p)), (2, .box 30 (cPq q)), (3, .box 84 (cRw q.bad[k]))] [(2, .box 1 0), (3, .box 2 0), (6, .box 3 0), (7, iv (someE p.states.length q.bad[k].1)), (23, slA 2 cRw q.bad), (24, iv q.bad.length), (25, iv k), (26, bv true), (36, bv true)] ?_
 refine t_then ?_
 refine t_condT rfl ?_
 refine tri_seq ?_
 refine tri_region ?_
 refine oA (sp_move (.tmp 7) (iv (someE p.states.length q.bad[k].1)) rfl) I0 ?_
 refine oA (sp_assign (.tmp 37) (iv (someE p.states.length q.bad[k].1)) rfl) I0 ?_
 refine kN 47 [(1, .box 27 (cFm p)), (2, .box 30 (cPq q)), (3, .box 84 (cRw q.bad[k]))] [(2, .box 1 0), (3, .box 2 0), (4, iv (someE p.states.length q.bad[k].1)), (6, .box 3 0), (7, iv (someE p.states.length q.bad[k].1)), (23, slA 2 cRw q.bad), (24, iv q.bad.length), (25, iv k), (26, bv true), (36, bv true)] ?_
 refine t_then ?_
 refine tri_ret ?_
 refine t_then_ret ?_
 refine t_block_ret ?_
 refine t_then_ret ?_
 refine t_then_ret ?_
 refine t_block_ret ?_
 refine t_cut_ret ?_
 refine t_then_ret ?_
 refine tri_end1 Tryd.results97 (.tmp rfl) ?_
 exact congrArg (fun x : Int => AV.v (.int .i64 x)) ((bad_c ⟨(fun h => hs1 h.1), hs6⟩ (k := k) (by omega) hs0 (some_ne hs8) hs8).symm)
 refine tri_region ?_
 refine oC (sp_lss rfl (dF hs7)) I0 I0 ?_
 refine kN 47 [(1, .box 27 (cFm p)), (2, .box 30 (cPq q))] [(2, .box 1 0), (3, .box 2 0), (23, slA 2 cRw q.bad), (24, iv q.bad.length), (25, iv k), (26, bv false)] ?_
 refine t_then ?_
 refine tri_seq ?_
 refine t_condF rfl ?_
 refine tri_exit ?_
 refine t_then_exit ?_
 refine t_then_exit ?_
 refine t_hit ?_
 exact t_meet (by have : k = q.bad.length := (by omega); subst this; exact hs0) (wk_keep _ _ rfl (by kernel_rfl) (by kernel_rfl))
 refine t_then ?_
 refine tri_seq ?_
 refine tri_region ?_
 refine oB (sp_loadBoxS (Y := .box 27 (cFm p)) (ds := cFm p) (z := 10) (.tmp 2) rfl Tryd.underlying27 rfl (by kernel_rfl) (by decide) (by kernel_rfl) (by kernel_rfl)) I0 rfl ?_
 refine oA (fB 4 (.tmp 3) rfl Tryd.underlying30 rfl 1 rfl) I0 ?_
 refine oB (lB (.box 30 (cPq q)) (intsA q.adj) (.tmp 44) rfl Tryd.underlying24 rfl rfl) I0 rfl ?_
 refine oD (sp_call (c := .func 141) (xs := #[.tmp 43, .tmp 45]) [] (adjacent_c HP q.adj) rfl (by kernel_rfl) rfl (Xs := [.agg (cFm p), intsA q.adj]) rfl rfl rfl) I0 I0 I0 ?_
 refine oA (sp_assign (.tmp 46) (iv (adjE p q.adj)) rfl) I0 ?_
 refine kN 47 [] [(4, iv (adjE p q.adj))] ?_
 refine t_then ?_
 refine tri_ret ?_
 refine tri_end1 Tryd.results97 (.tmp rfl) ?_
 exact congrArg (fun x : Int => AV.v (.int .i64 x)) ((bad_z ⟨(fun h => hs1 h.1), hs6⟩ CNT).symm)
set_option linter.unusedSimpArgs false in
set_option linter.unusedVariables false in
set_option maxRecDepth 100000 in
set_option maxHeartbeats 6400000 in
theorem qValidateProperty_c {p : Fm} (HP : FmOk p) {q : Pq} (HQ : PqOk q) : Ctr Tryd.prog J 49 [.agg (cFm p), .agg (cPq q)] (iv (vpE p q)) := by
 have l1 := HQ.lstart
 refine ctr_of_tri Tryd.func49 rfl (by intro X hX; simp only [List.mem_cons, List.not_mem_nil, or_false] at hX; rcases hX with rfl | rfl; exact plain_agg (plain_fm p); exact plain_agg (plain_pq q)) (n := 88) rfl (by simp) (fun w0 => ?_)
 refine kW 88 [] [(0, .agg (cFm p)), (1, .agg (cPq q))] ?_
 refine tri_seq ?_
 refine tri_region ?_
 refine t_op rfl (sp_box (X := .agg (cFm p)) (k := 1) (.tmp 0) rfl rfl) ⟨I0, T0⟩ T0 rfl ?_
 refine t_op rfl (sp_box (X := .agg (cPq q)) (k := 2) (.tmp 1) rfl rfl) ⟨I0, T0⟩ T0 rfl ?_
 refine oA (sp_assign (.const (.int .i64 0)) (iv 0) rfl) I0 ?_
 refine kN 88 [(1, .box 27 (cFm p)), (2, .box 30 (cPq q))] [(2, .box 1 0), (3, .box 2 0), (4, iv 0)] ?_
 refine t_then ?_
 refine tri_seq ?_
 refine tri_seq ?_
 refine tri_region ?_
 refine oB (sp_loadBoxS (Y := .box 27 (cFm p)) (ds := cFm p) (z := 10) (.tmp 2) rfl Tryd.underlying27 rfl (by kernel_rfl) (by decide) (by kernel_rfl) (by kernel_rfl)) I0 rfl ?_
 refine oC (sp_call (c := .func 57) (xs := #[.tmp 9]) [] (qValidate_c HP) rfl (by kernel_rfl) rfl (Xs := [.agg (cFm p)]) rfl rfl rfl) I0 I0 ?_
 refine oA (sp_assign (.tmp 10) (iv (valE p)) rfl) I0 ?_
 refine kN 88 [(1, .box 27 (cFm p)), (2, .box 30 (cPq q))] [(2, .box 1 0), (3, .box 2 0), (4, iv 0), (5, iv (valE p))] ?_
 refine t_then ?_
 refine tri_seq ?_
 by_cases hs1 : valE p = 0
 refine tri_region ?_
 refine oA (sp_move (.tmp 5) (iv (valE p)) rfl) I0 ?_
 refine oC (sp_neq rfl (dT' hs1)) I0 I0 ?_
 refine kN 88 [(1, .box 27 (cFm p)), (2, .box 30 (cPq q))] [(2, .box 1 0), (3, .box 2 0), (4, iv 0), (5, iv (valE p)), (12, bv false)] ?_
 refine t_then ?_
 refine t_condF rfl ?_
 refine tri_skip ?_
 refine t_then ?_
 refine tri_seq ?_
 refine tri_block ?_
 refine tri_seq ?_
 by_cases hs2 : (nameB q.nm.toList) = true
 refine tri_region ?_
 refine oA (fB 0 (.tmp 3) rfl Tryd.underlying30 rfl 1 rfl) I0 ?_
 refine oB (lB (.box 30 (cPq q)) (sv q.nm) (.tmp 15) rfl Tryd.underlying9 rfl rfl) I0 rfl ?_
 refine oC (sp_call (c := .func 47) (xs := #[.tmp 16]) [] (ctr_b (qValidName_c q.nm HQ.nm) hs2) rfl (by kernel_rfl) rfl (Xs := [sv q.nm]) rfl rfl rfl) I0 I0 ?_
 refine oA (sp_not rfl rfl) I0 ?_
 refine oA (sp_assign (.tmp 18) (bv false) rfl) I0 ?_
 refine kN 88 [(1, .box 27 (cFm p)), (2, .box 30 (cPq q))] [(2, .box 1 0), (3, .box 2 0), (4, iv 0), (14, bv false)] ?_
 refine t_then ?_
 refine t_condF rfl ?_
 refine tri_seq ?_
 by_cases hs3 : q.kind = 1
 refine tri_region ?_
 refine oA (fB 1 (.tmp 3) rfl Tryd.underlying30 rfl 1 rfl) I0 ?_
 refine oB (lB (.box 30 (cPq q)) (iv q.kind) (.tmp 20) rfl Tryd.underlying3 rfl rfl) I0 rfl ?_
 refine oC (sp_neq rfl (dT' hs3)) I0 I0 ?_
 refine oA (sp_move (.tmp 22) (bv false) rfl) I0 ?_
 refine t_skip rfl ?_
 refine t_skip rfl ?_
 refine t_skip rfl ?_
 refine oD (sp_pick (.tmp 23) (.tmp 26) (.const (.bool false)) false (.v (.tuple #[])) (bv false) rfl) I0 I0 I0 ?_
 refine oA (sp_assign (.tmp 27) (bv false) rfl) I0 ?_
 refine kN 88 [(1, .box 27 (cFm p)), (2, .box 30 (cPq q))] [(2, .box 1 0), (3, .box 2 0), (4, iv 0), (19, bv false)] ?_
 refine t_then ?_
 refine t_condF rfl ?_
 refine tri_seq ?_
 by_cases hs4 : 0 < ((q.goal.length : Nat) : Int)
 refine tri_region ?_
 refine oA (fB 1 (.tmp 3) rfl Tryd.underlying30 rfl 1 rfl) I0 ?_
 refine oB (lB (.box 30 (cPq q)) (iv q.kind) (.tmp 29) rfl Tryd.underlying3 rfl rfl) I0 rfl ?_
 refine oC (sp_eql rfl (dT hs3)) I0 I0 ?_
 refine oA (sp_move (.tmp 31) (bv true) rfl) I0 ?_
 refine gA (fB 5 (.tmp 3) rfl Tryd.underlying30 rfl 1 rfl) I0 ?_
 refine gB (lB (.box 30 (cPq q)) (intsA q.goal) (.tmp 33) rfl Tryd.underlying24 rfl rfl) I0 rfl ?_
 refine gA (sp_lenSl (.tmp 34) rfl Tryd.underlying24) I0 ?_
 refine gC (sp_gtr rfl (dT hs4)) I0 I0 ?_
 refine oD (sp_pick (.tmp 32) (.tmp 36) (.const (.bool false)) true (bv true) (bv false) rfl) I0 I0 I0 ?_
 refine oA (sp_assign (.tmp 37) (bv true) rfl) I0 ?_
 refine kN 88 [(1, .box 27 (cFm p)), (2, .box 30 (cPq q))] [(2, .box 1 0), (3, .box 2 0), (4, iv 0), (28, bv true)] ?_
 refine t_then ?_
 refine t_condT rfl ?_
 refine tri_seq ?_
 refine tri_region ?_
 refine oA (sp_assign (.const (.int .i64 1)) (iv 1) rfl) I0 ?_
 refine kN 88 [(1, .box 27 (cFm p)), (2, .box 30 (cPq q))] [(2, .box 1 0), (3, .box 2 0), (4, iv 1)] ?_
 refine t_then ?_
 refine tri_ret ?_
 refine t_block_ret ?_
 refine t_then_ret ?_
 refine tri_end1 Tryd.results49 (.tmp rfl) ?_
 exact congrArg (fun x : Int => AV.v (.int .i64 x)) (((vp_2 hs1 hs2).trans (v2_g hs3 hs4)).symm)
 refine tri_region ?_
 refine oA (fB 1 (.tmp 3) rfl Tryd.underlying30 rfl 1 rfl) I0 ?_
 refine oB (lB (.box 30 (cPq q)) (iv q.kind) (.tmp 29) rfl Tryd.underlying3 rfl rfl) I0 rfl ?_
 refine oC (sp_eql rfl (dT hs3)) I0 I0 ?_
 refine oA (sp_move (.tmp 31) (bv true) rfl) I0 ?_
 refine gA (fB 5 (.tmp 3) rfl Tryd.underlying30 rfl 1 rfl) I0 ?_
 refine gB (lB (.box 30 (cPq q)) (intsA q.goal) (.tmp 33) rfl Tryd.underlying24 rfl rfl) I0 rfl ?_
 refine gA (sp_lenSl (.tmp 34) rfl Tryd.underlying24) I0 ?_
 refine gC (sp_gtr rfl (dF hs4)) I0 I0 ?_
 refine oD (sp_pick (.tmp 32) (.tmp 36) (.const (.bool false)) true (bv false) (bv false) rfl) I0 I0 I0 ?_
 refine oA (sp_assign (.tmp 37) (bv false) rfl) I0 ?_
 refine kN 88 [(1, .box 27 (cFm p)), (2, .box 30 (cPq q))] [(2, .box 1 0), (3, .box 2 0), (4, iv 0), (28, bv false)] ?_
 refine t_then ?_
 refine t_condF rfl ?_
 refine tri_seq ?_
 refine tri_region ?_
 refine oA (fB 1 (.tmp 3) rfl Tryd.underlying30 rfl 1 rfl) I0 ?_
 refine oB (lB (.box 30 (cPq q)) (iv q.kind) (.tmp 39) rfl Tryd.underlying3 rfl rfl) I0 rfl ?_
 refine oC (sp_eql rfl (dF (show ¬ q.kind = 2 by omega))) I0 I0 ?_
 refine oA (sp_move (.tmp 41) (bv false) rfl) I0 ?_
 refine t_skip rfl ?_
 refine t_skip rfl ?_
 refine t_skip rfl ?_
 refine t_skip rfl ?_
 refine t_skip rfl ?_
 refine t_skip rfl ?_
 refine t_skip rfl ?_
 refine t_skip rfl ?_
 refine t_skip rfl ?_
 refine t_skip rfl ?_
 refine oD (sp_pick (.tmp 42) (.tmp 52) (.const (.bool false)) false (.v (.tuple #[])) (bv false) rfl) I0 I0 I0 ?_
 refine oA (sp_assign (.tmp 53) (bv false) rfl) I0 ?_
 refine kN 88 [(1, .box 27 (cFm p)), (2, .box 30 (cPq q))] [(2, .box 1 0), (3, .box 2 0), (4, iv 0), (38, bv false)] ?_
 refine t_then ?_
 refine t_condF rfl ?_
 refine tri_skip ?_
 refine t_block ?_
 refine t_then ?_
 refine tri_seq ?_
 refine tri_seq ?_
 refine tri_region ?_
 refine oA (fB 2 (.tmp 3) rfl Tryd.underlying30 rfl 1 rfl) I0 ?_
 refine oB (lB (.box 30 (cPq q)) (intsA q.start) (.tmp 54) rfl Tryd.underlying24 rfl rfl) I0 rfl ?_
 refine oA (fB 2 (.tmp 2) rfl Tryd.underlying27 rfl 1 rfl) I0 ?_
 refine oB (lB (.box 27 (cFm p)) (strsA p.states) (.tmp 56) rfl Tryd.underlying22 rfl rfl) I0 rfl ?_
 refine oA (sp_lenSl (.tmp 57) rfl Tryd.underlying22) I0 ?_
 refine oD (sp_call (c := .func 94) (xs := #[.tmp 55, .tmp 58]) [] (setError_c p.states.length HP.lstates q.start HQ.start) rfl (by kernel_rfl) rfl (Xs := [intsA q.start, iv p.states.length]) rfl rfl rfl) I0 I0 I0 ?_
 refine oA (sp_assign (.tmp 59) (iv (setE p.states.length q.start)) rfl) I0 ?_
 refine kN 88 [(1, .box 27 (cFm p)), (2, .box 30 (cPq q))] [(2, .box 1 0), (3, .box 2 0), (4, iv 0), (6, iv (setE p.states.length q.start))] ?_
 refine t_then ?_
 refine tri_seq ?_
 by_cases hs5 : setE p.states.length q.start = 0
 refine tri_region ?_
 refine oA (sp_move (.tmp 6) (iv (setE p.states.length q.start)) rfl) I0 ?_
 refine oC (sp_neq rfl (dT' hs5)) I0 I0 ?_
 refine kN 88 [(1, .box 27 (cFm p)), (2, .box 30 (cPq q))] [(2, .box 1 0), (3, .box 2 0), (4, iv 0), (6, iv (setE p.states.length q.start)), (61, bv false)] ?_
 refine t_then ?_
 refine t_condF rfl ?_
 refine tri_skip ?_
 refine t_then ?_
 refine tri_seq ?_
 refine tri_seq ?_
 refine tri_region ?_
 refine oA (fB 2 (.tmp 3) rfl Tryd.underlying30 rfl 1 rfl) I0 ?_
 refine oB (lB (.box 30 (cPq q)) (intsA q.start) (.tmp 63) rfl Tryd.underlying24 rfl rfl) I0 rfl ?_
 refine oA (sp_lenSl (.tmp 64) rfl Tryd.underlying24) I0 ?_
 refine oA (sp_move (.const (.int .i64 0)) (iv 0) rfl) I0 ?_
 refine kN 88 [(1, .box 27 (cFm p)), (2, .box 30 (cPq q))] [(2, .box 1 0), (3, .box 2 0), (4, iv 0), (64, intsA q.start), (65, iv q.start.length), (66, iv 0)] ?_
 refine t_then ?_
 refine t_cut (subB p.init q.start q.start.length = true) (ofL [(1, .box 27 (cFm p)), (2, .box 30 (cPq q))]) (ofT 88 [(2, .box 1 0), (3, .box 2 0)]) ?_ (fun SUB => ?_)
 refine tri_block ?_
 refine tri_loop (σ := {k : Nat // k ≤ q.start.length ∧ subB p.init q.start k = true}) (fun s => (ofL [(1, .box 27 (cFm p)), (2, .box 30 (cPq q))], ofT 88 [(2, .box 1 0), (3, .box 2 0), (64, intsA q.start), (65, iv q.start.length), (66, iv s.1)])) (fun s => q.start.length - s.1) ⟨0, Nat.zero_le _, rfl⟩ (wk_keep _ _ rfl (by kernel_rfl) (by kernel_rfl)) (fun s => ?_)
 obtain ⟨k, hk0, hs0⟩ := s
 show ETri J w0 (ofL [(1, .box 27 (cFm p)), (2, .box 30 (cPq q))]) (ofT 88 [(2, .box 1 0), (3, .box 2 0), (64, intsA q.start), (65, iv q.start.length), (66, iv k)]) _
 refine tri_seq ?_
 by_cases hs6 : ((k : Nat) : Int) < ((q.start.length : Nat) : Int)
 refine tri_region ?_
 refine oC (sp_lss rfl (dT hs6)) I0 I0 ?_
 refine kN 88 [(1, .box 27 (cFm p)), (2, .box 30 (cPq q))] [(2, .box 1 0), (3, .box 2 0), (64, intsA q.start), (65, iv q.start.length), (66, iv k), (67, bv true)] ?_
 refine t_then ?_
 refine tri_seq ?_
 refine t_condT rfl ?_
 refine tri_skip ?_
 refine t_then ?_
 refine tri_seq ?_
 refine tri_block ?_
 refine tri_seq ?_
 refine tri_region ?_
 refine oC (sp_indexSl (off := k * 1) (.tmp 64) (.tmp 66) rfl Tryd.underlying24 (by kernel_rfl) (by omega) (by omega) rfl) I0 I0 ?_
 refine oA (sp_loadEl1 (X := iv q.start[k]) (.tmp 68) rfl Tryd.underlying3 rfl (map_at1 q.start (by omega))) I0 ?_
 refine oA (sp_assign (.tmp 69) (iv q.start[k]) rfl) I0 ?_
 refine kN 88 [(1, .box 27 (cFm p)), (2, .box 30 (cPq q))] [(2, .box 1 0), (3, .box 2 0), (8, iv q.start[k]), (64, intsA q.start), (65, iv q.start.length), (66, iv k), (67, bv true)] ?_
 refine t_then ?_
 refine tri_seq ?_
 by_cases hs7 : (decide (q.start[k] ∈ p.init)) = true
 refine tri_region ?_
 refine oA (fB 7 (.tmp 2) rfl Tryd.underlying27 rfl 1 rfl) I0 ?_
 refine oB (lB (.box 27 (cFm p)) (intsA p.init) (.tmp 70) rfl Tryd.underlying24 rfl rfl) I0 rfl ?_
 refine oA (sp_move (.tmp 8) (iv q.start[k]) rfl) I0 ?_
 refine oD (sp_call (c := .func 95) (xs := #[.tmp 71, .tmp 72]) [] (ctr_b (contains_c p.init q.start[k] HP.linit) hs7) rfl (by kernel_rfl) rfl (Xs := [intsA p.init, iv q.start[k]]) rfl rfl rfl) I0 I0 I0 ?_
 refine oA (sp_not rfl rfl) I0 ?_
 refine kN 88 [(1, .box 27 (cFm p)), (2, .box 30 (cPq q))] [(2, .box 1 0), (3, .box 2 0), (8, iv q.start[k]), (64, intsA q.start), (65, iv q.start.length), (66, iv k), (67, bv true), (74, bv false)] ?_
 refine t_then ?_
 refine t_condF rfl ?_
 refine tri_skip ?_
 refine t_block ?_
 refine t_then ?_
 refine tri_region ?_
 refine oC (sp_add (c := ((k + 1 : Nat) : Int)) rfl (w64 (by omega) (by omega) (by omega))) I0 I0 ?_
 refine oA (sp_move (.tmp 75) (iv (k + 1 : Nat)) rfl) I0 ?_
 refine kN 88 [(1, .box 27 (cFm p)), (2, .box 30 (cPq q))] [(2, .box 1 0), (3, .box 2 0), (8, iv q.start[k]), (64, intsA q.start), (65, iv q.start.length), (66, iv (k + 1 : Nat)), (67, bv true), (74, bv false)] ?_
 refine t_then ?_
 refine tri_again ⟨k + 1, by omega, subB_succ (by omega) hs0 hs7⟩ (show q.start.length - (k + 1) < q.start.length - k by omega) ?_
 exact wk_keep _ _ rfl (by kernel_rfl) (by kernel_rfl)
 have hs7f : (decide (q.start[k] ∈ p.init)) = false := by simpa using hs7
 refine tri_region ?_
 refine oA (fB 7 (.tmp 2) rfl Tryd.underlying27 rfl 1 rfl) I0 ?_
 refine oB (lB (.box 27 (cFm p)) (intsA p.init) (.tmp 70) rfl Tryd.underlying24 rfl rfl) I0 rfl ?_
 refine oA (sp_move (.tmp 8) (iv q.start[k]) rfl) I0 ?_
 refine oD (sp_call (c := .func 95) (xs := #[.tmp 71, .tmp 72]) [] (ctr_b (contains_c p.init q.start[k] HP.linit) hs7f) rfl (by kernel_rfl) rfl (Xs := [intsA p.init, iv q.start[k]]) rfl rfl rfl) I0 I0 I0 ?_
 refine oA (sp_not rfl rfl) I0 ?_
 refine kN 88 [(1, .box 27 (cFm p)), (2, .box 30 (cPq q))] [(2, .box 1 0), (3, .box 2 0), (8, iv q.start[k]), (64, intsA q.start), (65, iv q.start.length), (66, iv k), (67, bv true), (74, bv true)] ?_
 refine t_then ?_
 refine t_condT rfl ?_
 refine tri_seq ?_
 refine tri_region ?_
 refine oA (sp_assign (.const (.int .i64 5)) (iv 5) rfl) I0 ?_
 refine kN 88 [(1, .box 27 (cFm p)), (2, .box 30 (cPq q))] [(2, .box 1 0), (3, .box 2 0), (4, iv 5), (8, iv q.start[k]), (64, intsA q.start), (65, iv q.start.length), (66, iv k), (67, bv true), (74, bv true)] ?_
 refine t_then ?_
 refine tri_ret ?_
 refine t_block_ret ?_
 refine t_then_ret ?_
 refine t_then_ret ?_
 refine t_block_ret ?_
 refine t_cut_ret ?_
 refine t_then_ret ?_
 refine tri_end1 Tryd.results49 (.tmp rfl) ?_
 exact congrArg (fun x : Int => AV.v (.int .i64 x)) (((vp_2 hs1 hs2).trans ((v2_1 hs3 hs4).trans (v3_i hs5 (k := k) (by omega) hs7f))).symm)
 refine tri_region ?_
 refine oC (sp_lss rfl (dF hs6)) I0 I0 ?_
 refine kN 88 [(1, .box 27 (cFm p)), (2, .box 30 (cPq q))] [(2, .box 1 0), (3, .box 2 0), (64, intsA q.start), (65, iv q.start.length), (66, iv k), (67, bv false)] ?_
 refine t_then ?_
 refine tri_seq ?_
 refine t_condF rfl ?_
 refine tri_exit ?_
 refine t_then_exit ?_
 refine t_then_exit ?_
 refine t_hit ?_
 exact t_meet (by have : k = q.start.length := (by omega); subst this; exact hs0) (wk_keep _ _ rfl (by kernel_rfl) (by kernel_rfl))
 refine t_then ?_
 refine tri_seq ?_
 refine tri_seq ?_
 refine tri_region ?_
 refine oA (fB 1 (.tmp 3) rfl Tryd.underlying30 rfl 1 rfl) I0 ?_
 refine oB (lB (.box 30 (cPq q)) (iv q.kind) (.tmp 76) rfl Tryd.underlying3 rfl rfl) I0 rfl ?_
 refine oC (sp_eql rfl (dF (show ¬ q.kind = 2 by omega))) I0 I0 ?_
 refine kN 88 [(1, .box 27 (cFm p)), (2, .box 30 (cPq q))] [(2, .box 1 0), (3, .box 2 0), (78, bv false)] ?_
 refine t_then ?_
 refine t_condF rfl ?_
 refine tri_skip ?_
 refine t_then ?_
 refine tri_seq ?_
 refine tri_region ?_
 refine oB (sp_loadBoxS (Y := .box 27 (cFm p)) (ds := cFm p) (z := 10) (.tmp 2) rfl Tryd.underlying27 rfl (by kernel_rfl) (by decide) (by kernel_rfl) (by kernel_rfl)) I0 rfl ?_
 refine oB (sp_loadBoxS (Y := .box 30 (cPq q)) (ds := cPq q) (z := 6) (.tmp 3) rfl Tryd.underlying30 rfl (by kernel_rfl) (by decide) (by kernel_rfl) (by kernel_rfl)) I0 rfl ?_
 refine oD (sp_call (c := .func 97) (xs := #[.tmp 85, .tmp 86]) [] (badError_c HP HQ) rfl (by kernel_rfl) rfl (Xs := [.agg (cFm p), .agg (cPq q)]) rfl rfl rfl) I0 I0 I0 ?_
 refine oA (sp_assign (.tmp 87) (iv (badE p q)) rfl) I0 ?_
 refine kN 88 [] [(4, iv (badE p q))] ?_
 refine t_then ?_
 refine tri_ret ?_
 refine tri_end1 Tryd.results49 (.tmp rfl) ?_
 exact congrArg (fun x : Int => AV.v (.int .i64 x)) (((vp_2 hs1 hs2).trans ((v2_1 hs3 hs4).trans (v3_z hs5 SUB))).symm)
 refine tri_region ?_
 refine oA (sp_move (.tmp 6) (iv (setE p.states.length q.start)) rfl) I0 ?_
 refine oC (sp_neq rfl (dF' hs5)) I0 I0 ?_
 refine kN 88 [(1, .box 27 (cFm p)), (2, .box 30 (cPq q))] [(2, .box 1 0), (3, .box 2 0), (4, iv 0), (6, iv (setE p.states.length q.start)), (61, bv true)] ?_
 refine t_then ?_
 refine t_condT rfl ?_
 refine tri_seq ?_
 refine tri_region ?_
 refine oA (sp_move (.tmp 6) (iv (setE p.states.length q.start)) rfl) I0 ?_
 refine oA (sp_assign (.tmp 62) (iv (setE p.states.length q.start)) rfl) I0 ?_
 refine kN 88 [(1, .box 27 (cFm p)), (2, .box 30 (cPq q))] [(2, .box 1 0), (3, .box 2 0), (4, iv (setE p.states.length q.start))] ?_
 refine t_then ?_
 refine tri_ret ?_
 refine t_then_ret ?_
 refine tri_end1 Tryd.results49 (.tmp rfl) ?_
 exact congrArg (fun x : Int => AV.v (.int .i64 x)) (((vp_2 hs1 hs2).trans ((v2_1 hs3 hs4).trans (v3_s hs5))).symm)
 by_cases hs8 : q.kind = 2
 refine tri_region ?_
 refine oA (fB 1 (.tmp 3) rfl Tryd.underlying30 rfl 1 rfl) I0 ?_
 refine oB (lB (.box 30 (cPq q)) (iv q.kind) (.tmp 20) rfl Tryd.underlying3 rfl rfl) I0 rfl ?_
 refine oC (sp_neq rfl (dF' hs3)) I0 I0 ?_
 refine oA (sp_move (.tmp 22) (bv true) rfl) I0 ?_
 refine gA (fB 1 (.tmp 3) rfl Tryd.underlying30 rfl 1 rfl) I0 ?_
 refine gB (lB (.box 30 (cPq q)) (iv q.kind) (.tmp 24) rfl Tryd.underlying3 rfl rfl) I0 rfl ?_
 refine gC (sp_neq rfl (dT' hs8)) I0 I0 ?_
 refine oD (sp_pick (.tmp 23) (.tmp 26) (.const (.bool false)) true (bv false) (bv false) rfl) I0 I0 I0 ?_
 refine oA (sp_assign (.tmp 27) (bv false) rfl) I0 ?_
 refine kN 88 [(1, .box 27 (cFm p)), (2, .box 30 (cPq q))] [(2, .box 1 0), (3, .box 2 0), (4, iv 0), (19, bv false)] ?_
 refine t_then ?_
 refine t_condF rfl ?_
 refine tri_seq ?_
 refine tri_region ?_
 refine oA (fB 1 (.tmp 3) rfl Tryd.underlying30 rfl 1 rfl) I0 ?_
 refine oB (lB (.box 30 (cPq q)) (iv q.kind) (.tmp 29) rfl Tryd.underlying3 rfl rfl) I0 rfl ?_
 refine oC (sp_eql rfl (dF hs3)) I0 I0 ?_
 refine oA (sp_move (.tmp 31) (bv false) rfl) I0 ?_
 refine t_skip rfl ?_
 refine t_skip rfl ?_
 refine t_skip rfl ?_
 refine t_skip rfl ?_
 refine oD (sp_pick (.tmp 32) (.tmp 36) (.const (.bool false)) false (.v (.tuple #[])) (bv false) rfl) I0 I0 I0 ?_
 refine oA (sp_assign (.tmp 37) (bv false) rfl) I0 ?_
 refine kN 88 [(1, .box 27 (cFm p)), (2, .box 30 (cPq q))] [(2, .box 1 0), (3, .box 2 0), (4, iv 0), (28, bv false)] ?_
 refine t_then ?_
 refine t_condF rfl ?_
 refine tri_seq ?_
 by_cases hs9 : 0 < ((q.bad.length : Nat) : Int)
 refine tri_region ?_
 refine oA (fB 1 (.tmp 3) rfl Tryd.underlying30 rfl 1 rfl) I0 ?_
 refine oB (lB (.box 30 (cPq q)) (iv q.kind) (.tmp 39) rfl Tryd.underlying3 rfl rfl) I0 rfl ?_
 refine oC (sp_eql rfl (dT hs8)) I0 I0 ?_
 refine oA (sp_move (.tmp 41) (bv true) rfl) I0 ?_
 refine gA (fB 3 (.tmp 3) rfl Tryd.underlying30 rfl 1 rfl) I0 ?_
 refine gB (lB (.box 30 (cPq q)) (slA 2 cRw q.bad) (.tmp 43) rfl Tryd.underlying28 rfl rfl) I0 rfl ?_
 refine gA (sp_lenSl (.tmp 44) rfl Tryd.underlying28) I0 ?_
 refine gC (sp_gtr rfl (dT hs9)) I0 I0 ?_
 refine gA (sp_move (.tmp 46) (bv true) rfl) I0 ?_
 refine t_skip rfl ?_
 refine t_skip rfl ?_
 refine t_skip rfl ?_
 refine t_skip rfl ?_
 refine gD (sp_pick (.tmp 47) (.const (.bool true)) (.tmp 51) true (bv true) (.v (.tuple #[])) rfl) I0 I0 I0 ?_
 refine oD (sp_pick (.tmp 42) (.tmp 52) (.const (.bool false)) true (bv true) (bv false) rfl) I0 I0 I0 ?_
 refine oA (sp_assign (.tmp 53) (bv true) rfl) I0 ?_
 refine kN 88 [(1, .box 27 (cFm p)), (2, .box 30 (cPq q))] [(2, .box 1 0), (3, .box 2 0), (4, iv 0), (38, bv true)] ?_
 refine t_then ?_
 refine t_condT rfl ?_
 refine tri_seq ?_
 refine tri_region ?_
 refine oA (sp_assign (.const (.int .i64 1)) (iv 1) rfl) I0 ?_
 refine kN 88 [(1, .box 27 (cFm p)), (2, .box 30 (cPq q))] [(2, .box 1 0), (3, .box 2 0), (4, iv 1)] ?_
 refine t_then ?_
 refine tri_ret ?_
 refine t_block_ret ?_
 refine t_then_ret ?_
 refine tri_end1 Tryd.results49 (.tmp rfl) ?_
 exact congrArg (fun x : Int => AV.v (.int .i64 x)) (((vp_2 hs1 hs2).trans (v2_b hs3 hs8 hs9)).symm)
 by_cases hs10 : 0 < ((q.adj.length : Nat) : Int)
 refine tri_region ?_
 refine oA (fB 1 (.tmp 3) rfl Tryd.underlying30 rfl 1 rfl) I0 ?_
 refine oB (lB (.box 30 (cPq q)) (iv q.kind) (.tmp 39) rfl Tryd.underlying3 rfl rfl) I0 rfl ?_
 refine oC (sp_eql rfl (dT hs8)) I0 I0 ?_
 refine oA (sp_move (.tmp 41) (bv true) rfl) I0 ?_
 refine gA (fB 3 (.tmp 3) rfl Tryd.underlying30 rfl 1 rfl) I0 ?_
 refine gB (lB (.box 30 (cPq q)) (slA 2 cRw q.bad) (.tmp 43) rfl Tryd.underlying28 rfl rfl) I0 rfl ?_
 refine gA (sp_lenSl (.tmp 44) rfl Tryd.underlying28) I0 ?_
 refine gC (sp_gtr rfl (dF hs9)) I0 I0 ?_
 refine gA (sp_move (.tmp 46) (bv false) rfl) I0 ?_
 refine gA (fB 4 (.tmp 3) rfl Tryd.underlying30 rfl 1 rfl) I0 ?_
 refine gB (lB (.box 30 (cPq q)) (intsA q.adj) (.tmp 48) rfl Tryd.underlying24 rfl rfl) I0 rfl ?_
 refine gA (sp_lenSl (.tmp 49) rfl Tryd.underlying24) I0 ?_
 refine gC (sp_gtr rfl (dT hs10)) I0 I0 ?_
 refine gD (sp_pick (.tmp 47) (.const (.bool true)) (.tmp 51) false (bv true) (bv true) rfl) I0 I0 I0 ?_
 refine oD (sp_pick (.tmp 42) (.tmp 52) (.const (.bool false)) true (bv true) (bv false) rfl) I0 I0 I0 ?_
 refine oA (sp_assign (.tmp 53) (bv true) rfl) I0 ?_
 refine kN 88 [(1, .box 27 (cFm p)), (2, .box 30 (cPq q))] [(2, .box 1 0), (3, .box 2 0), (4, iv 0), (38, bv true)] ?_
 refine t_then ?_
 refine t_condT rfl ?_
 refine tri_seq ?_
 refine tri_region ?_
 refine oA (sp_assign (.const (.int .i64 1)) (iv 1) rfl) I0 ?_
 refine kN 88 [(1, .box 27 (cFm p)), (2, .box 30 (cPq q))] [(2, .box 1 0), (3, .box 2 0), (4, iv 1)] ?_
 refine t_then ?_
 refine tri_ret ?_
 refine t_block_ret ?_
 refine t_then_ret ?_
 refine tri_end1 Tryd.results49 (.tmp rfl) ?_
 exact congrArg (fun x : Int => AV.v (.int .i64 x)) (((vp_2 hs1 hs2).trans (v2_a hs3 hs8 hs9 hs10)).symm)
 refine tri_region ?_
 refine oA (fB 1 (.tmp 3) rfl Tryd.underlying30 rfl 1 rfl) I0 ?_
 refine oB (lB (.box 30 (cPq q)) (iv q.kind) (.tmp 39) rfl Tryd.underlying3 rfl rfl) I0 rfl ?_
 refine oC (sp_eql rfl (dT hs8)) I0 I0 ?_
 refine oA (sp_move (.tmp 41) (bv true) rfl) I0 ?_
 refine gA (fB 3 (.tmp 3) rfl Tryd.underlying30 rfl 1 rfl) I0 ?_
 refine gB (lB (.box 30 (cPq q)) (slA 2 cRw q.bad) (.tmp 43) rfl Tryd.underlying28 rfl rfl) I0 rfl ?_
 refine gA (sp_lenSl (.tmp 44) rfl Tryd.underlying28) I0 ?_
 refine gC (sp_gtr rfl (dF hs9)) I0 I0 ?_
 refine gA (sp_move (.tmp 46) (bv false) rfl) I0 ?_
 refine gA (fB 4 (.tmp 3) rfl Tryd.underlying30 rfl 1 rfl) I0 ?_
 refine gB (lB (.box 30 (cPq q)) (intsA q.adj) (.tmp 48) rfl Tryd.underlying24 rfl rfl) I0 rfl ?_
 refine gA (sp_lenSl (.tmp 49) rfl Tryd.underlying24) I0 ?_
 refine gC (sp_gtr rfl (dF hs10)) I0 I0 ?_
 refine gD (sp_pick (.tmp 47) (.const (.bool true)) (.tmp 51) false (bv true) (bv false) rfl) I0 I0 I0 ?_
 refine oD (sp_pick (.tmp 42) (.tmp 52) (.const (.bool false)) true (bv false) (bv false) rfl) I0 I0 I0 ?_
 refine oA (sp_assign (.tmp 53) (bv false) rfl) I0 ?_
 refine kN 88 [(1, .box 27 (cFm p)), (2, .box 30 (cPq q))] [(2, .box 1 0), (3, .box 2 0), (4, iv 0), (38, bv false)] ?_
 refine t_then ?_
 refine t_condF rfl ?_
 refine tri_skip ?_
 refine t_block ?_
 refine t_then ?_
 refine tri_seq ?_
 refine tri_seq ?_
 refine tri_region ?_
 refine oA (fB 2 (.tmp 3) rfl Tryd.underlying30 rfl 1 rfl) I0 ?_
 refine oB (lB (.box 30 (cPq q)) (intsA q.start) (.tmp 54) rfl Tryd.underlying24 rfl rfl) I0 rfl ?_
 refine oA (fB 2 (.tmp 2) rfl Tryd.underlying27 rfl 1 rfl) I0 ?_
 refine oB (lB (.box 27 (cFm p)) (strsA p.states) (.tmp 56) rfl Tryd.underlying22 rfl rfl) I0 rfl ?_
 refine oA (sp_lenSl (.tmp 57) rfl Tryd.underlying22) I0 ?_
 refine oD (sp_call (c := .func 94) (xs := #[.tmp 55, .tmp 58]) [] (setError_c p.states.length HP.lstates q.start HQ.start) rfl (by kernel_rfl) rfl (Xs := [intsA q.start, iv p.states.length]) rfl rfl rfl) I0 I0 I0 ?_
 refine oA (sp_assign (.tmp 59) (iv (setE p.states.length q.start)) rfl) I0 ?_
 refine kN 88 [(1, .box 27 (cFm p)), (2, .box 30 (cPq q))] [(2, .box 1 0), (3, .box 2 0), (4, iv 0), (6, iv (setE p.states.length q.start))] ?_
 refine t_then ?_
 refine tri_seq ?_
 by_cases hs11 : setE p.states.length q.start = 0
 refine tri_region ?_
 refine oA (sp_move (.tmp 6) (iv (setE p.states.length q.start)) rfl) I0 ?_
 refine oC (sp_neq rfl (dT' hs11)) I0 I0 ?_
 refine kN 88 [(1, .box 27 (cFm p)), (2, .box 30 (cPq q))] [(2, .box 1 0), (3, .box 2 0), (4, iv 0), (6, iv (setE p.states.length q.start)), (61, bv false)] ?_
 refine t_then ?_
 refine t_condF rfl ?_
 refine tri_skip ?_
 refine t_then ?_
 refine tri_seq ?_
 refine tri_seq ?_
 refine tri_region ?_
 refine oA (fB 2 (.tmp 3) rfl Tryd.underlying30 rfl 1 rfl) I0 ?_
 refine oB (lB (.box 30 (cPq q)) (intsA q.start) (.tmp 63) rfl Tryd.underlying24 rfl rfl) I0 rfl ?_
 refine oA (sp_lenSl (.tmp 64) rfl Tryd.underlying24) I0 ?_
 refine oA (sp_move (.const (.int .i64 0)) (iv 0) rfl) I0 ?_
 refine kN 88 [(1, .box 27 (cFm p)), (2, .box 30 (cPq q))] [(2, .box 1 0), (3, .box 2 0), (4, iv 0), (64, intsA q.start), (65, iv q.start.length), (66, iv 0)] ?_
 refine t_then ?_
 refine t_cut (subB p.init q.start q.start.length = true) (ofL [(1, .box 27 (cFm p)), (2, .box 30 (cPq q))]) (ofT 88 [(2, .box 1 0), (3, .box 2 0)]) ?_ (fun SUB => ?_)
 refine tri_block ?_
 refine tri_loop (σ := {k : Nat // k ≤ q.start.length ∧ subB p.init q.start k = true}) (fun s => (ofL [(1, .box 27 (cFm p)), (2, .box 30 (cPq q))], ofT 88 [(2, .box 1 0), (3, .box 2 0), (64, intsA q.start), (65, iv q.start.length), (66, iv s.1)])) (fun s => q.start.length - s.1) ⟨0, Nat.zero_le _, rfl⟩ (wk_keep _ _ rfl (by kernel_rfl) (by kernel_rfl)) (fun s => ?_)
 obtain ⟨k, hk0, hs0⟩ := s
 show ETri J w0 (ofL [(1, .box 27 (cFm p)), (2, .box 30 (cPq q))]) (ofT 88 [(2, .box 1 0), (3, .box 2 0), (64, intsA q.start), (65, iv q.start.length), (66, iv k)]) _
 refine tri_seq ?_
 by_cases hs12 : ((k : Nat) : Int) < ((q.start.length : Nat) : Int)
 refine tri_region ?_
 refine oC (sp_lss rfl (dT hs12)) I0 I0 ?_
 refine kN 88 [(1, .box 27 (cFm p)), (2, .box 30 (cPq q))] [(2, .box 1 0), (3, .box 2 0), (64, intsA q.start), (65, iv q.start.length), (66, iv k), (67, bv true)] ?_
 refine t_then ?_
 refine tri_seq ?_
 refine t_condT rfl ?_
 refine tri_skip ?_
 refine t_then ?_
 refine tri_seq ?_
 refine tri_block ?_
 refine tri_seq ?_
 refine tri_region ?_
 refine oC (sp_indexSl (off := k * 1) (.tmp 64) (.tmp 66) rfl Tryd.underlying24 (by kernel_rfl) (by omega) (by omega) rfl) I0 I0 ?_
 refine oA (sp_loadEl1 (X := iv q.start[k]) (.tmp 68) rfl Tryd.underlying3 rfl (map_at1 q.start (by omega))) I0 ?_
 refine oA (sp_assign (.tmp 69) (iv q.start[k]) rfl) I0 ?_
 refine kN 88 [(1, .box 27 (cFm p)), (2, .box 30 (cPq q))] [(2, .box 1 0), (3, .box 2 0), (8, iv q.start[k]), (64, intsA q.start), (65, iv q.start.length), (66, iv k), (67, bv true)] ?_
 refine t_then ?_
 refine tri_seq ?_
 by_cases hs13 : (decide (q.start[k] ∈ p.init)) = true
 refine tri_region ?_
 refine oA (fB 7 (.tmp 2) rfl Tryd.underlying27 rfl 1 rfl) I0 ?_
 refine oB (lB (.box 27 (cFm p)) (intsA p.init) (.tmp 70) rfl Tryd.underlying24 rfl rfl) I0 rfl ?_
 refine oA (sp_move (.tmp 8) (iv q.start[k]) rfl) I0 ?_
 refine oD (sp_call (c := .func 95) (xs := #[.tmp 71, .tmp 72]) [] (ctr_b (contains_c p.init q.start[k] HP.linit) hs13) rfl (by kernel_rfl) rfl (Xs := [intsA p.init, iv q.start[k]]) rfl rfl rfl) I0 I0 I0 ?_
 refine oA (sp_not rfl rfl) I0 ?_
 refine kN 88 [(1, .box 27 (cFm p)), (2, .box 30 (cPq q))] [(2, .box 1 0), (3, .box 2 0), (8, iv q.start[k]), (64, intsA q.start), (65, iv q.start.length), (66, iv k), (67, bv true), (74, bv false)] ?_
 refine t_then ?_
 refine t_condF rfl ?_
 refine tri_skip ?_
 refine t_block ?_
 refine t_then ?_
 refine tri_region ?_
 refine oC (sp_add (c := ((k + 1 : Nat) : Int)) rfl (w64 (by omega) (by omega) (by omega))) I0 I0 ?_
 refine oA (sp_move (.tmp 75) (iv (k + 1 : Nat)) rfl) I0 ?_
 refine kN 88 [(1, .box 27 (cFm p)), (2, .box 30 (cPq q))] [(2, .box 1 0), (3, .box 2 0), (8, iv q.start[k]), (64, intsA q.start), (65, iv q.start.length), (66, iv (k + 1 : Nat)), (67, bv true), (74, bv false)] ?_
 refine t_then ?_
 refine tri_again ⟨k + 1, by omega, subB_succ (by omega) hs0 hs13⟩ (show q.start.length - (k + 1) < q.start.length - k by omega) ?_
 exact wk_keep _ _ rfl (by kernel_rfl) (by kernel_rfl)
 have hs13f : (decide (q.start[k] ∈ p.init)) = false := by simpa using hs13
 refine tri_region ?_
 refine oA (fB 7 (.tmp 2) rfl Tryd.underlying27 rfl 1 rfl) I0 ?_
 refine oB (lB (.box 27 (cFm p)) (intsA p.init) (.tmp 70) rfl Tryd.underlying24 rfl rfl) I0 rfl ?_
 refine oA (sp_move (.tmp 8) (iv q.start[k]) rfl) I0 ?_
 refine oD (sp_call (c := .func 95) (xs := #[.tmp 71, .tmp 72]) [] (ctr_b (contains_c p.init q.start[k] HP.linit) hs13f) rfl (by kernel_rfl) rfl (Xs := [intsA p.init, iv q.start[k]]) rfl rfl rfl) I0 I0 I0 ?_
 refine oA (sp_not rfl rfl) I0 ?_
 refine kN 88 [(1, .box 27 (cFm p)), (2, .box 30 (cPq q))] [(2, .box 1 0), (3, .box 2 0), (8, iv q.start[k]), (64, intsA q.start), (65, iv q.start.length), (66, iv k), (67, bv true), (74, bv true)] ?_
 refine t_then ?_
 refine t_condT rfl ?_
 refine tri_seq ?_
 refine tri_region ?_
 refine oA (sp_assign (.const (.int .i64 5)) (iv 5) rfl) I0 ?_
 refine kN 88 [(1, .box 27 (cFm p)), (2, .box 30 (cPq q))] [(2, .box 1 0), (3, .box 2 0), (4, iv 5), (8, iv q.start[k]), (64, intsA q.start), (65, iv q.start.length), (66, iv k), (67, bv true), (74, bv true)] ?_
 refine t_then ?_
 refine tri_ret ?_
 refine t_block_ret ?_
 refine t_then_ret ?_
 refine t_then_ret ?_
 refine t_block_ret ?_
 refine t_cut_ret ?_
 refine t_then_ret ?_
 refine tri_end1 Tryd.results49 (.tmp rfl) ?_
 exact congrArg (fun x : Int => AV.v (.int .i64 x)) (((vp_2 hs1 hs2).trans ((v2_2 hs3 hs8 hs9 hs10).trans (v3_i hs11 (k := k) (by omega) hs13f))).symm)
 refine tri_region ?_
 refine oC (sp_lss rfl (dF hs12)) I0 I0 ?_
 refine kN 88 [(1, .box 27 (cFm p)), (2, .box 30 (cPq q))] [(2, .box 1 0), (3, .box 2 0), (64, intsA q.start), (65, iv q.start.length), (66, iv k), (67, bv false)] ?_
 refine t_then ?_
 refine tri_seq ?_
 refine t_condF rfl ?_
 refine tri_exit ?_
 refine t_then_exit ?_
 refine t_then_exit ?_
 refine t_hit ?_
 exact t_meet (by have : k = q.start.length := (by omega); subst this; exact hs0) (wk_keep _ _ rfl (by kernel_rfl) (by kernel_rfl))
 refine t_then ?_
 refine tri_seq ?_
 refine tri_seq ?_
 refine tri_region ?_
 refine oA (fB 1 (.tmp 3) rfl Tryd.underlying30 rfl 1 rfl) I0 ?_
 refine oB (lB (.box 30 (cPq q)) (iv q.kind) (.tmp 76) rfl Tryd.underlying3 rfl rfl) I0 rfl ?_
 refine oC (sp_eql rfl (dT hs8)) I0 I0 ?_
 refine kN 88 [(1, .box 27 (cFm p)), (2, .box 30 (cPq q))] [(2, .box 1 0), (3, .box 2 0), (78, bv true)] ?_
 refine t_then ?_
 refine t_condT rfl ?_
 refine tri_seq ?_
 refine tri_region ?_
 refine oA (fB 5 (.tmp 3) rfl Tryd.underlying30 rfl 1 rfl) I0 ?_
 refine oB (lB (.box 30 (cPq q)) (intsA q.goal) (.tmp 79) rfl Tryd.underlying24 rfl rfl) I0 rfl ?_
 refine oA (fB 2 (.tmp 2) rfl Tryd.underlying27 rfl 1 rfl) I0 ?_
 refine oB (lB (.box 27 (cFm p)) (strsA p.states) (.tmp 81) rfl Tryd.underlying22 rfl rfl) I0 rfl ?_
 refine oA (sp_lenSl (.tmp 82) rfl Tryd.underlying22) I0 ?_
 refine oD (sp_call (c := .func 96) (xs := #[.tmp 80, .tmp 83]) [] (someSetError_c p.states.length HP.lstates q.goal HQ.goal) rfl (by kernel_rfl) rfl (Xs := [intsA q.goal, iv p.states.length]) rfl rfl rfl) I0 I0 I0 ?_
 refine oA (sp_assign (.tmp 84) (iv (someE p.states.length q.goal)) rfl) I0 ?_
 refine kN 88 [(1, .box 27 (cFm p)), (2, .box 30 (cPq q))] [(2, .box 1 0), (3, .box 2 0), (4, iv (someE p.states.length q.goal))] ?_
 refine t_then ?_
 refine tri_ret ?_
 refine t_then_ret ?_
 refine tri_end1 Tryd.results49 (.tmp rfl) ?_
 exact congrArg (fun x : Int => AV.v (.int .i64 x)) (((vp_2 hs1 hs2).trans ((v2_2 hs3 hs8 hs9 hs10).trans (v3_z hs11 SUB))).symm)
 refine tri_region ?_
 refine oA (sp_move (.tmp 6) (iv (setE p.states.length q.start)) rfl) I0 ?_
 refine oC (sp_neq rfl (dF' hs11)) I0 I0 ?_
 refine kN 88 [(1, .box 27 (cFm p)), (2, .box 30 (cPq q))] [(2, .box 1 0), (3, .box 2 0), (4, iv 0), (6, iv (setE p.states.length q.start)), (61, bv true)] ?_
 refine t_then ?_
 refine t_condT rfl ?_
 refine tri_seq ?_
 refine tri_region ?_
 refine oA (sp_move (.tmp 6) (iv (setE p.states.length q.start)) rfl) I0 ?_
 refine oA (sp_assign (.tmp 62) (iv (setE p.states.length q.start)) rfl) I0 ?_
 refine kN 88 [(1, .box 27 (cFm p)), (2, .box 30 (cPq q))] [(2, .box 1 0), (3, .box 2 0), (4, iv (setE p.states.length q.start))] ?_
 refine t_then ?_
 refine tri_ret ?_
 refine t_then_ret ?_
 refine tri_end1 Tryd.results49 (.tmp rfl) ?_
 exact congrArg (fun x : Int => AV.v (.int .i64 x)) (((vp_2 hs1 hs2).trans ((v2_2 hs3 hs8 hs9 hs10).trans (v3_s hs11))).symm)
 refine tri_region ?_
 refine oA (fB 1 (.tmp 3) rfl Tryd.underlying30 rfl 1 rfl) I0 ?_
 refine oB (lB (.box 30 (cPq q)) (iv q.kind) (.tmp 20) rfl Tryd.underlying3 rfl rfl) I0 rfl ?_
 refine oC (sp_neq rfl (dF' hs3)) I0 I0 ?_
 refine oA (sp_move (.tmp 22) (bv true) rfl) I0 ?_
 refine gA (fB 1 (.tmp 3) rfl Tryd.underlying30 rfl 1 rfl) I0 ?_
 refine gB (lB (.box 30 (cPq q)) (iv q.kind) (.tmp 24) rfl Tryd.underlying3 rfl rfl) I0 rfl ?_
 refine gC (sp_neq rfl (dF' hs8)) I0 I0 ?_
 refine oD (sp_pick (.tmp 23) (.tmp 26) (.const (.bool false)) true (bv true) (bv false) rfl) I0 I0 I0 ?_
 refine oA (sp_assign (.tmp 27) (bv true) rfl) I0 ?_
 refine kN 88 [(1, .box 27 (cFm p)), (2, .box 30 (cPq q))] [(2, .box 1 0), (3, .box 2 0), (4, iv 0), (19, bv true)] ?_
 refine t_then ?_
 refine t_condT rfl ?_
 refine tri_seq ?_
 refine tri_region ?_
 refine oA (sp_assign (.const (.int .i64 1)) (iv 1) rfl) I0 ?_
 refine kN 88 [(1, .box 27 (cFm p)), (2, .box 30 (cPq q))] [(2, .box 1 0), (3, .box 2 0), (4, iv 1)] ?_
 refine t_then ?_
 refine tri_ret ?_
 refine t_block_ret ?_
 refine t_then_ret ?_
 refine tri_end1 Tryd.results49 (.tmp rfl) ?_
 exact congrArg (fun x : Int => AV.v (.int .i64 x)) (((vp_2 hs1 hs2).trans (v2_k hs3 hs8)).symm)
 have hs2f : (nameB q.nm.toList) = false := by simpa using hs2
 refine tri_region ?_
 refine oA (fB 0 (.tmp 3) rfl Tryd.underlying30 rfl 1 rfl) I0 ?_
 refine oB (lB (.box 30 (cPq q)) (sv q.nm) (.tmp 15) rfl Tryd.underlying9 rfl rfl) I0 rfl ?_
 refine oC (sp_call (c := .func 47) (xs := #[.tmp 16]) [] (ctr_b (qValidName_c q.nm HQ.nm) hs2f) rfl (by kernel_rfl) rfl (Xs := [sv q.nm]) rfl rfl rfl) I0 I0 ?_
 refine oA (sp_not rfl rfl) I0 ?_
 refine oA (sp_assign (.tmp 18) (bv true) rfl) I0 ?_
 refine kN 88 [(1, .box 27 (cFm p)), (2, .box 30 (cPq q))] [(2, .box 1 0), (3, .box 2 0), (4, iv 0), (14, bv true)] ?_
 refine t_then ?_
 refine t_condT rfl ?_
 refine tri_seq ?_
 refine tri_region ?_
 refine oA (sp_assign (.const (.int .i64 2)) (iv 2) rfl) I0 ?_
 refine kN 88 [(1, .box 27 (cFm p)), (2, .box 30 (cPq q))] [(2, .box 1 0), (3, .box 2 0), (4, iv 2)] ?_
 refine t_then ?_
 refine tri_ret ?_
 refine t_block_ret ?_
 refine t_then_ret ?_
 refine tri_end1 Tryd.results49 (.tmp rfl) ?_
 exact congrArg (fun x : Int => AV.v (.int .i64 x)) ((vp_n hs1 hs2f).symm)
 refine tri_region ?_
 refine oA (sp_move (.tmp 5) (iv (valE p)) rfl) I0 ?_
 refine oC (sp_neq rfl (dF' hs1)) I0 I0 ?_
 refine kN 88 [(1, .box 27 (cFm p)), (2, .box 30 (cPq q))] [(2, .box 1 0), (3, .box 2 0), (4, iv 0), (5, iv (valE p)), (12, bv true)] ?_
 refine t_then ?_
 refine t_condT rfl ?_
 refine tri_seq ?_
 refine tri_region ?_
 refine oA (sp_move (.tmp 5) (iv (valE p)) rfl) I0 ?_
 refine oA (sp_assign (.tmp 13) (iv (valE p)) rfl) I0 ?_
 refine kN 88 [(1, .box 27 (cFm p)), (2, .box 30 (cPq q))] [(2, .box 1 0), (3, .box 2 0), (4, iv (valE p))] ?_
 refine t_then ?_
 refine tri_ret ?_
 refine t_then_ret ?_
 refine tri_end1 Tryd.results49 (.tmp rfl) ?_
 exact congrArg (fun x : Int => AV.v (.int .i64 x)) ((vp_v hs1).symm)
end Go.Proofs.YtpadmggccpgajaaDoor
