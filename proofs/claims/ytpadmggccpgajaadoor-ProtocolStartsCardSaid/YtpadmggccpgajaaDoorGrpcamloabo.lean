import Derived.Test.YtpadmggccpgajaaDoorGrpcmcmgfkg
set_option linter.all false
namespace Go.Proofs.YtpadmggccpgajaaDoor
open Go.RowKit Go.Deep
variable {J : World → Prop}
set_option linter.unusedSimpArgs false in
set_option linter.unusedVariables false in
set_option maxRecDepth 100000 in
set_option maxHeartbeats 6400000 in
theorem rValidateProperty_c {p : Fm} (HP : FmOk p) {q : Pq} (HQ : PqOk q) : Ctr Tryd.prog J 51 [.agg (cFm p), .agg (cPq q)] (iv (vpE p q)) := by
 have l1 := HQ.lstart
 have l2 := HQ.lbad
 have l3 := HQ.ladj
 have l4 := HP.lstates
 refine ctr_of_tri Tryd.func51 rfl (by intro X hX; simp only [List.mem_cons, List.not_mem_nil, or_false] at hX; rcases hX with rfl | rfl; exact plain_agg (plain_fm p); exact plain_agg (plain_pq q)) (n := 181) rfl (by simp) (fun w0 => ?_)
 refine kW 181 [] [(0, .agg (cFm p)), (1, .agg (cPq q))] ?_
 refine tri_seq ?_
 refine tri_region ?_
 refine t_op rfl (sp_box (X := .agg (cFm p)) (k := 1) (.tmp 0) rfl rfl) ⟨I0, T0⟩ T0 rfl ?_
 refine t_op rfl (sp_box (X := .agg (cPq q)) (k := 2) (.tmp 1) rfl rfl) ⟨I0, T0⟩ T0 rfl ?_
 refine oA (sp_assign (.const (.int .i64 0)) (iv 0) rfl) I0 ?_
 refine kN 181 [(1, .box 27 (cFm p)), (2, .box 30 (cPq q))] [(2, .box 1 0), (3, .box 2 0), (4, iv 0)] ?_
 refine t_then ?_
 refine tri_seq ?_
 refine tri_seq ?_
 refine tri_region ?_
 refine oB (sp_loadBoxS (Y := .box 27 (cFm p)) (ds := cFm p) (z := 10) (.tmp 2) rfl Tryd.underlying27 rfl (by kernel_rfl) (by decide) (by kernel_rfl) (by kernel_rfl)) I0 rfl ?_
 refine oC (sp_call (c := .func 62) (xs := #[.tmp 13]) [] (rValidate_c HP) rfl (by kernel_rfl) rfl (Xs := [.agg (cFm p)]) rfl rfl rfl) I0 I0 ?_
 refine oA (sp_assign (.tmp 14) (iv (valE p)) rfl) I0 ?_
 refine kN 181 [(1, .box 27 (cFm p)), (2, .box 30 (cPq q))] [(2, .box 1 0), (3, .box 2 0), (4, iv 0), (5, iv (valE p))] ?_
 refine t_then ?_
 refine tri_seq ?_
 by_cases hs1 : valE p = 0
 refine tri_region ?_
 refine oA (sp_move (.tmp 5) (iv (valE p)) rfl) I0 ?_
 refine oC (sp_neq rfl (dT' hs1)) I0 I0 ?_
 refine kN 181 [(1, .box 27 (cFm p)), (2, .box 30 (cPq q))] [(2, .box 1 0), (3, .box 2 0), (4, iv 0), (5, iv (valE p)), (16, bv false)] ?_
 refine t_then ?_
 refine t_condF rfl ?_
 refine tri_skip ?_
 refine t_then ?_
 refine tri_seq ?_
 refine tri_region ?_
 refine oA (fB 2 (.tmp 2) rfl Tryd.underlying27 rfl 1 rfl) I0 ?_
 refine oB (lB (.box 27 (cFm p)) (strsA p.states) (.tmp 18) rfl Tryd.underlying22 rfl rfl) I0 rfl ?_
 refine oA (sp_lenSl (.tmp 19) rfl Tryd.underlying22) I0 ?_
 refine oA (sp_assign (.tmp 20) (iv p.states.length) rfl) I0 ?_
 refine kN 181 [(1, .box 27 (cFm p)), (2, .box 30 (cPq q))] [(2, .box 1 0), (3, .box 2 0), (4, iv 0), (6, iv p.states.length)] ?_
 refine t_then ?_
 refine tri_seq ?_
 refine tri_seq ?_
 by_cases hs2 : (nameB q.nm.toList) = true
 refine tri_region ?_
 refine oA (fB 0 (.tmp 3) rfl Tryd.underlying30 rfl 1 rfl) I0 ?_
 refine oB (lB (.box 30 (cPq q)) (sv q.nm) (.tmp 21) rfl Tryd.underlying9 rfl rfl) I0 rfl ?_
 refine oC (sp_call (c := .func 98) (xs := #[.tmp 22]) [] (ctr_b (rValidName_c q.nm HQ.nm) hs2) rfl (by kernel_rfl) rfl (Xs := [sv q.nm]) rfl rfl rfl) I0 I0 ?_
 refine oA (sp_not rfl rfl) I0 ?_
 refine kN 181 [(1, .box 27 (cFm p)), (2, .box 30 (cPq q))] [(2, .box 1 0), (3, .box 2 0), (4, iv 0), (6, iv p.states.length), (24, bv false)] ?_
 refine t_then ?_
 refine t_condF rfl ?_
 refine tri_skip ?_
 refine t_then ?_
 refine tri_seq ?_
 refine tri_seq ?_
 by_cases hs3 : q.kind = 1
 refine tri_region ?_
 refine oA (fB 1 (.tmp 3) rfl Tryd.underlying30 rfl 1 rfl) I0 ?_
 refine oB (lB (.box 30 (cPq q)) (iv q.kind) (.tmp 25) rfl Tryd.underlying3 rfl rfl) I0 rfl ?_
 refine oC (sp_neq rfl (dT' hs3)) I0 I0 ?_
 refine oA (sp_move (.tmp 27) (bv false) rfl) I0 ?_
 refine t_skip rfl ?_
 refine t_skip rfl ?_
 refine t_skip rfl ?_
 refine oD (sp_pick (.tmp 28) (.tmp 31) (.const (.bool false)) false (.v (.tuple #[])) (bv false) rfl) I0 I0 I0 ?_
 refine kN 181 [(1, .box 27 (cFm p)), (2, .box 30 (cPq q))] [(2, .box 1 0), (3, .box 2 0), (4, iv 0), (6, iv p.states.length), (32, bv false)] ?_
 refine t_then ?_
 refine t_condF rfl ?_
 refine tri_skip ?_
 refine t_then ?_
 refine tri_seq ?_
 refine tri_seq ?_
 by_cases hs4 : 0 < ((q.goal.length : Nat) : Int)
 refine tri_region ?_
 refine oA (fB 1 (.tmp 3) rfl Tryd.underlying30 rfl 1 rfl) I0 ?_
 refine oB (lB (.box 30 (cPq q)) (iv q.kind) (.tmp 33) rfl Tryd.underlying3 rfl rfl) I0 rfl ?_
 refine oC (sp_eql rfl (dT hs3)) I0 I0 ?_
 refine oA (sp_move (.tmp 35) (bv true) rfl) I0 ?_
 refine gA (fB 5 (.tmp 3) rfl Tryd.underlying30 rfl 1 rfl) I0 ?_
 refine gB (lB (.box 30 (cPq q)) (intsA q.goal) (.tmp 37) rfl Tryd.underlying24 rfl rfl) I0 rfl ?_
 refine gA (sp_lenSl (.tmp 38) rfl Tryd.underlying24) I0 ?_
 refine gC (sp_gtr rfl (dT hs4)) I0 I0 ?_
 refine oD (sp_pick (.tmp 36) (.tmp 40) (.const (.bool false)) true (bv true) (bv false) rfl) I0 I0 I0 ?_
 refine oA (sp_move (.tmp 41) (bv true) rfl) I0 ?_
 refine t_skip rfl ?_
 refine t_skip rfl ?_
 refine t_skip rfl ?_
 refine t_skip rfl ?_
 refine t_skip rfl ?_
 refine t_skip rfl ?_
 refine t_skip rfl ?_
 refine t_skip rfl ?_
 refine t_skip rfl ?_
 refine t_skip rfl ?_
 refine t_skip rfl ?_
 refine t_skip rfl ?_
 refine t_skip rfl ?_
 refine t_skip rfl ?_
 refine t_skip rfl ?_
 refine oD (sp_pick (.tmp 42) (.const (.bool true)) (.tmp 57) true (bv true) (.v (.tuple #[])) rfl) I0 I0 I0 ?_
 refine kN 181 [(1, .box 27 (cFm p)), (2, .box 30 (cPq q))] [(2, .box 1 0), (3, .box 2 0), (4, iv 0), (6, iv p.states.length), (58, bv true)] ?_
 refine t_then ?_
 refine t_condT rfl ?_
 refine tri_seq ?_
 refine tri_region ?_
 refine oA (sp_assign (.const (.int .i64 1)) (iv 1) rfl) I0 ?_
 refine kN 181 [(1, .box 27 (cFm p)), (2, .box 30 (cPq q))] [(2, .box 1 0), (3, .box 2 0), (4, iv 1), (6, iv p.states.length)] ?_
 refine t_then ?_
 refine tri_ret ?_
 refine t_then_ret ?_
 refine tri_end1 Tryd.results51 (.tmp rfl) ?_
 exact congrArg (fun x : Int => AV.v (.int .i64 x)) (((vp_2 hs1 hs2).trans (v2_g hs3 hs4)).symm)
 refine tri_region ?_
 refine oA (fB 1 (.tmp 3) rfl Tryd.underlying30 rfl 1 rfl) I0 ?_
 refine oB (lB (.box 30 (cPq q)) (iv q.kind) (.tmp 33) rfl Tryd.underlying3 rfl rfl) I0 rfl ?_
 refine oC (sp_eql rfl (dT hs3)) I0 I0 ?_
 refine oA (sp_move (.tmp 35) (bv true) rfl) I0 ?_
 refine gA (fB 5 (.tmp 3) rfl Tryd.underlying30 rfl 1 rfl) I0 ?_
 refine gB (lB (.box 30 (cPq q)) (intsA q.goal) (.tmp 37) rfl Tryd.underlying24 rfl rfl) I0 rfl ?_
 refine gA (sp_lenSl (.tmp 38) rfl Tryd.underlying24) I0 ?_
 refine gC (sp_gtr rfl (dF hs4)) I0 I0 ?_
 refine oD (sp_pick (.tmp 36) (.tmp 40) (.const (.bool false)) true (bv false) (bv false) rfl) I0 I0 I0 ?_
 refine oA (sp_move (.tmp 41) (bv false) rfl) I0 ?_
 refine gA (fB 1 (.tmp 3) rfl Tryd.underlying30 rfl 1 rfl) I0 ?_
 refine gB (lB (.box 30 (cPq q)) (iv q.kind) (.tmp 43) rfl Tryd.underlying3 rfl rfl) I0 rfl ?_
 refine gC (sp_eql rfl (dF (show ¬ q.kind = 2 by omega))) I0 I0 ?_
 refine gA (sp_move (.tmp 45) (bv false) rfl) I0 ?_
 refine t_skip rfl ?_
 refine t_skip rfl ?_
 refine t_skip rfl ?_
 refine t_skip rfl ?_
 refine t_skip rfl ?_
 refine t_skip rfl ?_
 refine t_skip rfl ?_
 refine t_skip rfl ?_
 refine t_skip rfl ?_
 refine t_skip rfl ?_
 refine gD (sp_pick (.tmp 46) (.tmp 56) (.const (.bool false)) false (.v (.tuple #[])) (bv false) rfl) I0 I0 I0 ?_
 refine oD (sp_pick (.tmp 42) (.const (.bool true)) (.tmp 57) false (bv true) (bv false) rfl) I0 I0 I0 ?_
 refine kN 181 [(1, .box 27 (cFm p)), (2, .box 30 (cPq q))] [(2, .box 1 0), (3, .box 2 0), (4, iv 0), (6, iv p.states.length), (58, bv false)] ?_
 refine t_then ?_
 refine t_condF rfl ?_
 refine tri_skip ?_
 refine t_then ?_
 refine tri_seq ?_
 refine tri_seq ?_
 refine tri_region ?_
 refine oA (fB 2 (.tmp 3) rfl Tryd.underlying30 rfl 1 rfl) I0 ?_
 refine oB (lB (.box 30 (cPq q)) (intsA q.start) (.tmp 59) rfl Tryd.underlying24 rfl rfl) I0 rfl ?_
 refine oA (sp_move (.tmp 6) (iv p.states.length) rfl) I0 ?_
 refine oD (sp_call (c := .func 99) (xs := #[.tmp 60, .tmp 61]) [] (rSet_c p.states.length HP.lstates q.start HQ.start) rfl (by kernel_rfl) rfl (Xs := [intsA q.start, iv p.states.length]) rfl rfl rfl) I0 I0 I0 ?_
 refine oA (sp_assign (.tmp 62) (iv (setE p.states.length q.start)) rfl) I0 ?_
 refine kN 181 [(1, .box 27 (cFm p)), (2, .box 30 (cPq q))] [(2, .box 1 0), (3, .box 2 0), (4, iv 0), (6, iv p.states.length), (7, iv (setE p.states.length q.start))] ?_
 refine t_then ?_
 refine tri_seq ?_
 by_cases hs5 : setE p.states.length q.start = 0
 refine tri_region ?_
 refine oA (sp_move (.tmp 7) (iv (setE p.states.length q.start)) rfl) I0 ?_
 refine oC (sp_neq rfl (dT' hs5)) I0 I0 ?_
 refine kN 181 [(1, .box 27 (cFm p)), (2, .box 30 (cPq q))] [(2, .box 1 0), (3, .box 2 0), (4, iv 0), (6, iv p.states.length), (7, iv (setE p.states.length q.start)), (64, bv false)] ?_
 refine t_then ?_
 refine t_condF rfl ?_
 refine tri_skip ?_
 refine t_then ?_
 refine tri_seq ?_
 refine tri_seq ?_
 refine tri_region ?_
 refine oA (sp_assign (.const (.int .i64 0)) (iv 0) rfl) I0 ?_
 refine kN 181 [(1, .box 27 (cFm p)), (2, .box 30 (cPq q))] [(2, .box 1 0), (3, .box 2 0), (4, iv 0), (6, iv p.states.length), (8, iv 0)] ?_
 refine t_then ?_
 refine t_cut (subB p.init q.start q.start.length = true) (ofL [(1, .box 27 (cFm p)), (2, .box 30 (cPq q))]) (ofT 181 [(2, .box 1 0), (3, .box 2 0), (6, iv p.states.length)]) ?_ (fun SUB => ?_)
 refine tri_block ?_
 refine tri_loop (σ := {k : Nat // k ≤ q.start.length ∧ subB p.init q.start k = true}) (fun s => (ofL [(1, .box 27 (cFm p)), (2, .box 30 (cPq q))], ofT 181 [(2, .box 1 0), (3, .box 2 0), (6, iv p.states.length), (8, iv s.1)])) (fun s => q.start.length - s.1) ⟨0, Nat.zero_le _, rfl⟩ (wk_keep _ _ rfl (by kernel_rfl) (by kernel_rfl)) (fun s => ?_)
 obtain ⟨k, hk0, hs0⟩ := s
 show ETri J w0 (ofL [(1, .box 27 (cFm p)), (2, .box 30 (cPq q))]) (ofT 181 [(2, .box 1 0), (3, .box 2 0), (6, iv p.states.length), (8, iv k)]) _
 refine tri_seq ?_
 refine tri_seq ?_
 by_cases hs6 : ((k : Nat) : Int) < ((q.start.length : Nat) : Int)
 refine tri_region ?_
 refine oA (sp_move (.tmp 8) (iv k) rfl) I0 ?_
 refine oA (fB 2 (.tmp 3) rfl Tryd.underlying30 rfl 1 rfl) I0 ?_
 refine oB (lB (.box 30 (cPq q)) (intsA q.start) (.tmp 67) rfl Tryd.underlying24 rfl rfl) I0 rfl ?_
 refine oA (sp_lenSl (.tmp 68) rfl Tryd.underlying24) I0 ?_
 refine oC (sp_lss rfl (dT hs6)) I0 I0 ?_
 refine kN 181 [(1, .box 27 (cFm p)), (2, .box 30 (cPq q))] [(2, .box 1 0), (3, .box 2 0), (6, iv p.states.length), (8, iv k), (70, bv true)] ?_
 refine t_then ?_
 refine t_condT rfl ?_
 refine tri_skip ?_
 refine t_then ?_
 refine tri_seq ?_
 refine tri_block ?_
 refine tri_seq ?_
 by_cases hs7 : (decide (q.start[k] ∈ p.init)) = true
 refine tri_draw [⟨[(.tmp 2, .box 1 0)], [], .box 1 7, .no⟩, ⟨[(.tmp 73, .box 1 7)], [(1, .box 27 (cFm p))], intsA p.init, .no⟩, ⟨[(.tmp 3, .box 2 0)], [], .box 2 2, .no⟩, ⟨[(.tmp 75, .box 2 2)], [(2, .box 30 (cPq q))], intsA q.start, .no⟩, ⟨[(.tmp 8, iv k)], [], iv k, .no⟩, ⟨[(.tmp 76, intsA q.start), (.tmp 77, iv k)], [], .el (q.start.map iv) (k * 1), .no⟩, ⟨[(.tmp 78, .el (q.start.map iv) (k * 1))], [], iv q.start[k], .no⟩, ⟨[(.func 100, .v (.func (.func 100) #[] #[])), (.tmp 74, intsA p.init), (.tmp 79, iv q.start[k])], [], bv true, .no⟩, ⟨[(.tmp 80, bv true)], [], bv false, .no⟩] (by kernel_rfl) (by kernel_rfl) ?_
 refine ⟨app_yes rfl (fB 7 (.tmp 2) rfl Tryd.underlying27 rfl 1 rfl) ⟨I0, T0⟩ T0 T0, ?_⟩
 refine ⟨app_yes rfl (lB (.box 27 (cFm p)) (intsA p.init) (.tmp 73) rfl Tryd.underlying24 rfl rfl) ⟨I0, T0⟩ ⟨rfl, T0⟩ T0, ?_⟩
 refine ⟨app_yes rfl (fB 2 (.tmp 3) rfl Tryd.underlying30 rfl 1 rfl) ⟨I0, T0⟩ T0 T0, ?_⟩
 refine ⟨app_yes rfl (lB (.box 30 (cPq q)) (intsA q.start) (.tmp 75) rfl Tryd.underlying24 rfl rfl) ⟨I0, T0⟩ ⟨rfl, T0⟩ T0, ?_⟩
 refine ⟨app_yes rfl (sp_move (.tmp 8) (iv k) rfl) ⟨I0, T0⟩ T0 T0, ?_⟩
 refine ⟨app_yes rfl (sp_indexSl (off := k * 1) (.tmp 76) (.tmp 77) rfl Tryd.underlying24 (by kernel_rfl) (by omega) (by omega) rfl) ⟨I0, I0, T0⟩ T0 T0, ?_⟩
 refine ⟨app_yes rfl (sp_loadEl1 (X := iv q.start[k]) (.tmp 78) rfl Tryd.underlying3 rfl (map_at1 q.start (by omega))) ⟨I0, T0⟩ T0 T0, ?_⟩
 refine ⟨app_yes rfl (sp_call (c := .func 100) (xs := #[.tmp 74, .tmp 79]) [] (ctr_b (has_c p.init q.start[k] HP.linit) hs7) rfl (by kernel_rfl) rfl (Xs := [intsA p.init, iv q.start[k]]) rfl rfl rfl) ⟨I0, I0, I0, T0⟩ T0 T0, ?_⟩
 refine ⟨app_yes rfl (sp_not rfl rfl) ⟨I0, T0⟩ T0 T0, ?_⟩
 show ETri J w0 _ _ _
 refine kW 181 [(1, .box 27 (cFm p)), (2, .box 30 (cPq q))] [(2, .box 1 0), (3, .box 2 0), (6, iv p.states.length), (8, iv k), (70, bv true), (81, bv false)] ?_
 refine t_then ?_
 refine t_condF rfl ?_
 refine tri_skip ?_
 refine t_block ?_
 refine t_then ?_
 refine tri_region ?_
 refine oA (sp_move (.tmp 8) (iv k) rfl) I0 ?_
 refine oC (sp_add (c := ((k + 1 : Nat) : Int)) rfl (w64 (by omega) (by omega) (by omega))) I0 I0 ?_
 refine oA (sp_assign (.tmp 72) (iv (k + 1 : Nat)) rfl) I0 ?_
 refine kN 181 [(1, .box 27 (cFm p)), (2, .box 30 (cPq q))] [(2, .box 1 0), (3, .box 2 0), (6, iv p.states.length), (8, iv (k + 1 : Nat)), (70, bv true), (81, bv false)] ?_
 refine t_then ?_
 refine tri_again ⟨k + 1, by omega, subB_succ (by omega) hs0 hs7⟩ (show q.start.length - (k + 1) < q.start.length - k by omega) ?_
 exact wk_keep _ _ rfl (by kernel_rfl) (by kernel_rfl)
 have hs7f : (decide (q.start[k] ∈ p.init)) = false := by simpa using hs7
 refine tri_draw [⟨[(.tmp 2, .box 1 0)], [], .box 1 7, .no⟩, ⟨[(.tmp 73, .box 1 7)], [(1, .box 27 (cFm p))], intsA p.init, .no⟩, ⟨[(.tmp 3, .box 2 0)], [], .box 2 2, .no⟩, ⟨[(.tmp 75, .box 2 2)], [(2, .box 30 (cPq q))], intsA q.start, .no⟩, ⟨[(.tmp 8, iv k)], [], iv k, .no⟩, ⟨[(.tmp 76, intsA q.start), (.tmp 77, iv k)], [], .el (q.start.map iv) (k * 1), .no⟩, ⟨[(.tmp 78, .el (q.start.map iv) (k * 1))], [], iv q.start[k], .no⟩, ⟨[(.func 100, .v (.func (.func 100) #[] #[])), (.tmp 74, intsA p.init), (.tmp 79, iv q.start[k])], [], bv false, .no⟩, ⟨[(.tmp 80, bv false)], [], bv true, .no⟩] (by kernel_rfl) (by kernel_rfl) ?_
 refine ⟨app_yes rfl (fB 7 (.tmp 2) rfl Tryd.underlying27 rfl 1 rfl) ⟨I0, T0⟩ T0 T0, ?_⟩
 refine ⟨app_yes rfl (lB (.box 27 (cFm p)) (intsA p.init) (.tmp 73) rfl Tryd.underlying24 rfl rfl) ⟨I0, T0⟩ ⟨rfl, T0⟩ T0, ?_⟩
 refine ⟨app_yes rfl (fB 2 (.tmp 3) rfl Tryd.underlying30 rfl 1 rfl) ⟨I0, T0⟩ T0 T0, ?_⟩
 refine ⟨app_yes rfl (lB (.box 30 (cPq q)) (intsA q.start) (.tmp 75) rfl Tryd.underlying24 rfl rfl) ⟨I0, T0⟩ ⟨rfl, T0⟩ T0, ?_⟩
 refine ⟨app_yes rfl (sp_move (.tmp 8) (iv k) rfl) ⟨I0, T0⟩ T0 T0, ?_⟩
 refine ⟨app_yes rfl (sp_indexSl (off := k * 1) (.tmp 76) (.tmp 77) rfl Tryd.underlying24 (by kernel_rfl) (by omega) (by omega) rfl) ⟨I0, I0, T0⟩ T0 T0, ?_⟩
 refine ⟨app_yes rfl (sp_loadEl1 (X := iv q.start[k]) (.tmp 78) rfl Tryd.underlying3 rfl (map_at1 q.start (by omega))) ⟨I0, T0⟩ T0 T0, ?_⟩
 refine ⟨app_yes rfl (sp_call (c := .func 100) (xs := #[.tmp 74, .tmp 79]) [] (ctr_b (has_c p.init q.start[k] HP.linit) hs7f) rfl (by kernel_rfl) rfl (Xs := [intsA p.init, iv q.start[k]]) rfl rfl rfl) ⟨I0, I0, I0, T0⟩ T0 T0, ?_⟩
 refine ⟨app_yes rfl (sp_not rfl rfl) ⟨I0, T0⟩ T0 T0, ?_⟩
 show ETri J w0 _ _ _
 refine kW 181 [(1, .box 27 (cFm p)), (2, .box 30 (cPq q))] [(2, .box 1 0), (3, .box 2 0), (6, iv p.states.length), (8, iv k), (70, bv true), (81, bv true)] ?_
 refine t_then ?_
 refine t_condT rfl ?_
 refine tri_seq ?_
 refine tri_region ?_
 refine oA (sp_assign (.const (.int .i64 5)) (iv 5) rfl) I0 ?_
 refine kN 181 [(1, .box 27 (cFm p)), (2, .box 30 (cPq q))] [(2, .box 1 0), (3, .box 2 0), (4, iv 5), (6, iv p.states.length), (8, iv k), (70, bv true), (81, bv true)] ?_
 refine t_then ?_
 refine tri_ret ?_
 refine t_block_ret ?_
 refine t_then_ret ?_
 refine t_then_ret ?_
 refine t_block_ret ?_
 refine t_cut_ret ?_
 refine t_then_ret ?_
 refine tri_end1 Tryd.results51 (.tmp rfl) ?_
 exact congrArg (fun x : Int => AV.v (.int .i64 x)) (((vp_2 hs1 hs2).trans ((v2_1 hs3 hs4).trans (v3_i hs5 (k := k) (by omega) hs7f))).symm)
 refine tri_region ?_
 refine oA (sp_move (.tmp 8) (iv k) rfl) I0 ?_
 refine oA (fB 2 (.tmp 3) rfl Tryd.underlying30 rfl 1 rfl) I0 ?_
 refine oB (lB (.box 30 (cPq q)) (intsA q.start) (.tmp 67) rfl Tryd.underlying24 rfl rfl) I0 rfl ?_
 refine oA (sp_lenSl (.tmp 68) rfl Tryd.underlying24) I0 ?_
 refine oC (sp_lss rfl (dF hs6)) I0 I0 ?_
 refine kN 181 [(1, .box 27 (cFm p)), (2, .box 30 (cPq q))] [(2, .box 1 0), (3, .box 2 0), (6, iv p.states.length), (8, iv k), (70, bv false)] ?_
 refine t_then ?_
 refine t_condF rfl ?_
 refine tri_exit ?_
 refine t_then_exit ?_
 refine t_then_exit ?_
 refine t_hit ?_
 exact t_meet (by have : k = q.start.length := (by omega); subst this; exact hs0) (wk_keep _ _ rfl (by kernel_rfl) (by kernel_rfl))
 refine t_then ?_
 refine tri_seq ?_
 refine tri_seq ?_
 refine tri_region ?_
 refine oA (fB 1 (.tmp 3) rfl Tryd.underlying30 rfl 1 rfl) I0 ?_
 refine oB (lB (.box 30 (cPq q)) (iv q.kind) (.tmp 82) rfl Tryd.underlying3 rfl rfl) I0 rfl ?_
 refine oC (sp_eql rfl (dF (show ¬ q.kind = 2 by omega))) I0 I0 ?_
 refine kN 181 [(1, .box 27 (cFm p)), (2, .box 30 (cPq q))] [(2, .box 1 0), (3, .box 2 0), (6, iv p.states.length), (84, bv false)] ?_
 refine t_then ?_
 refine t_condF rfl ?_
 refine tri_skip ?_
 refine t_then ?_
 refine tri_seq ?_
 refine tri_seq ?_
 by_cases hs8 : ((q.bad.length : Nat) : Int) = 0
 by_cases hs9 : ((q.adj.length : Nat) : Int) = 0
 refine tri_region ?_
 refine oA (fB 3 (.tmp 3) rfl Tryd.underlying30 rfl 1 rfl) I0 ?_
 refine oB (lB (.box 30 (cPq q)) (slA 2 cRw q.bad) (.tmp 96) rfl Tryd.underlying28 rfl rfl) I0 rfl ?_
 refine oA (sp_lenSl (.tmp 97) rfl Tryd.underlying28) I0 ?_
 refine oC (sp_eql rfl (dT hs8)) I0 I0 ?_
 refine oA (sp_move (.tmp 99) (bv true) rfl) I0 ?_
 refine gA (fB 4 (.tmp 3) rfl Tryd.underlying30 rfl 1 rfl) I0 ?_
 refine gB (lB (.box 30 (cPq q)) (intsA q.adj) (.tmp 101) rfl Tryd.underlying24 rfl rfl) I0 rfl ?_
 refine gA (sp_lenSl (.tmp 102) rfl Tryd.underlying24) I0 ?_
 refine gC (sp_eql rfl (dT hs9)) I0 I0 ?_
 refine oD (sp_pick (.tmp 100) (.tmp 104) (.const (.bool false)) true (bv true) (bv false) rfl) I0 I0 I0 ?_
 refine kN 181 [(1, .box 27 (cFm p)), (2, .box 30 (cPq q))] [(2, .box 1 0), (3, .box 2 0), (6, iv p.states.length), (105, bv true)] ?_
 refine t_then ?_
 refine t_condT rfl ?_
 refine tri_seq ?_
 refine tri_region ?_
 refine oA (sp_assign (.const (.int .i64 1)) (iv 1) rfl) I0 ?_
 refine kN 181 [(1, .box 27 (cFm p)), (2, .box 30 (cPq q))] [(2, .box 1 0), (3, .box 2 0), (4, iv 1), (6, iv p.states.length)] ?_
 refine t_then ?_
 refine tri_ret ?_
 refine t_then_ret ?_
 refine tri_end1 Tryd.results51 (.tmp rfl) ?_
 exact congrArg (fun x : Int => AV.v (.int .i64 x)) ((((vp_2 hs1 hs2).trans ((v2_1 hs3 hs4).trans (v3_z hs5 SUB))).trans (bad_0 hs8 hs9)).symm)
 refine tri_region ?_
 refine oA (fB 3 (.tmp 3) rfl Tryd.underlying30 rfl 1 rfl) I0 ?_
 refine oB (lB (.box 30 (cPq q)) (slA 2 cRw q.bad) (.tmp 96) rfl Tryd.underlying28 rfl rfl) I0 rfl ?_
 refine oA (sp_lenSl (.tmp 97) rfl Tryd.underlying28) I0 ?_
 refine oC (sp_eql rfl (dT hs8)) I0 I0 ?_
 refine oA (sp_move (.tmp 99) (bv true) rfl) I0 ?_
 refine gA (fB 4 (.tmp 3) rfl Tryd.underlying30 rfl 1 rfl) I0 ?_
 refine gB (lB (.box 30 (cPq q)) (intsA q.adj) (.tmp 101) rfl Tryd.underlying24 rfl rfl) I0 rfl ?_
 refine gA (sp_lenSl (.tmp 102) rfl Tryd.underlying24) I0 ?_
 refine gC (sp_eql rfl (dF hs9)) I0 I0 ?_
 refine oD (sp_pick (.tmp 100) (.tmp 104) (.const (.bool false)) true (bv false) (bv false) rfl) I0 I0 I0 ?_
 refine kN 181 [(1, .box 27 (cFm p)), (2, .box 30 (cPq q))] [(2, .box 1 0), (3, .box 2 0), (6, iv p.states.length), (105, bv false)] ?_
 refine t_then ?_
 refine t_condF rfl ?_
 refine tri_skip ?_
 refine t_then ?_
 refine tri_seq ?_
 refine tri_seq ?_
 refine tri_region ?_
 refine oA (fB 3 (.tmp 3) rfl Tryd.underlying30 rfl 1 rfl) I0 ?_
 refine oB (lB (.box 30 (cPq q)) (slA 2 cRw q.bad) (.tmp 106) rfl Tryd.underlying28 rfl rfl) I0 rfl ?_
 refine oA (sp_lenSl (.tmp 107) rfl Tryd.underlying28) I0 ?_
 refine oC (sp_gtr rfl (dF (show ¬ 3 < ((q.bad.length : Nat) : Int) by omega))) I0 I0 ?_
 refine kN 181 [(1, .box 27 (cFm p)), (2, .box 30 (cPq q))] [(2, .box 1 0), (3, .box 2 0), (6, iv p.states.length), (109, bv false)] ?_
 refine t_then ?_
 refine t_condF rfl ?_
 refine tri_skip ?_
 refine t_then ?_
 refine tri_seq ?_
 refine tri_seq ?_
 refine tri_region ?_
 refine oA (sp_assign (.const (.int .i64 0)) (iv 0) rfl) I0 ?_
 refine kN 181 [(1, .box 27 (cFm p)), (2, .box 30 (cPq q))] [(2, .box 1 0), (3, .box 2 0), (6, iv p.states.length), (10, iv 0)] ?_
 refine t_then ?_
 refine t_cut (cntOk p.states.length q.bad q.bad.length) (ofL [(1, .box 27 (cFm p)), (2, .box 30 (cPq q))]) (ofT 181 [(2, .box 1 0), (3, .box 2 0), (6, iv p.states.length)]) ?_ (fun CNT => ?_)
 refine tri_block ?_
 refine tri_loop (σ := {k : Nat // k ≤ q.bad.length ∧ cntOk p.states.length q.bad k}) (fun s => (ofL [(1, .box 27 (cFm p)), (2, .box 30 (cPq q))], ofT 181 [(2, .box 1 0), (3, .box 2 0), (6, iv p.states.length), (10, iv s.1)])) (fun s => q.bad.length - s.1) ⟨0, Nat.zero_le _, cntOk_zero _ _⟩ (wk_keep _ _ rfl (by kernel_rfl) (by kernel_rfl)) (fun s => ?_)
 obtain ⟨k, hk0, hs0⟩ := s
 show ETri J w0 (ofL [(1, .box 27 (cFm p)), (2, .box 30 (cPq q))]) (ofT 181 [(2, .box 1 0), (3, .box 2 0), (6, iv p.states.length), (10, iv k)]) _
 refine tri_seq ?_
 refine tri_seq ?_
 by_cases hs10 : ((k : Nat) : Int) < ((q.bad.length : Nat) : Int)
 refine tri_region ?_
 refine oA (sp_move (.tmp 10) (iv k) rfl) I0 ?_
 refine oA (fB 3 (.tmp 3) rfl Tryd.underlying30 rfl 1 rfl) I0 ?_
 refine oB (lB (.box 30 (cPq q)) (slA 2 cRw q.bad) (.tmp 111) rfl Tryd.underlying28 rfl rfl) I0 rfl ?_
 refine oA (sp_lenSl (.tmp 112) rfl Tryd.underlying28) I0 ?_
 refine oC (sp_lss rfl (dT hs10)) I0 I0 ?_
 refine kN 181 [(1, .box 27 (cFm p)), (2, .box 30 (cPq q))] [(2, .box 1 0), (3, .box 2 0), (6, iv p.states.length), (10, iv k), (114, bv true)] ?_
 refine t_then ?_
 refine t_condT rfl ?_
 refine tri_skip ?_
 refine t_then ?_
 refine tri_seq ?_
 refine tri_block ?_
 refine tri_seq ?_
 refine tri_seq ?_
 refine tri_region ?_
 refine oA (fB 3 (.tmp 3) rfl Tryd.underlying30 rfl 1 rfl) I0 ?_
 refine oB (lB (.box 30 (cPq q)) (slA 2 cRw q.bad) (.tmp 117) rfl Tryd.underlying28 rfl rfl) I0 rfl ?_
 refine oA (sp_move (.tmp 10) (iv k) rfl) I0 ?_
 refine oC (sp_indexSl (off := k * 2) (.tmp 118) (.tmp 119) rfl Tryd.underlying28 (by kernel_rfl) (by omega) (by omega) rfl) I0 I0 ?_
 refine oA (sp_fieldEl (off' := k * 2) (.tmp 120) rfl Tryd.underlying84 rfl (z := 1) (by kernel_rfl) (by decide) rfl) I0 ?_
 refine oA (sp_loadEl1 (X := intsA q.bad[k].1) (.tmp 121) rfl Tryd.underlying24 rfl ((eflat_get lenRw q.bad k 0 (by omega) (by decide)).trans rfl)) I0 ?_
 refine oA (sp_move (.tmp 6) (iv p.states.length) rfl) I0 ?_
 refine oD (sp_call (c := .func 99) (xs := #[.tmp 122, .tmp 123]) [] (rSet_c p.states.length HP.lstates q.bad[k].1 (HQ.bad q.bad[k] (List.getElem_mem (by omega))).1) rfl (by kernel_rfl) rfl (Xs := [intsA q.bad[k].1, iv p.states.length]) rfl rfl rfl) I0 I0 I0 ?_
 refine oA (sp_assign (.tmp 124) (iv (setE p.states.length q.bad[k].1)) rfl) I0 ?_
 refine kN 181 [(1, .box 27 (cFm p)), (2, .box 30 (cPq q))] [(2, .box 1 0), (3, .box 2 0), (6, iv p.states.length), (10, iv k), (11, iv (setE p.states.length q.bad[k].1)), (114, bv true)] ?_
 refine t_then ?_
 refine tri_seq ?_
 by_cases hs11 : setE p.states.length q.bad[k].1 = 0
 refine tri_region ?_
 refine oA (sp_move (.tmp 11) (iv (setE p.states.length q.bad[k].1)) rfl) I0 ?_
 refine oC (sp_neq rfl (dT' hs11)) I0 I0 ?_
 refine kN 181 [(1, .box 27 (cFm p)), (2, .box 30 (cPq q))] [(2, .box 1 0), (3, .box 2 0), (6, iv p.states.length), (10, iv k), (11, iv (setE p.states.length q.bad[k].1)), (114, bv true), (126, bv false)] ?_
 refine t_then ?_
 refine t_condF rfl ?_
 refine tri_skip ?_
 refine t_then ?_
 refine tri_seq ?_
 by_cases hs12 : ((q.bad[k].1.length : Nat) : Int) = 0
 refine tri_region ?_
 refine oA (fB 3 (.tmp 3) rfl Tryd.underlying30 rfl 1 rfl) I0 ?_
 refine oB (lB (.box 30 (cPq q)) (slA 2 cRw q.bad) (.tmp 128) rfl Tryd.underlying28 rfl rfl) I0 rfl ?_
 refine oA (sp_move (.tmp 10) (iv k) rfl) I0 ?_
 refine oC (sp_indexSl (off := k * 2) (.tmp 129) (.tmp 130) rfl Tryd.underlying28 (by kernel_rfl) (by omega) (by omega) rfl) I0 I0 ?_
 refine oA (sp_fieldEl (off' := k * 2) (.tmp 131) rfl Tryd.underlying84 rfl (z := 1) (by kernel_rfl) (by decide) rfl) I0 ?_
 refine oA (sp_loadEl1 (X := intsA q.bad[k].1) (.tmp 132) rfl Tryd.underlying24 rfl ((eflat_get lenRw q.bad k 0 (by omega) (by decide)).trans rfl)) I0 ?_
 refine oA (sp_lenSl (.tmp 133) rfl Tryd.underlying24) I0 ?_
 refine oC (sp_eql rfl (dT hs12)) I0 I0 ?_
 refine oA (sp_move (.tmp 135) (bv true) rfl) I0 ?_
 refine t_skip rfl ?_
 refine t_skip rfl ?_
 refine t_skip rfl ?_
 refine t_skip rfl ?_
 refine t_skip rfl ?_
 refine t_skip rfl ?_
 refine t_skip rfl ?_
 refine t_skip rfl ?_
 refine oD (sp_pick (.tmp 136) (.const (.bool true)) (.tmp 144) true (bv true) (.v (.tuple #[])) rfl) I0 I0 I0 ?_
 refine kN 181 [(1, .box 27 (cFm p)), (2, .box 30 (cPq q))] [(2, .box 1 0), (3, .box 2 0), (6, iv p.states.length), (10, iv k), (11, iv (setE p.states.length q.bad[k].1)), (114, bv true), (126, bv false), (145, bv true)] ?_
 refine t_then ?_
 refine t_condT rfl ?_
 refine tri_seq ?_
 refine tri_region ?_
 refine oA (sp_assign (.const (.int .i64 1)) (iv 1) rfl) I0 ?_
 refine kN 181 [(1, .box 27 (cFm p)), (2, .box 30 (cPq q))] [(2, .box 1 0), (3, .box 2 0), (4, iv 1), (6, iv p.states.length), (10, iv k), (11, iv (setE p.states.length q.bad[k].1)), (114, bv true), (126, bv false), (145, bv true)] ?_
 refine t_then ?_
 refine tri_ret ?_
 refine t_block_ret ?_
 refine t_then_ret ?_
 refine t_then_ret ?_
 refine t_block_ret ?_
 refine t_cut_ret ?_
 refine t_then_ret ?_
 refine tri_end1 Tryd.results51 (.tmp rfl) ?_
 exact congrArg (fun x : Int => AV.v (.int .i64 x)) ((((vp_2 hs1 hs2).trans ((v2_1 hs3 hs4).trans (v3_z hs5 SUB))).trans (bad_c ⟨(fun h => hs9 h.2), (show ¬ 3 < ((q.bad.length : Nat) : Int) by omega)⟩ (k := k) (by omega) hs0 (cnt_l hs11 hs12) (by decide))).symm)
 by_cases hs13 : (inB 1 3 q.bad[k].2) = true
 refine tri_region ?_
 refine oA (fB 3 (.tmp 3) rfl Tryd.underlying30 rfl 1 rfl) I0 ?_
 refine oB (lB (.box 30 (cPq q)) (slA 2 cRw q.bad) (.tmp 128) rfl Tryd.underlying28 rfl rfl) I0 rfl ?_
 refine oA (sp_move (.tmp 10) (iv k) rfl) I0 ?_
 refine oC (sp_indexSl (off := k * 2) (.tmp 129) (.tmp 130) rfl Tryd.underlying28 (by kernel_rfl) (by omega) (by omega) rfl) I0 I0 ?_
 refine oA (sp_fieldEl (off' := k * 2) (.tmp 131) rfl Tryd.underlying84 rfl (z := 1) (by kernel_rfl) (by decide) rfl) I0 ?_
 refine oA (sp_loadEl1 (X := intsA q.bad[k].1) (.tmp 132) rfl Tryd.underlying24 rfl ((eflat_get lenRw q.bad k 0 (by omega) (by decide)).trans rfl)) I0 ?_
 refine oA (sp_lenSl (.tmp 133) rfl Tryd.underlying24) I0 ?_
 refine oC (sp_eql rfl (dF hs12)) I0 I0 ?_
 refine oA (sp_move (.tmp 135) (bv false) rfl) I0 ?_
 refine gA (fB 3 (.tmp 3) rfl Tryd.underlying30 rfl 1 rfl) I0 ?_
 refine gB (lB (.box 30 (cPq q)) (slA 2 cRw q.bad) (.tmp 137) rfl Tryd.underlying28 rfl rfl) I0 rfl ?_
 refine gA (sp_move (.tmp 10) (iv k) rfl) I0 ?_
 refine gC (sp_indexSl (off := k * 2) (.tmp 138) (.tmp 139) rfl Tryd.underlying28 (by kernel_rfl) (by omega) (by omega) rfl) I0 I0 ?_
 refine gA (sp_fieldEl (off' := k * 2 + 1) (.tmp 140) rfl Tryd.underlying84 rfl (z := 1) (by kernel_rfl) (by decide) rfl) I0 ?_
 refine gA (sp_loadEl1 (X := iv q.bad[k].2) (.tmp 141) rfl Tryd.underlying3 rfl ((eflat_get lenRw q.bad k 1 (by omega) (by decide)).trans rfl)) I0 ?_
 refine t_opG rfl (sp_call (c := .func 101) (xs := #[.tmp 142, .const (.int .i64 1), .const (.int .i64 3)]) [] (ctr_b (within_c q.bad[k].2 1 3) hs13) rfl (by kernel_rfl) rfl (Xs := [iv q.bad[k].2, iv 1, iv 3]) rfl rfl rfl) ⟨I0, I0, I0, I0, T0⟩ T0 T0 ?_
 refine gA (sp_not rfl rfl) I0 ?_
 refine oD (sp_pick (.tmp 136) (.const (.bool true)) (.tmp 144) false (bv true) (bv false) rfl) I0 I0 I0 ?_
 refine kN 181 [(1, .box 27 (cFm p)), (2, .box 30 (cPq q))] [(2, .box 1 0), (3, .box 2 0), (6, iv p.states.length), (10, iv k), (11, iv (setE p.states.length q.bad[k].1)), (114, bv true), (126, bv false), (145, bv false)] ?_
 refine t_then ?_
 refine t_condF rfl ?_
 refine tri_skip ?_
 refine t_block ?_
 refine t_then ?_
 refine tri_region ?_
 refine oA (sp_move (.tmp 10) (iv k) rfl) I0 ?_
 refine oC (sp_add (c := ((k + 1 : Nat) : Int)) rfl (w64 (by omega) (by omega) (by omega))) I0 I0 ?_
 refine oA (sp_assign (.tmp 116) (iv (k + 1 : Nat)) rfl) I0 ?_
 refine kN 181 [(1, .box 27 (cFm p)), (2, .box 30 (cPq q))] [(2, .box 1 0), (3, .box 2 0), (6, iv p.states.length), (10, iv (k + 1 : Nat)), (11, iv (setE p.states.length q.bad[k].1)), (114, bv true), (126, bv false), (145, bv false)] ?_
 refine t_then ?_
 refine tri_again ⟨k + 1, by omega, cntOk_succ (by omega) hs0 (cnt_0 hs11 hs12 hs13)⟩ (show q.bad.length - (k + 1) < q.bad.length - k by omega) ?_
 exact wk_keep _ _ rfl (by kernel_rfl) (by kernel_rfl)
 have hs13f : (inB 1 3 q.bad[k].2) = false := by simpa using hs13
 refine tri_region ?_
 refine oA (fB 3 (.tmp 3) rfl Tryd.underlying30 rfl 1 rfl) I0 ?_
 refine oB (lB (.box 30 (cPq q)) (slA 2 cRw q.bad) (.tmp 128) rfl Tryd.underlying28 rfl rfl) I0 rfl ?_
 refine oA (sp_move (.tmp 10) (iv k) rfl) I0 ?_
 refine oC (sp_indexSl (off := k * 2) (.tmp 129) (.tmp 130) rfl Tryd.underlying28 (by kernel_rfl) (by omega) (by omega) rfl) I0 I0 ?_
 refine oA (sp_fieldEl (off' := k * 2) (.tmp 131) rfl Tryd.underlying84 rfl (z := 1) (by kernel_rfl) (by decide) rfl) I0 ?_
 refine oA (sp_loadEl1 (X := intsA q.bad[k].1) (.tmp 132) rfl Tryd.underlying24 rfl ((eflat_get lenRw q.bad k 0 (by omega) (by decide)).trans rfl)) I0 ?_
 refine oA (sp_lenSl (.tmp 133) rfl Tryd.underlying24) I0 ?_
 refine oC (sp_eql rfl (dF hs12)) I0 I0 ?_
 refine oA (sp_move (.tmp 135) (bv false) rfl) I0 ?_
 refine gA (fB 3 (.tmp 3) rfl Tryd.underlying30 rfl 1 rfl) I0 ?_
 refine gB (lB (.box 30 (cPq q)) (slA 2 cRw q.bad) (.tmp 137) rfl Tryd.underlying28 rfl rfl) I0 rfl ?_
 refine gA (sp_move (.tmp 10) (iv k) rfl) I0 ?_
 refine gC (sp_indexSl (off := k * 2) (.tmp 138) (.tmp 139) rfl Tryd.underlying28 (by kernel_rfl) (by omega) (by omega) rfl) I0 I0 ?_
 refine gA (sp_fieldEl (off' := k * 2 + 1) (.tmp 140) rfl Tryd.underlying84 rfl (z := 1) (by kernel_rfl) (by decide) rfl) I0 ?_
 refine gA (sp_loadEl1 (X := iv q.bad[k].2) (.tmp 141) rfl Tryd.underlying3 rfl ((eflat_get lenRw q.bad k 1 (by omega) (by decide)).trans rfl)) I0 ?_
 refine t_opG rfl (sp_call (c := .func 101) (xs := #[.tmp 142, .const (.int .i64 1), .const (.int .i64 3)]) [] (ctr_b (within_c q.bad[k].2 1 3) hs13f) rfl (by kernel_rfl) rfl (Xs := [iv q.bad[k].2, iv 1, iv 3]) rfl rfl rfl) ⟨I0, I0, I0, I0, T0⟩ T0 T0 ?_
 refine gA (sp_not rfl rfl) I0 ?_
 refine oD (sp_pick (.tmp 136) (.const (.bool true)) (.tmp 144) false (bv true) (bv true) rfl) I0 I0 I0 ?_
 refine kN 181 [(1, .box 27 (cFm p)), (2, .box 30 (cPq q))] [(2, .box 1 0), (3, .box 2 0), (6, iv p.states.length), (10, iv k), (11, iv (setE p.states.length q.bad[k].1)), (114, bv true), (126, bv false), (145, bv true)] ?_
 refine t_then ?_
 refine t_condT rfl ?_
 refine tri_seq ?_
 refine tri_region ?_
 refine oA (sp_assign (.const (.int .i64 1)) (iv 1) rfl) I0 ?_
 refine kN 181 [(1, .box 27 (cFm p)), (2, .box 30 (cPq q))] [(2, .box 1 0), (3, .box 2 0), (4, iv 1), (6, iv p.states.length), (10, iv k), (11, iv (setE p.states.length q.bad[k].1)), (114, bv true), (126, bv false), (145, bv true)] ?_
 refine t_then ?_
 refine tri_ret ?_
 refine t_block_ret ?_
 refine t_then_ret ?_
 refine t_then_ret ?_
 refine t_block_ret ?_
 refine t_cut_ret ?_
 refine t_then_ret ?_
 refine tri_end1 Tryd.results51 (.tmp rfl) ?_
 exact congrArg (fun x : Int => AV.v (.int .i64 x)) ((((vp_2 hs1 hs2).trans ((v2_1 hs3 hs4).trans (v3_z hs5 SUB))).trans (bad_c ⟨(fun h => hs9 h.2), (show ¬ 3 < ((q.bad.length : Nat) : Int) by omega)⟩ (k := k) (by omega) hs0 (cnt_b hs11 hs12 hs13f) (by decide))).symm)
 refine tri_region ?_
 refine oA (sp_move (.tmp 11) (iv (setE p.states.length q.bad[k].1)) rfl) I0 ?_
 refine oC (sp_neq rfl (dF' hs11)) I0 I0 ?_
 refine kN 181 [(1, .box 27 (cFm p)), (2, .box 30 (cPq q))] [(2, .box 1 0), (3, .box 2 0), (6, iv p.states.length), (10, iv k), (11, iv (setE p.states.length q.bad[k].1)), (114, bv true), (126, bv true)] ?_
 refine t_then ?_
 refine t_condT rfl ?_
 refine tri_seq ?_
 refine tri_region ?_
 refine oA (sp_move (.tmp 11) (iv (setE p.states.length q.bad[k].1)) rfl) I0 ?_
 refine oA (sp_assign (.tmp 127) (iv (setE p.states.length q.bad[k].1)) rfl) I0 ?_
 refine kN 181 [(1, .box 27 (cFm p)), (2, .box 30 (cPq q))] [(2, .box 1 0), (3, .box 2 0), (4, iv (setE p.states.length q.bad[k].1)), (6, iv p.states.length), (10, iv k), (11, iv (setE p.states.length q.bad[k].1)), (114, bv true), (126, bv true)] ?_
 refine t_then ?_
 refine tri_ret ?_
 refine t_then_ret ?_
 refine t_block_ret ?_
 refine t_then_ret ?_
 refine t_then_ret ?_
 refine t_block_ret ?_
 refine t_cut_ret ?_
 refine t_then_ret ?_
 refine tri_end1 Tryd.results51 (.tmp rfl) ?_
 exact congrArg (fun x : Int => AV.v (.int .i64 x)) ((((vp_2 hs1 hs2).trans ((v2_1 hs3 hs4).trans (v3_z hs5 SUB))).trans (bad_c ⟨(fun h => hs9 h.2), (show ¬ 3 < ((q.bad.length : Nat) : Int) by omega)⟩ (k := k) (by omega) hs0 (cnt_s hs11) hs11)).symm)
 refine tri_region ?_
 refine oA (sp_move (.tmp 10) (iv k) rfl) I0 ?_
 refine oA (fB 3 (.tmp 3) rfl Tryd.underlying30 rfl 1 rfl) I0 ?_
 refine oB (lB (.box 30 (cPq q)) (slA 2 cRw q.bad) (.tmp 111) rfl Tryd.underlying28 rfl rfl) I0 rfl ?_
 refine oA (sp_lenSl (.tmp 112) rfl Tryd.underlying28) I0 ?_
 refine oC (sp_lss rfl (dF hs10)) I0 I0 ?_
 refine kN 181 [(1, .box 27 (cFm p)), (2, .box 30 (cPq q))] [(2, .box 1 0), (3, .box 2 0), (6, iv p.states.length), (10, iv k), (114, bv false)] ?_
 refine t_then ?_
 refine t_condF rfl ?_
 refine tri_exit ?_
 refine t_then_exit ?_
 refine t_then_exit ?_
 refine t_hit ?_
 exact t_meet (by have : k = q.bad.length := (by omega); subst this; exact hs0) (wk_keep _ _ rfl (by kernel_rfl) (by kernel_rfl))
 refine t_then ?_
 refine tri_seq ?_
 refine tri_seq ?_
 by_cases hs14 : p.top = 1
 refine tri_region ?_
 refine oA (fB 4 (.tmp 3) rfl Tryd.underlying30 rfl 1 rfl) I0 ?_
 refine oB (lB (.box 30 (cPq q)) (intsA q.adj) (.tmp 146) rfl Tryd.underlying24 rfl rfl) I0 rfl ?_
 refine oA (sp_lenSl (.tmp 147) rfl Tryd.underlying24) I0 ?_
 refine oC (sp_gtr rfl (dT (show 0 < ((q.adj.length : Nat) : Int) by omega))) I0 I0 ?_
 refine oA (sp_move (.tmp 149) (bv true) rfl) I0 ?_
 refine gA (fB 1 (.tmp 2) rfl Tryd.underlying27 rfl 1 rfl) I0 ?_
 refine gB (lB (.box 27 (cFm p)) (iv p.top) (.tmp 151) rfl Tryd.underlying3 rfl rfl) I0 rfl ?_
 refine gC (sp_eql rfl (dT hs14)) I0 I0 ?_
 refine oD (sp_pick (.tmp 150) (.tmp 153) (.const (.bool false)) true (bv true) (bv false) rfl) I0 I0 I0 ?_
 refine kN 181 [(2, .box 30 (cPq q))] [(3, .box 2 0), (6, iv p.states.length), (154, bv true)] ?_
 refine t_then ?_
 refine t_condT rfl ?_
 refine tri_seq ?_
 refine tri_region ?_
 refine oA (sp_assign (.const (.int .i64 6)) (iv 6) rfl) I0 ?_
 refine kN 181 [(2, .box 30 (cPq q))] [(3, .box 2 0), (4, iv 6), (6, iv p.states.length)] ?_
 refine t_then ?_
 refine tri_ret ?_
 refine t_then_ret ?_
 refine tri_end1 Tryd.results51 (.tmp rfl) ?_
 exact congrArg (fun x : Int => AV.v (.int .i64 x)) ((((vp_2 hs1 hs2).trans ((v2_1 hs3 hs4).trans (v3_z hs5 SUB))).trans ((bad_z ⟨(fun h => hs9 h.2), (show ¬ 3 < ((q.bad.length : Nat) : Int) by omega)⟩ CNT).trans (adj_6 (by omega) hs14))).symm)
 refine tri_region ?_
 refine oA (fB 4 (.tmp 3) rfl Tryd.underlying30 rfl 1 rfl) I0 ?_
 refine oB (lB (.box 30 (cPq q)) (intsA q.adj) (.tmp 146) rfl Tryd.underlying24 rfl rfl) I0 rfl ?_
 refine oA (sp_lenSl (.tmp 147) rfl Tryd.underlying24) I0 ?_
 refine oC (sp_gtr rfl (dT (show 0 < ((q.adj.length : Nat) : Int) by omega))) I0 I0 ?_
 refine oA (sp_move (.tmp 149) (bv true) rfl) I0 ?_
 refine gA (fB 1 (.tmp 2) rfl Tryd.underlying27 rfl 1 rfl) I0 ?_
 refine gB (lB (.box 27 (cFm p)) (iv p.top) (.tmp 151) rfl Tryd.underlying3 rfl rfl) I0 rfl ?_
 refine gC (sp_eql rfl (dF hs14)) I0 I0 ?_
 refine oD (sp_pick (.tmp 150) (.tmp 153) (.const (.bool false)) true (bv false) (bv false) rfl) I0 I0 I0 ?_
 refine kN 181 [(2, .box 30 (cPq q))] [(3, .box 2 0), (6, iv p.states.length), (154, bv false)] ?_
 refine t_then ?_
 refine t_condF rfl ?_
 refine tri_skip ?_
 refine t_then ?_
 refine tri_seq ?_
 refine tri_seq ?_
 by_cases hs15 : ((q.adj.length : Nat) : Int) = 2
 refine tri_region ?_
 refine oA (fB 4 (.tmp 3) rfl Tryd.underlying30 rfl 1 rfl) I0 ?_
 refine oB (lB (.box 30 (cPq q)) (intsA q.adj) (.tmp 155) rfl Tryd.underlying24 rfl rfl) I0 rfl ?_
 refine oA (sp_lenSl (.tmp 156) rfl Tryd.underlying24) I0 ?_
 refine oC (sp_neq rfl (dF' hs9)) I0 I0 ?_
 refine oA (sp_move (.tmp 158) (bv true) rfl) I0 ?_
 refine gA (fB 4 (.tmp 3) rfl Tryd.underlying30 rfl 1 rfl) I0 ?_
 refine gB (lB (.box 30 (cPq q)) (intsA q.adj) (.tmp 160) rfl Tryd.underlying24 rfl rfl) I0 rfl ?_
 refine gA (sp_lenSl (.tmp 161) rfl Tryd.underlying24) I0 ?_
 refine gC (sp_neq rfl (dT' hs15)) I0 I0 ?_
 refine oD (sp_pick (.tmp 159) (.tmp 163) (.const (.bool false)) true (bv false) (bv false) rfl) I0 I0 I0 ?_
 refine kN 181 [(2, .box 30 (cPq q))] [(3, .box 2 0), (6, iv p.states.length), (164, bv false)] ?_
 refine t_then ?_
 refine t_condF rfl ?_
 refine tri_skip ?_
 refine t_then ?_
 refine tri_seq ?_
 refine tri_seq ?_
 refine tri_region ?_
 refine oA (sp_assign (.const (.int .i64 0)) (iv 0) rfl) I0 ?_
 refine kN 181 [(2, .box 30 (cPq q))] [(3, .box 2 0), (6, iv p.states.length), (12, iv 0)] ?_
 refine t_then ?_
 refine tri_block ?_
 refine tri_loop (σ := {k : Nat // k ≤ q.adj.length ∧ adjB p.states.length q.adj k = true}) (fun s => (ofL [(2, .box 30 (cPq q))], ofT 181 [(3, .box 2 0), (6, iv p.states.length), (12, iv s.1)])) (fun s => q.adj.length - s.1) ⟨0, Nat.zero_le _, rfl⟩ (wk_keep _ _ rfl (by kernel_rfl) (by kernel_rfl)) (fun s => ?_)
 obtain ⟨k, hk0, hs0⟩ := s
 show ETri J w0 (ofL [(2, .box 30 (cPq q))]) (ofT 181 [(3, .box 2 0), (6, iv p.states.length), (12, iv k)]) _
 refine tri_seq ?_
 refine tri_seq ?_
 by_cases hs16 : ((k : Nat) : Int) < ((q.adj.length : Nat) : Int)
 refine tri_region ?_
 refine oA (sp_move (.tmp 12) (iv k) rfl) I0 ?_
 refine oA (fB 4 (.tmp 3) rfl Tryd.underlying30 rfl 1 rfl) I0 ?_
 refine oB (lB (.box 30 (cPq q)) (intsA q.adj) (.tmp 166) rfl Tryd.underlying24 rfl rfl) I0 rfl ?_
 refine oA (sp_lenSl (.tmp 167) rfl Tryd.underlying24) I0 ?_
 refine oC (sp_lss rfl (dT hs16)) I0 I0 ?_
 refine kN 181 [(2, .box 30 (cPq q))] [(3, .box 2 0), (6, iv p.states.length), (12, iv k), (169, bv true)] ?_
 refine t_then ?_
 refine t_condT rfl ?_
 refine tri_skip ?_
 refine t_then ?_
 refine tri_seq ?_
 refine tri_block ?_
 refine tri_seq ?_
 by_cases hs17 : (inB 0 (((p.states.length : Nat) : Int) - 1) q.adj[k]) = true
 refine tri_region ?_
 refine oA (fB 4 (.tmp 3) rfl Tryd.underlying30 rfl 1 rfl) I0 ?_
 refine oB (lB (.box 30 (cPq q)) (intsA q.adj) (.tmp 172) rfl Tryd.underlying24 rfl rfl) I0 rfl ?_
 refine oA (sp_move (.tmp 12) (iv k) rfl) I0 ?_
 refine oC (sp_indexSl (off := k * 1) (.tmp 173) (.tmp 174) rfl Tryd.underlying24 (by kernel_rfl) (by omega) (by omega) rfl) I0 I0 ?_
 refine oA (sp_loadEl1 (X := iv q.adj[k]) (.tmp 175) rfl Tryd.underlying3 rfl (map_at1 q.adj (by omega))) I0 ?_
 refine oA (sp_move (.tmp 6) (iv p.states.length) rfl) I0 ?_
 refine oC (sp_sub (c := ((p.states.length : Nat) : Int) - 1) rfl (w64 (by omega) (by omega) (by omega))) I0 I0 ?_
 refine t_op rfl (sp_call (c := .func 101) (xs := #[.tmp 176, .const (.int .i64 0), .tmp 178]) [] (ctr_b (within_c q.adj[k] 0 (((p.states.length : Nat) : Int) - 1)) hs17) rfl (by kernel_rfl) rfl (Xs := [iv q.adj[k], iv 0, iv (((p.states.length : Nat) : Int) - 1)]) rfl rfl rfl) ⟨I0, I0, I0, I0, T0⟩ T0 T0 ?_
 refine oA (sp_not rfl rfl) I0 ?_
 refine kN 181 [(2, .box 30 (cPq q))] [(3, .box 2 0), (6, iv p.states.length), (12, iv k), (169, bv true), (180, bv false)] ?_
 refine t_then ?_
 refine t_condF rfl ?_
 refine tri_skip ?_
 refine t_block ?_
 refine t_then ?_
 refine tri_region ?_
 refine oA (sp_move (.tmp 12) (iv k) rfl) I0 ?_
 refine oC (sp_add (c := ((k + 1 : Nat) : Int)) rfl (w64 (by omega) (by omega) (by omega))) I0 I0 ?_
 refine oA (sp_assign (.tmp 171) (iv (k + 1 : Nat)) rfl) I0 ?_
 refine kN 181 [(2, .box 30 (cPq q))] [(3, .box 2 0), (6, iv p.states.length), (12, iv (k + 1 : Nat)), (169, bv true), (180, bv false)] ?_
 refine t_then ?_
 refine tri_again ⟨k + 1, by omega, adjB_succ (by omega) hs0 hs17⟩ (show q.adj.length - (k + 1) < q.adj.length - k by omega) ?_
 exact wk_keep _ _ rfl (by kernel_rfl) (by kernel_rfl)
 have hs17f : (inB 0 (((p.states.length : Nat) : Int) - 1) q.adj[k]) = false := by simpa using hs17
 refine tri_region ?_
 refine oA (fB 4 (.tmp 3) rfl Tryd.underlying30 rfl 1 rfl) I0 ?_
 refine oB (lB (.box 30 (cPq q)) (intsA q.adj) (.tmp 172) rfl Tryd.underlying24 rfl rfl) I0 rfl ?_
 refine oA (sp_move (.tmp 12) (iv k) rfl) I0 ?_
 refine oC (sp_indexSl (off := k * 1) (.tmp 173) (.tmp 174) rfl Tryd.underlying24 (by kernel_rfl) (by omega) (by omega) rfl) I0 I0 ?_
 refine oA (sp_loadEl1 (X := iv q.adj[k]) (.tmp 175) rfl Tryd.underlying3 rfl (map_at1 q.adj (by omega))) I0 ?_
 refine oA (sp_move (.tmp 6) (iv p.states.length) rfl) I0 ?_
 refine oC (sp_sub (c := ((p.states.length : Nat) : Int) - 1) rfl (w64 (by omega) (by omega) (by omega))) I0 I0 ?_
 refine t_op rfl (sp_call (c := .func 101) (xs := #[.tmp 176, .const (.int .i64 0), .tmp 178]) [] (ctr_b (within_c q.adj[k] 0 (((p.states.length : Nat) : Int) - 1)) hs17f) rfl (by kernel_rfl) rfl (Xs := [iv q.adj[k], iv 0, iv (((p.states.length : Nat) : Int) - 1)]) rfl rfl rfl) ⟨I0, I0, I0, I0, T0⟩ T0 T0 ?_
 refine oA (sp_not rfl rfl) I0 ?_
 refine kN 181 [(2, .box 30 (cPq q))] [(3, .box 2 0), (6, iv p.states.length), (12, iv k), (169, bv true), (180, bv true)] ?_
 refine t_then ?_
 refine t_condT rfl ?_
 refine tri_seq ?_
 refine tri_region ?_
 refine oA (sp_assign (.const (.int .i64 5)) (iv 5) rfl) I0 ?_
 refine kN 181 [(2, .box 30 (cPq q))] [(3, .box 2 0), (4, iv 5), (6, iv p.states.length), (12, iv k), (169, bv true), (180, bv true)] ?_
 refine t_then ?_
 refine tri_ret ?_
 refine t_block_ret ?_
 refine t_then_ret ?_
 refine t_then_ret ?_
 refine t_block_ret ?_
 refine t_then_ret ?_
 refine tri_end1 Tryd.results51 (.tmp rfl) ?_
 exact congrArg (fun x : Int => AV.v (.int .i64 x)) ((((vp_2 hs1 hs2).trans ((v2_1 hs3 hs4).trans (v3_z hs5 SUB))).trans ((bad_z ⟨(fun h => hs9 h.2), (show ¬ 3 < ((q.bad.length : Nat) : Int) by omega)⟩ CNT).trans (adj_5 (by omega) hs14 hs15 (k := k) (by omega) hs17f))).symm)
 refine tri_region ?_
 refine oA (sp_move (.tmp 12) (iv k) rfl) I0 ?_
 refine oA (fB 4 (.tmp 3) rfl Tryd.underlying30 rfl 1 rfl) I0 ?_
 refine oB (lB (.box 30 (cPq q)) (intsA q.adj) (.tmp 166) rfl Tryd.underlying24 rfl rfl) I0 rfl ?_
 refine oA (sp_lenSl (.tmp 167) rfl Tryd.underlying24) I0 ?_
 refine oC (sp_lss rfl (dF hs16)) I0 I0 ?_
 refine kN 181 [(2, .box 30 (cPq q))] [(3, .box 2 0), (6, iv p.states.length), (12, iv k), (169, bv false)] ?_
 refine t_then ?_
 refine t_condF rfl ?_
 refine tri_exit ?_
 refine t_then_exit ?_
 refine t_then_exit ?_
 refine t_hit ?_
 refine t_then ?_
 refine tri_seq ?_
 refine tri_region ?_
 refine oA (sp_assign (.const (.int .i64 0)) (iv 0) rfl) I0 ?_
 refine kN 181 [] [(4, iv 0)] ?_
 refine t_then ?_
 refine tri_ret ?_
 refine tri_end1 Tryd.results51 (.tmp rfl) ?_
 exact congrArg (fun x : Int => AV.v (.int .i64 x)) ((((vp_2 hs1 hs2).trans ((v2_1 hs3 hs4).trans (v3_z hs5 SUB))).trans ((bad_z ⟨(fun h => hs9 h.2), (show ¬ 3 < ((q.bad.length : Nat) : Int) by omega)⟩ CNT).trans (adj_k (by omega) hs14 hs15 (by have : k = q.adj.length := (by omega); subst this; exact hs0)))).symm)
 refine tri_region ?_
 refine oA (fB 4 (.tmp 3) rfl Tryd.underlying30 rfl 1 rfl) I0 ?_
 refine oB (lB (.box 30 (cPq q)) (intsA q.adj) (.tmp 155) rfl Tryd.underlying24 rfl rfl) I0 rfl ?_
 refine oA (sp_lenSl (.tmp 156) rfl Tryd.underlying24) I0 ?_
 refine oC (sp_neq rfl (dF' hs9)) I0 I0 ?_
 refine oA (sp_move (.tmp 158) (bv true) rfl) I0 ?_
 refine gA (fB 4 (.tmp 3) rfl Tryd.underlying30 rfl 1 rfl) I0 ?_
 refine gB (lB (.box 30 (cPq q)) (intsA q.adj) (.tmp 160) rfl Tryd.underlying24 rfl rfl) I0 rfl ?_
 refine gA (sp_lenSl (.tmp 161) rfl Tryd.underlying24) I0 ?_
 refine gC (sp_neq rfl (dF' hs15)) I0 I0 ?_
 refine oD (sp_pick (.tmp 159) (.tmp 163) (.const (.bool false)) true (bv true) (bv false) rfl) I0 I0 I0 ?_
 refine kN 181 [(2, .box 30 (cPq q))] [(3, .box 2 0), (6, iv p.states.length), (164, bv true)] ?_
 refine t_then ?_
 refine t_condT rfl ?_
 refine tri_seq ?_
 refine tri_region ?_
 refine oA (sp_assign (.const (.int .i64 1)) (iv 1) rfl) I0 ?_
 refine kN 181 [(2, .box 30 (cPq q))] [(3, .box 2 0), (4, iv 1), (6, iv p.states.length)] ?_
 refine t_then ?_
 refine tri_ret ?_
 refine t_then_ret ?_
 refine tri_end1 Tryd.results51 (.tmp rfl) ?_
 exact congrArg (fun x : Int => AV.v (.int .i64 x)) ((((vp_2 hs1 hs2).trans ((v2_1 hs3 hs4).trans (v3_z hs5 SUB))).trans ((bad_z ⟨(fun h => hs9 h.2), (show ¬ 3 < ((q.bad.length : Nat) : Int) by omega)⟩ CNT).trans (adj_1 (by omega) hs14 hs15))).symm)
 refine tri_region ?_
 refine oA (fB 3 (.tmp 3) rfl Tryd.underlying30 rfl 1 rfl) I0 ?_
 refine oB (lB (.box 30 (cPq q)) (slA 2 cRw q.bad) (.tmp 96) rfl Tryd.underlying28 rfl rfl) I0 rfl ?_
 refine oA (sp_lenSl (.tmp 97) rfl Tryd.underlying28) I0 ?_
 refine oC (sp_eql rfl (dF hs8)) I0 I0 ?_
 refine oA (sp_move (.tmp 99) (bv false) rfl) I0 ?_
 refine t_skip rfl ?_
 refine t_skip rfl ?_
 refine t_skip rfl ?_
 refine t_skip rfl ?_
 refine oD (sp_pick (.tmp 100) (.tmp 104) (.const (.bool false)) false (.v (.tuple #[])) (bv false) rfl) I0 I0 I0 ?_
 refine kN 181 [(1, .box 27 (cFm p)), (2, .box 30 (cPq q))] [(2, .box 1 0), (3, .box 2 0), (6, iv p.states.length), (105, bv false)] ?_
 refine t_then ?_
 refine t_condF rfl ?_
 refine tri_skip ?_
 refine t_then ?_
 refine tri_seq ?_
 refine tri_seq ?_
 by_cases hs18 : 3 < ((q.bad.length : Nat) : Int)
 refine tri_region ?_
 refine oA (fB 3 (.tmp 3) rfl Tryd.underlying30 rfl 1 rfl) I0 ?_
 refine oB (lB (.box 30 (cPq q)) (slA 2 cRw q.bad) (.tmp 106) rfl Tryd.underlying28 rfl rfl) I0 rfl ?_
 refine oA (sp_lenSl (.tmp 107) rfl Tryd.underlying28) I0 ?_
 refine oC (sp_gtr rfl (dT hs18)) I0 I0 ?_
 refine kN 181 [(1, .box 27 (cFm p)), (2, .box 30 (cPq q))] [(2, .box 1 0), (3, .box 2 0), (6, iv p.states.length), (109, bv true)] ?_
 refine t_then ?_
 refine t_condT rfl ?_
 refine tri_seq ?_
 refine tri_region ?_
 refine oA (sp_assign (.const (.int .i64 4)) (iv 4) rfl) I0 ?_
 refine kN 181 [(1, .box 27 (cFm p)), (2, .box 30 (cPq q))] [(2, .box 1 0), (3, .box 2 0), (4, iv 4), (6, iv p.states.length)] ?_
 refine t_then ?_
 refine tri_ret ?_
 refine t_then_ret ?_
 refine tri_end1 Tryd.results51 (.tmp rfl) ?_
 exact congrArg (fun x : Int => AV.v (.int .i64 x)) ((((vp_2 hs1 hs2).trans ((v2_1 hs3 hs4).trans (v3_z hs5 SUB))).trans (bad_4 (fun h => hs8 h.1) hs18)).symm)
 refine tri_region ?_
 refine oA (fB 3 (.tmp 3) rfl Tryd.underlying30 rfl 1 rfl) I0 ?_
 refine oB (lB (.box 30 (cPq q)) (slA 2 cRw q.bad) (.tmp 106) rfl Tryd.underlying28 rfl rfl) I0 rfl ?_
 refine oA (sp_lenSl (.tmp 107) rfl Tryd.underlying28) I0 ?_
 refine oC (sp_gtr rfl (dF hs18)) I0 I0 ?_
 refine kN 181 [(1, .box 27 (cFm p)), (2, .box 30 (cPq q))] [(2, .box 1 0), (3, .box 2 0), (6, iv p.states.length), (109, bv false)] ?_
 refine t_then ?_
 refine t_condF rfl ?_
 refine tri_skip ?_
 refine t_then ?_
 refine tri_seq ?_
 refine tri_seq ?_
 refine tri_region ?_
 refine oA (sp_assign (.const (.int .i64 0)) (iv 0) rfl) I0 ?_
 refine kN 181 [(1, .box 27 (cFm p)), (2, .box 30 (cPq q))] [(2, .box 1 0), (3, .box 2 0), (6, iv p.states.length), (10, iv 0)] ?_
 refine t_then ?_
 refine t_cut (cntOk p.states.length q.bad q.bad.length) (ofL [(1, .box 27 (cFm p)), (2, .box 30 (cPq q))]) (ofT 181 [(2, .box 1 0), (3, .box 2 0), (6, iv p.states.length)]) ?_ (fun CNT => ?_)
 refine tri_block ?_
 refine tri_loop (σ := {k : Nat // k ≤ q.bad.length ∧ cntOk p.states.length q.bad k}) (fun s => (ofL [(1, .box 27 (cFm p)), (2, .box 30 (cPq q))], ofT 181 [(2, .box 1 0), (3, .box 2 0), (6, iv p.states.length), (10, iv s.1)])) (fun s => q.bad.length - s.1) ⟨0, Nat.zero_le _, cntOk_zero _ _⟩ (wk_keep _ _ rfl (by kernel_rfl) (by kernel_rfl)) (fun s => ?_)
 obtain ⟨k, hk0, hs0⟩ := s
 show ETri J w0 (ofL [(1, .box 27 (cFm p)), (2, .box 30 (cPq q))]) (ofT 181 [(2, .box 1 0), (3, .box 2 0), (6, iv p.states.length), (10, iv k)]) _
 refine tri_seq ?_
 refine tri_seq ?_
 by_cases hs19 : ((k : Nat) : Int) < ((q.bad.length : Nat) : Int)
 refine tri_region ?_
 refine oA (sp_move (.tmp 10) (iv k) rfl) I0 ?_
 refine oA (fB 3 (.tmp 3) rfl Tryd.underlying30 rfl 1 rfl) I0 ?_
 refine oB (lB (.box 30 (cPq q)) (slA 2 cRw q.bad) (.tmp 111) rfl Tryd.underlying28 rfl rfl) I0 rfl ?_
 refine oA (sp_lenSl (.tmp 112) rfl Tryd.underlying28) I0 ?_
 refine oC (sp_lss rfl (dT hs19)) I0 I0 ?_
 refine kN 181 [(1, .box 27 (cFm p)), (2, .box 30 (cPq q))] [(2, .box 1 0), (3, .box 2 0), (6, iv p.states.length), (10, iv k), (114, bv true)] ?_
 refine t_then ?_
 refine t_condT rfl ?_
 refine tri_skip ?_
 refine t_then ?_
 refine tri_seq ?_
 refine tri_block ?_
 refine tri_seq ?_
 refine tri_seq ?_
 refine tri_region ?_
 refine oA (fB 3 (.tmp 3) rfl Tryd.underlying30 rfl 1 rfl) I0 ?_
 refine oB (lB (.box 30 (cPq q)) (slA 2 cRw q.bad) (.tmp 117) rfl Tryd.underlying28 rfl rfl) I0 rfl ?_
 refine oA (sp_move (.tmp 10) (iv k) rfl) I0 ?_
 refine oC (sp_indexSl (off := k * 2) (.tmp 118) (.tmp 119) rfl Tryd.underlying28 (by kernel_rfl) (by omega) (by omega) rfl) I0 I0 ?_
 refine oA (sp_fieldEl (off' := k * 2) (.tmp 120) rfl Tryd.underlying84 rfl (z := 1) (by kernel_rfl) (by decide) rfl) I0 ?_
 refine oA (sp_loadEl1 (X := intsA q.bad[k].1) (.tmp 121) rfl Tryd.underlying24 rfl ((eflat_get lenRw q.bad k 0 (by omega) (by decide)).trans rfl)) I0 ?_
 refine oA (sp_move (.tmp 6) (iv p.states.length) rfl) I0 ?_
 refine oD (sp_call (c := .func 99) (xs := #[.tmp 122, .tmp 123]) [] (rSet_c p.states.length HP.lstates q.bad[k].1 (HQ.bad q.bad[k] (List.getElem_mem (by omega))).1) rfl (by kernel_rfl) rfl (Xs := [intsA q.bad[k].1, iv p.states.length]) rfl rfl rfl) I0 I0 I0 ?_
 refine oA (sp_assign (.tmp 124) (iv (setE p.states.length q.bad[k].1)) rfl) I0 ?_
 refine kN 181 [(1, .box 27 (cFm p)), (2, .box 30 (cPq q))] [(2, .box 1 0), (3, .box 2 0), (6, iv p.states.length), (10, iv k), (11, iv (setE p.states.length q.bad[k].1)), (114, bv true)] ?_
 refine t_then ?_
 refine tri_seq ?_
 by_cases hs20 : setE p.states.length q.bad[k].1 = 0
 refine tri_region ?_
 refine oA (sp_move (.tmp 11) (iv (setE p.states.length q.bad[k].1)) rfl) I0 ?_
 refine oC (sp_neq rfl (dT' hs20)) I0 I0 ?_
 refine kN 181 [(1, .box 27 (cFm p)), (2, .box 30 (cPq q))] [(2, .box 1 0), (3, .box 2 0), (6, iv p.states.length), (10, iv k), (11, iv (setE p.states.length q.bad[k].1)), (114, bv true), (126, bv false)] ?_
 refine t_then ?_
 refine t_condF rfl ?_
 refine tri_skip ?_
 refine t_then ?_
 refine tri_seq ?_
 by_cases hs21 : ((q.bad[k].1.length : Nat) : Int) = 0
 refine tri_region ?_
 refine oA (fB 3 (.tmp 3) rfl Tryd.underlying30 rfl 1 rfl) I0 ?_
 refine oB (lB (.box 30 (cPq q)) (slA 2 cRw q.bad) (.tmp 128) rfl Tryd.underlying28 rfl rfl) I0 rfl ?_
 refine oA (sp_move (.tmp 10) (iv k) rfl) I0 ?_
 refine oC (sp_indexSl (off := k * 2) (.tmp 129) (.tmp 130) rfl Tryd.underlying28 (by kernel_rfl) (by omega) (by omega) rfl) I0 I0 ?_
 refine oA (sp_fieldEl (off' := k * 2) (.tmp 131) rfl Tryd.underlying84 rfl (z := 1) (by kernel_rfl) (by decide) rfl) I0 ?_
 refine oA (sp_loadEl1 (X := intsA q.bad[k].1) (.tmp 132) rfl Tryd.underlying24 rfl ((eflat_get lenRw q.bad k 0 (by omega) (by decide)).trans rfl)) I0 ?_
 refine oA (sp_lenSl (.tmp 133) rfl Tryd.underlying24) I0 ?_
 refine oC (sp_eql rfl (dT hs21)) I0 I0 ?_
 refine oA (sp_move (.tmp 135) (bv true) rfl) I0 ?_
 refine t_skip rfl ?_
 refine t_skip rfl ?_
 refine t_skip rfl ?_
 refine t_skip rfl ?_
 refine t_skip rfl ?_
 refine t_skip rfl ?_
 refine t_skip rfl ?_
 refine t_skip rfl ?_
 refine oD (sp_pick (.tmp 136) (.const (.bool true)) (.tmp 144) true (bv true) (.v (.tuple #[])) rfl) I0 I0 I0 ?_
 refine kN 181 [(1, .box 27 (cFm p)), (2, .box 30 (cPq q))] [(2, .box 1 0), (3, .box 2 0), (6, iv p.states.length), (10, iv k), (11, iv (setE p.states.length q.bad[k].1)), (114, bv true), (126, bv false), (145, bv true)] ?_
 refine t_then ?_
 refine t_condT rfl ?_
 refine tri_seq ?_
 refine tri_region ?_
 refine oA (sp_assign (.const (.int .i64 1)) (iv 1) rfl) I0 ?_
 refine kN 181 [(1, .box 27 (cFm p)), (2, .box 30 (cPq q))] [(2, .box 1 0), (3, .box 2 0), (4, iv 1), (6, iv p.states.length), (10, iv k), (11, iv (setE p.states.length q.bad[k].1)), (114, bv true), (126, bv false), (145, bv true)] ?_
 refine t_then ?_
 refine tri_ret ?_
 refine t_block_ret ?_
 refine t_then_ret ?_
 refine t_then_ret ?_
 refine t_block_ret ?_
 refine t_cut_ret ?_
 refine t_then_ret ?_
 refine tri_end1 Tryd.results51 (.tmp rfl) ?_
 exact congrArg (fun x : Int => AV.v (.int .i64 x)) ((((vp_2 hs1 hs2).trans ((v2_1 hs3 hs4).trans (v3_z hs5 SUB))).trans (bad_c ⟨(fun h => hs8 h.1), hs18⟩ (k := k) (by omega) hs0 (cnt_l hs20 hs21) (by decide))).symm)
 by_cases hs22 : (inB 1 3 q.bad[k].2) = true
 refine tri_region ?_
 refine oA (fB 3 (.tmp 3) rfl Tryd.underlying30 rfl 1 rfl) I0 ?_
 refine oB (lB (.box 30 (cPq q)) (slA 2 cRw q.bad) (.tmp 128) rfl Tryd.underlying28 rfl rfl) I0 rfl ?_
 refine oA (sp_move (.tmp 10) (iv k) rfl) I0 ?_
 refine oC (sp_indexSl (off := k * 2) (.tmp 129) (.tmp 130) rfl Tryd.underlying28 (by kernel_rfl) (by omega) (by omega) rfl) I0 I0 ?_
 refine oA (sp_fieldEl (off' := k * 2) (.tmp 131) rfl Tryd.underlying84 rfl (z := 1) (by kernel_rfl) (by decide) rfl) I0 ?_
 refine oA (sp_loadEl1 (X := intsA q.bad[k].1) (.tmp 132) rfl Tryd.underlying24 rfl ((eflat_get lenRw q.bad k 0 (by omega) (by decide)).trans rfl)) I0 ?_
 refine oA (sp_lenSl (.tmp 133) rfl Tryd.underlying24) I0 ?_
 refine oC (sp_eql rfl (dF hs21)) I0 I0 ?_
 refine oA (sp_move (.tmp 135) (bv false) rfl) I0 ?_
 refine gA (fB 3 (.tmp 3) rfl Tryd.underlying30 rfl 1 rfl) I0 ?_
 refine gB (lB (.box 30 (cPq q)) (slA 2 cRw q.bad) (.tmp 137) rfl Tryd.underlying28 rfl rfl) I0 rfl ?_
 refine gA (sp_move (.tmp 10) (iv k) rfl) I0 ?_
 refine gC (sp_indexSl (off := k * 2) (.tmp 138) (.tmp 139) rfl Tryd.underlying28 (by kernel_rfl) (by omega) (by omega) rfl) I0 I0 ?_
 refine gA (sp_fieldEl (off' := k * 2 + 1) (.tmp 140) rfl Tryd.underlying84 rfl (z := 1) (by kernel_rfl) (by decide) rfl) I0 ?_
 refine gA (sp_loadEl1 (X := iv q.bad[k].2) (.tmp 141) rfl Tryd.underlying3 rfl ((eflat_get lenRw q.bad k 1 (by omega) (by decide)).trans rfl)) I0 ?_
 refine t_opG rfl (sp_call (c := .func 101) (xs := #[.tmp 142, .const (.int .i64 1), .const (.int .i64 3)]) [] (ctr_b (within_c q.bad[k].2 1 3) hs22) rfl (by kernel_rfl) rfl (Xs := [iv q.bad[k].2, iv 1, iv 3]) rfl rfl rfl) ⟨I0, I0, I0, I0, T0⟩ T0 T0 ?_
 refine gA (sp_not rfl rfl) I0 ?_
 refine oD (sp_pick (.tmp 136) (.const (.bool true)) (.tmp 144) false (bv true) (bv false) rfl) I0 I0 I0 ?_
 refine kN 181 [(1, .box 27 (cFm p)), (2, .box 30 (cPq q))] [(2, .box 1 0), (3, .box 2 0), (6, iv p.states.length), (10, iv k), (11, iv (setE p.states.length q.bad[k].1)), (114, bv true), (126, bv false), (145, bv false)] ?_
 refine t_then ?_
 refine t_condF rfl ?_
 refine tri_skip ?_
 refine t_block ?_
 refine t_then ?_
 refine tri_region ?_
 refine oA (sp_move (.tmp 10) (iv k) rfl) I0 ?_
 refine oC (sp_add (c := ((k + 1 : Nat) : Int)) rfl (w64 (by omega) (by omega) (by omega))) I0 I0 ?_
 refine oA (sp_assign (.tmp 116) (iv (k + 1 : Nat)) rfl) I0 ?_
 refine kN 181 [(1, .box 27 (cFm p)), (2, .box 30 (cPq q))] [(2, .box 1 0), (3, .box 2 0), (6, iv p.states.length), (10, iv (k + 1 : Nat)), (11, iv (setE p.states.length q.bad[k].1)), (114, bv true), (126, bv false), (145, bv false)] ?_
 refine t_then ?_
 refine tri_again ⟨k + 1, by omega, cntOk_succ (by omega) hs0 (cnt_0 hs20 hs21 hs22)⟩ (show q.bad.length - (k + 1) < q.bad.length - k by omega) ?_
 exact wk_keep _ _ rfl (by kernel_rfl) (by kernel_rfl)
 have hs22f : (inB 1 3 q.bad[k].2) = false := by simpa using hs22
 refine tri_region ?_
 refine oA (fB 3 (.tmp 3) rfl Tryd.underlying30 rfl 1 rfl) I0 ?_
 refine oB (lB (.box 30 (cPq q)) (slA 2 cRw q.bad) (.tmp 128) rfl Tryd.underlying28 rfl rfl) I0 rfl ?_
 refine oA (sp_move (.tmp 10) (iv k) rfl) I0 ?_
 refine oC (sp_indexSl (off := k * 2) (.tmp 129) (.tmp 130) rfl Tryd.underlying28 (by kernel_rfl) (by omega) (by omega) rfl) I0 I0 ?_
 refine oA (sp_fieldEl (off' := k * 2) (.tmp 131) rfl Tryd.underlying84 rfl (z := 1) (by kernel_rfl) (by decide) rfl) I0 ?_
 refine oA (sp_loadEl1 (X := intsA q.bad[k].1) (.tmp 132) rfl Tryd.underlying24 rfl ((eflat_get lenRw q.bad k 0 (by omega) (by decide)).trans rfl)) I0 ?_
 refine oA (sp_lenSl (.tmp 133) rfl Tryd.underlying24) I0 ?_
 refine oC (sp_eql rfl (dF hs21)) I0 I0 ?_
 refine oA (sp_move (.tmp 135) (bv false) rfl) I0 ?_
 refine gA (fB 3 (.tmp 3) rfl Tryd.underlying30 rfl 1 rfl) I0 ?_
 refine gB (lB (.box 30 (cPq q)) (slA 2 cRw q.bad) (.tmp 137) rfl Tryd.underlying28 rfl rfl) I0 rfl ?_
 refine gA (sp_move (.tmp 10) (iv k) rfl) I0 ?_
 refine gC (sp_indexSl (off := k * 2) (.tmp 138) (.tmp 139) rfl Tryd.underlying28 (by kernel_rfl) (by omega) (by omega) rfl) I0 I0 ?_
 refine gA (sp_fieldEl (off' := k * 2 + 1) (.tmp 140) rfl Tryd.underlying84 rfl (z := 1) (by kernel_rfl) (by decide) rfl) I0 ?_
 refine gA (sp_loadEl1 (X := iv q.bad[k].2) (.tmp 141) rfl Tryd.underlying3 rfl ((eflat_get lenRw q.bad k 1 (by omega) (by decide)).trans rfl)) I0 ?_
 refine t_opG rfl (sp_call (c := .func 101) (xs := #[.tmp 142, .const (.int .i64 1), .const (.int .i64 3)]) [] (ctr_b (within_c q.bad[k].2 1 3) hs22f) rfl (by kernel_rfl) rfl (Xs := [iv q.bad[k].2, iv 1, iv 3]) rfl rfl rfl) ⟨I0, I0, I0, I0, T0⟩ T0 T0 ?_
 refine gA (sp_not rfl rfl) I0 ?_
 refine oD (sp_pick (.tmp 136) (.const (.bool true)) (.tmp 144) false (bv true) (bv true) rfl) I0 I0 I0 ?_
 refine kN 181 [(1, .box 27 (cFm p)), (2, .box 30 (cPq q))] [(2, .box 1 0), (3, .box 2 0), (6, iv p.states.length), (10, iv k), (11, iv (setE p.states.length q.bad[k].1)), (114, bv true), (126, bv false), (145, bv true)] ?_
 refine t_then ?_
 refine t_condT rfl ?_
 refine tri_seq ?_
 refine tri_region ?_
 refine oA (sp_assign (.const (.int .i64 1)) (iv 1) rfl) I0 ?_
 refine kN 181 [(1, .box 27 (cFm p)), (2, .box 30 (cPq q))] [(2, .box 1 0), (3, .box 2 0), (4, iv 1), (6, iv p.states.length), (10, iv k), (11, iv (setE p.states.length q.bad[k].1)), (114, bv true), (126, bv false), (145, bv true)] ?_
 refine t_then ?_
 refine tri_ret ?_
 refine t_block_ret ?_
 refine t_then_ret ?_
 refine t_then_ret ?_
 refine t_block_ret ?_
 refine t_cut_ret ?_
 refine t_then_ret ?_
 refine tri_end1 Tryd.results51 (.tmp rfl) ?_
 exact congrArg (fun x : Int => AV.v (.int .i64 x)) ((((vp_2 hs1 hs2).trans ((v2_1 hs3 hs4).trans (v3_z hs5 SUB))).trans (bad_c ⟨(fun h => hs8 h.1), hs18⟩ (k := k) (by omega) hs0 (cnt_b hs20 hs21 hs22f) (by decide))).symm)
 refine tri_region ?_
 refine oA (sp_move (.tmp 11) (iv (setE p.states.length q.bad[k].1)) rfl) I0 ?_
 refine oC (sp_neq rfl (dF' hs20)) I0 I0 ?_
 refine kN 181 [(1, .box 27 (cFm p)), (2, .box 30 (cPq q))] [(2, .box 1 0), (3, .box 2 0), (6, iv p.states.length), (10, iv k), (11, iv (setE p.states.length q.bad[k].1)), (114, bv true), (126, bv true)] ?_
 refine t_then ?_
 refine t_condT rfl ?_
 refine tri_seq ?_
 refine tri_region ?_
 refine oA (sp_move (.tmp 11) (iv (setE p.states.length q.bad[k].1)) rfl) I0 ?_
 refine oA (sp_assign (.tmp 127) (iv (setE p.states.length q.bad[k].1)) rfl) I0 ?_
 refine kN 181 [(1, .box 27 (cFm p)), (2, .box 30 (cPq q))] [(2, .box 1 0), (3, .box 2 0), (4, iv (setE p.states.length q.bad[k].1)), (6, iv p.states.length), (10, iv k), (11, iv (setE p.states.length q.bad[k].1)), (114, bv true), (126, bv true)] ?_
 refine t_then ?_
 refine tri_ret ?_
 refine t_then_ret ?_
 refine t_block_ret ?_
 refine t_then_ret ?_
 refine t_then_ret ?_
 refine t_block_ret ?_
 refine t_cut_ret ?_
 refine t_then_ret ?_
 refine tri_end1 Tryd.results51 (.tmp rfl) ?_
 exact congrArg (fun x : Int => AV.v (.int .i64 x)) ((((vp_2 hs1 hs2).trans ((v2_1 hs3 hs4).trans (v3_z hs5 SUB))).trans (bad_c ⟨(fun h => hs8 h.1), hs18⟩ (k := k) (by omega) hs0 (cnt_s hs20) hs20)).symm)
 refine tri_region ?_
 refine oA (sp_move (.tmp 10) (iv k) rfl) I0 ?_
 refine oA (fB 3 (.tmp 3) rfl Tryd.underlying30 rfl 1 rfl) I0 ?_
 refine oB (lB (.box 30 (cPq q)) (slA 2 cRw q.bad) (.tmp 111) rfl Tryd.underlying28 rfl rfl) I0 rfl ?_
 refine oA (sp_lenSl (.tmp 112) rfl Tryd.underlying28) I0 ?_
 refine oC (sp_lss rfl (dF hs19)) I0 I0 ?_
 refine kN 181 [(1, .box 27 (cFm p)), (2, .box 30 (cPq q))] [(2, .box 1 0), (3, .box 2 0), (6, iv p.states.length), (10, iv k), (114, bv false)] ?_
 refine t_then ?_
 refine t_condF rfl ?_
 refine tri_exit ?_
 refine t_then_exit ?_
 refine t_then_exit ?_
 refine t_hit ?_
 exact t_meet (by have : k = q.bad.length := (by omega); subst this; exact hs0) (wk_keep _ _ rfl (by kernel_rfl) (by kernel_rfl))
 refine t_then ?_
 refine tri_seq ?_
 refine tri_seq ?_
 by_cases hs23 : 0 < ((q.adj.length : Nat) : Int)
 by_cases hs24 : p.top = 1
 refine tri_region ?_
 refine oA (fB 4 (.tmp 3) rfl Tryd.underlying30 rfl 1 rfl) I0 ?_
 refine oB (lB (.box 30 (cPq q)) (intsA q.adj) (.tmp 146) rfl Tryd.underlying24 rfl rfl) I0 rfl ?_
 refine oA (sp_lenSl (.tmp 147) rfl Tryd.underlying24) I0 ?_
 refine oC (sp_gtr rfl (dT hs23)) I0 I0 ?_
 refine oA (sp_move (.tmp 149) (bv true) rfl) I0 ?_
 refine gA (fB 1 (.tmp 2) rfl Tryd.underlying27 rfl 1 rfl) I0 ?_
 refine gB (lB (.box 27 (cFm p)) (iv p.top) (.tmp 151) rfl Tryd.underlying3 rfl rfl) I0 rfl ?_
 refine gC (sp_eql rfl (dT hs24)) I0 I0 ?_
 refine oD (sp_pick (.tmp 150) (.tmp 153) (.const (.bool false)) true (bv true) (bv false) rfl) I0 I0 I0 ?_
 refine kN 181 [(2, .box 30 (cPq q))] [(3, .box 2 0), (6, iv p.states.length), (154, bv true)] ?_
 refine t_then ?_
 refine t_condT rfl ?_
 refine tri_seq ?_
 refine tri_region ?_
 refine oA (sp_assign (.const (.int .i64 6)) (iv 6) rfl) I0 ?_
 refine kN 181 [(2, .box 30 (cPq q))] [(3, .box 2 0), (4, iv 6), (6, iv p.states.length)] ?_
 refine t_then ?_
 refine tri_ret ?_
 refine t_then_ret ?_
 refine tri_end1 Tryd.results51 (.tmp rfl) ?_
 exact congrArg (fun x : Int => AV.v (.int .i64 x)) ((((vp_2 hs1 hs2).trans ((v2_1 hs3 hs4).trans (v3_z hs5 SUB))).trans ((bad_z ⟨(fun h => hs8 h.1), hs18⟩ CNT).trans (adj_6 (by omega) hs24))).symm)
 refine tri_region ?_
 refine oA (fB 4 (.tmp 3) rfl Tryd.underlying30 rfl 1 rfl) I0 ?_
 refine oB (lB (.box 30 (cPq q)) (intsA q.adj) (.tmp 146) rfl Tryd.underlying24 rfl rfl) I0 rfl ?_
 refine oA (sp_lenSl (.tmp 147) rfl Tryd.underlying24) I0 ?_
 refine oC (sp_gtr rfl (dT hs23)) I0 I0 ?_
 refine oA (sp_move (.tmp 149) (bv true) rfl) I0 ?_
 refine gA (fB 1 (.tmp 2) rfl Tryd.underlying27 rfl 1 rfl) I0 ?_
 refine gB (lB (.box 27 (cFm p)) (iv p.top) (.tmp 151) rfl Tryd.underlying3 rfl rfl) I0 rfl ?_
 refine gC (sp_eql rfl (dF hs24)) I0 I0 ?_
 refine oD (sp_pick (.tmp 150) (.tmp 153) (.const (.bool false)) true (bv false) (bv false) rfl) I0 I0 I0 ?_
 refine kN 181 [(2, .box 30 (cPq q))] [(3, .box 2 0), (6, iv p.states.length), (154, bv false)] ?_
 refine t_then ?_
 refine t_condF rfl ?_
 refine tri_skip ?_
 refine t_then ?_
 refine tri_seq ?_
 refine tri_seq ?_
 by_cases hs25 : ((q.adj.length : Nat) : Int) = 2
 refine tri_region ?_
 refine oA (fB 4 (.tmp 3) rfl Tryd.underlying30 rfl 1 rfl) I0 ?_
 refine oB (lB (.box 30 (cPq q)) (intsA q.adj) (.tmp 155) rfl Tryd.underlying24 rfl rfl) I0 rfl ?_
 refine oA (sp_lenSl (.tmp 156) rfl Tryd.underlying24) I0 ?_
 refine oC (sp_neq rfl (dF' (show ¬ ((q.adj.length : Nat) : Int) = 0 by omega))) I0 I0 ?_
 refine oA (sp_move (.tmp 158) (bv true) rfl) I0 ?_
 refine gA (fB 4 (.tmp 3) rfl Tryd.underlying30 rfl 1 rfl) I0 ?_
 refine gB (lB (.box 30 (cPq q)) (intsA q.adj) (.tmp 160) rfl Tryd.underlying24 rfl rfl) I0 rfl ?_
 refine gA (sp_lenSl (.tmp 161) rfl Tryd.underlying24) I0 ?_
 refine gC (sp_neq rfl (dT' hs25)) I0 I0 ?_
 refine oD (sp_pick (.tmp 159) (.tmp 163) (.const (.bool false)) true (bv false) (bv false) rfl) I0 I0 I0 ?_
 refine kN 181 [(2, .box 30 (cPq q))] [(3, .box 2 0), (6, iv p.states.length), (164, bv false)] ?_
 refine t_then ?_
 refine t_condF rfl ?_
 refine tri_skip ?_
 refine t_then ?_
 refine tri_seq ?_
 refine tri_seq ?_
 refine tri_region ?_
 refine oA (sp_assign (.const (.int .i64 0)) (iv 0) rfl) I0 ?_
 refine kN 181 [(2, .box 30 (cPq q))] [(3, .box 2 0), (6, iv p.states.length), (12, iv 0)] ?_
 refine t_then ?_
 refine tri_block ?_
 refine tri_loop (σ := {k : Nat // k ≤ q.adj.length ∧ adjB p.states.length q.adj k = true}) (fun s => (ofL [(2, .box 30 (cPq q))], ofT 181 [(3, .box 2 0), (6, iv p.states.length), (12, iv s.1)])) (fun s => q.adj.length - s.1) ⟨0, Nat.zero_le _, rfl⟩ (wk_keep _ _ rfl (by kernel_rfl) (by kernel_rfl)) (fun s => ?_)
 obtain ⟨k, hk0, hs0⟩ := s
 show ETri J w0 (ofL [(2, .box 30 (cPq q))]) (ofT 181 [(3, .box 2 0), (6, iv p.states.length), (12, iv k)]) _
 refine tri_seq ?_
 refine tri_seq ?_
 by_cases hs26 : ((k : Nat) : Int) < ((q.adj.length : Nat) : Int)
 refine tri_region ?_
 refine oA (sp_move (.tmp 12) (iv k) rfl) I0 ?_
 refine oA (fB 4 (.tmp 3) rfl Tryd.underlying30 rfl 1 rfl) I0 ?_
 refine oB (lB (.box 30 (cPq q)) (intsA q.adj) (.tmp 166) rfl Tryd.underlying24 rfl rfl) I0 rfl ?_
 refine oA (sp_lenSl (.tmp 167) rfl Tryd.underlying24) I0 ?_
 refine oC (sp_lss rfl (dT hs26)) I0 I0 ?_
 refine kN 181 [(2, .box 30 (cPq q))] [(3, .box 2 0), (6, iv p.states.length), (12, iv k), (169, bv true)] ?_
 refine t_then ?_
 refine t_condT rfl ?_
 refine tri_skip ?_
 refine t_then ?_
 refine tri_seq ?_
 refine tri_block ?_
 refine tri_seq ?_
 by_cases hs27 : (inB 0 (((p.states.length : Nat) : Int) - 1) q.adj[k]) = true
 refine tri_region ?_
 refine oA (fB 4 (.tmp 3) rfl Tryd.underlying30 rfl 1 rfl) I0 ?_
 refine oB (lB (.box 30 (cPq q)) (intsA q.adj) (.tmp 172) rfl Tryd.underlying24 rfl rfl) I0 rfl ?_
 refine oA (sp_move (.tmp 12) (iv k) rfl) I0 ?_
 refine oC (sp_indexSl (off := k * 1) (.tmp 173) (.tmp 174) rfl Tryd.underlying24 (by kernel_rfl) (by omega) (by omega) rfl) I0 I0 ?_
 refine oA (sp_loadEl1 (X := iv q.adj[k]) (.tmp 175) rfl Tryd.underlying3 rfl (map_at1 q.adj (by omega))) I0 ?_
 refine oA (sp_move (.tmp 6) (iv p.states.length) rfl) I0 ?_
 refine oC (sp_sub (c := ((p.states.length : Nat) : Int) - 1) rfl (w64 (by omega) (by omega) (by omega))) I0 I0 ?_
 refine t_op rfl (sp_call (c := .func 101) (xs := #[.tmp 176, .const (.int .i64 0), .tmp 178]) [] (ctr_b (within_c q.adj[k] 0 (((p.states.length : Nat) : Int) - 1)) hs27) rfl (by kernel_rfl) rfl (Xs := [iv q.adj[k], iv 0, iv (((p.states.length : Nat) : Int) - 1)]) rfl rfl rfl) ⟨I0, I0, I0, I0, T0⟩ T0 T0 ?_
 refine oA (sp_not rfl rfl) I0 ?_
 refine kN 181 [(2, .box 30 (cPq q))] [(3, .box 2 0), (6, iv p.states.length), (12, iv k), (169, bv true), (180, bv false)] ?_
 refine t_then ?_
 refine t_condF rfl ?_
 refine tri_skip ?_
 refine t_block ?_
 refine t_then ?_
 refine tri_region ?_
 refine oA (sp_move (.tmp 12) (iv k) rfl) I0 ?_
 refine oC (sp_add (c := ((k + 1 : Nat) : Int)) rfl (w64 (by omega) (by omega) (by omega))) I0 I0 ?_
 refine oA (sp_assign (.tmp 171) (iv (k + 1 : Nat)) rfl) I0 ?_
 refine kN 181 [(2, .box 30 (cPq q))] [(3, .box 2 0), (6, iv p.states.length), (12, iv (k + 1 : Nat)), (169, bv true), (180, bv false)] ?_
 refine t_then ?_
 refine tri_again ⟨k + 1, by omega, adjB_succ (by omega) hs0 hs27⟩ (show q.adj.length - (k + 1) < q.adj.length - k by omega) ?_
 exact wk_keep _ _ rfl (by kernel_rfl) (by kernel_rfl)
 have hs27f : (inB 0 (((p.states.length : Nat) : Int) - 1) q.adj[k]) = false := by simpa using hs27
 refine tri_region ?_
 refine oA (fB 4 (.tmp 3) rfl Tryd.underlying30 rfl 1 rfl) I0 ?_
 refine oB (lB (.box 30 (cPq q)) (intsA q.adj) (.tmp 172) rfl Tryd.underlying24 rfl rfl) I0 rfl ?_
 refine oA (sp_move (.tmp 12) (iv k) rfl) I0 ?_
 refine oC (sp_indexSl (off := k * 1) (.tmp 173) (.tmp 174) rfl Tryd.underlying24 (by kernel_rfl) (by omega) (by omega) rfl) I0 I0 ?_
 refine oA (sp_loadEl1 (X := iv q.adj[k]) (.tmp 175) rfl Tryd.underlying3 rfl (map_at1 q.adj (by omega))) I0 ?_
 refine oA (sp_move (.tmp 6) (iv p.states.length) rfl) I0 ?_
 refine oC (sp_sub (c := ((p.states.length : Nat) : Int) - 1) rfl (w64 (by omega) (by omega) (by omega))) I0 I0 ?_
 refine t_op rfl (sp_call (c := .func 101) (xs := #[.tmp 176, .const (.int .i64 0), .tmp 178]) [] (ctr_b (within_c q.adj[k] 0 (((p.states.length : Nat) : Int) - 1)) hs27f) rfl (by kernel_rfl) rfl (Xs := [iv q.adj[k], iv 0, iv (((p.states.length : Nat) : Int) - 1)]) rfl rfl rfl) ⟨I0, I0, I0, I0, T0⟩ T0 T0 ?_
 refine oA (sp_not rfl rfl) I0 ?_
 refine kN 181 [(2, .box 30 (cPq q))] [(3, .box 2 0), (6, iv p.states.length), (12, iv k), (169, bv true), (180, bv true)] ?_
 refine t_then ?_
 refine t_condT rfl ?_
 refine tri_seq ?_
 refine tri_region ?_
 refine oA (sp_assign (.const (.int .i64 5)) (iv 5) rfl) I0 ?_
 refine kN 181 [(2, .box 30 (cPq q))] [(3, .box 2 0), (4, iv 5), (6, iv p.states.length), (12, iv k), (169, bv true), (180, bv true)] ?_
 refine t_then ?_
 refine tri_ret ?_
 refine t_block_ret ?_
 refine t_then_ret ?_
 refine t_then_ret ?_
 refine t_block_ret ?_
 refine t_then_ret ?_
 refine tri_end1 Tryd.results51 (.tmp rfl) ?_
 exact congrArg (fun x : Int => AV.v (.int .i64 x)) ((((vp_2 hs1 hs2).trans ((v2_1 hs3 hs4).trans (v3_z hs5 SUB))).trans ((bad_z ⟨(fun h => hs8 h.1), hs18⟩ CNT).trans (adj_5 (by omega) hs24 hs25 (k := k) (by omega) hs27f))).symm)
 refine tri_region ?_
 refine oA (sp_move (.tmp 12) (iv k) rfl) I0 ?_
 refine oA (fB 4 (.tmp 3) rfl Tryd.underlying30 rfl 1 rfl) I0 ?_
 refine oB (lB (.box 30 (cPq q)) (intsA q.adj) (.tmp 166) rfl Tryd.underlying24 rfl rfl) I0 rfl ?_
 refine oA (sp_lenSl (.tmp 167) rfl Tryd.underlying24) I0 ?_
 refine oC (sp_lss rfl (dF hs26)) I0 I0 ?_
 refine kN 181 [(2, .box 30 (cPq q))] [(3, .box 2 0), (6, iv p.states.length), (12, iv k), (169, bv false)] ?_
 refine t_then ?_
 refine t_condF rfl ?_
 refine tri_exit ?_
 refine t_then_exit ?_
 refine t_then_exit ?_
 refine t_hit ?_
 refine t_then ?_
 refine tri_seq ?_
 refine tri_region ?_
 refine oA (sp_assign (.const (.int .i64 0)) (iv 0) rfl) I0 ?_
 refine kN 181 [] [(4, iv 0)] ?_
 refine t_then ?_
 refine tri_ret ?_
 refine tri_end1 Tryd.results51 (.tmp rfl) ?_
 exact congrArg (fun x : Int => AV.v (.int .i64 x)) ((((vp_2 hs1 hs2).trans ((v2_1 hs3 hs4).trans (v3_z hs5 SUB))).trans ((bad_z ⟨(fun h => hs8 h.1), hs18⟩ CNT).trans (adj_k (by omega) hs24 hs25 (by have : k = q.adj.length := (by omega); subst this; exact hs0)))).symm)
 refine tri_region ?_
 refine oA (fB 4 (.tmp 3) rfl Tryd.underlying30 rfl 1 rfl) I0 ?_
 refine oB (lB (.box 30 (cPq q)) (intsA q.adj) (.tmp 155) rfl Tryd.underlying24 rfl rfl) I0 rfl ?_
 refine oA (sp_lenSl (.tmp 156) rfl Tryd.underlying24) I0 ?_
 refine oC (sp_neq rfl (dF' (show ¬ ((q.adj.length : Nat) : Int) = 0 by omega))) I0 I0 ?_
 refine oA (sp_move (.tmp 158) (bv true) rfl) I0 ?_
 refine gA (fB 4 (.tmp 3) rfl Tryd.underlying30 rfl 1 rfl) I0 ?_
 refine gB (lB (.box 30 (cPq q)) (intsA q.adj) (.tmp 160) rfl Tryd.underlying24 rfl rfl) I0 rfl ?_
 refine gA (sp_lenSl (.tmp 161) rfl Tryd.underlying24) I0 ?_
 refine gC (sp_neq rfl (dF' hs25)) I0 I0 ?_
 refine oD (sp_pick (.tmp 159) (.tmp 163) (.const (.bool false)) true (bv true) (bv false) rfl) I0 I0 I0 ?_
 refine kN 181 [(2, .box 30 (cPq q))] [(3, .box 2 0), (6, iv p.states.length), (164, bv true)] ?_
 refine t_then ?_
 refine t_condT rfl ?_
 refine tri_seq ?_
 refine tri_region ?_
 refine oA (sp_assign (.const (.int .i64 1)) (iv 1) rfl) I0 ?_
 refine kN 181 [(2, .box 30 (cPq q))] [(3, .box 2 0), (4, iv 1), (6, iv p.states.length)] ?_
 refine t_then ?_
 refine tri_ret ?_
 refine t_then_ret ?_
 refine tri_end1 Tryd.results51 (.tmp rfl) ?_
 exact congrArg (fun x : Int => AV.v (.int .i64 x)) ((((vp_2 hs1 hs2).trans ((v2_1 hs3 hs4).trans (v3_z hs5 SUB))).trans ((bad_z ⟨(fun h => hs8 h.1), hs18⟩ CNT).trans (adj_1 (by omega) hs24 hs25))).symm)
 refine tri_region ?_
 refine oA (fB 4 (.tmp 3) rfl Tryd.underlying30 rfl 1 rfl) I0 ?_
 refine oB (lB (.box 30 (cPq q)) (intsA q.adj) (.tmp 146) rfl Tryd.underlying24 rfl rfl) I0 rfl ?_
 refine oA (sp_lenSl (.tmp 147) rfl Tryd.underlying24) I0 ?_
 refine oC (sp_gtr rfl (dF hs23)) I0 I0 ?_
 refine oA (sp_move (.tmp 149) (bv false) rfl) I0 ?_
 refine t_skip rfl ?_
 refine t_skip rfl ?_
 refine t_skip rfl ?_
 refine oD (sp_pick (.tmp 150) (.tmp 153) (.const (.bool false)) false (.v (.tuple #[])) (bv false) rfl) I0 I0 I0 ?_
 refine kN 181 [(2, .box 30 (cPq q))] [(3, .box 2 0), (6, iv p.states.length), (154, bv false)] ?_
 refine t_then ?_
 refine t_condF rfl ?_
 refine tri_skip ?_
 refine t_then ?_
 refine tri_seq ?_
 refine tri_seq ?_
 refine tri_region ?_
 refine oA (fB 4 (.tmp 3) rfl Tryd.underlying30 rfl 1 rfl) I0 ?_
 refine oB (lB (.box 30 (cPq q)) (intsA q.adj) (.tmp 155) rfl Tryd.underlying24 rfl rfl) I0 rfl ?_
 refine oA (sp_lenSl (.tmp 156) rfl Tryd.underlying24) I0 ?_
 refine oC (sp_neq rfl (dT' (show ((q.adj.length : Nat) : Int) = 0 by omega))) I0 I0 ?_
 refine oA (sp_move (.tmp 158) (bv false) rfl) I0 ?_
 refine t_skip rfl ?_
 refine t_skip rfl ?_
 refine t_skip rfl ?_
 refine t_skip rfl ?_
 refine oD (sp_pick (.tmp 159) (.tmp 163) (.const (.bool false)) false (.v (.tuple #[])) (bv false) rfl) I0 I0 I0 ?_
 refine kN 181 [(2, .box 30 (cPq q))] [(3, .box 2 0), (6, iv p.states.length), (164, bv false)] ?_
 refine t_then ?_
 refine t_condF rfl ?_
 refine tri_skip ?_
 refine t_then ?_
 refine tri_seq ?_
 refine tri_seq ?_
 refine tri_region ?_
 refine oA (sp_assign (.const (.int .i64 0)) (iv 0) rfl) I0 ?_
 refine kN 181 [(2, .box 30 (cPq q))] [(3, .box 2 0), (6, iv p.states.length), (12, iv 0)] ?_
 refine t_then ?_
 refine tri_block ?_
 refine tri_loop (σ := {k : Nat // k ≤ q.adj.length ∧ adjB p.states.length q.adj k = true}) (fun s => (ofL [(2, .box 30 (cPq q))], ofT 181 [(3, .box 2 0), (6, iv p.states.length), (12, iv s.1)])) (fun s => q.adj.length - s.1) ⟨0, Nat.zero_le _, rfl⟩ (wk_keep _ _ rfl (by kernel_rfl) (by kernel_rfl)) (fun s => ?_)
 obtain ⟨k, hk0, hs0⟩ := s
 show ETri J w0 (ofL [(2, .box 30 (cPq q))]) (ofT 181 [(3, .box 2 0), (6, iv p.states.length), (12, iv k)]) _
 refine tri_seq ?_
 refine tri_seq ?_
 by_cases hs28 : ((k : Nat) : Int) < ((q.adj.length : Nat) : Int)
 refine tri_region ?_
 refine oA (sp_move (.tmp 12) (iv k) rfl) I0 ?_
 refine oA (fB 4 (.tmp 3) rfl Tryd.underlying30 rfl 1 rfl) I0 ?_
 refine oB (lB (.box 30 (cPq q)) (intsA q.adj) (.tmp 166) rfl Tryd.underlying24 rfl rfl) I0 rfl ?_
 refine oA (sp_lenSl (.tmp 167) rfl Tryd.underlying24) I0 ?_
 refine oC (sp_lss rfl (dT hs28)) I0 I0 ?_
 refine kN 181 [(2, .box 30 (cPq q))] [(3, .box 2 0), (6, iv p.states.length), (12, iv k), (169, bv true)] ?_
 refine t_then ?_
 refine t_condT rfl ?_
 refine tri_skip ?_
 refine t_then ?_
 refine tri_seq ?_
 refine tri_block ?_
 refine tri_seq ?_
 by_cases hs29 : (inB 0 (((p.states.length : Nat) : Int) - 1) q.adj[k]) = true
 refine tri_region ?_
 refine oA (fB 4 (.tmp 3) rfl Tryd.underlying30 rfl 1 rfl) I0 ?_
 refine oB (lB (.box 30 (cPq q)) (intsA q.adj) (.tmp 172) rfl Tryd.underlying24 rfl rfl) I0 rfl ?_
 refine oA (sp_move (.tmp 12) (iv k) rfl) I0 ?_
 refine oC (sp_indexSl (off := k * 1) (.tmp 173) (.tmp 174) rfl Tryd.underlying24 (by kernel_rfl) (by omega) (by omega) rfl) I0 I0 ?_
 refine oA (sp_loadEl1 (X := iv q.adj[k]) (.tmp 175) rfl Tryd.underlying3 rfl (map_at1 q.adj (by omega))) I0 ?_
 refine oA (sp_move (.tmp 6) (iv p.states.length) rfl) I0 ?_
 refine oC (sp_sub (c := ((p.states.length : Nat) : Int) - 1) rfl (w64 (by omega) (by omega) (by omega))) I0 I0 ?_
 refine t_op rfl (sp_call (c := .func 101) (xs := #[.tmp 176, .const (.int .i64 0), .tmp 178]) [] (ctr_b (within_c q.adj[k] 0 (((p.states.length : Nat) : Int) - 1)) hs29) rfl (by kernel_rfl) rfl (Xs := [iv q.adj[k], iv 0, iv (((p.states.length : Nat) : Int) - 1)]) rfl rfl rfl) ⟨I0, I0, I0, I0, T0⟩ T0 T0 ?_
 refine oA (sp_not rfl rfl) I0 ?_
 refine kN 181 [(2, .box 30 (cPq q))] [(3, .box 2 0), (6, iv p.states.length), (12, iv k), (169, bv true), (180, bv false)] ?_
 refine t_then ?_
 refine t_condF rfl ?_
 refine tri_skip ?_
 refine t_block ?_
 refine t_then ?_
 refine tri_region ?_
 refine oA (sp_move (.tmp 12) (iv k) rfl) I0 ?_
 refine oC (sp_add (c := ((k + 1 : Nat) : Int)) rfl (w64 (by omega) (by omega) (by omega))) I0 I0 ?_
 refine oA (sp_assign (.tmp 171) (iv (k + 1 : Nat)) rfl) I0 ?_
 refine kN 181 [(2, .box 30 (cPq q))] [(3, .box 2 0), (6, iv p.states.length), (12, iv (k + 1 : Nat)), (169, bv true), (180, bv false)] ?_
 refine t_then ?_
 refine tri_again ⟨k + 1, by omega, adjB_succ (by omega) hs0 hs29⟩ (show q.adj.length - (k + 1) < q.adj.length - k by omega) ?_
 exact wk_keep _ _ rfl (by kernel_rfl) (by kernel_rfl)
 have hs29f : (inB 0 (((p.states.length : Nat) : Int) - 1) q.adj[k]) = false := by simpa using hs29
 refine tri_region ?_
 refine oA (fB 4 (.tmp 3) rfl Tryd.underlying30 rfl 1 rfl) I0 ?_
 refine oB (lB (.box 30 (cPq q)) (intsA q.adj) (.tmp 172) rfl Tryd.underlying24 rfl rfl) I0 rfl ?_
 refine oA (sp_move (.tmp 12) (iv k) rfl) I0 ?_
 refine oC (sp_indexSl (off := k * 1) (.tmp 173) (.tmp 174) rfl Tryd.underlying24 (by kernel_rfl) (by omega) (by omega) rfl) I0 I0 ?_
 refine oA (sp_loadEl1 (X := iv q.adj[k]) (.tmp 175) rfl Tryd.underlying3 rfl (map_at1 q.adj (by omega))) I0 ?_
 refine oA (sp_move (.tmp 6) (iv p.states.length) rfl) I0 ?_
 refine oC (sp_sub (c := ((p.states.length : Nat) : Int) - 1) rfl (w64 (by omega) (by omega) (by omega))) I0 I0 ?_
 refine t_op rfl (sp_call (c := .func 101) (xs := #[.tmp 176, .const (.int .i64 0), .tmp 178]) [] (ctr_b (within_c q.adj[k] 0 (((p.states.length : Nat) : Int) - 1)) hs29f) rfl (by kernel_rfl) rfl (Xs := [iv q.adj[k], iv 0, iv (((p.states.length : Nat) : Int) - 1)]) rfl rfl rfl) ⟨I0, I0, I0, I0, T0⟩ T0 T0 ?_
 refine oA (sp_not rfl rfl) I0 ?_
 refine kN 181 [(2, .box 30 (cPq q))] [(3, .box 2 0), (6, iv p.states.length), (12, iv k), (169, bv true), (180, bv true)] ?_
 refine t_then ?_
 refine t_condT rfl ?_
 refine tri_seq ?_
 refine tri_region ?_
 refine oA (sp_assign (.const (.int .i64 5)) (iv 5) rfl) I0 ?_
 refine kN 181 [(2, .box 30 (cPq q))] [(3, .box 2 0), (4, iv 5), (6, iv p.states.length), (12, iv k), (169, bv true), (180, bv true)] ?_
 refine t_then ?_
 refine tri_ret ?_
 refine t_block_ret ?_
 refine t_then_ret ?_
 refine t_then_ret ?_
 refine t_block_ret ?_
 refine t_then_ret ?_
 refine tri_end1 Tryd.results51 (.tmp rfl) ?_
 exact False.elim (by omega)
 refine tri_region ?_
 refine oA (sp_move (.tmp 12) (iv k) rfl) I0 ?_
 refine oA (fB 4 (.tmp 3) rfl Tryd.underlying30 rfl 1 rfl) I0 ?_
 refine oB (lB (.box 30 (cPq q)) (intsA q.adj) (.tmp 166) rfl Tryd.underlying24 rfl rfl) I0 rfl ?_
 refine oA (sp_lenSl (.tmp 167) rfl Tryd.underlying24) I0 ?_
 refine oC (sp_lss rfl (dF hs28)) I0 I0 ?_
 refine kN 181 [(2, .box 30 (cPq q))] [(3, .box 2 0), (6, iv p.states.length), (12, iv k), (169, bv false)] ?_
 refine t_then ?_
 refine t_condF rfl ?_
 refine tri_exit ?_
 refine t_then_exit ?_
 refine t_then_exit ?_
 refine t_hit ?_
 refine t_then ?_
 refine tri_seq ?_
 refine tri_region ?_
 refine oA (sp_assign (.const (.int .i64 0)) (iv 0) rfl) I0 ?_
 refine kN 181 [] [(4, iv 0)] ?_
 refine t_then ?_
 refine tri_ret ?_
 refine tri_end1 Tryd.results51 (.tmp rfl) ?_
 exact congrArg (fun x : Int => AV.v (.int .i64 x)) ((((vp_2 hs1 hs2).trans ((v2_1 hs3 hs4).trans (v3_z hs5 SUB))).trans ((bad_z ⟨(fun h => hs8 h.1), hs18⟩ CNT).trans (adj_0 (by omega)))).symm)
 refine tri_region ?_
 refine oA (sp_move (.tmp 7) (iv (setE p.states.length q.start)) rfl) I0 ?_
 refine oC (sp_neq rfl (dF' hs5)) I0 I0 ?_
 refine kN 181 [(1, .box 27 (cFm p)), (2, .box 30 (cPq q))] [(2, .box 1 0), (3, .box 2 0), (4, iv 0), (6, iv p.states.length), (7, iv (setE p.states.length q.start)), (64, bv true)] ?_
 refine t_then ?_
 refine t_condT rfl ?_
 refine tri_seq ?_
 refine tri_region ?_
 refine oA (sp_move (.tmp 7) (iv (setE p.states.length q.start)) rfl) I0 ?_
 refine oA (sp_assign (.tmp 65) (iv (setE p.states.length q.start)) rfl) I0 ?_
 refine kN 181 [(1, .box 27 (cFm p)), (2, .box 30 (cPq q))] [(2, .box 1 0), (3, .box 2 0), (4, iv (setE p.states.length q.start)), (6, iv p.states.length)] ?_
 refine t_then ?_
 refine tri_ret ?_
 refine t_then_ret ?_
 refine tri_end1 Tryd.results51 (.tmp rfl) ?_
 exact congrArg (fun x : Int => AV.v (.int .i64 x)) (((vp_2 hs1 hs2).trans ((v2_1 hs3 hs4).trans (v3_s hs5))).symm)
 by_cases hs30 : q.kind = 2
 refine tri_region ?_
 refine oA (fB 1 (.tmp 3) rfl Tryd.underlying30 rfl 1 rfl) I0 ?_
 refine oB (lB (.box 30 (cPq q)) (iv q.kind) (.tmp 25) rfl Tryd.underlying3 rfl rfl) I0 rfl ?_
 refine oC (sp_neq rfl (dF' hs3)) I0 I0 ?_
 refine oA (sp_move (.tmp 27) (bv true) rfl) I0 ?_
 refine gA (fB 1 (.tmp 3) rfl Tryd.underlying30 rfl 1 rfl) I0 ?_
 refine gB (lB (.box 30 (cPq q)) (iv q.kind) (.tmp 29) rfl Tryd.underlying3 rfl rfl) I0 rfl ?_
 refine gC (sp_neq rfl (dT' hs30)) I0 I0 ?_
 refine oD (sp_pick (.tmp 28) (.tmp 31) (.const (.bool false)) true (bv false) (bv false) rfl) I0 I0 I0 ?_
 refine kN 181 [(1, .box 27 (cFm p)), (2, .box 30 (cPq q))] [(2, .box 1 0), (3, .box 2 0), (4, iv 0), (6, iv p.states.length), (32, bv false)] ?_
 refine t_then ?_
 refine t_condF rfl ?_
 refine tri_skip ?_
 refine t_then ?_
 refine tri_seq ?_
 refine tri_seq ?_
 by_cases hs31 : 0 < ((q.bad.length : Nat) : Int)
 refine tri_region ?_
 refine oA (fB 1 (.tmp 3) rfl Tryd.underlying30 rfl 1 rfl) I0 ?_
 refine oB (lB (.box 30 (cPq q)) (iv q.kind) (.tmp 33) rfl Tryd.underlying3 rfl rfl) I0 rfl ?_
 refine oC (sp_eql rfl (dF hs3)) I0 I0 ?_
 refine oA (sp_move (.tmp 35) (bv false) rfl) I0 ?_
 refine t_skip rfl ?_
 refine t_skip rfl ?_
 refine t_skip rfl ?_
 refine t_skip rfl ?_
 refine oD (sp_pick (.tmp 36) (.tmp 40) (.const (.bool false)) false (.v (.tuple #[])) (bv false) rfl) I0 I0 I0 ?_
 refine oA (sp_move (.tmp 41) (bv false) rfl) I0 ?_
 refine gA (fB 1 (.tmp 3) rfl Tryd.underlying30 rfl 1 rfl) I0 ?_
 refine gB (lB (.box 30 (cPq q)) (iv q.kind) (.tmp 43) rfl Tryd.underlying3 rfl rfl) I0 rfl ?_
 refine gC (sp_eql rfl (dT hs30)) I0 I0 ?_
 refine gA (sp_move (.tmp 45) (bv true) rfl) I0 ?_
 refine gA (fB 3 (.tmp 3) rfl Tryd.underlying30 rfl 1 rfl) I0 ?_
 refine gB (lB (.box 30 (cPq q)) (slA 2 cRw q.bad) (.tmp 47) rfl Tryd.underlying28 rfl rfl) I0 rfl ?_
 refine gA (sp_lenSl (.tmp 48) rfl Tryd.underlying28) I0 ?_
 refine gC (sp_gtr rfl (dT hs31)) I0 I0 ?_
 refine gA (sp_move (.tmp 50) (bv true) rfl) I0 ?_
 refine t_skip rfl ?_
 refine t_skip rfl ?_
 refine t_skip rfl ?_
 refine t_skip rfl ?_
 refine gD (sp_pick (.tmp 51) (.const (.bool true)) (.tmp 55) true (bv true) (.v (.tuple #[])) rfl) I0 I0 I0 ?_
 refine gD (sp_pick (.tmp 46) (.tmp 56) (.const (.bool false)) true (bv true) (bv false) rfl) I0 I0 I0 ?_
 refine oD (sp_pick (.tmp 42) (.const (.bool true)) (.tmp 57) false (bv true) (bv true) rfl) I0 I0 I0 ?_
 refine kN 181 [(1, .box 27 (cFm p)), (2, .box 30 (cPq q))] [(2, .box 1 0), (3, .box 2 0), (4, iv 0), (6, iv p.states.length), (58, bv true)] ?_
 refine t_then ?_
 refine t_condT rfl ?_
 refine tri_seq ?_
 refine tri_region ?_
 refine oA (sp_assign (.const (.int .i64 1)) (iv 1) rfl) I0 ?_
 refine kN 181 [(1, .box 27 (cFm p)), (2, .box 30 (cPq q))] [(2, .box 1 0), (3, .box 2 0), (4, iv 1), (6, iv p.states.length)] ?_
 refine t_then ?_
 refine tri_ret ?_
 refine t_then_ret ?_
 refine tri_end1 Tryd.results51 (.tmp rfl) ?_
 exact congrArg (fun x : Int => AV.v (.int .i64 x)) (((vp_2 hs1 hs2).trans (v2_b hs3 hs30 hs31)).symm)
 by_cases hs32 : 0 < ((q.adj.length : Nat) : Int)
 refine tri_region ?_
 refine oA (fB 1 (.tmp 3) rfl Tryd.underlying30 rfl 1 rfl) I0 ?_
 refine oB (lB (.box 30 (cPq q)) (iv q.kind) (.tmp 33) rfl Tryd.underlying3 rfl rfl) I0 rfl ?_
 refine oC (sp_eql rfl (dF hs3)) I0 I0 ?_
 refine oA (sp_move (.tmp 35) (bv false) rfl) I0 ?_
 refine t_skip rfl ?_
 refine t_skip rfl ?_
 refine t_skip rfl ?_
 refine t_skip rfl ?_
 refine oD (sp_pick (.tmp 36) (.tmp 40) (.const (.bool false)) false (.v (.tuple #[])) (bv false) rfl) I0 I0 I0 ?_
 refine oA (sp_move (.tmp 41) (bv false) rfl) I0 ?_
 refine gA (fB 1 (.tmp 3) rfl Tryd.underlying30 rfl 1 rfl) I0 ?_
 refine gB (lB (.box 30 (cPq q)) (iv q.kind) (.tmp 43) rfl Tryd.underlying3 rfl rfl) I0 rfl ?_
 refine gC (sp_eql rfl (dT hs30)) I0 I0 ?_
 refine gA (sp_move (.tmp 45) (bv true) rfl) I0 ?_
 refine gA (fB 3 (.tmp 3) rfl Tryd.underlying30 rfl 1 rfl) I0 ?_
 refine gB (lB (.box 30 (cPq q)) (slA 2 cRw q.bad) (.tmp 47) rfl Tryd.underlying28 rfl rfl) I0 rfl ?_
 refine gA (sp_lenSl (.tmp 48) rfl Tryd.underlying28) I0 ?_
 refine gC (sp_gtr rfl (dF hs31)) I0 I0 ?_
 refine gA (sp_move (.tmp 50) (bv false) rfl) I0 ?_
 refine gA (fB 4 (.tmp 3) rfl Tryd.underlying30 rfl 1 rfl) I0 ?_
 refine gB (lB (.box 30 (cPq q)) (intsA q.adj) (.tmp 52) rfl Tryd.underlying24 rfl rfl) I0 rfl ?_
 refine gA (sp_lenSl (.tmp 53) rfl Tryd.underlying24) I0 ?_
 refine gC (sp_gtr rfl (dT hs32)) I0 I0 ?_
 refine gD (sp_pick (.tmp 51) (.const (.bool true)) (.tmp 55) false (bv true) (bv true) rfl) I0 I0 I0 ?_
 refine gD (sp_pick (.tmp 46) (.tmp 56) (.const (.bool false)) true (bv true) (bv false) rfl) I0 I0 I0 ?_
 refine oD (sp_pick (.tmp 42) (.const (.bool true)) (.tmp 57) false (bv true) (bv true) rfl) I0 I0 I0 ?_
 refine kN 181 [(1, .box 27 (cFm p)), (2, .box 30 (cPq q))] [(2, .box 1 0), (3, .box 2 0), (4, iv 0), (6, iv p.states.length), (58, bv true)] ?_
 refine t_then ?_
 refine t_condT rfl ?_
 refine tri_seq ?_
 refine tri_region ?_
 refine oA (sp_assign (.const (.int .i64 1)) (iv 1) rfl) I0 ?_
 refine kN 181 [(1, .box 27 (cFm p)), (2, .box 30 (cPq q))] [(2, .box 1 0), (3, .box 2 0), (4, iv 1), (6, iv p.states.length)] ?_
 refine t_then ?_
 refine tri_ret ?_
 refine t_then_ret ?_
 refine tri_end1 Tryd.results51 (.tmp rfl) ?_
 exact congrArg (fun x : Int => AV.v (.int .i64 x)) (((vp_2 hs1 hs2).trans (v2_a hs3 hs30 hs31 hs32)).symm)
 refine tri_region ?_
 refine oA (fB 1 (.tmp 3) rfl Tryd.underlying30 rfl 1 rfl) I0 ?_
 refine oB (lB (.box 30 (cPq q)) (iv q.kind) (.tmp 33) rfl Tryd.underlying3 rfl rfl) I0 rfl ?_
 refine oC (sp_eql rfl (dF hs3)) I0 I0 ?_
 refine oA (sp_move (.tmp 35) (bv false) rfl) I0 ?_
 refine t_skip rfl ?_
 refine t_skip rfl ?_
 refine t_skip rfl ?_
 refine t_skip rfl ?_
 refine oD (sp_pick (.tmp 36) (.tmp 40) (.const (.bool false)) false (.v (.tuple #[])) (bv false) rfl) I0 I0 I0 ?_
 refine oA (sp_move (.tmp 41) (bv false) rfl) I0 ?_
 refine gA (fB 1 (.tmp 3) rfl Tryd.underlying30 rfl 1 rfl) I0 ?_
 refine gB (lB (.box 30 (cPq q)) (iv q.kind) (.tmp 43) rfl Tryd.underlying3 rfl rfl) I0 rfl ?_
 refine gC (sp_eql rfl (dT hs30)) I0 I0 ?_
 refine gA (sp_move (.tmp 45) (bv true) rfl) I0 ?_
 refine gA (fB 3 (.tmp 3) rfl Tryd.underlying30 rfl 1 rfl) I0 ?_
 refine gB (lB (.box 30 (cPq q)) (slA 2 cRw q.bad) (.tmp 47) rfl Tryd.underlying28 rfl rfl) I0 rfl ?_
 refine gA (sp_lenSl (.tmp 48) rfl Tryd.underlying28) I0 ?_
 refine gC (sp_gtr rfl (dF hs31)) I0 I0 ?_
 refine gA (sp_move (.tmp 50) (bv false) rfl) I0 ?_
 refine gA (fB 4 (.tmp 3) rfl Tryd.underlying30 rfl 1 rfl) I0 ?_
 refine gB (lB (.box 30 (cPq q)) (intsA q.adj) (.tmp 52) rfl Tryd.underlying24 rfl rfl) I0 rfl ?_
 refine gA (sp_lenSl (.tmp 53) rfl Tryd.underlying24) I0 ?_
 refine gC (sp_gtr rfl (dF hs32)) I0 I0 ?_
 refine gD (sp_pick (.tmp 51) (.const (.bool true)) (.tmp 55) false (bv true) (bv false) rfl) I0 I0 I0 ?_
 refine gD (sp_pick (.tmp 46) (.tmp 56) (.const (.bool false)) true (bv false) (bv false) rfl) I0 I0 I0 ?_
 refine oD (sp_pick (.tmp 42) (.const (.bool true)) (.tmp 57) false (bv true) (bv false) rfl) I0 I0 I0 ?_
 refine kN 181 [(1, .box 27 (cFm p)), (2, .box 30 (cPq q))] [(2, .box 1 0), (3, .box 2 0), (4, iv 0), (6, iv p.states.length), (58, bv false)] ?_
 refine t_then ?_
 refine t_condF rfl ?_
 refine tri_skip ?_
 refine t_then ?_
 refine tri_seq ?_
 refine tri_seq ?_
 refine tri_region ?_
 refine oA (fB 2 (.tmp 3) rfl Tryd.underlying30 rfl 1 rfl) I0 ?_
 refine oB (lB (.box 30 (cPq q)) (intsA q.start) (.tmp 59) rfl Tryd.underlying24 rfl rfl) I0 rfl ?_
 refine oA (sp_move (.tmp 6) (iv p.states.length) rfl) I0 ?_
 refine oD (sp_call (c := .func 99) (xs := #[.tmp 60, .tmp 61]) [] (rSet_c p.states.length HP.lstates q.start HQ.start) rfl (by kernel_rfl) rfl (Xs := [intsA q.start, iv p.states.length]) rfl rfl rfl) I0 I0 I0 ?_
 refine oA (sp_assign (.tmp 62) (iv (setE p.states.length q.start)) rfl) I0 ?_
 refine kN 181 [(1, .box 27 (cFm p)), (2, .box 30 (cPq q))] [(2, .box 1 0), (3, .box 2 0), (4, iv 0), (6, iv p.states.length), (7, iv (setE p.states.length q.start))] ?_
 refine t_then ?_
 refine tri_seq ?_
 by_cases hs33 : setE p.states.length q.start = 0
 refine tri_region ?_
 refine oA (sp_move (.tmp 7) (iv (setE p.states.length q.start)) rfl) I0 ?_
 refine oC (sp_neq rfl (dT' hs33)) I0 I0 ?_
 refine kN 181 [(1, .box 27 (cFm p)), (2, .box 30 (cPq q))] [(2, .box 1 0), (3, .box 2 0), (4, iv 0), (6, iv p.states.length), (7, iv (setE p.states.length q.start)), (64, bv false)] ?_
 refine t_then ?_
 refine t_condF rfl ?_
 refine tri_skip ?_
 refine t_then ?_
 refine tri_seq ?_
 refine tri_seq ?_
 refine tri_region ?_
 refine oA (sp_assign (.const (.int .i64 0)) (iv 0) rfl) I0 ?_
 refine kN 181 [(1, .box 27 (cFm p)), (2, .box 30 (cPq q))] [(2, .box 1 0), (3, .box 2 0), (4, iv 0), (6, iv p.states.length), (8, iv 0)] ?_
 refine t_then ?_
 refine t_cut (subB p.init q.start q.start.length = true) (ofL [(1, .box 27 (cFm p)), (2, .box 30 (cPq q))]) (ofT 181 [(2, .box 1 0), (3, .box 2 0), (6, iv p.states.length)]) ?_ (fun SUB => ?_)
 refine tri_block ?_
 refine tri_loop (σ := {k : Nat // k ≤ q.start.length ∧ subB p.init q.start k = true}) (fun s => (ofL [(1, .box 27 (cFm p)), (2, .box 30 (cPq q))], ofT 181 [(2, .box 1 0), (3, .box 2 0), (6, iv p.states.length), (8, iv s.1)])) (fun s => q.start.length - s.1) ⟨0, Nat.zero_le _, rfl⟩ (wk_keep _ _ rfl (by kernel_rfl) (by kernel_rfl)) (fun s => ?_)
 obtain ⟨k, hk0, hs0⟩ := s
 show ETri J w0 (ofL [(1, .box 27 (cFm p)), (2, .box 30 (cPq q))]) (ofT 181 [(2, .box 1 0), (3, .box 2 0), (6, iv p.states.length), (8, iv k)]) _
 refine tri_seq ?_
 refine tri_seq ?_
 by_cases hs34 : ((k : Nat) : Int) < ((q.start.length : Nat) : Int)
 refine tri_region ?_
 refine oA (sp_move (.tmp 8) (iv k) rfl) I0 ?_
 refine oA (fB 2 (.tmp 3) rfl Tryd.underlying30 rfl 1 rfl) I0 ?_
 refine oB (lB (.box 30 (cPq q)) (intsA q.start) (.tmp 67) rfl Tryd.underlying24 rfl rfl) I0 rfl ?_
 refine oA (sp_lenSl (.tmp 68) rfl Tryd.underlying24) I0 ?_
 refine oC (sp_lss rfl (dT hs34)) I0 I0 ?_
 refine kN 181 [(1, .box 27 (cFm p)), (2, .box 30 (cPq q))] [(2, .box 1 0), (3, .box 2 0), (6, iv p.states.length), (8, iv k), (70, bv true)] ?_
 refine t_then ?_
 refine t_condT rfl ?_
 refine tri_skip ?_
 refine t_then ?_
 refine tri_seq ?_
 refine tri_block ?_
 refine tri_seq ?_
 by_cases hs35 : (decide (q.start[k] ∈ p.init)) = true
 refine tri_draw [⟨[(.tmp 2, .box 1 0)], [], .box 1 7, .no⟩, ⟨[(.tmp 73, .box 1 7)], [(1, .box 27 (cFm p))], intsA p.init, .no⟩, ⟨[(.tmp 3, .box 2 0)], [], .box 2 2, .no⟩, ⟨[(.tmp 75, .box 2 2)], [(2, .box 30 (cPq q))], intsA q.start, .no⟩, ⟨[(.tmp 8, iv k)], [], iv k, .no⟩, ⟨[(.tmp 76, intsA q.start), (.tmp 77, iv k)], [], .el (q.start.map iv) (k * 1), .no⟩, ⟨[(.tmp 78, .el (q.start.map iv) (k * 1))], [], iv q.start[k], .no⟩, ⟨[(.func 100, .v (.func (.func 100) #[] #[])), (.tmp 74, intsA p.init), (.tmp 79, iv q.start[k])], [], bv true, .no⟩, ⟨[(.tmp 80, bv true)], [], bv false, .no⟩] (by kernel_rfl) (by kernel_rfl) ?_
 refine ⟨app_yes rfl (fB 7 (.tmp 2) rfl Tryd.underlying27 rfl 1 rfl) ⟨I0, T0⟩ T0 T0, ?_⟩
 refine ⟨app_yes rfl (lB (.box 27 (cFm p)) (intsA p.init) (.tmp 73) rfl Tryd.underlying24 rfl rfl) ⟨I0, T0⟩ ⟨rfl, T0⟩ T0, ?_⟩
 refine ⟨app_yes rfl (fB 2 (.tmp 3) rfl Tryd.underlying30 rfl 1 rfl) ⟨I0, T0⟩ T0 T0, ?_⟩
 refine ⟨app_yes rfl (lB (.box 30 (cPq q)) (intsA q.start) (.tmp 75) rfl Tryd.underlying24 rfl rfl) ⟨I0, T0⟩ ⟨rfl, T0⟩ T0, ?_⟩
 refine ⟨app_yes rfl (sp_move (.tmp 8) (iv k) rfl) ⟨I0, T0⟩ T0 T0, ?_⟩
 refine ⟨app_yes rfl (sp_indexSl (off := k * 1) (.tmp 76) (.tmp 77) rfl Tryd.underlying24 (by kernel_rfl) (by omega) (by omega) rfl) ⟨I0, I0, T0⟩ T0 T0, ?_⟩
 refine ⟨app_yes rfl (sp_loadEl1 (X := iv q.start[k]) (.tmp 78) rfl Tryd.underlying3 rfl (map_at1 q.start (by omega))) ⟨I0, T0⟩ T0 T0, ?_⟩
 refine ⟨app_yes rfl (sp_call (c := .func 100) (xs := #[.tmp 74, .tmp 79]) [] (ctr_b (has_c p.init q.start[k] HP.linit) hs35) rfl (by kernel_rfl) rfl (Xs := [intsA p.init, iv q.start[k]]) rfl rfl rfl) ⟨I0, I0, I0, T0⟩ T0 T0, ?_⟩
 refine ⟨app_yes rfl (sp_not rfl rfl) ⟨I0, T0⟩ T0 T0, ?_⟩
 show ETri J w0 _ _ _
 refine kW 181 [(1, .box 27 (cFm p)), (2, .box 30 (cPq q))] [(2, .box 1 0), (3, .box 2 0), (6, iv p.states.length), (8, iv k), (70, bv true), (81, bv false)] ?_
 refine t_then ?_
 refine t_condF rfl ?_
 refine tri_skip ?_
 refine t_block ?_
 refine t_then ?_
 refine tri_region ?_
 refine oA (sp_move (.tmp 8) (iv k) rfl) I0 ?_
 refine oC (sp_add (c := ((k + 1 : Nat) : Int)) rfl (w64 (by omega) (by omega) (by omega))) I0 I0 ?_
 refine oA (sp_assign (.tmp 72) (iv (k + 1 : Nat)) rfl) I0 ?_
 refine kN 181 [(1, .box 27 (cFm p)), (2, .box 30 (cPq q))] [(2, .box 1 0), (3, .box 2 0), (6, iv p.states.length), (8, iv (k + 1 : Nat)), (70, bv true), (81, bv false)] ?_
 refine t_then ?_
 refine tri_again ⟨k + 1, by omega, subB_succ (by omega) hs0 hs35⟩ (show q.start.length - (k + 1) < q.start.length - k by omega) ?_
 exact wk_keep _ _ rfl (by kernel_rfl) (by kernel_rfl)
 have hs35f : (decide (q.start[k] ∈ p.init)) = false := by simpa using hs35
 refine tri_draw [⟨[(.tmp 2, .box 1 0)], [], .box 1 7, .no⟩, ⟨[(.tmp 73, .box 1 7)], [(1, .box 27 (cFm p))], intsA p.init, .no⟩, ⟨[(.tmp 3, .box 2 0)], [], .box 2 2, .no⟩, ⟨[(.tmp 75, .box 2 2)], [(2, .box 30 (cPq q))], intsA q.start, .no⟩, ⟨[(.tmp 8, iv k)], [], iv k, .no⟩, ⟨[(.tmp 76, intsA q.start), (.tmp 77, iv k)], [], .el (q.start.map iv) (k * 1), .no⟩, ⟨[(.tmp 78, .el (q.start.map iv) (k * 1))], [], iv q.start[k], .no⟩, ⟨[(.func 100, .v (.func (.func 100) #[] #[])), (.tmp 74, intsA p.init), (.tmp 79, iv q.start[k])], [], bv false, .no⟩, ⟨[(.tmp 80, bv false)], [], bv true, .no⟩] (by kernel_rfl) (by kernel_rfl) ?_
 refine ⟨app_yes rfl (fB 7 (.tmp 2) rfl Tryd.underlying27 rfl 1 rfl) ⟨I0, T0⟩ T0 T0, ?_⟩
 refine ⟨app_yes rfl (lB (.box 27 (cFm p)) (intsA p.init) (.tmp 73) rfl Tryd.underlying24 rfl rfl) ⟨I0, T0⟩ ⟨rfl, T0⟩ T0, ?_⟩
 refine ⟨app_yes rfl (fB 2 (.tmp 3) rfl Tryd.underlying30 rfl 1 rfl) ⟨I0, T0⟩ T0 T0, ?_⟩
 refine ⟨app_yes rfl (lB (.box 30 (cPq q)) (intsA q.start) (.tmp 75) rfl Tryd.underlying24 rfl rfl) ⟨I0, T0⟩ ⟨rfl, T0⟩ T0, ?_⟩
 refine ⟨app_yes rfl (sp_move (.tmp 8) (iv k) rfl) ⟨I0, T0⟩ T0 T0, ?_⟩
 refine ⟨app_yes rfl (sp_indexSl (off := k * 1) (.tmp 76) (.tmp 77) rfl Tryd.underlying24 (by kernel_rfl) (by omega) (by omega) rfl) ⟨I0, I0, T0⟩ T0 T0, ?_⟩
 refine ⟨app_yes rfl (sp_loadEl1 (X := iv q.start[k]) (.tmp 78) rfl Tryd.underlying3 rfl (map_at1 q.start (by omega))) ⟨I0, T0⟩ T0 T0, ?_⟩
 refine ⟨app_yes rfl (sp_call (c := .func 100) (xs := #[.tmp 74, .tmp 79]) [] (ctr_b (has_c p.init q.start[k] HP.linit) hs35f) rfl (by kernel_rfl) rfl (Xs := [intsA p.init, iv q.start[k]]) rfl rfl rfl) ⟨I0, I0, I0, T0⟩ T0 T0, ?_⟩
 refine ⟨app_yes rfl (sp_not rfl rfl) ⟨I0, T0⟩ T0 T0, ?_⟩
 show ETri J w0 _ _ _
 refine kW 181 [(1, .box 27 (cFm p)), (2, .box 30 (cPq q))] [(2, .box 1 0), (3, .box 2 0), (6, iv p.states.length), (8, iv k), (70, bv true), (81, bv true)] ?_
 refine t_then ?_
 refine t_condT rfl ?_
 refine tri_seq ?_
 refine tri_region ?_
 refine oA (sp_assign (.const (.int .i64 5)) (iv 5) rfl) I0 ?_
 refine kN 181 [(1, .box 27 (cFm p)), (2, .box 30 (cPq q))] [(2, .box 1 0), (3, .box 2 0), (4, iv 5), (6, iv p.states.length), (8, iv k), (70, bv true), (81, bv true)] ?_
 refine t_then ?_
 refine tri_ret ?_
 refine t_block_ret ?_
 refine t_then_ret ?_
 refine t_then_ret ?_
 refine t_block_ret ?_
 refine t_cut_ret ?_
 refine t_then_ret ?_
 refine tri_end1 Tryd.results51 (.tmp rfl) ?_
 exact congrArg (fun x : Int => AV.v (.int .i64 x)) (((vp_2 hs1 hs2).trans ((v2_2 hs3 hs30 hs31 hs32).trans (v3_i hs33 (k := k) (by omega) hs35f))).symm)
 refine tri_region ?_
 refine oA (sp_move (.tmp 8) (iv k) rfl) I0 ?_
 refine oA (fB 2 (.tmp 3) rfl Tryd.underlying30 rfl 1 rfl) I0 ?_
 refine oB (lB (.box 30 (cPq q)) (intsA q.start) (.tmp 67) rfl Tryd.underlying24 rfl rfl) I0 rfl ?_
 refine oA (sp_lenSl (.tmp 68) rfl Tryd.underlying24) I0 ?_
 refine oC (sp_lss rfl (dF hs34)) I0 I0 ?_
 refine kN 181 [(1, .box 27 (cFm p)), (2, .box 30 (cPq q))] [(2, .box 1 0), (3, .box 2 0), (6, iv p.states.length), (8, iv k), (70, bv false)] ?_
 refine t_then ?_
 refine t_condF rfl ?_
 refine tri_exit ?_
 refine t_then_exit ?_
 refine t_then_exit ?_
 refine t_hit ?_
 exact t_meet (by have : k = q.start.length := (by omega); subst this; exact hs0) (wk_keep _ _ rfl (by kernel_rfl) (by kernel_rfl))
 refine t_then ?_
 refine tri_seq ?_
 refine tri_seq ?_
 refine tri_region ?_
 refine oA (fB 1 (.tmp 3) rfl Tryd.underlying30 rfl 1 rfl) I0 ?_
 refine oB (lB (.box 30 (cPq q)) (iv q.kind) (.tmp 82) rfl Tryd.underlying3 rfl rfl) I0 rfl ?_
 refine oC (sp_eql rfl (dT hs30)) I0 I0 ?_
 refine kN 181 [(1, .box 27 (cFm p)), (2, .box 30 (cPq q))] [(2, .box 1 0), (3, .box 2 0), (6, iv p.states.length), (84, bv true)] ?_
 refine t_then ?_
 refine t_condT rfl ?_
 refine tri_seq ?_
 refine tri_seq ?_
 refine tri_region ?_
 refine oA (fB 5 (.tmp 3) rfl Tryd.underlying30 rfl 1 rfl) I0 ?_
 refine oB (lB (.box 30 (cPq q)) (intsA q.goal) (.tmp 85) rfl Tryd.underlying24 rfl rfl) I0 rfl ?_
 refine oA (sp_move (.tmp 6) (iv p.states.length) rfl) I0 ?_
 refine oD (sp_call (c := .func 99) (xs := #[.tmp 86, .tmp 87]) [] (rSet_c p.states.length HP.lstates q.goal HQ.goal) rfl (by kernel_rfl) rfl (Xs := [intsA q.goal, iv p.states.length]) rfl rfl rfl) I0 I0 I0 ?_
 refine oA (sp_assign (.tmp 88) (iv (setE p.states.length q.goal)) rfl) I0 ?_
 refine kN 181 [(1, .box 27 (cFm p)), (2, .box 30 (cPq q))] [(2, .box 1 0), (3, .box 2 0), (6, iv p.states.length), (9, iv (setE p.states.length q.goal))] ?_
 refine t_then ?_
 refine tri_seq ?_
 by_cases hs36 : setE p.states.length q.goal = 0
 refine tri_region ?_
 refine oA (sp_move (.tmp 9) (iv (setE p.states.length q.goal)) rfl) I0 ?_
 refine oC (sp_neq rfl (dT' hs36)) I0 I0 ?_
 refine kN 181 [(1, .box 27 (cFm p)), (2, .box 30 (cPq q))] [(2, .box 1 0), (3, .box 2 0), (6, iv p.states.length), (9, iv (setE p.states.length q.goal)), (90, bv false)] ?_
 refine t_then ?_
 refine t_condF rfl ?_
 refine tri_skip ?_
 refine t_then ?_
 refine tri_seq ?_
 refine tri_seq ?_
 by_cases hs37 : ((q.goal.length : Nat) : Int) = 0
 refine tri_region ?_
 refine oA (fB 5 (.tmp 3) rfl Tryd.underlying30 rfl 1 rfl) I0 ?_
 refine oB (lB (.box 30 (cPq q)) (intsA q.goal) (.tmp 92) rfl Tryd.underlying24 rfl rfl) I0 rfl ?_
 refine oA (sp_lenSl (.tmp 93) rfl Tryd.underlying24) I0 ?_
 refine oC (sp_eql rfl (dT hs37)) I0 I0 ?_
 refine kN 181 [(1, .box 27 (cFm p)), (2, .box 30 (cPq q))] [(2, .box 1 0), (3, .box 2 0), (6, iv p.states.length), (95, bv true)] ?_
 refine t_then ?_
 refine t_condT rfl ?_
 refine tri_seq ?_
 refine tri_region ?_
 refine oA (sp_assign (.const (.int .i64 1)) (iv 1) rfl) I0 ?_
 refine kN 181 [(1, .box 27 (cFm p)), (2, .box 30 (cPq q))] [(2, .box 1 0), (3, .box 2 0), (4, iv 1), (6, iv p.states.length)] ?_
 refine t_then ?_
 refine tri_ret ?_
 refine t_then_ret ?_
 refine t_then_ret ?_
 refine tri_end1 Tryd.results51 (.tmp rfl) ?_
 exact congrArg (fun x : Int => AV.v (.int .i64 x)) ((((vp_2 hs1 hs2).trans ((v2_2 hs3 hs30 hs31 hs32).trans (v3_z hs33 SUB))).trans (some_l hs37)).symm)
 refine tri_region ?_
 refine oA (fB 5 (.tmp 3) rfl Tryd.underlying30 rfl 1 rfl) I0 ?_
 refine oB (lB (.box 30 (cPq q)) (intsA q.goal) (.tmp 92) rfl Tryd.underlying24 rfl rfl) I0 rfl ?_
 refine oA (sp_lenSl (.tmp 93) rfl Tryd.underlying24) I0 ?_
 refine oC (sp_eql rfl (dF hs37)) I0 I0 ?_
 refine kN 181 [(1, .box 27 (cFm p)), (2, .box 30 (cPq q))] [(2, .box 1 0), (3, .box 2 0), (6, iv p.states.length), (95, bv false)] ?_
 refine t_then ?_
 refine t_condF rfl ?_
 refine tri_skip ?_
 refine t_then ?_
 refine tri_seq ?_
 refine tri_region ?_
 refine oA (sp_assign (.const (.int .i64 0)) (iv 0) rfl) I0 ?_
 refine kN 181 [(1, .box 27 (cFm p)), (2, .box 30 (cPq q))] [(2, .box 1 0), (3, .box 2 0), (4, iv 0), (6, iv p.states.length)] ?_
 refine t_then ?_
 refine tri_ret ?_
 refine t_then_ret ?_
 refine tri_end1 Tryd.results51 (.tmp rfl) ?_
 exact congrArg (fun x : Int => AV.v (.int .i64 x)) ((((vp_2 hs1 hs2).trans ((v2_2 hs3 hs30 hs31 hs32).trans (v3_z hs33 SUB))).trans (some_0 hs36 hs37)).symm)
 refine tri_region ?_
 refine oA (sp_move (.tmp 9) (iv (setE p.states.length q.goal)) rfl) I0 ?_
 refine oC (sp_neq rfl (dF' hs36)) I0 I0 ?_
 refine kN 181 [(1, .box 27 (cFm p)), (2, .box 30 (cPq q))] [(2, .box 1 0), (3, .box 2 0), (6, iv p.states.length), (9, iv (setE p.states.length q.goal)), (90, bv true)] ?_
 refine t_then ?_
 refine t_condT rfl ?_
 refine tri_seq ?_
 refine tri_region ?_
 refine oA (sp_move (.tmp 9) (iv (setE p.states.length q.goal)) rfl) I0 ?_
 refine oA (sp_assign (.tmp 91) (iv (setE p.states.length q.goal)) rfl) I0 ?_
 refine kN 181 [(1, .box 27 (cFm p)), (2, .box 30 (cPq q))] [(2, .box 1 0), (3, .box 2 0), (4, iv (setE p.states.length q.goal)), (6, iv p.states.length)] ?_
 refine t_then ?_
 refine tri_ret ?_
 refine t_then_ret ?_
 refine t_then_ret ?_
 refine tri_end1 Tryd.results51 (.tmp rfl) ?_
 exact congrArg (fun x : Int => AV.v (.int .i64 x)) ((((vp_2 hs1 hs2).trans ((v2_2 hs3 hs30 hs31 hs32).trans (v3_z hs33 SUB))).trans (some_e hs36)).symm)
 refine tri_region ?_
 refine oA (sp_move (.tmp 7) (iv (setE p.states.length q.start)) rfl) I0 ?_
 refine oC (sp_neq rfl (dF' hs33)) I0 I0 ?_
 refine kN 181 [(1, .box 27 (cFm p)), (2, .box 30 (cPq q))] [(2, .box 1 0), (3, .box 2 0), (4, iv 0), (6, iv p.states.length), (7, iv (setE p.states.length q.start)), (64, bv true)] ?_
 refine t_then ?_
 refine t_condT rfl ?_
 refine tri_seq ?_
 refine tri_region ?_
 refine oA (sp_move (.tmp 7) (iv (setE p.states.length q.start)) rfl) I0 ?_
 refine oA (sp_assign (.tmp 65) (iv (setE p.states.length q.start)) rfl) I0 ?_
 refine kN 181 [(1, .box 27 (cFm p)), (2, .box 30 (cPq q))] [(2, .box 1 0), (3, .box 2 0), (4, iv (setE p.states.length q.start)), (6, iv p.states.length)] ?_
 refine t_then ?_
 refine tri_ret ?_
 refine t_then_ret ?_
 refine tri_end1 Tryd.results51 (.tmp rfl) ?_
 exact congrArg (fun x : Int => AV.v (.int .i64 x)) (((vp_2 hs1 hs2).trans ((v2_2 hs3 hs30 hs31 hs32).trans (v3_s hs33))).symm)
 refine tri_region ?_
 refine oA (fB 1 (.tmp 3) rfl Tryd.underlying30 rfl 1 rfl) I0 ?_
 refine oB (lB (.box 30 (cPq q)) (iv q.kind) (.tmp 25) rfl Tryd.underlying3 rfl rfl) I0 rfl ?_
 refine oC (sp_neq rfl (dF' hs3)) I0 I0 ?_
 refine oA (sp_move (.tmp 27) (bv true) rfl) I0 ?_
 refine gA (fB 1 (.tmp 3) rfl Tryd.underlying30 rfl 1 rfl) I0 ?_
 refine gB (lB (.box 30 (cPq q)) (iv q.kind) (.tmp 29) rfl Tryd.underlying3 rfl rfl) I0 rfl ?_
 refine gC (sp_neq rfl (dF' hs30)) I0 I0 ?_
 refine oD (sp_pick (.tmp 28) (.tmp 31) (.const (.bool false)) true (bv true) (bv false) rfl) I0 I0 I0 ?_
 refine kN 181 [(1, .box 27 (cFm p)), (2, .box 30 (cPq q))] [(2, .box 1 0), (3, .box 2 0), (4, iv 0), (6, iv p.states.length), (32, bv true)] ?_
 refine t_then ?_
 refine t_condT rfl ?_
 refine tri_seq ?_
 refine tri_region ?_
 refine oA (sp_assign (.const (.int .i64 1)) (iv 1) rfl) I0 ?_
 refine kN 181 [(1, .box 27 (cFm p)), (2, .box 30 (cPq q))] [(2, .box 1 0), (3, .box 2 0), (4, iv 1), (6, iv p.states.length)] ?_
 refine t_then ?_
 refine tri_ret ?_
 refine t_then_ret ?_
 refine tri_end1 Tryd.results51 (.tmp rfl) ?_
 exact congrArg (fun x : Int => AV.v (.int .i64 x)) (((vp_2 hs1 hs2).trans (v2_k hs3 hs30)).symm)
 have hs2f : (nameB q.nm.toList) = false := by simpa using hs2
 refine tri_region ?_
 refine oA (fB 0 (.tmp 3) rfl Tryd.underlying30 rfl 1 rfl) I0 ?_
 refine oB (lB (.box 30 (cPq q)) (sv q.nm) (.tmp 21) rfl Tryd.underlying9 rfl rfl) I0 rfl ?_
 refine oC (sp_call (c := .func 98) (xs := #[.tmp 22]) [] (ctr_b (rValidName_c q.nm HQ.nm) hs2f) rfl (by kernel_rfl) rfl (Xs := [sv q.nm]) rfl rfl rfl) I0 I0 ?_
 refine oA (sp_not rfl rfl) I0 ?_
 refine kN 181 [(1, .box 27 (cFm p)), (2, .box 30 (cPq q))] [(2, .box 1 0), (3, .box 2 0), (4, iv 0), (6, iv p.states.length), (24, bv true)] ?_
 refine t_then ?_
 refine t_condT rfl ?_
 refine tri_seq ?_
 refine tri_region ?_
 refine oA (sp_assign (.const (.int .i64 2)) (iv 2) rfl) I0 ?_
 refine kN 181 [(1, .box 27 (cFm p)), (2, .box 30 (cPq q))] [(2, .box 1 0), (3, .box 2 0), (4, iv 2), (6, iv p.states.length)] ?_
 refine t_then ?_
 refine tri_ret ?_
 refine t_then_ret ?_
 refine tri_end1 Tryd.results51 (.tmp rfl) ?_
 exact congrArg (fun x : Int => AV.v (.int .i64 x)) ((vp_n hs1 hs2f).symm)
 refine tri_region ?_
 refine oA (sp_move (.tmp 5) (iv (valE p)) rfl) I0 ?_
 refine oC (sp_neq rfl (dF' hs1)) I0 I0 ?_
 refine kN 181 [(1, .box 27 (cFm p)), (2, .box 30 (cPq q))] [(2, .box 1 0), (3, .box 2 0), (4, iv 0), (5, iv (valE p)), (16, bv true)] ?_
 refine t_then ?_
 refine t_condT rfl ?_
 refine tri_seq ?_
 refine tri_region ?_
 refine oA (sp_move (.tmp 5) (iv (valE p)) rfl) I0 ?_
 refine oA (sp_assign (.tmp 17) (iv (valE p)) rfl) I0 ?_
 refine kN 181 [(1, .box 27 (cFm p)), (2, .box 30 (cPq q))] [(2, .box 1 0), (3, .box 2 0), (4, iv (valE p))] ?_
 refine t_then ?_
 refine tri_ret ?_
 refine t_then_ret ?_
 refine tri_end1 Tryd.results51 (.tmp rfl) ?_
 exact congrArg (fun x : Int => AV.v (.int .i64 x)) ((vp_v hs1).symm)
end Go.Proofs.YtpadmggccpgajaaDoor
