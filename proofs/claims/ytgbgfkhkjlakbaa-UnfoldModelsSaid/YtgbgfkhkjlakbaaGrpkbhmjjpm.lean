import Derived.Test.YtgbgfkhkjlakbaaGrppephbbfd
set_option linter.all false
namespace Go.Proofs.Ytgbgfkhkjlakbaa
open Go.RowKit Go.Deep
variable {J : World → Prop}
set_option linter.unusedSimpArgs false in
set_option linter.unusedVariables false in
set_option maxRecDepth 100000 in
set_option maxHeartbeats 6400000 in
theorem rrule_c {q : Fm} (HQ : FmOk q) {i : Nat} (hi : i < q.rules.length) : Ctr Try.prog J 90 [.agg (cFm q), iv i] (iv (rruleE q i q.rules[i])) := by
 have HR := HQ.rules q.rules[i] (List.getElem_mem hi)
 have l1 := HQ.lstates
 have l2 := HQ.lmsgs
 have l3 := HQ.lvals
 have l4 := HQ.lrules
 have l5 := HR.lresp
 have l6 := HR.lguards
 refine ctr_of_tri Try.func90 rfl (by intro X hX; simp only [List.mem_cons, List.not_mem_nil, or_false] at hX; rcases hX with rfl | rfl; exact plain_agg (plain_fm q); exact .v _) (n := 276) rfl (by simp) (fun w0 => ?_)
 refine kW 276 [] [(0, .agg (cFm q)), (1, iv i)] ?_
 refine tri_seq ?_
 refine tri_region ?_
 refine t_op rfl (sp_box (X := .agg (cFm q)) (k := 1) (.tmp 0) rfl rfl) ⟨I0, T0⟩ T0 rfl ?_
 refine oA (sp_assign (.const (.int .i64 0)) (iv 0) rfl) I0 ?_
 refine kN 276 [(1, .box 27 (cFm q))] [(1, iv i), (2, .box 1 0), (4, iv 0)] ?_
 refine t_then ?_
 refine tri_seq ?_
 refine tri_draw [⟨[(.tmp 2, .box 1 0)], [], .box 1 9, .no⟩, ⟨[(.tmp 18, .box 1 9)], [(1, .box 27 (cFm q))], slA 18 cRu q.rules, .no⟩, ⟨[(.tmp 1, iv i)], [], iv i, .no⟩, ⟨[(.tmp 19, slA 18 cRu q.rules), (.tmp 20, iv i)], [], .el (q.rules.flatMap cRu) (i * 18), .no⟩, ⟨[(.tmp 21, .el (q.rules.flatMap cRu) (i * 18))], [], .agg (cRu q.rules[i]), .no⟩, ⟨[(.tmp 2, .box 1 0)], [], .box 1 2, .no⟩, ⟨[(.tmp 23, .box 1 2)], [(1, .box 27 (cFm q))], strsA q.states, .no⟩, ⟨[(.tmp 24, strsA q.states)], [], iv q.states.length, .no⟩, ⟨[], [], .box 2 0, .new 2 (.box 59 [sv (⟨#[]⟩), iv 0, iv 0, iv 0, iv 0, iv 0, .v (.slice none 0 0), .v (.slice none 0 0), .v (.slice none 0 0), .v (.slice none 0 0), iv 0, iv 0, .v (.slice none 0 0), iv 0, .v (.slice none 0 0), .v (.slice none 0 0), .v (.slice none 0 0), iv 0])⟩, ⟨[(.tmp 5, .box 2 0), (.tmp 22, .agg (cRu q.rules[i]))], [(2, .box 59 [sv (⟨#[]⟩), iv 0, iv 0, iv 0, iv 0, iv 0, .v (.slice none 0 0), .v (.slice none 0 0), .v (.slice none 0 0), .v (.slice none 0 0), iv 0, iv 0, .v (.slice none 0 0), iv 0, .v (.slice none 0 0), .v (.slice none 0 0), .v (.slice none 0 0), iv 0])], .v undef, .st 2 (.box 59 (cRu q.rules[i]))⟩, ⟨[(.tmp 25, iv q.states.length)], [], iv q.states.length, .no⟩] (by kernel_rfl) (by kernel_rfl) ?_
 refine ⟨app_yes rfl (fB 9 (.tmp 2) rfl Try.underlying27 rfl 1 rfl) ⟨I0, T0⟩ T0 T0, ?_⟩
 refine ⟨app_yes rfl (lB (.box 27 (cFm q)) (slA 18 cRu q.rules) (.tmp 18) rfl Try.underlying25 rfl rfl) ⟨I0, T0⟩ ⟨rfl, T0⟩ T0, ?_⟩
 refine ⟨app_yes rfl (sp_move (.tmp 1) (iv i) rfl) ⟨I0, T0⟩ T0 T0, ?_⟩
 refine ⟨app_yes rfl (sp_indexSl (off := i * 18) (.tmp 19) (.tmp 20) rfl Try.underlying25 (by kernel_rfl) (by omega) (by omega) rfl) ⟨I0, I0, T0⟩ T0 T0, ?_⟩
 refine ⟨app_yes rfl (sp_loadElS (z := 18) (.tmp 21) rfl Try.underlying59 rfl (by kernel_rfl) (flat_take lenRu q.rules i (by omega)) rfl) ⟨I0, T0⟩ T0 T0, ?_⟩
 refine ⟨app_yes rfl (fB 2 (.tmp 2) rfl Try.underlying27 rfl 1 rfl) ⟨I0, T0⟩ T0 T0, ?_⟩
 refine ⟨app_yes rfl (lB (.box 27 (cFm q)) (strsA q.states) (.tmp 23) rfl Try.underlying22 rfl rfl) ⟨I0, T0⟩ ⟨rfl, T0⟩ T0, ?_⟩
 refine ⟨app_yes rfl (sp_lenSl (.tmp 24) rfl Try.underlying22) ⟨I0, T0⟩ T0 T0, ?_⟩
 refine ⟨app_yes rfl (sp_alloc (z := .agg #[.string (⟨#[]⟩), .int .i64 0, .int .i64 0, .int .i64 0, .int .i64 0, .int .i64 0, .slice none 0 0, .slice none 0 0, .slice none 0 0, .slice none 0 0, .int .i64 0, .int .i64 0, .slice none 0 0, .int .i64 0, .slice none 0 0, .slice none 0 0, .slice none 0 0, .int .i64 0]) (k := 2) rfl (by kernel_rfl)) T0 T0 rfl, ?_⟩
 refine ⟨app_yes rfl (sp_storeBox (T0 := 59) (X := .agg (cRu q.rules[i])) (cs := [sv (⟨#[]⟩), iv 0, iv 0, iv 0, iv 0, iv 0, .v (.slice none 0 0), .v (.slice none 0 0), .v (.slice none 0 0), .v (.slice none 0 0), iv 0, iv 0, .v (.slice none 0 0), iv 0, .v (.slice none 0 0), .v (.slice none 0 0), .v (.slice none 0 0), iv 0]) (ds := cRu q.rules[i]) (z := 18) (.tmp 5) (.tmp 22) rfl (by kernel_rfl) (by kernel_rfl) (by kernel_rfl) (of_decide_eq_true (by kernel_rfl)) (by kernel_rfl)) ⟨I0, I0, T0⟩ ⟨rfl, T0⟩ rfl, ?_⟩
 refine ⟨app_yes rfl (sp_assign (.tmp 25) (iv q.states.length) rfl) ⟨I0, T0⟩ T0 T0, ?_⟩
 show ETri J w0 _ _ _
 refine kW 276 [(1, .box 27 (cFm q)), (2, .box 59 (cRu q.rules[i]))] [(1, iv i), (2, .box 1 0), (4, iv 0), (5, .box 2 0), (6, iv q.states.length)] ?_
 refine t_then ?_
 refine tri_seq ?_
 refine tri_seq ?_
 by_cases hs1 : (nameB q.rules[i].nm.toList) = true
 refine tri_region ?_
 refine oA (fB 0 (.tmp 5) rfl Try.underlying59 rfl 1 rfl) I0 ?_
 refine oB (lB (.box 59 (cRu q.rules[i])) (sv q.rules[i].nm) (.tmp 26) rfl Try.underlying9 rfl rfl) I0 rfl ?_
 refine oC (sp_call (c := .func 66) (xs := #[.tmp 27]) [] (ctr_b (rValidName_c q.rules[i].nm HR.nm) hs1) rfl (by kernel_rfl) rfl (Xs := [sv q.rules[i].nm]) rfl rfl rfl) I0 I0 ?_
 refine oA (sp_not rfl rfl) I0 ?_
 refine kN 276 [(1, .box 27 (cFm q)), (2, .box 59 (cRu q.rules[i]))] [(1, iv i), (2, .box 1 0), (4, iv 0), (5, .box 2 0), (6, iv q.states.length), (29, bv false)] ?_
 refine t_then ?_
 refine t_condF rfl ?_
 refine tri_skip ?_
 refine t_then ?_
 refine tri_seq ?_
 refine tri_seq ?_
 refine tri_region ?_
 refine oA (sp_assign (.const (.int .i64 0)) (iv 0) rfl) I0 ?_
 refine kN 276 [(1, .box 27 (cFm q)), (2, .box 59 (cRu q.rules[i]))] [(1, iv i), (2, .box 1 0), (4, iv 0), (5, .box 2 0), (6, iv q.states.length), (7, iv 0)] ?_
 refine t_then ?_
 refine t_cut (hasR (q.rules.take i) q.rules[i].nm = false) (ofL [(1, .box 27 (cFm q)), (2, .box 59 (cRu q.rules[i]))]) (ofT 276 [(2, .box 1 0), (5, .box 2 0), (6, iv q.states.length)]) ?_ (fun HNO => ?_)
 refine tri_block ?_
 refine tri_loop (σ := {k : Nat // k ≤ i ∧ hasR (q.rules.take k) q.rules[i].nm = false}) (fun s => (ofL [(1, .box 27 (cFm q)), (2, .box 59 (cRu q.rules[i]))], ofT 276 [(1, iv i), (2, .box 1 0), (5, .box 2 0), (6, iv q.states.length), (7, iv s.1)])) (fun s => i - s.1) ⟨0, Nat.zero_le _, rfl⟩ (wk_keep _ _ rfl (by kernel_rfl) (by kernel_rfl)) (fun s => ?_)
 obtain ⟨k, hk0, hs0⟩ := s
 show ETri J w0 (ofL [(1, .box 27 (cFm q)), (2, .box 59 (cRu q.rules[i]))]) (ofT 276 [(1, iv i), (2, .box 1 0), (5, .box 2 0), (6, iv q.states.length), (7, iv k)]) _
 refine tri_seq ?_
 refine tri_seq ?_
 by_cases hs2 : ((k : Nat) : Int) < ((i : Nat) : Int)
 refine tri_region ?_
 refine oA (sp_move (.tmp 7) (iv k) rfl) I0 ?_
 refine oA (sp_move (.tmp 1) (iv i) rfl) I0 ?_
 refine oC (sp_lss rfl (dT hs2)) I0 I0 ?_
 refine kN 276 [(1, .box 27 (cFm q)), (2, .box 59 (cRu q.rules[i]))] [(1, iv i), (2, .box 1 0), (5, .box 2 0), (6, iv q.states.length), (7, iv k), (32, bv true)] ?_
 refine t_then ?_
 refine t_condT rfl ?_
 refine tri_skip ?_
 refine t_then ?_
 refine tri_seq ?_
 refine tri_block ?_
 refine tri_seq ?_
 by_cases hs3 : (q.rules[k].nm.toList == q.rules[i].nm.toList) = true
 refine tri_draw [⟨[(.tmp 2, .box 1 0)], [], .box 1 9, .no⟩, ⟨[(.tmp 35, .box 1 9)], [(1, .box 27 (cFm q))], slA 18 cRu q.rules, .no⟩, ⟨[(.tmp 7, iv k)], [], iv k, .no⟩, ⟨[(.tmp 36, slA 18 cRu q.rules), (.tmp 37, iv k)], [], .el (q.rules.flatMap cRu) (k * 18), .no⟩, ⟨[(.tmp 38, .el (q.rules.flatMap cRu) (k * 18))], [], .el (q.rules.flatMap cRu) (k * 18), .no⟩, ⟨[(.tmp 39, .el (q.rules.flatMap cRu) (k * 18))], [], sv q.rules[k].nm, .no⟩, ⟨[(.tmp 5, .box 2 0)], [], .box 2 0, .no⟩, ⟨[(.tmp 41, .box 2 0)], [(2, .box 59 (cRu q.rules[i]))], sv q.rules[i].nm, .no⟩, ⟨[(.tmp 40, sv q.rules[k].nm), (.tmp 42, sv q.rules[i].nm)], [], bv true, .no⟩] (by kernel_rfl) (by kernel_rfl) ?_
 refine ⟨app_yes rfl (fB 9 (.tmp 2) rfl Try.underlying27 rfl 1 rfl) ⟨I0, T0⟩ T0 T0, ?_⟩
 refine ⟨app_yes rfl (lB (.box 27 (cFm q)) (slA 18 cRu q.rules) (.tmp 35) rfl Try.underlying25 rfl rfl) ⟨I0, T0⟩ ⟨rfl, T0⟩ T0, ?_⟩
 refine ⟨app_yes rfl (sp_move (.tmp 7) (iv k) rfl) ⟨I0, T0⟩ T0 T0, ?_⟩
 refine ⟨app_yes rfl (sp_indexSl (off := k * 18) (.tmp 36) (.tmp 37) rfl Try.underlying25 (by kernel_rfl) (by omega) (by omega) rfl) ⟨I0, I0, T0⟩ T0 T0, ?_⟩
 refine ⟨app_yes rfl (sp_fieldEl (off' := k * 18) (.tmp 38) rfl Try.underlying59 rfl (z := 1) (by kernel_rfl) (by decide) rfl) ⟨I0, T0⟩ T0 T0, ?_⟩
 refine ⟨app_yes rfl (sp_loadEl1 (X := sv q.rules[k].nm) (.tmp 39) rfl Try.underlying9 rfl ((eflat_get lenRu q.rules k 0 (by omega) (by decide)).trans rfl)) ⟨I0, T0⟩ T0 T0, ?_⟩
 refine ⟨app_yes rfl (fB 0 (.tmp 5) rfl Try.underlying59 rfl 1 rfl) ⟨I0, T0⟩ T0 T0, ?_⟩
 refine ⟨app_yes rfl (lB (.box 59 (cRu q.rules[i])) (sv q.rules[i].nm) (.tmp 41) rfl Try.underlying9 rfl rfl) ⟨I0, T0⟩ ⟨rfl, T0⟩ T0, ?_⟩
 refine ⟨app_yes rfl (sp_seql rfl hs3) ⟨I0, I0, T0⟩ T0 T0, ?_⟩
 show ETri J w0 _ _ _
 refine kW 276 [(1, .box 27 (cFm q)), (2, .box 59 (cRu q.rules[i]))] [(1, iv i), (2, .box 1 0), (5, .box 2 0), (6, iv q.states.length), (7, iv k), (32, bv true), (43, bv true)] ?_
 refine t_then ?_
 refine t_condT rfl ?_
 refine tri_seq ?_
 refine tri_region ?_
 refine oA (sp_assign (.const (.int .i64 2)) (iv 2) rfl) I0 ?_
 refine kN 276 [(1, .box 27 (cFm q)), (2, .box 59 (cRu q.rules[i]))] [(1, iv i), (2, .box 1 0), (4, iv 2), (5, .box 2 0), (6, iv q.states.length), (7, iv k), (32, bv true), (43, bv true)] ?_
 refine t_then ?_
 refine tri_ret ?_
 refine t_block_ret ?_
 refine t_then_ret ?_
 refine t_then_ret ?_
 refine t_block_ret ?_
 refine t_cut_ret ?_
 refine t_then_ret ?_
 refine tri_end1 Try.results90 (.tmp rfl) ?_
 exact congrArg (fun x : Int => AV.v (.int .i64 x)) ((rruleE_nm (.inr (hasR_take (k := k) (by omega) hi hs3))).symm)
 have hs3f : (q.rules[k].nm.toList == q.rules[i].nm.toList) = false := by simpa using hs3
 refine tri_draw [⟨[(.tmp 2, .box 1 0)], [], .box 1 9, .no⟩, ⟨[(.tmp 35, .box 1 9)], [(1, .box 27 (cFm q))], slA 18 cRu q.rules, .no⟩, ⟨[(.tmp 7, iv k)], [], iv k, .no⟩, ⟨[(.tmp 36, slA 18 cRu q.rules), (.tmp 37, iv k)], [], .el (q.rules.flatMap cRu) (k * 18), .no⟩, ⟨[(.tmp 38, .el (q.rules.flatMap cRu) (k * 18))], [], .el (q.rules.flatMap cRu) (k * 18), .no⟩, ⟨[(.tmp 39, .el (q.rules.flatMap cRu) (k * 18))], [], sv q.rules[k].nm, .no⟩, ⟨[(.tmp 5, .box 2 0)], [], .box 2 0, .no⟩, ⟨[(.tmp 41, .box 2 0)], [(2, .box 59 (cRu q.rules[i]))], sv q.rules[i].nm, .no⟩, ⟨[(.tmp 40, sv q.rules[k].nm), (.tmp 42, sv q.rules[i].nm)], [], bv false, .no⟩] (by kernel_rfl) (by kernel_rfl) ?_
 refine ⟨app_yes rfl (fB 9 (.tmp 2) rfl Try.underlying27 rfl 1 rfl) ⟨I0, T0⟩ T0 T0, ?_⟩
 refine ⟨app_yes rfl (lB (.box 27 (cFm q)) (slA 18 cRu q.rules) (.tmp 35) rfl Try.underlying25 rfl rfl) ⟨I0, T0⟩ ⟨rfl, T0⟩ T0, ?_⟩
 refine ⟨app_yes rfl (sp_move (.tmp 7) (iv k) rfl) ⟨I0, T0⟩ T0 T0, ?_⟩
 refine ⟨app_yes rfl (sp_indexSl (off := k * 18) (.tmp 36) (.tmp 37) rfl Try.underlying25 (by kernel_rfl) (by omega) (by omega) rfl) ⟨I0, I0, T0⟩ T0 T0, ?_⟩
 refine ⟨app_yes rfl (sp_fieldEl (off' := k * 18) (.tmp 38) rfl Try.underlying59 rfl (z := 1) (by kernel_rfl) (by decide) rfl) ⟨I0, T0⟩ T0 T0, ?_⟩
 refine ⟨app_yes rfl (sp_loadEl1 (X := sv q.rules[k].nm) (.tmp 39) rfl Try.underlying9 rfl ((eflat_get lenRu q.rules k 0 (by omega) (by decide)).trans rfl)) ⟨I0, T0⟩ T0 T0, ?_⟩
 refine ⟨app_yes rfl (fB 0 (.tmp 5) rfl Try.underlying59 rfl 1 rfl) ⟨I0, T0⟩ T0 T0, ?_⟩
 refine ⟨app_yes rfl (lB (.box 59 (cRu q.rules[i])) (sv q.rules[i].nm) (.tmp 41) rfl Try.underlying9 rfl rfl) ⟨I0, T0⟩ ⟨rfl, T0⟩ T0, ?_⟩
 refine ⟨app_yes rfl (sp_seql rfl hs3f) ⟨I0, I0, T0⟩ T0 T0, ?_⟩
 show ETri J w0 _ _ _
 refine kW 276 [(1, .box 27 (cFm q)), (2, .box 59 (cRu q.rules[i]))] [(1, iv i), (2, .box 1 0), (5, .box 2 0), (6, iv q.states.length), (7, iv k), (32, bv true), (43, bv false)] ?_
 refine t_then ?_
 refine t_condF rfl ?_
 refine tri_skip ?_
 refine t_block ?_
 refine t_then ?_
 refine tri_region ?_
 refine oA (sp_move (.tmp 7) (iv k) rfl) I0 ?_
 refine oC (sp_add (c := ((k + 1 : Nat) : Int)) rfl (w64 (by omega) (by omega) (by omega))) I0 I0 ?_
 refine oA (sp_assign (.tmp 34) (iv (k + 1 : Nat)) rfl) I0 ?_
 refine kN 276 [(1, .box 27 (cFm q)), (2, .box 59 (cRu q.rules[i]))] [(1, iv i), (2, .box 1 0), (5, .box 2 0), (6, iv q.states.length), (7, iv (k + 1 : Nat)), (32, bv true), (43, bv false)] ?_
 refine t_then ?_
 refine tri_again ⟨k + 1, by omega, hasR_next (by omega) hs0 hs3f⟩ (show i - (k + 1) < i - k by omega) ?_
 exact wk_keep _ _ rfl (by kernel_rfl) (by kernel_rfl)
 refine tri_region ?_
 refine oA (sp_move (.tmp 7) (iv k) rfl) I0 ?_
 refine oA (sp_move (.tmp 1) (iv i) rfl) I0 ?_
 refine oC (sp_lss rfl (dF hs2)) I0 I0 ?_
 refine kN 276 [(1, .box 27 (cFm q)), (2, .box 59 (cRu q.rules[i]))] [(1, iv i), (2, .box 1 0), (5, .box 2 0), (6, iv q.states.length), (7, iv k), (32, bv false)] ?_
 refine t_then ?_
 refine t_condF rfl ?_
 refine tri_exit ?_
 refine t_then_exit ?_
 refine t_then_exit ?_
 refine t_hit ?_
 exact t_meet (by have : k = i := (by omega); subst this; exact hs0) (wk_keep _ _ rfl (by kernel_rfl) (by kernel_rfl))
 refine t_then ?_
 refine tri_seq ?_
 refine tri_seq ?_
 refine t_cut (True) (ofL [(1, .box 27 (cFm q)), (2, .box 59 (cRu q.rules[i]))]) (ofT 276 [(2, .box 1 0), (5, .box 2 0), (6, iv q.states.length), (61, bv (!(rkindB q.rules[i] q.top)))]) ?_ (fun _ => ?_)
 by_cases hs4 : (inB 1 5 q.rules[i].kind) = true
 by_cases hs5 : q.rules[i].kind ≤ 3
 by_cases hs6 : q.top = 1
 by_cases hs7 : (unusedB q.rules[i] q.top) = true
 refine tri_region ?_
 refine oA (fB 1 (.tmp 5) rfl Try.underlying59 rfl 1 rfl) I0 ?_
 refine oB (lB (.box 59 (cRu q.rules[i])) (iv q.rules[i].kind) (.tmp 44) rfl Try.underlying3 rfl rfl) I0 rfl ?_
 refine t_op rfl (sp_call (c := .func 69) (xs := #[.tmp 45, .const (.int .i64 1), .const (.int .i64 5)]) [] (ctr_b (within_c q.rules[i].kind 1 5) hs4) rfl (by kernel_rfl) rfl (Xs := [iv q.rules[i].kind, iv 1, iv 5]) rfl rfl rfl) ⟨I0, I0, I0, I0, T0⟩ T0 T0 ?_
 refine oA (sp_not rfl rfl) I0 ?_
 refine oA (sp_move (.tmp 47) (bv false) rfl) I0 ?_
 refine gA (fB 1 (.tmp 5) rfl Try.underlying59 rfl 1 rfl) I0 ?_
 refine gB (lB (.box 59 (cRu q.rules[i])) (iv q.rules[i].kind) (.tmp 49) rfl Try.underlying3 rfl rfl) I0 rfl ?_
 refine gC (sp_leq rfl (dT hs5)) I0 I0 ?_
 refine gA (fB 1 (.tmp 2) rfl Try.underlying27 rfl 1 rfl) I0 ?_
 refine gB (lB (.box 27 (cFm q)) (iv q.top) (.tmp 52) rfl Try.underlying3 rfl rfl) I0 rfl ?_
 refine gC (sp_eql rfl (dT hs6)) I0 I0 ?_
 refine gC (sp_bneq rfl Try.underlying4 rfl) I0 I0 ?_
 refine oD (sp_pick (.tmp 48) (.const (.bool true)) (.tmp 55) false (bv true) (bv false) rfl) I0 I0 I0 ?_
 refine oA (sp_move (.tmp 56) (bv false) rfl) I0 ?_
 refine gB (sp_loadBoxS (Y := .box 27 (cFm q)) (ds := cFm q) (z := 10) (.tmp 2) rfl Try.underlying27 rfl (by kernel_rfl) (by decide) (by kernel_rfl) (by kernel_rfl)) I0 rfl ?_
 refine gB (sp_loadBoxS (Y := .box 59 (cRu q.rules[i])) (ds := cRu q.rules[i]) (z := 18) (.tmp 5) rfl Try.underlying59 rfl (by kernel_rfl) (by decide) (by kernel_rfl) (by kernel_rfl)) I0 rfl ?_
 refine gD (sp_call (c := .func 113) (xs := #[.tmp 58, .tmp 59]) [] (ctr_b (unused_c (kind_in hs4) HQ HR) hs7) rfl (by kernel_rfl) rfl (Xs := [.agg (cFm q), .agg (cRu q.rules[i])]) rfl rfl rfl) I0 I0 I0 ?_
 refine oD (sp_pick (.tmp 57) (.const (.bool true)) (.tmp 60) false (bv true) (bv true) rfl) I0 I0 I0 ?_
 refine kN 276 [(1, .box 27 (cFm q)), (2, .box 59 (cRu q.rules[i]))] [(2, .box 1 0), (5, .box 2 0), (6, iv q.states.length), (61, bv true)] ?_
 rw [show (!rkindB q.rules[i] q.top) = true by unfold rkindB; rw [hs7]; simp [hs1, hs4, hs5, hs6, hs7]]
 exact t_meet T0 (wk_keep _ _ rfl (by kernel_rfl) (by kernel_rfl))
 have hs7f : (unusedB q.rules[i] q.top) = false := by simpa using hs7
 refine tri_region ?_
 refine oA (fB 1 (.tmp 5) rfl Try.underlying59 rfl 1 rfl) I0 ?_
 refine oB (lB (.box 59 (cRu q.rules[i])) (iv q.rules[i].kind) (.tmp 44) rfl Try.underlying3 rfl rfl) I0 rfl ?_
 refine t_op rfl (sp_call (c := .func 69) (xs := #[.tmp 45, .const (.int .i64 1), .const (.int .i64 5)]) [] (ctr_b (within_c q.rules[i].kind 1 5) hs4) rfl (by kernel_rfl) rfl (Xs := [iv q.rules[i].kind, iv 1, iv 5]) rfl rfl rfl) ⟨I0, I0, I0, I0, T0⟩ T0 T0 ?_
 refine oA (sp_not rfl rfl) I0 ?_
 refine oA (sp_move (.tmp 47) (bv false) rfl) I0 ?_
 refine gA (fB 1 (.tmp 5) rfl Try.underlying59 rfl 1 rfl) I0 ?_
 refine gB (lB (.box 59 (cRu q.rules[i])) (iv q.rules[i].kind) (.tmp 49) rfl Try.underlying3 rfl rfl) I0 rfl ?_
 refine gC (sp_leq rfl (dT hs5)) I0 I0 ?_
 refine gA (fB 1 (.tmp 2) rfl Try.underlying27 rfl 1 rfl) I0 ?_
 refine gB (lB (.box 27 (cFm q)) (iv q.top) (.tmp 52) rfl Try.underlying3 rfl rfl) I0 rfl ?_
 refine gC (sp_eql rfl (dT hs6)) I0 I0 ?_
 refine gC (sp_bneq rfl Try.underlying4 rfl) I0 I0 ?_
 refine oD (sp_pick (.tmp 48) (.const (.bool true)) (.tmp 55) false (bv true) (bv false) rfl) I0 I0 I0 ?_
 refine oA (sp_move (.tmp 56) (bv false) rfl) I0 ?_
 refine gB (sp_loadBoxS (Y := .box 27 (cFm q)) (ds := cFm q) (z := 10) (.tmp 2) rfl Try.underlying27 rfl (by kernel_rfl) (by decide) (by kernel_rfl) (by kernel_rfl)) I0 rfl ?_
 refine gB (sp_loadBoxS (Y := .box 59 (cRu q.rules[i])) (ds := cRu q.rules[i]) (z := 18) (.tmp 5) rfl Try.underlying59 rfl (by kernel_rfl) (by decide) (by kernel_rfl) (by kernel_rfl)) I0 rfl ?_
 refine gD (sp_call (c := .func 113) (xs := #[.tmp 58, .tmp 59]) [] (ctr_b (unused_c (kind_in hs4) HQ HR) hs7f) rfl (by kernel_rfl) rfl (Xs := [.agg (cFm q), .agg (cRu q.rules[i])]) rfl rfl rfl) I0 I0 I0 ?_
 refine oD (sp_pick (.tmp 57) (.const (.bool true)) (.tmp 60) false (bv true) (bv false) rfl) I0 I0 I0 ?_
 refine kN 276 [(1, .box 27 (cFm q)), (2, .box 59 (cRu q.rules[i]))] [(2, .box 1 0), (5, .box 2 0), (6, iv q.states.length), (61, bv false)] ?_
 rw [show (!rkindB q.rules[i] q.top) = false by unfold rkindB; rw [hs7f]; simp [hs1, hs4, hs5, hs6, hs7f]]
 exact t_meet T0 (wk_keep _ _ rfl (by kernel_rfl) (by kernel_rfl))
 refine tri_region ?_
 refine oA (fB 1 (.tmp 5) rfl Try.underlying59 rfl 1 rfl) I0 ?_
 refine oB (lB (.box 59 (cRu q.rules[i])) (iv q.rules[i].kind) (.tmp 44) rfl Try.underlying3 rfl rfl) I0 rfl ?_
 refine t_op rfl (sp_call (c := .func 69) (xs := #[.tmp 45, .const (.int .i64 1), .const (.int .i64 5)]) [] (ctr_b (within_c q.rules[i].kind 1 5) hs4) rfl (by kernel_rfl) rfl (Xs := [iv q.rules[i].kind, iv 1, iv 5]) rfl rfl rfl) ⟨I0, I0, I0, I0, T0⟩ T0 T0 ?_
 refine oA (sp_not rfl rfl) I0 ?_
 refine oA (sp_move (.tmp 47) (bv false) rfl) I0 ?_
 refine gA (fB 1 (.tmp 5) rfl Try.underlying59 rfl 1 rfl) I0 ?_
 refine gB (lB (.box 59 (cRu q.rules[i])) (iv q.rules[i].kind) (.tmp 49) rfl Try.underlying3 rfl rfl) I0 rfl ?_
 refine gC (sp_leq rfl (dT hs5)) I0 I0 ?_
 refine gA (fB 1 (.tmp 2) rfl Try.underlying27 rfl 1 rfl) I0 ?_
 refine gB (lB (.box 27 (cFm q)) (iv q.top) (.tmp 52) rfl Try.underlying3 rfl rfl) I0 rfl ?_
 refine gC (sp_eql rfl (dF hs6)) I0 I0 ?_
 refine gC (sp_bneq rfl Try.underlying4 rfl) I0 I0 ?_
 refine oD (sp_pick (.tmp 48) (.const (.bool true)) (.tmp 55) false (bv true) (bv true) rfl) I0 I0 I0 ?_
 refine oA (sp_move (.tmp 56) (bv true) rfl) I0 ?_
 refine t_skip rfl ?_
 refine t_skip rfl ?_
 refine t_skip rfl ?_
 refine oD (sp_pick (.tmp 57) (.const (.bool true)) (.tmp 60) true (bv true) (.v (.tuple #[])) rfl) I0 I0 I0 ?_
 refine kN 276 [(1, .box 27 (cFm q)), (2, .box 59 (cRu q.rules[i]))] [(2, .box 1 0), (5, .box 2 0), (6, iv q.states.length), (61, bv true)] ?_
 rw [show (!rkindB q.rules[i] q.top) = true by unfold rkindB; simp [hs1, hs4, hs5, hs6]]
 exact t_meet T0 (wk_keep _ _ rfl (by kernel_rfl) (by kernel_rfl))
 by_cases hs8 : q.top = 1
 refine tri_region ?_
 refine oA (fB 1 (.tmp 5) rfl Try.underlying59 rfl 1 rfl) I0 ?_
 refine oB (lB (.box 59 (cRu q.rules[i])) (iv q.rules[i].kind) (.tmp 44) rfl Try.underlying3 rfl rfl) I0 rfl ?_
 refine t_op rfl (sp_call (c := .func 69) (xs := #[.tmp 45, .const (.int .i64 1), .const (.int .i64 5)]) [] (ctr_b (within_c q.rules[i].kind 1 5) hs4) rfl (by kernel_rfl) rfl (Xs := [iv q.rules[i].kind, iv 1, iv 5]) rfl rfl rfl) ⟨I0, I0, I0, I0, T0⟩ T0 T0 ?_
 refine oA (sp_not rfl rfl) I0 ?_
 refine oA (sp_move (.tmp 47) (bv false) rfl) I0 ?_
 refine gA (fB 1 (.tmp 5) rfl Try.underlying59 rfl 1 rfl) I0 ?_
 refine gB (lB (.box 59 (cRu q.rules[i])) (iv q.rules[i].kind) (.tmp 49) rfl Try.underlying3 rfl rfl) I0 rfl ?_
 refine gC (sp_leq rfl (dF hs5)) I0 I0 ?_
 refine gA (fB 1 (.tmp 2) rfl Try.underlying27 rfl 1 rfl) I0 ?_
 refine gB (lB (.box 27 (cFm q)) (iv q.top) (.tmp 52) rfl Try.underlying3 rfl rfl) I0 rfl ?_
 refine gC (sp_eql rfl (dT hs8)) I0 I0 ?_
 refine gC (sp_bneq rfl Try.underlying4 rfl) I0 I0 ?_
 refine oD (sp_pick (.tmp 48) (.const (.bool true)) (.tmp 55) false (bv true) (bv true) rfl) I0 I0 I0 ?_
 refine oA (sp_move (.tmp 56) (bv true) rfl) I0 ?_
 refine t_skip rfl ?_
 refine t_skip rfl ?_
 refine t_skip rfl ?_
 refine oD (sp_pick (.tmp 57) (.const (.bool true)) (.tmp 60) true (bv true) (.v (.tuple #[])) rfl) I0 I0 I0 ?_
 refine kN 276 [(1, .box 27 (cFm q)), (2, .box 59 (cRu q.rules[i]))] [(2, .box 1 0), (5, .box 2 0), (6, iv q.states.length), (61, bv true)] ?_
 rw [show (!rkindB q.rules[i] q.top) = true by unfold rkindB; simp [hs1, hs4, hs5, hs8]]
 exact t_meet T0 (wk_keep _ _ rfl (by kernel_rfl) (by kernel_rfl))
 by_cases hs9 : (unusedB q.rules[i] q.top) = true
 refine tri_region ?_
 refine oA (fB 1 (.tmp 5) rfl Try.underlying59 rfl 1 rfl) I0 ?_
 refine oB (lB (.box 59 (cRu q.rules[i])) (iv q.rules[i].kind) (.tmp 44) rfl Try.underlying3 rfl rfl) I0 rfl ?_
 refine t_op rfl (sp_call (c := .func 69) (xs := #[.tmp 45, .const (.int .i64 1), .const (.int .i64 5)]) [] (ctr_b (within_c q.rules[i].kind 1 5) hs4) rfl (by kernel_rfl) rfl (Xs := [iv q.rules[i].kind, iv 1, iv 5]) rfl rfl rfl) ⟨I0, I0, I0, I0, T0⟩ T0 T0 ?_
 refine oA (sp_not rfl rfl) I0 ?_
 refine oA (sp_move (.tmp 47) (bv false) rfl) I0 ?_
 refine gA (fB 1 (.tmp 5) rfl Try.underlying59 rfl 1 rfl) I0 ?_
 refine gB (lB (.box 59 (cRu q.rules[i])) (iv q.rules[i].kind) (.tmp 49) rfl Try.underlying3 rfl rfl) I0 rfl ?_
 refine gC (sp_leq rfl (dF hs5)) I0 I0 ?_
 refine gA (fB 1 (.tmp 2) rfl Try.underlying27 rfl 1 rfl) I0 ?_
 refine gB (lB (.box 27 (cFm q)) (iv q.top) (.tmp 52) rfl Try.underlying3 rfl rfl) I0 rfl ?_
 refine gC (sp_eql rfl (dF hs8)) I0 I0 ?_
 refine gC (sp_bneq rfl Try.underlying4 rfl) I0 I0 ?_
 refine oD (sp_pick (.tmp 48) (.const (.bool true)) (.tmp 55) false (bv true) (bv false) rfl) I0 I0 I0 ?_
 refine oA (sp_move (.tmp 56) (bv false) rfl) I0 ?_
 refine gB (sp_loadBoxS (Y := .box 27 (cFm q)) (ds := cFm q) (z := 10) (.tmp 2) rfl Try.underlying27 rfl (by kernel_rfl) (by decide) (by kernel_rfl) (by kernel_rfl)) I0 rfl ?_
 refine gB (sp_loadBoxS (Y := .box 59 (cRu q.rules[i])) (ds := cRu q.rules[i]) (z := 18) (.tmp 5) rfl Try.underlying59 rfl (by kernel_rfl) (by decide) (by kernel_rfl) (by kernel_rfl)) I0 rfl ?_
 refine gD (sp_call (c := .func 113) (xs := #[.tmp 58, .tmp 59]) [] (ctr_b (unused_c (kind_in hs4) HQ HR) hs9) rfl (by kernel_rfl) rfl (Xs := [.agg (cFm q), .agg (cRu q.rules[i])]) rfl rfl rfl) I0 I0 I0 ?_
 refine oD (sp_pick (.tmp 57) (.const (.bool true)) (.tmp 60) false (bv true) (bv true) rfl) I0 I0 I0 ?_
 refine kN 276 [(1, .box 27 (cFm q)), (2, .box 59 (cRu q.rules[i]))] [(2, .box 1 0), (5, .box 2 0), (6, iv q.states.length), (61, bv true)] ?_
 rw [show (!rkindB q.rules[i] q.top) = true by unfold rkindB; rw [hs9]; simp [hs1, hs4, hs5, hs8, hs9]]
 exact t_meet T0 (wk_keep _ _ rfl (by kernel_rfl) (by kernel_rfl))
 have hs9f : (unusedB q.rules[i] q.top) = false := by simpa using hs9
 refine tri_region ?_
 refine oA (fB 1 (.tmp 5) rfl Try.underlying59 rfl 1 rfl) I0 ?_
 refine oB (lB (.box 59 (cRu q.rules[i])) (iv q.rules[i].kind) (.tmp 44) rfl Try.underlying3 rfl rfl) I0 rfl ?_
 refine t_op rfl (sp_call (c := .func 69) (xs := #[.tmp 45, .const (.int .i64 1), .const (.int .i64 5)]) [] (ctr_b (within_c q.rules[i].kind 1 5) hs4) rfl (by kernel_rfl) rfl (Xs := [iv q.rules[i].kind, iv 1, iv 5]) rfl rfl rfl) ⟨I0, I0, I0, I0, T0⟩ T0 T0 ?_
 refine oA (sp_not rfl rfl) I0 ?_
 refine oA (sp_move (.tmp 47) (bv false) rfl) I0 ?_
 refine gA (fB 1 (.tmp 5) rfl Try.underlying59 rfl 1 rfl) I0 ?_
 refine gB (lB (.box 59 (cRu q.rules[i])) (iv q.rules[i].kind) (.tmp 49) rfl Try.underlying3 rfl rfl) I0 rfl ?_
 refine gC (sp_leq rfl (dF hs5)) I0 I0 ?_
 refine gA (fB 1 (.tmp 2) rfl Try.underlying27 rfl 1 rfl) I0 ?_
 refine gB (lB (.box 27 (cFm q)) (iv q.top) (.tmp 52) rfl Try.underlying3 rfl rfl) I0 rfl ?_
 refine gC (sp_eql rfl (dF hs8)) I0 I0 ?_
 refine gC (sp_bneq rfl Try.underlying4 rfl) I0 I0 ?_
 refine oD (sp_pick (.tmp 48) (.const (.bool true)) (.tmp 55) false (bv true) (bv false) rfl) I0 I0 I0 ?_
 refine oA (sp_move (.tmp 56) (bv false) rfl) I0 ?_
 refine gB (sp_loadBoxS (Y := .box 27 (cFm q)) (ds := cFm q) (z := 10) (.tmp 2) rfl Try.underlying27 rfl (by kernel_rfl) (by decide) (by kernel_rfl) (by kernel_rfl)) I0 rfl ?_
 refine gB (sp_loadBoxS (Y := .box 59 (cRu q.rules[i])) (ds := cRu q.rules[i]) (z := 18) (.tmp 5) rfl Try.underlying59 rfl (by kernel_rfl) (by decide) (by kernel_rfl) (by kernel_rfl)) I0 rfl ?_
 refine gD (sp_call (c := .func 113) (xs := #[.tmp 58, .tmp 59]) [] (ctr_b (unused_c (kind_in hs4) HQ HR) hs9f) rfl (by kernel_rfl) rfl (Xs := [.agg (cFm q), .agg (cRu q.rules[i])]) rfl rfl rfl) I0 I0 I0 ?_
 refine oD (sp_pick (.tmp 57) (.const (.bool true)) (.tmp 60) false (bv true) (bv false) rfl) I0 I0 I0 ?_
 refine kN 276 [(1, .box 27 (cFm q)), (2, .box 59 (cRu q.rules[i]))] [(2, .box 1 0), (5, .box 2 0), (6, iv q.states.length), (61, bv false)] ?_
 rw [show (!rkindB q.rules[i] q.top) = false by unfold rkindB; rw [hs9f]; simp [hs1, hs4, hs5, hs8, hs9f]]
 exact t_meet T0 (wk_keep _ _ rfl (by kernel_rfl) (by kernel_rfl))
 have hs4f : (inB 1 5 q.rules[i].kind) = false := by simpa using hs4
 refine tri_region ?_
 refine oA (fB 1 (.tmp 5) rfl Try.underlying59 rfl 1 rfl) I0 ?_
 refine oB (lB (.box 59 (cRu q.rules[i])) (iv q.rules[i].kind) (.tmp 44) rfl Try.underlying3 rfl rfl) I0 rfl ?_
 refine t_op rfl (sp_call (c := .func 69) (xs := #[.tmp 45, .const (.int .i64 1), .const (.int .i64 5)]) [] (ctr_b (within_c q.rules[i].kind 1 5) hs4f) rfl (by kernel_rfl) rfl (Xs := [iv q.rules[i].kind, iv 1, iv 5]) rfl rfl rfl) ⟨I0, I0, I0, I0, T0⟩ T0 T0 ?_
 refine oA (sp_not rfl rfl) I0 ?_
 refine oA (sp_move (.tmp 47) (bv true) rfl) I0 ?_
 refine t_skip rfl ?_
 refine t_skip rfl ?_
 refine t_skip rfl ?_
 refine t_skip rfl ?_
 refine t_skip rfl ?_
 refine t_skip rfl ?_
 refine t_skip rfl ?_
 refine oD (sp_pick (.tmp 48) (.const (.bool true)) (.tmp 55) true (bv true) (.v (.tuple #[])) rfl) I0 I0 I0 ?_
 refine oA (sp_move (.tmp 56) (bv true) rfl) I0 ?_
 refine t_skip rfl ?_
 refine t_skip rfl ?_
 refine t_skip rfl ?_
 refine oD (sp_pick (.tmp 57) (.const (.bool true)) (.tmp 60) true (bv true) (.v (.tuple #[])) rfl) I0 I0 I0 ?_
 refine kN 276 [(1, .box 27 (cFm q)), (2, .box 59 (cRu q.rules[i]))] [(2, .box 1 0), (5, .box 2 0), (6, iv q.states.length), (61, bv true)] ?_
 rw [show (!rkindB q.rules[i] q.top) = true by unfold rkindB; simp [hs1, hs4f]]
 exact t_meet T0 (wk_keep _ _ rfl (by kernel_rfl) (by kernel_rfl))
 refine t_then ?_
 by_cases hs10 : (rkindB q.rules[i] q.top) = true
 rw [hs10]
 refine kW 276 [(1, .box 27 (cFm q)), (2, .box 59 (cRu q.rules[i]))] [(2, .box 1 0), (5, .box 2 0), (6, iv q.states.length), (61, bv false)] ?_
 refine t_condF rfl ?_
 refine tri_skip ?_
 refine t_then ?_
 refine tri_seq ?_
 refine t_cut (True) (ofL [(1, .box 27 (cFm q)), (2, .box 59 (cRu q.rules[i]))]) (ofT 276 [(2, .box 1 0), (5, .box 2 0), (6, iv q.states.length), (8, bv (twoB q.rules[i]))]) ?_ (fun _ => ?_)
 by_cases hs11 : q.rules[i].kind = 2
 refine tri_region ?_
 refine oA (fB 1 (.tmp 5) rfl Try.underlying59 rfl 1 rfl) I0 ?_
 refine oB (lB (.box 59 (cRu q.rules[i])) (iv q.rules[i].kind) (.tmp 62) rfl Try.underlying3 rfl rfl) I0 rfl ?_
 refine oC (sp_eql rfl (dT hs11)) I0 I0 ?_
 refine oA (sp_move (.tmp 64) (bv true) rfl) I0 ?_
 refine t_skip rfl ?_
 refine t_skip rfl ?_
 refine t_skip rfl ?_
 refine oD (sp_pick (.tmp 65) (.const (.bool true)) (.tmp 68) true (bv true) (.v (.tuple #[])) rfl) I0 I0 I0 ?_
 refine oA (sp_assign (.tmp 69) (bv true) rfl) I0 ?_
 refine kN 276 [(1, .box 27 (cFm q)), (2, .box 59 (cRu q.rules[i]))] [(2, .box 1 0), (5, .box 2 0), (6, iv q.states.length), (8, bv true)] ?_
 rw [show (twoB q.rules[i]) = true by first | (simp [twoB, hs1, hs10, hs11]; done) | (simp [twoB, inB, hs1, hs10, hs11]; done)]
 exact t_meet T0 (wk_keep _ _ rfl (by kernel_rfl) (by kernel_rfl))
 refine tri_region ?_
 refine oA (fB 1 (.tmp 5) rfl Try.underlying59 rfl 1 rfl) I0 ?_
 refine oB (lB (.box 59 (cRu q.rules[i])) (iv q.rules[i].kind) (.tmp 62) rfl Try.underlying3 rfl rfl) I0 rfl ?_
 refine oC (sp_eql rfl (dF hs11)) I0 I0 ?_
 refine oA (sp_move (.tmp 64) (bv false) rfl) I0 ?_
 refine gA (fB 1 (.tmp 5) rfl Try.underlying59 rfl 1 rfl) I0 ?_
 refine gB (lB (.box 59 (cRu q.rules[i])) (iv q.rules[i].kind) (.tmp 66) rfl Try.underlying3 rfl rfl) I0 rfl ?_
 refine gC (sp_eql rfl rfl) I0 I0 ?_
 refine oD (sp_pick (.tmp 65) (.const (.bool true)) (.tmp 68) false (bv true) (bv (decide (q.rules[i].kind = 5))) rfl) I0 I0 I0 ?_
 refine oA (sp_assign (.tmp 69) (bv (decide (q.rules[i].kind = 5))) rfl) I0 ?_
 refine kN 276 [(1, .box 27 (cFm q)), (2, .box 59 (cRu q.rules[i]))] [(2, .box 1 0), (5, .box 2 0), (6, iv q.states.length), (8, bv (decide (q.rules[i].kind = 5)))] ?_
 rw [show (twoB q.rules[i]) = (decide (q.rules[i].kind = 5)) by first | (simp [twoB, hs1, hs10, hs11]; done) | (simp [twoB, inB, hs1, hs10, hs11]; done)]
 exact t_meet T0 (wk_keep _ _ rfl (by kernel_rfl) (by kernel_rfl))
 refine t_then ?_
 refine tri_seq ?_
 refine tri_seq ?_
 refine t_cut (True) (ofL [(1, .box 27 (cFm q)), (2, .box 59 (cRu q.rules[i]))]) (ofT 276 [(2, .box 1 0), (5, .box 2 0), (6, iv q.states.length), (102, bv (!(rstB q.rules[i] q.states.length)))]) ?_ (fun _ => ?_)
 by_cases hs12 : (inB 0 (((q.states.length : Nat) : Int) - 1) q.rules[i].frm) = true
 by_cases hs13 : (inB 0 (((q.states.length : Nat) : Int) - 1) q.rules[i].to) = true
 by_cases hs14 : (twoB q.rules[i]) = true
 rw [hs14]
 refine kW 276 [(1, .box 27 (cFm q)), (2, .box 59 (cRu q.rules[i]))] [(2, .box 1 0), (5, .box 2 0), (6, iv q.states.length), (8, bv true)] ?_
 by_cases hs15 : (inB 0 (((q.states.length : Nat) : Int) - 1) q.rules[i].pf) = true
 by_cases hs16 : (inB 0 (((q.states.length : Nat) : Int) - 1) q.rules[i].pt) = true
 refine tri_region ?_
 refine oA (fB 2 (.tmp 5) rfl Try.underlying59 rfl 1 rfl) I0 ?_
 refine oB (lB (.box 59 (cRu q.rules[i])) (iv q.rules[i].frm) (.tmp 70) rfl Try.underlying3 rfl rfl) I0 rfl ?_
 refine oA (sp_move (.tmp 6) (iv q.states.length) rfl) I0 ?_
 refine oC (sp_sub (c := ((q.states.length : Nat) : Int) - 1) rfl (w64 (by omega) (by omega) (by omega))) I0 I0 ?_
 refine t_op rfl (sp_call (c := .func 69) (xs := #[.tmp 71, .const (.int .i64 0), .tmp 73]) [] (ctr_b (within_c q.rules[i].frm 0 (((q.states.length : Nat) : Int) - 1)) hs12) rfl (by kernel_rfl) rfl (Xs := [iv q.rules[i].frm, iv 0, iv (((q.states.length : Nat) : Int) - 1)]) rfl rfl rfl) ⟨I0, I0, I0, I0, T0⟩ T0 T0 ?_
 refine oA (sp_not rfl rfl) I0 ?_
 refine oA (sp_move (.tmp 75) (bv false) rfl) I0 ?_
 refine gA (fB 3 (.tmp 5) rfl Try.underlying59 rfl 1 rfl) I0 ?_
 refine gB (lB (.box 59 (cRu q.rules[i])) (iv q.rules[i].to) (.tmp 77) rfl Try.underlying3 rfl rfl) I0 rfl ?_
 refine gA (sp_move (.tmp 6) (iv q.states.length) rfl) I0 ?_
 refine gC (sp_sub (c := ((q.states.length : Nat) : Int) - 1) rfl (w64 (by omega) (by omega) (by omega))) I0 I0 ?_
 refine t_opG rfl (sp_call (c := .func 69) (xs := #[.tmp 78, .const (.int .i64 0), .tmp 80]) [] (ctr_b (within_c q.rules[i].to 0 (((q.states.length : Nat) : Int) - 1)) hs13) rfl (by kernel_rfl) rfl (Xs := [iv q.rules[i].to, iv 0, iv (((q.states.length : Nat) : Int) - 1)]) rfl rfl rfl) ⟨I0, I0, I0, I0, T0⟩ T0 T0 ?_
 refine gA (sp_not rfl rfl) I0 ?_
 refine oD (sp_pick (.tmp 76) (.const (.bool true)) (.tmp 82) false (bv true) (bv false) rfl) I0 I0 I0 ?_
 refine oA (sp_move (.tmp 83) (bv false) rfl) I0 ?_
 refine gA (sp_move (.tmp 8) (bv true) rfl) I0 ?_
 refine gA (sp_move (.tmp 85) (bv true) rfl) I0 ?_
 refine gA (fB 4 (.tmp 5) rfl Try.underlying59 rfl 1 rfl) I0 ?_
 refine gB (lB (.box 59 (cRu q.rules[i])) (iv q.rules[i].pf) (.tmp 87) rfl Try.underlying3 rfl rfl) I0 rfl ?_
 refine gA (sp_move (.tmp 6) (iv q.states.length) rfl) I0 ?_
 refine gC (sp_sub (c := ((q.states.length : Nat) : Int) - 1) rfl (w64 (by omega) (by omega) (by omega))) I0 I0 ?_
 refine t_opG rfl (sp_call (c := .func 69) (xs := #[.tmp 88, .const (.int .i64 0), .tmp 90]) [] (ctr_b (within_c q.rules[i].pf 0 (((q.states.length : Nat) : Int) - 1)) hs15) rfl (by kernel_rfl) rfl (Xs := [iv q.rules[i].pf, iv 0, iv (((q.states.length : Nat) : Int) - 1)]) rfl rfl rfl) ⟨I0, I0, I0, I0, T0⟩ T0 T0 ?_
 refine gA (sp_not rfl rfl) I0 ?_
 refine gA (sp_move (.tmp 92) (bv false) rfl) I0 ?_
 refine gA (fB 5 (.tmp 5) rfl Try.underlying59 rfl 1 rfl) I0 ?_
 refine gB (lB (.box 59 (cRu q.rules[i])) (iv q.rules[i].pt) (.tmp 94) rfl Try.underlying3 rfl rfl) I0 rfl ?_
 refine gA (sp_move (.tmp 6) (iv q.states.length) rfl) I0 ?_
 refine gC (sp_sub (c := ((q.states.length : Nat) : Int) - 1) rfl (w64 (by omega) (by omega) (by omega))) I0 I0 ?_
 refine t_opG rfl (sp_call (c := .func 69) (xs := #[.tmp 95, .const (.int .i64 0), .tmp 97]) [] (ctr_b (within_c q.rules[i].pt 0 (((q.states.length : Nat) : Int) - 1)) hs16) rfl (by kernel_rfl) rfl (Xs := [iv q.rules[i].pt, iv 0, iv (((q.states.length : Nat) : Int) - 1)]) rfl rfl rfl) ⟨I0, I0, I0, I0, T0⟩ T0 T0 ?_
 refine gA (sp_not rfl rfl) I0 ?_
 refine gD (sp_pick (.tmp 93) (.const (.bool true)) (.tmp 99) false (bv true) (bv false) rfl) I0 I0 I0 ?_
 refine gD (sp_pick (.tmp 86) (.tmp 100) (.const (.bool false)) true (bv false) (bv false) rfl) I0 I0 I0 ?_
 refine oD (sp_pick (.tmp 84) (.const (.bool true)) (.tmp 101) false (bv true) (bv false) rfl) I0 I0 I0 ?_
 refine kN 276 [(1, .box 27 (cFm q)), (2, .box 59 (cRu q.rules[i]))] [(2, .box 1 0), (5, .box 2 0), (6, iv q.states.length), (102, bv false)] ?_
 rw [show (!rstB q.rules[i] q.states.length) = false by first | (simp [rstB_two, ixB, hs1, hs10, hs12, hs13, hs14, hs15, hs16]; done) | (simp [rstB_two, ixB, inB, hs1, hs10, hs12, hs13, hs14, hs15, hs16]; done)]
 exact t_meet T0 (wk_keep _ _ rfl (by kernel_rfl) (by kernel_rfl))
 have hs16f : (inB 0 (((q.states.length : Nat) : Int) - 1) q.rules[i].pt) = false := by simpa using hs16
 refine tri_region ?_
 refine oA (fB 2 (.tmp 5) rfl Try.underlying59 rfl 1 rfl) I0 ?_
 refine oB (lB (.box 59 (cRu q.rules[i])) (iv q.rules[i].frm) (.tmp 70) rfl Try.underlying3 rfl rfl) I0 rfl ?_
 refine oA (sp_move (.tmp 6) (iv q.states.length) rfl) I0 ?_
 refine oC (sp_sub (c := ((q.states.length : Nat) : Int) - 1) rfl (w64 (by omega) (by omega) (by omega))) I0 I0 ?_
 refine t_op rfl (sp_call (c := .func 69) (xs := #[.tmp 71, .const (.int .i64 0), .tmp 73]) [] (ctr_b (within_c q.rules[i].frm 0 (((q.states.length : Nat) : Int) - 1)) hs12) rfl (by kernel_rfl) rfl (Xs := [iv q.rules[i].frm, iv 0, iv (((q.states.length : Nat) : Int) - 1)]) rfl rfl rfl) ⟨I0, I0, I0, I0, T0⟩ T0 T0 ?_
 refine oA (sp_not rfl rfl) I0 ?_
 refine oA (sp_move (.tmp 75) (bv false) rfl) I0 ?_
 refine gA (fB 3 (.tmp 5) rfl Try.underlying59 rfl 1 rfl) I0 ?_
 refine gB (lB (.box 59 (cRu q.rules[i])) (iv q.rules[i].to) (.tmp 77) rfl Try.underlying3 rfl rfl) I0 rfl ?_
 refine gA (sp_move (.tmp 6) (iv q.states.length) rfl) I0 ?_
 refine gC (sp_sub (c := ((q.states.length : Nat) : Int) - 1) rfl (w64 (by omega) (by omega) (by omega))) I0 I0 ?_
 refine t_opG rfl (sp_call (c := .func 69) (xs := #[.tmp 78, .const (.int .i64 0), .tmp 80]) [] (ctr_b (within_c q.rules[i].to 0 (((q.states.length : Nat) : Int) - 1)) hs13) rfl (by kernel_rfl) rfl (Xs := [iv q.rules[i].to, iv 0, iv (((q.states.length : Nat) : Int) - 1)]) rfl rfl rfl) ⟨I0, I0, I0, I0, T0⟩ T0 T0 ?_
 refine gA (sp_not rfl rfl) I0 ?_
 refine oD (sp_pick (.tmp 76) (.const (.bool true)) (.tmp 82) false (bv true) (bv false) rfl) I0 I0 I0 ?_
 refine oA (sp_move (.tmp 83) (bv false) rfl) I0 ?_
 refine gA (sp_move (.tmp 8) (bv true) rfl) I0 ?_
 refine gA (sp_move (.tmp 85) (bv true) rfl) I0 ?_
 refine gA (fB 4 (.tmp 5) rfl Try.underlying59 rfl 1 rfl) I0 ?_
 refine gB (lB (.box 59 (cRu q.rules[i])) (iv q.rules[i].pf) (.tmp 87) rfl Try.underlying3 rfl rfl) I0 rfl ?_
 refine gA (sp_move (.tmp 6) (iv q.states.length) rfl) I0 ?_
 refine gC (sp_sub (c := ((q.states.length : Nat) : Int) - 1) rfl (w64 (by omega) (by omega) (by omega))) I0 I0 ?_
 refine t_opG rfl (sp_call (c := .func 69) (xs := #[.tmp 88, .const (.int .i64 0), .tmp 90]) [] (ctr_b (within_c q.rules[i].pf 0 (((q.states.length : Nat) : Int) - 1)) hs15) rfl (by kernel_rfl) rfl (Xs := [iv q.rules[i].pf, iv 0, iv (((q.states.length : Nat) : Int) - 1)]) rfl rfl rfl) ⟨I0, I0, I0, I0, T0⟩ T0 T0 ?_
 refine gA (sp_not rfl rfl) I0 ?_
 refine gA (sp_move (.tmp 92) (bv false) rfl) I0 ?_
 refine gA (fB 5 (.tmp 5) rfl Try.underlying59 rfl 1 rfl) I0 ?_
 refine gB (lB (.box 59 (cRu q.rules[i])) (iv q.rules[i].pt) (.tmp 94) rfl Try.underlying3 rfl rfl) I0 rfl ?_
 refine gA (sp_move (.tmp 6) (iv q.states.length) rfl) I0 ?_
 refine gC (sp_sub (c := ((q.states.length : Nat) : Int) - 1) rfl (w64 (by omega) (by omega) (by omega))) I0 I0 ?_
 refine t_opG rfl (sp_call (c := .func 69) (xs := #[.tmp 95, .const (.int .i64 0), .tmp 97]) [] (ctr_b (within_c q.rules[i].pt 0 (((q.states.length : Nat) : Int) - 1)) hs16f) rfl (by kernel_rfl) rfl (Xs := [iv q.rules[i].pt, iv 0, iv (((q.states.length : Nat) : Int) - 1)]) rfl rfl rfl) ⟨I0, I0, I0, I0, T0⟩ T0 T0 ?_
 refine gA (sp_not rfl rfl) I0 ?_
 refine gD (sp_pick (.tmp 93) (.const (.bool true)) (.tmp 99) false (bv true) (bv true) rfl) I0 I0 I0 ?_
 refine gD (sp_pick (.tmp 86) (.tmp 100) (.const (.bool false)) true (bv true) (bv false) rfl) I0 I0 I0 ?_
 refine oD (sp_pick (.tmp 84) (.const (.bool true)) (.tmp 101) false (bv true) (bv true) rfl) I0 I0 I0 ?_
 refine kN 276 [(1, .box 27 (cFm q)), (2, .box 59 (cRu q.rules[i]))] [(2, .box 1 0), (5, .box 2 0), (6, iv q.states.length), (102, bv true)] ?_
 rw [show (!rstB q.rules[i] q.states.length) = true by first | (simp [rstB_two, ixB, hs1, hs10, hs12, hs13, hs14, hs15, hs16f]; done) | (simp [rstB_two, ixB, inB, hs1, hs10, hs12, hs13, hs14, hs15, hs16f]; done)]
 exact t_meet T0 (wk_keep _ _ rfl (by kernel_rfl) (by kernel_rfl))
 have hs15f : (inB 0 (((q.states.length : Nat) : Int) - 1) q.rules[i].pf) = false := by simpa using hs15
 refine tri_region ?_
 refine oA (fB 2 (.tmp 5) rfl Try.underlying59 rfl 1 rfl) I0 ?_
 refine oB (lB (.box 59 (cRu q.rules[i])) (iv q.rules[i].frm) (.tmp 70) rfl Try.underlying3 rfl rfl) I0 rfl ?_
 refine oA (sp_move (.tmp 6) (iv q.states.length) rfl) I0 ?_
 refine oC (sp_sub (c := ((q.states.length : Nat) : Int) - 1) rfl (w64 (by omega) (by omega) (by omega))) I0 I0 ?_
 refine t_op rfl (sp_call (c := .func 69) (xs := #[.tmp 71, .const (.int .i64 0), .tmp 73]) [] (ctr_b (within_c q.rules[i].frm 0 (((q.states.length : Nat) : Int) - 1)) hs12) rfl (by kernel_rfl) rfl (Xs := [iv q.rules[i].frm, iv 0, iv (((q.states.length : Nat) : Int) - 1)]) rfl rfl rfl) ⟨I0, I0, I0, I0, T0⟩ T0 T0 ?_
 refine oA (sp_not rfl rfl) I0 ?_
 refine oA (sp_move (.tmp 75) (bv false) rfl) I0 ?_
 refine gA (fB 3 (.tmp 5) rfl Try.underlying59 rfl 1 rfl) I0 ?_
 refine gB (lB (.box 59 (cRu q.rules[i])) (iv q.rules[i].to) (.tmp 77) rfl Try.underlying3 rfl rfl) I0 rfl ?_
 refine gA (sp_move (.tmp 6) (iv q.states.length) rfl) I0 ?_
 refine gC (sp_sub (c := ((q.states.length : Nat) : Int) - 1) rfl (w64 (by omega) (by omega) (by omega))) I0 I0 ?_
 refine t_opG rfl (sp_call (c := .func 69) (xs := #[.tmp 78, .const (.int .i64 0), .tmp 80]) [] (ctr_b (within_c q.rules[i].to 0 (((q.states.length : Nat) : Int) - 1)) hs13) rfl (by kernel_rfl) rfl (Xs := [iv q.rules[i].to, iv 0, iv (((q.states.length : Nat) : Int) - 1)]) rfl rfl rfl) ⟨I0, I0, I0, I0, T0⟩ T0 T0 ?_
 refine gA (sp_not rfl rfl) I0 ?_
 refine oD (sp_pick (.tmp 76) (.const (.bool true)) (.tmp 82) false (bv true) (bv false) rfl) I0 I0 I0 ?_
 refine oA (sp_move (.tmp 83) (bv false) rfl) I0 ?_
 refine gA (sp_move (.tmp 8) (bv true) rfl) I0 ?_
 refine gA (sp_move (.tmp 85) (bv true) rfl) I0 ?_
 refine gA (fB 4 (.tmp 5) rfl Try.underlying59 rfl 1 rfl) I0 ?_
 refine gB (lB (.box 59 (cRu q.rules[i])) (iv q.rules[i].pf) (.tmp 87) rfl Try.underlying3 rfl rfl) I0 rfl ?_
 refine gA (sp_move (.tmp 6) (iv q.states.length) rfl) I0 ?_
 refine gC (sp_sub (c := ((q.states.length : Nat) : Int) - 1) rfl (w64 (by omega) (by omega) (by omega))) I0 I0 ?_
 refine t_opG rfl (sp_call (c := .func 69) (xs := #[.tmp 88, .const (.int .i64 0), .tmp 90]) [] (ctr_b (within_c q.rules[i].pf 0 (((q.states.length : Nat) : Int) - 1)) hs15f) rfl (by kernel_rfl) rfl (Xs := [iv q.rules[i].pf, iv 0, iv (((q.states.length : Nat) : Int) - 1)]) rfl rfl rfl) ⟨I0, I0, I0, I0, T0⟩ T0 T0 ?_
 refine gA (sp_not rfl rfl) I0 ?_
 refine gA (sp_move (.tmp 92) (bv true) rfl) I0 ?_
 refine t_skip rfl ?_
 refine t_skip rfl ?_
 refine t_skip rfl ?_
 refine t_skip rfl ?_
 refine t_skip rfl ?_
 refine t_skip rfl ?_
 refine gD (sp_pick (.tmp 93) (.const (.bool true)) (.tmp 99) true (bv true) (.v (.tuple #[])) rfl) I0 I0 I0 ?_
 refine gD (sp_pick (.tmp 86) (.tmp 100) (.const (.bool false)) true (bv true) (bv false) rfl) I0 I0 I0 ?_
 refine oD (sp_pick (.tmp 84) (.const (.bool true)) (.tmp 101) false (bv true) (bv true) rfl) I0 I0 I0 ?_
 refine kN 276 [(1, .box 27 (cFm q)), (2, .box 59 (cRu q.rules[i]))] [(2, .box 1 0), (5, .box 2 0), (6, iv q.states.length), (102, bv true)] ?_
 rw [show (!rstB q.rules[i] q.states.length) = true by first | (simp [rstB_two, ixB, hs1, hs10, hs12, hs13, hs14, hs15f]; done) | (simp [rstB_two, ixB, inB, hs1, hs10, hs12, hs13, hs14, hs15f]; done)]
 exact t_meet T0 (wk_keep _ _ rfl (by kernel_rfl) (by kernel_rfl))
 have hs14f : (twoB q.rules[i]) = false := by simpa using hs14
 rw [hs14f]
 refine kW 276 [(1, .box 27 (cFm q)), (2, .box 59 (cRu q.rules[i]))] [(2, .box 1 0), (5, .box 2 0), (6, iv q.states.length), (8, bv false)] ?_
 refine tri_region ?_
 refine oA (fB 2 (.tmp 5) rfl Try.underlying59 rfl 1 rfl) I0 ?_
 refine oB (lB (.box 59 (cRu q.rules[i])) (iv q.rules[i].frm) (.tmp 70) rfl Try.underlying3 rfl rfl) I0 rfl ?_
 refine oA (sp_move (.tmp 6) (iv q.states.length) rfl) I0 ?_
 refine oC (sp_sub (c := ((q.states.length : Nat) : Int) - 1) rfl (w64 (by omega) (by omega) (by omega))) I0 I0 ?_
 refine t_op rfl (sp_call (c := .func 69) (xs := #[.tmp 71, .const (.int .i64 0), .tmp 73]) [] (ctr_b (within_c q.rules[i].frm 0 (((q.states.length : Nat) : Int) - 1)) hs12) rfl (by kernel_rfl) rfl (Xs := [iv q.rules[i].frm, iv 0, iv (((q.states.length : Nat) : Int) - 1)]) rfl rfl rfl) ⟨I0, I0, I0, I0, T0⟩ T0 T0 ?_
 refine oA (sp_not rfl rfl) I0 ?_
 refine oA (sp_move (.tmp 75) (bv false) rfl) I0 ?_
 refine gA (fB 3 (.tmp 5) rfl Try.underlying59 rfl 1 rfl) I0 ?_
 refine gB (lB (.box 59 (cRu q.rules[i])) (iv q.rules[i].to) (.tmp 77) rfl Try.underlying3 rfl rfl) I0 rfl ?_
 refine gA (sp_move (.tmp 6) (iv q.states.length) rfl) I0 ?_
 refine gC (sp_sub (c := ((q.states.length : Nat) : Int) - 1) rfl (w64 (by omega) (by omega) (by omega))) I0 I0 ?_
 refine t_opG rfl (sp_call (c := .func 69) (xs := #[.tmp 78, .const (.int .i64 0), .tmp 80]) [] (ctr_b (within_c q.rules[i].to 0 (((q.states.length : Nat) : Int) - 1)) hs13) rfl (by kernel_rfl) rfl (Xs := [iv q.rules[i].to, iv 0, iv (((q.states.length : Nat) : Int) - 1)]) rfl rfl rfl) ⟨I0, I0, I0, I0, T0⟩ T0 T0 ?_
 refine gA (sp_not rfl rfl) I0 ?_
 refine oD (sp_pick (.tmp 76) (.const (.bool true)) (.tmp 82) false (bv true) (bv false) rfl) I0 I0 I0 ?_
 refine oA (sp_move (.tmp 83) (bv false) rfl) I0 ?_
 refine gA (sp_move (.tmp 8) (bv false) rfl) I0 ?_
 refine gA (sp_move (.tmp 85) (bv false) rfl) I0 ?_
 refine t_skip rfl ?_
 refine t_skip rfl ?_
 refine t_skip rfl ?_
 refine t_skip rfl ?_
 refine t_skip rfl ?_
 refine t_skip rfl ?_
 refine t_skip rfl ?_
 refine t_skip rfl ?_
 refine t_skip rfl ?_
 refine t_skip rfl ?_
 refine t_skip rfl ?_
 refine t_skip rfl ?_
 refine t_skip rfl ?_
 refine t_skip rfl ?_
 refine gD (sp_pick (.tmp 86) (.tmp 100) (.const (.bool false)) false (.v (.tuple #[])) (bv false) rfl) I0 I0 I0 ?_
 refine oD (sp_pick (.tmp 84) (.const (.bool true)) (.tmp 101) false (bv true) (bv false) rfl) I0 I0 I0 ?_
 refine kN 276 [(1, .box 27 (cFm q)), (2, .box 59 (cRu q.rules[i]))] [(2, .box 1 0), (5, .box 2 0), (6, iv q.states.length), (102, bv false)] ?_
 rw [show (!rstB q.rules[i] q.states.length) = false by first | (simp [rstB_two, ixB, hs1, hs10, hs12, hs13, hs14f]; done) | (simp [rstB_two, ixB, inB, hs1, hs10, hs12, hs13, hs14f]; done)]
 exact t_meet T0 (wk_keep _ _ rfl (by kernel_rfl) (by kernel_rfl))
 have hs13f : (inB 0 (((q.states.length : Nat) : Int) - 1) q.rules[i].to) = false := by simpa using hs13
 refine tri_region ?_
 refine oA (fB 2 (.tmp 5) rfl Try.underlying59 rfl 1 rfl) I0 ?_
 refine oB (lB (.box 59 (cRu q.rules[i])) (iv q.rules[i].frm) (.tmp 70) rfl Try.underlying3 rfl rfl) I0 rfl ?_
 refine oA (sp_move (.tmp 6) (iv q.states.length) rfl) I0 ?_
 refine oC (sp_sub (c := ((q.states.length : Nat) : Int) - 1) rfl (w64 (by omega) (by omega) (by omega))) I0 I0 ?_
 refine t_op rfl (sp_call (c := .func 69) (xs := #[.tmp 71, .const (.int .i64 0), .tmp 73]) [] (ctr_b (within_c q.rules[i].frm 0 (((q.states.length : Nat) : Int) - 1)) hs12) rfl (by kernel_rfl) rfl (Xs := [iv q.rules[i].frm, iv 0, iv (((q.states.length : Nat) : Int) - 1)]) rfl rfl rfl) ⟨I0, I0, I0, I0, T0⟩ T0 T0 ?_
 refine oA (sp_not rfl rfl) I0 ?_
 refine oA (sp_move (.tmp 75) (bv false) rfl) I0 ?_
 refine gA (fB 3 (.tmp 5) rfl Try.underlying59 rfl 1 rfl) I0 ?_
 refine gB (lB (.box 59 (cRu q.rules[i])) (iv q.rules[i].to) (.tmp 77) rfl Try.underlying3 rfl rfl) I0 rfl ?_
 refine gA (sp_move (.tmp 6) (iv q.states.length) rfl) I0 ?_
 refine gC (sp_sub (c := ((q.states.length : Nat) : Int) - 1) rfl (w64 (by omega) (by omega) (by omega))) I0 I0 ?_
 refine t_opG rfl (sp_call (c := .func 69) (xs := #[.tmp 78, .const (.int .i64 0), .tmp 80]) [] (ctr_b (within_c q.rules[i].to 0 (((q.states.length : Nat) : Int) - 1)) hs13f) rfl (by kernel_rfl) rfl (Xs := [iv q.rules[i].to, iv 0, iv (((q.states.length : Nat) : Int) - 1)]) rfl rfl rfl) ⟨I0, I0, I0, I0, T0⟩ T0 T0 ?_
 refine gA (sp_not rfl rfl) I0 ?_
 refine oD (sp_pick (.tmp 76) (.const (.bool true)) (.tmp 82) false (bv true) (bv true) rfl) I0 I0 I0 ?_
 refine oA (sp_move (.tmp 83) (bv true) rfl) I0 ?_
 refine t_skip rfl ?_
 refine t_skip rfl ?_
 refine t_skip rfl ?_
 refine t_skip rfl ?_
 refine t_skip rfl ?_
 refine t_skip rfl ?_
 refine t_skip rfl ?_
 refine t_skip rfl ?_
 refine t_skip rfl ?_
 refine t_skip rfl ?_
 refine t_skip rfl ?_
 refine t_skip rfl ?_
 refine t_skip rfl ?_
 refine t_skip rfl ?_
 refine t_skip rfl ?_
 refine t_skip rfl ?_
 refine t_skip rfl ?_
 refine oD (sp_pick (.tmp 84) (.const (.bool true)) (.tmp 101) true (bv true) (.v (.tuple #[])) rfl) I0 I0 I0 ?_
 refine kN 276 [(1, .box 27 (cFm q)), (2, .box 59 (cRu q.rules[i]))] [(2, .box 1 0), (5, .box 2 0), (6, iv q.states.length), (102, bv true)] ?_
 rw [show (!rstB q.rules[i] q.states.length) = true by first | (simp [rstB_two, ixB, hs1, hs10, hs12, hs13f]; done) | (simp [rstB_two, ixB, inB, hs1, hs10, hs12, hs13f]; done)]
 exact t_meet T0 (wk_keep _ _ rfl (by kernel_rfl) (by kernel_rfl))
 have hs12f : (inB 0 (((q.states.length : Nat) : Int) - 1) q.rules[i].frm) = false := by simpa using hs12
 refine tri_region ?_
 refine oA (fB 2 (.tmp 5) rfl Try.underlying59 rfl 1 rfl) I0 ?_
 refine oB (lB (.box 59 (cRu q.rules[i])) (iv q.rules[i].frm) (.tmp 70) rfl Try.underlying3 rfl rfl) I0 rfl ?_
 refine oA (sp_move (.tmp 6) (iv q.states.length) rfl) I0 ?_
 refine oC (sp_sub (c := ((q.states.length : Nat) : Int) - 1) rfl (w64 (by omega) (by omega) (by omega))) I0 I0 ?_
 refine t_op rfl (sp_call (c := .func 69) (xs := #[.tmp 71, .const (.int .i64 0), .tmp 73]) [] (ctr_b (within_c q.rules[i].frm 0 (((q.states.length : Nat) : Int) - 1)) hs12f) rfl (by kernel_rfl) rfl (Xs := [iv q.rules[i].frm, iv 0, iv (((q.states.length : Nat) : Int) - 1)]) rfl rfl rfl) ⟨I0, I0, I0, I0, T0⟩ T0 T0 ?_
 refine oA (sp_not rfl rfl) I0 ?_
 refine oA (sp_move (.tmp 75) (bv true) rfl) I0 ?_
 refine t_skip rfl ?_
 refine t_skip rfl ?_
 refine t_skip rfl ?_
 refine t_skip rfl ?_
 refine t_skip rfl ?_
 refine t_skip rfl ?_
 refine oD (sp_pick (.tmp 76) (.const (.bool true)) (.tmp 82) true (bv true) (.v (.tuple #[])) rfl) I0 I0 I0 ?_
 refine oA (sp_move (.tmp 83) (bv true) rfl) I0 ?_
 refine t_skip rfl ?_
 refine t_skip rfl ?_
 refine t_skip rfl ?_
 refine t_skip rfl ?_
 refine t_skip rfl ?_
 refine t_skip rfl ?_
 refine t_skip rfl ?_
 refine t_skip rfl ?_
 refine t_skip rfl ?_
 refine t_skip rfl ?_
 refine t_skip rfl ?_
 refine t_skip rfl ?_
 refine t_skip rfl ?_
 refine t_skip rfl ?_
 refine t_skip rfl ?_
 refine t_skip rfl ?_
 refine t_skip rfl ?_
 refine oD (sp_pick (.tmp 84) (.const (.bool true)) (.tmp 101) true (bv true) (.v (.tuple #[])) rfl) I0 I0 I0 ?_
 refine kN 276 [(1, .box 27 (cFm q)), (2, .box 59 (cRu q.rules[i]))] [(2, .box 1 0), (5, .box 2 0), (6, iv q.states.length), (102, bv true)] ?_
 rw [show (!rstB q.rules[i] q.states.length) = true by first | (simp [rstB_two, ixB, hs1, hs10, hs12f]; done) | (simp [rstB_two, ixB, inB, hs1, hs10, hs12f]; done)]
 exact t_meet T0 (wk_keep _ _ rfl (by kernel_rfl) (by kernel_rfl))
 refine t_then ?_
 by_cases hs17 : (rstB q.rules[i] q.states.length) = true
 rw [hs17]
 refine kW 276 [(1, .box 27 (cFm q)), (2, .box 59 (cRu q.rules[i]))] [(2, .box 1 0), (5, .box 2 0), (6, iv q.states.length), (102, bv false)] ?_
 refine t_condF rfl ?_
 refine tri_skip ?_
 refine t_then ?_
 refine tri_seq ?_
 refine tri_seq ?_
 refine tri_region ?_
 refine oA (fB 1 (.tmp 5) rfl Try.underlying59 rfl 1 rfl) I0 ?_
 refine oB (lB (.box 59 (cRu q.rules[i])) (iv q.rules[i].kind) (.tmp 103) rfl Try.underlying3 rfl rfl) I0 rfl ?_
 refine oC (sp_eql rfl rfl) I0 I0 ?_
 refine kN 276 [(1, .box 27 (cFm q)), (2, .box 59 (cRu q.rules[i]))] [(2, .box 1 0), (5, .box 2 0), (6, iv q.states.length), (105, bv (decide (q.rules[i].kind = 3)))] ?_
 refine t_then ?_
 refine t_cut (reX q q.rules[i] = 0) (ofL [(1, .box 27 (cFm q)), (2, .box 59 (cRu q.rules[i]))]) (ofT 276 [(2, .box 1 0), (5, .box 2 0), (6, iv q.states.length)]) ?_ (fun HRX => ?_)
 by_cases hs18 : q.rules[i].kind = 3
 rw [dT hs18]
 refine kW 276 [(1, .box 27 (cFm q)), (2, .box 59 (cRu q.rules[i]))] [(2, .box 1 0), (5, .box 2 0), (6, iv q.states.length), (105, bv true)] ?_
 refine t_condT rfl ?_
 refine tri_seq ?_
 refine tri_seq ?_
 by_cases hs19 : ((q.rules[i].resp.length : Nat) : Int) = ((q.states.length : Nat) : Int)
 refine tri_region ?_
 refine oA (fB 6 (.tmp 5) rfl Try.underlying59 rfl 1 rfl) I0 ?_
 refine oB (lB (.box 59 (cRu q.rules[i])) (intsA q.rules[i].resp) (.tmp 106) rfl Try.underlying24 rfl rfl) I0 rfl ?_
 refine oA (sp_lenSl (.tmp 107) rfl Try.underlying24) I0 ?_
 refine oA (sp_move (.tmp 6) (iv q.states.length) rfl) I0 ?_
 refine oC (sp_neq rfl (dT' hs19)) I0 I0 ?_
 refine kN 276 [(1, .box 27 (cFm q)), (2, .box 59 (cRu q.rules[i]))] [(2, .box 1 0), (5, .box 2 0), (6, iv q.states.length), (110, bv false)] ?_
 refine t_then ?_
 refine t_condF rfl ?_
 refine tri_skip ?_
 refine t_then ?_
 refine tri_seq ?_
 refine tri_region ?_
 refine oA (sp_assign (.const (.int .i64 0)) (iv 0) rfl) I0 ?_
 refine kN 276 [(1, .box 27 (cFm q)), (2, .box 59 (cRu q.rules[i]))] [(2, .box 1 0), (5, .box 2 0), (6, iv q.states.length), (9, iv 0)] ?_
 refine t_then ?_
 refine tri_block ?_
 refine tri_loop (σ := {k : Nat // k ≤ q.states.length ∧ allK q.states.length q.rules[i].resp k = true}) (fun s => (ofL [(1, .box 27 (cFm q)), (2, .box 59 (cRu q.rules[i]))], ofT 276 [(2, .box 1 0), (5, .box 2 0), (6, iv q.states.length), (9, iv s.1)])) (fun s => q.states.length - s.1) ⟨0, Nat.zero_le _, rfl⟩ (wk_keep _ _ rfl (by kernel_rfl) (by kernel_rfl)) (fun s => ?_)
 obtain ⟨k, hk0, hs0⟩ := s
 show ETri J w0 (ofL [(1, .box 27 (cFm q)), (2, .box 59 (cRu q.rules[i]))]) (ofT 276 [(2, .box 1 0), (5, .box 2 0), (6, iv q.states.length), (9, iv k)]) _
 refine tri_seq ?_
 refine tri_seq ?_
 by_cases hs20 : ((k : Nat) : Int) < ((q.states.length : Nat) : Int)
 refine tri_region ?_
 refine oA (sp_move (.tmp 9) (iv k) rfl) I0 ?_
 refine oA (sp_move (.tmp 6) (iv q.states.length) rfl) I0 ?_
 refine oC (sp_lss rfl (dT hs20)) I0 I0 ?_
 refine kN 276 [(1, .box 27 (cFm q)), (2, .box 59 (cRu q.rules[i]))] [(2, .box 1 0), (5, .box 2 0), (6, iv q.states.length), (9, iv k), (113, bv true)] ?_
 refine t_then ?_
 refine t_condT rfl ?_
 refine tri_skip ?_
 refine t_then ?_
 refine tri_seq ?_
 refine tri_block ?_
 refine tri_seq ?_
 by_cases hs21 : (inB 0 (((q.states.length : Nat) : Int) - 1) q.rules[i].resp[k]) = true
 refine tri_region ?_
 refine oA (fB 6 (.tmp 5) rfl Try.underlying59 rfl 1 rfl) I0 ?_
 refine oB (lB (.box 59 (cRu q.rules[i])) (intsA q.rules[i].resp) (.tmp 116) rfl Try.underlying24 rfl rfl) I0 rfl ?_
 refine oA (sp_move (.tmp 9) (iv k) rfl) I0 ?_
 refine oC (sp_indexSl (off := k * 1) (.tmp 117) (.tmp 118) rfl Try.underlying24 (by kernel_rfl) (by omega) (by omega) rfl) I0 I0 ?_
 refine oA (sp_loadEl1 (X := iv q.rules[i].resp[k]) (.tmp 119) rfl Try.underlying3 rfl (map_at1 q.rules[i].resp (by omega))) I0 ?_
 refine oA (sp_move (.tmp 6) (iv q.states.length) rfl) I0 ?_
 refine oC (sp_sub (c := ((q.states.length : Nat) : Int) - 1) rfl (w64 (by omega) (by omega) (by omega))) I0 I0 ?_
 refine t_op rfl (sp_call (c := .func 69) (xs := #[.tmp 120, .const (.int .i64 0), .tmp 122]) [] (ctr_b (within_c q.rules[i].resp[k] 0 (((q.states.length : Nat) : Int) - 1)) hs21) rfl (by kernel_rfl) rfl (Xs := [iv q.rules[i].resp[k], iv 0, iv (((q.states.length : Nat) : Int) - 1)]) rfl rfl rfl) ⟨I0, I0, I0, I0, T0⟩ T0 T0 ?_
 refine oA (sp_not rfl rfl) I0 ?_
 refine kN 276 [(1, .box 27 (cFm q)), (2, .box 59 (cRu q.rules[i]))] [(2, .box 1 0), (5, .box 2 0), (6, iv q.states.length), (9, iv k), (113, bv true), (124, bv false)] ?_
 refine t_then ?_
 refine t_condF rfl ?_
 refine tri_skip ?_
 refine t_block ?_
 refine t_then ?_
 refine tri_region ?_
 refine oA (sp_move (.tmp 9) (iv k) rfl) I0 ?_
 refine oC (sp_add (c := ((k + 1 : Nat) : Int)) rfl (w64 (by omega) (by omega) (by omega))) I0 I0 ?_
 refine oA (sp_assign (.tmp 115) (iv (k + 1 : Nat)) rfl) I0 ?_
 refine kN 276 [(1, .box 27 (cFm q)), (2, .box 59 (cRu q.rules[i]))] [(2, .box 1 0), (5, .box 2 0), (6, iv q.states.length), (9, iv (k + 1 : Nat)), (113, bv true), (124, bv false)] ?_
 refine t_then ?_
 refine tri_again ⟨k + 1, by omega, allK_succ (by omega) hs0 hs21⟩ (show q.states.length - (k + 1) < q.states.length - k by omega) ?_
 exact wk_keep _ _ rfl (by kernel_rfl) (by kernel_rfl)
 have hs21f : (inB 0 (((q.states.length : Nat) : Int) - 1) q.rules[i].resp[k]) = false := by simpa using hs21
 refine tri_region ?_
 refine oA (fB 6 (.tmp 5) rfl Try.underlying59 rfl 1 rfl) I0 ?_
 refine oB (lB (.box 59 (cRu q.rules[i])) (intsA q.rules[i].resp) (.tmp 116) rfl Try.underlying24 rfl rfl) I0 rfl ?_
 refine oA (sp_move (.tmp 9) (iv k) rfl) I0 ?_
 refine oC (sp_indexSl (off := k * 1) (.tmp 117) (.tmp 118) rfl Try.underlying24 (by kernel_rfl) (by omega) (by omega) rfl) I0 I0 ?_
 refine oA (sp_loadEl1 (X := iv q.rules[i].resp[k]) (.tmp 119) rfl Try.underlying3 rfl (map_at1 q.rules[i].resp (by omega))) I0 ?_
 refine oA (sp_move (.tmp 6) (iv q.states.length) rfl) I0 ?_
 refine oC (sp_sub (c := ((q.states.length : Nat) : Int) - 1) rfl (w64 (by omega) (by omega) (by omega))) I0 I0 ?_
 refine t_op rfl (sp_call (c := .func 69) (xs := #[.tmp 120, .const (.int .i64 0), .tmp 122]) [] (ctr_b (within_c q.rules[i].resp[k] 0 (((q.states.length : Nat) : Int) - 1)) hs21f) rfl (by kernel_rfl) rfl (Xs := [iv q.rules[i].resp[k], iv 0, iv (((q.states.length : Nat) : Int) - 1)]) rfl rfl rfl) ⟨I0, I0, I0, I0, T0⟩ T0 T0 ?_
 refine oA (sp_not rfl rfl) I0 ?_
 refine kN 276 [(1, .box 27 (cFm q)), (2, .box 59 (cRu q.rules[i]))] [(2, .box 1 0), (5, .box 2 0), (6, iv q.states.length), (9, iv k), (113, bv true), (124, bv true)] ?_
 refine t_then ?_
 refine t_condT rfl ?_
 refine tri_seq ?_
 refine tri_region ?_
 refine oA (sp_assign (.const (.int .i64 5)) (iv 5) rfl) I0 ?_
 refine kN 276 [(1, .box 27 (cFm q)), (2, .box 59 (cRu q.rules[i]))] [(2, .box 1 0), (4, iv 5), (5, .box 2 0), (6, iv q.states.length), (9, iv k), (113, bv true), (124, bv true)] ?_
 refine t_then ?_
 refine tri_ret ?_
 refine t_block_ret ?_
 refine t_then_ret ?_
 refine t_then_ret ?_
 refine t_block_ret ?_
 refine t_cut_ret ?_
 refine t_then_ret ?_
 refine tri_end1 Try.results90 (.tmp rfl) ?_
 exact congrArg (fun x : Int => AV.v (.int .i64 x)) (Eq.trans (part_1b hs18 (by omega) (k := k) (by omega) hs21f).symm (rruleE_part hs1 HNO hs10 hs17).symm)
 refine tri_region ?_
 refine oA (sp_move (.tmp 9) (iv k) rfl) I0 ?_
 refine oA (sp_move (.tmp 6) (iv q.states.length) rfl) I0 ?_
 refine oC (sp_lss rfl (dF hs20)) I0 I0 ?_
 refine kN 276 [(1, .box 27 (cFm q)), (2, .box 59 (cRu q.rules[i]))] [(2, .box 1 0), (5, .box 2 0), (6, iv q.states.length), (9, iv k), (113, bv false)] ?_
 refine t_then ?_
 refine t_condF rfl ?_
 refine tri_exit ?_
 refine t_then_exit ?_
 refine t_then_exit ?_
 refine t_hit ?_
 exact t_meet (by have : k = q.states.length := (by omega); subst this; exact reX_ok hs18 (by omega) hs0) (wk_keep _ _ rfl (by kernel_rfl) (by kernel_rfl))
 refine tri_region ?_
 refine oA (fB 6 (.tmp 5) rfl Try.underlying59 rfl 1 rfl) I0 ?_
 refine oB (lB (.box 59 (cRu q.rules[i])) (intsA q.rules[i].resp) (.tmp 106) rfl Try.underlying24 rfl rfl) I0 rfl ?_
 refine oA (sp_lenSl (.tmp 107) rfl Try.underlying24) I0 ?_
 refine oA (sp_move (.tmp 6) (iv q.states.length) rfl) I0 ?_
 refine oC (sp_neq rfl (dF' hs19)) I0 I0 ?_
 refine kN 276 [(1, .box 27 (cFm q)), (2, .box 59 (cRu q.rules[i]))] [(2, .box 1 0), (5, .box 2 0), (6, iv q.states.length), (110, bv true)] ?_
 refine t_then ?_
 refine t_condT rfl ?_
 refine tri_seq ?_
 refine tri_region ?_
 refine oA (sp_assign (.const (.int .i64 1)) (iv 1) rfl) I0 ?_
 refine kN 276 [(1, .box 27 (cFm q)), (2, .box 59 (cRu q.rules[i]))] [(2, .box 1 0), (4, iv 1), (5, .box 2 0), (6, iv q.states.length)] ?_
 refine t_then ?_
 refine tri_ret ?_
 refine t_then_ret ?_
 refine t_cut_ret ?_
 refine t_then_ret ?_
 refine tri_end1 Try.results90 (.tmp rfl) ?_
 exact congrArg (fun x : Int => AV.v (.int .i64 x)) (Eq.trans (part_1a hs18 (by omega)).symm (rruleE_part hs1 HNO hs10 hs17).symm)
 rw [dF hs18]
 refine kW 276 [(1, .box 27 (cFm q)), (2, .box 59 (cRu q.rules[i]))] [(2, .box 1 0), (5, .box 2 0), (6, iv q.states.length), (105, bv false)] ?_
 refine t_condF rfl ?_
 refine tri_skip ?_
 exact t_meet (reX_no hs18) (wk_keep _ _ rfl (by kernel_rfl) (by kernel_rfl))
 refine t_then ?_
 refine tri_seq ?_
 refine tri_seq ?_
 refine tri_region ?_
 refine oA (sp_assign (.const (.int .i64 0)) (iv 0) rfl) I0 ?_
 refine kN 276 [(1, .box 27 (cFm q)), (2, .box 59 (cRu q.rules[i]))] [(2, .box 1 0), (5, .box 2 0), (6, iv q.states.length), (10, iv 0)] ?_
 refine t_then ?_
 refine t_cut (gusE q.msgs.length q.rules[i].guards = 0) (ofL [(1, .box 27 (cFm q)), (2, .box 59 (cRu q.rules[i]))]) (ofT 276 [(2, .box 1 0), (5, .box 2 0), (6, iv q.states.length)]) ?_ (fun HG => ?_)
 refine tri_block ?_
 refine tri_loop (σ := {k : Nat // k ≤ q.rules[i].guards.length ∧ gusE q.msgs.length (q.rules[i].guards.take k) = 0}) (fun s => (ofL [(1, .box 27 (cFm q)), (2, .box 59 (cRu q.rules[i]))], ofT 276 [(2, .box 1 0), (5, .box 2 0), (6, iv q.states.length), (10, iv s.1)])) (fun s => q.rules[i].guards.length - s.1) ⟨0, Nat.zero_le _, rfl⟩ (wk_keep _ _ rfl (by kernel_rfl) (by kernel_rfl)) (fun s => ?_)
 obtain ⟨k, hk0, hs0⟩ := s
 show ETri J w0 (ofL [(1, .box 27 (cFm q)), (2, .box 59 (cRu q.rules[i]))]) (ofT 276 [(2, .box 1 0), (5, .box 2 0), (6, iv q.states.length), (10, iv k)]) _
 refine tri_seq ?_
 refine tri_seq ?_
 by_cases hs22 : ((k : Nat) : Int) < ((q.rules[i].guards.length : Nat) : Int)
 refine tri_region ?_
 refine oA (sp_move (.tmp 10) (iv k) rfl) I0 ?_
 refine oA (fB 7 (.tmp 5) rfl Try.underlying59 rfl 1 rfl) I0 ?_
 refine oB (lB (.box 59 (cRu q.rules[i])) (slA 6 cTh q.rules[i].guards) (.tmp 126) rfl Try.underlying57 rfl rfl) I0 rfl ?_
 refine oA (sp_lenSl (.tmp 127) rfl Try.underlying57) I0 ?_
 refine oC (sp_lss rfl (dT hs22)) I0 I0 ?_
 refine kN 276 [(1, .box 27 (cFm q)), (2, .box 59 (cRu q.rules[i]))] [(2, .box 1 0), (5, .box 2 0), (6, iv q.states.length), (10, iv k), (129, bv true)] ?_
 refine t_then ?_
 refine t_condT rfl ?_
 refine tri_skip ?_
 refine t_then ?_
 refine tri_seq ?_
 refine tri_block ?_
 refine tri_seq ?_
 refine tri_region ?_
 refine oA (fB 7 (.tmp 5) rfl Try.underlying59 rfl 1 rfl) I0 ?_
 refine oB (lB (.box 59 (cRu q.rules[i])) (slA 6 cTh q.rules[i].guards) (.tmp 132) rfl Try.underlying57 rfl rfl) I0 rfl ?_
 refine oA (sp_move (.tmp 10) (iv k) rfl) I0 ?_
 refine oC (sp_indexSl (off := k * 6) (.tmp 133) (.tmp 134) rfl Try.underlying57 (by kernel_rfl) (by omega) (by omega) rfl) I0 I0 ?_
 refine oA (sp_loadElS (z := 6) (.tmp 135) rfl Try.underlying106 rfl (by kernel_rfl) (flat_take lenTh q.rules[i].guards k (by omega)) rfl) I0 ?_
 refine t_op rfl (sp_alloc (z := .agg #[.int .i64 0, .int .i64 0, .int .i64 0, .int .i64 0, .int .i64 0, .int .i64 0]) (k := 3) rfl (by kernel_rfl)) T0 T0 rfl ?_
 refine t_op rfl (sp_storeBox (T0 := 106) (X := .agg (cTh q.rules[i].guards[k])) (cs := [iv 0, iv 0, iv 0, iv 0, iv 0, iv 0]) (ds := cTh q.rules[i].guards[k]) (z := 6) (.tmp 11) (.tmp 136) rfl (by kernel_rfl) (by kernel_rfl) (by kernel_rfl) (of_decide_eq_true (by kernel_rfl)) (by kernel_rfl)) ⟨I0, I0, T0⟩ ⟨rfl, T0⟩ rfl ?_
 refine kN 276 [(1, .box 27 (cFm q)), (2, .box 59 (cRu q.rules[i])), (3, .box 106 (cTh q.rules[i].guards[k]))] [(2, .box 1 0), (5, .box 2 0), (6, iv q.states.length), (10, iv k), (11, .box 3 0), (129, bv true)] ?_
 refine t_then ?_
 refine tri_seq ?_
 refine tri_seq ?_
 by_cases hs23 : (inB 0 (((q.msgs.length : Nat) : Int) - 1) q.rules[i].guards[k].msg) = true
 refine tri_region ?_
 refine oA (fB 0 (.tmp 11) rfl Try.underlying106 rfl 1 rfl) I0 ?_
 refine oB (lB (.box 106 (cTh q.rules[i].guards[k])) (iv q.rules[i].guards[k].msg) (.tmp 137) rfl Try.underlying3 rfl rfl) I0 rfl ?_
 refine oA (fB 3 (.tmp 2) rfl Try.underlying27 rfl 1 rfl) I0 ?_
 refine oB (lB (.box 27 (cFm q)) (strsA q.msgs) (.tmp 139) rfl Try.underlying22 rfl rfl) I0 rfl ?_
 refine oA (sp_lenSl (.tmp 140) rfl Try.underlying22) I0 ?_
 refine oC (sp_sub (c := ((q.msgs.length : Nat) : Int) - 1) rfl (w64 (by omega) (by omega) (by omega))) I0 I0 ?_
 refine t_op rfl (sp_call (c := .func 69) (xs := #[.tmp 138, .const (.int .i64 0), .tmp 142]) [] (ctr_b (within_c q.rules[i].guards[k].msg 0 (((q.msgs.length : Nat) : Int) - 1)) hs23) rfl (by kernel_rfl) rfl (Xs := [iv q.rules[i].guards[k].msg, iv 0, iv (((q.msgs.length : Nat) : Int) - 1)]) rfl rfl rfl) ⟨I0, I0, I0, I0, T0⟩ T0 T0 ?_
 refine oA (sp_not rfl rfl) I0 ?_
 refine kN 276 [(1, .box 27 (cFm q)), (2, .box 59 (cRu q.rules[i])), (3, .box 106 (cTh q.rules[i].guards[k]))] [(2, .box 1 0), (5, .box 2 0), (6, iv q.states.length), (10, iv k), (11, .box 3 0), (129, bv true), (144, bv false)] ?_
 refine t_then ?_
 refine t_condF rfl ?_
 refine tri_skip ?_
 refine t_then ?_
 refine tri_seq ?_
 refine tri_seq ?_
 by_cases hs24 : (inB 1 100 q.rules[i].guards[k].coef) = true
 refine tri_region ?_
 refine oA (fB 1 (.tmp 11) rfl Try.underlying106 rfl 1 rfl) I0 ?_
 refine oB (lB (.box 106 (cTh q.rules[i].guards[k])) (iv q.rules[i].guards[k].coef) (.tmp 145) rfl Try.underlying3 rfl rfl) I0 rfl ?_
 refine t_op rfl (sp_call (c := .func 69) (xs := #[.tmp 146, .const (.int .i64 1), .const (.int .i64 100)]) [] (ctr_b (within_c q.rules[i].guards[k].coef 1 100) hs24) rfl (by kernel_rfl) rfl (Xs := [iv q.rules[i].guards[k].coef, iv 1, iv 100]) rfl rfl rfl) ⟨I0, I0, I0, I0, T0⟩ T0 T0 ?_
 refine oA (sp_not rfl rfl) I0 ?_
 refine kN 276 [(1, .box 27 (cFm q)), (2, .box 59 (cRu q.rules[i])), (3, .box 106 (cTh q.rules[i].guards[k]))] [(2, .box 1 0), (5, .box 2 0), (6, iv q.states.length), (10, iv k), (11, .box 3 0), (129, bv true), (144, bv false), (148, bv false)] ?_
 refine t_then ?_
 refine t_condF rfl ?_
 refine tri_skip ?_
 refine t_then ?_
 refine tri_seq ?_
 by_cases hs25 : (smL q.rules[i].guards[k].bd.c q.rules[i].guards[k].bd.n q.rules[i].guards[k].bd.t q.rules[i].guards[k].bd.f) = true
 refine tri_region ?_
 refine oA (fB 2 (.tmp 11) rfl Try.underlying106 rfl 4 rfl) I0 ?_
 refine oB (sp_loadBoxS (Y := .box 106 (cTh q.rules[i].guards[k])) (ds := [iv q.rules[i].guards[k].bd.c, iv q.rules[i].guards[k].bd.n, iv q.rules[i].guards[k].bd.t, iv q.rules[i].guards[k].bd.f]) (z := 4) (.tmp 149) rfl Try.underlying104 rfl (by kernel_rfl) (by decide) (by kernel_rfl) (by kernel_rfl)) I0 rfl ?_
 refine oC (sp_call (c := .func 89) (xs := #[.tmp 150]) [] (ctr_b (few_c q.rules[i].guards[k].bd) hs25) rfl (by kernel_rfl) rfl (Xs := [.agg [iv q.rules[i].guards[k].bd.c, iv q.rules[i].guards[k].bd.n, iv q.rules[i].guards[k].bd.t, iv q.rules[i].guards[k].bd.f]]) rfl rfl rfl) I0 I0 ?_
 refine oA (sp_not rfl rfl) I0 ?_
 refine kN 276 [(1, .box 27 (cFm q)), (2, .box 59 (cRu q.rules[i])), (3, .box 106 (cTh q.rules[i].guards[k]))] [(2, .box 1 0), (5, .box 2 0), (6, iv q.states.length), (10, iv k), (11, .box 3 0), (129, bv true), (144, bv false), (148, bv false), (152, bv false)] ?_
 refine t_then ?_
 refine t_condF rfl ?_
 refine tri_skip ?_
 refine t_block ?_
 refine t_then ?_
 refine tri_region ?_
 refine oA (sp_move (.tmp 10) (iv k) rfl) I0 ?_
 refine oC (sp_add (c := ((k + 1 : Nat) : Int)) rfl (w64 (by omega) (by omega) (by omega))) I0 I0 ?_
 refine oA (sp_assign (.tmp 131) (iv (k + 1 : Nat)) rfl) I0 ?_
 refine kN 276 [(1, .box 27 (cFm q)), (2, .box 59 (cRu q.rules[i])), (3, .box 106 (cTh q.rules[i].guards[k]))] [(2, .box 1 0), (5, .box 2 0), (6, iv q.states.length), (10, iv (k + 1 : Nat)), (11, .box 3 0), (129, bv true), (144, bv false), (148, bv false), (152, bv false)] ?_
 refine t_then ?_
 refine tri_again ⟨k + 1, by omega, gusE_succ (by omega) hs0 (guE_4 hs23 hs24 hs25)⟩ (show q.rules[i].guards.length - (k + 1) < q.rules[i].guards.length - k by omega) ?_
 exact wk_keep _ _ rfl (by kernel_rfl) (by kernel_rfl)
 have hs25f : (smL q.rules[i].guards[k].bd.c q.rules[i].guards[k].bd.n q.rules[i].guards[k].bd.t q.rules[i].guards[k].bd.f) = false := by simpa using hs25
 refine tri_region ?_
 refine oA (fB 2 (.tmp 11) rfl Try.underlying106 rfl 4 rfl) I0 ?_
 refine oB (sp_loadBoxS (Y := .box 106 (cTh q.rules[i].guards[k])) (ds := [iv q.rules[i].guards[k].bd.c, iv q.rules[i].guards[k].bd.n, iv q.rules[i].guards[k].bd.t, iv q.rules[i].guards[k].bd.f]) (z := 4) (.tmp 149) rfl Try.underlying104 rfl (by kernel_rfl) (by decide) (by kernel_rfl) (by kernel_rfl)) I0 rfl ?_
 refine oC (sp_call (c := .func 89) (xs := #[.tmp 150]) [] (ctr_b (few_c q.rules[i].guards[k].bd) hs25f) rfl (by kernel_rfl) rfl (Xs := [.agg [iv q.rules[i].guards[k].bd.c, iv q.rules[i].guards[k].bd.n, iv q.rules[i].guards[k].bd.t, iv q.rules[i].guards[k].bd.f]]) rfl rfl rfl) I0 I0 ?_
 refine oA (sp_not rfl rfl) I0 ?_
 refine kN 276 [(1, .box 27 (cFm q)), (2, .box 59 (cRu q.rules[i])), (3, .box 106 (cTh q.rules[i].guards[k]))] [(2, .box 1 0), (5, .box 2 0), (6, iv q.states.length), (10, iv k), (11, .box 3 0), (129, bv true), (144, bv false), (148, bv false), (152, bv true)] ?_
 refine t_then ?_
 refine t_condT rfl ?_
 refine tri_seq ?_
 refine tri_region ?_
 refine oA (sp_assign (.const (.int .i64 4)) (iv 4) rfl) I0 ?_
 refine kN 276 [(1, .box 27 (cFm q)), (2, .box 59 (cRu q.rules[i])), (3, .box 106 (cTh q.rules[i].guards[k]))] [(2, .box 1 0), (4, iv 4), (5, .box 2 0), (6, iv q.states.length), (10, iv k), (11, .box 3 0), (129, bv true), (144, bv false), (148, bv false), (152, bv true)] ?_
 refine t_then ?_
 refine tri_ret ?_
 refine t_block_ret ?_
 refine t_then_ret ?_
 refine t_then_ret ?_
 refine t_block_ret ?_
 refine t_cut_ret ?_
 refine t_then_ret ?_
 refine tri_end1 Try.results90 (.tmp rfl) ?_
 exact congrArg (fun x : Int => AV.v (.int .i64 x)) (Eq.trans (part_2g HRX (k := k) (by omega) hs0 (guE_3 hs23 hs24 hs25f) (by decide)).symm (rruleE_part hs1 HNO hs10 hs17).symm)
 have hs24f : (inB 1 100 q.rules[i].guards[k].coef) = false := by simpa using hs24
 refine tri_region ?_
 refine oA (fB 1 (.tmp 11) rfl Try.underlying106 rfl 1 rfl) I0 ?_
 refine oB (lB (.box 106 (cTh q.rules[i].guards[k])) (iv q.rules[i].guards[k].coef) (.tmp 145) rfl Try.underlying3 rfl rfl) I0 rfl ?_
 refine t_op rfl (sp_call (c := .func 69) (xs := #[.tmp 146, .const (.int .i64 1), .const (.int .i64 100)]) [] (ctr_b (within_c q.rules[i].guards[k].coef 1 100) hs24f) rfl (by kernel_rfl) rfl (Xs := [iv q.rules[i].guards[k].coef, iv 1, iv 100]) rfl rfl rfl) ⟨I0, I0, I0, I0, T0⟩ T0 T0 ?_
 refine oA (sp_not rfl rfl) I0 ?_
 refine kN 276 [(1, .box 27 (cFm q)), (2, .box 59 (cRu q.rules[i])), (3, .box 106 (cTh q.rules[i].guards[k]))] [(2, .box 1 0), (5, .box 2 0), (6, iv q.states.length), (10, iv k), (11, .box 3 0), (129, bv true), (144, bv false), (148, bv true)] ?_
 refine t_then ?_
 refine t_condT rfl ?_
 refine tri_seq ?_
 refine tri_region ?_
 refine oA (sp_assign (.const (.int .i64 1)) (iv 1) rfl) I0 ?_
 refine kN 276 [(1, .box 27 (cFm q)), (2, .box 59 (cRu q.rules[i])), (3, .box 106 (cTh q.rules[i].guards[k]))] [(2, .box 1 0), (4, iv 1), (5, .box 2 0), (6, iv q.states.length), (10, iv k), (11, .box 3 0), (129, bv true), (144, bv false), (148, bv true)] ?_
 refine t_then ?_
 refine tri_ret ?_
 refine t_then_ret ?_
 refine t_block_ret ?_
 refine t_then_ret ?_
 refine t_then_ret ?_
 refine t_block_ret ?_
 refine t_cut_ret ?_
 refine t_then_ret ?_
 refine tri_end1 Try.results90 (.tmp rfl) ?_
 exact congrArg (fun x : Int => AV.v (.int .i64 x)) (Eq.trans (part_2g HRX (k := k) (by omega) hs0 (guE_2 hs23 hs24f) (by decide)).symm (rruleE_part hs1 HNO hs10 hs17).symm)
 have hs23f : (inB 0 (((q.msgs.length : Nat) : Int) - 1) q.rules[i].guards[k].msg) = false := by simpa using hs23
 refine tri_region ?_
 refine oA (fB 0 (.tmp 11) rfl Try.underlying106 rfl 1 rfl) I0 ?_
 refine oB (lB (.box 106 (cTh q.rules[i].guards[k])) (iv q.rules[i].guards[k].msg) (.tmp 137) rfl Try.underlying3 rfl rfl) I0 rfl ?_
 refine oA (fB 3 (.tmp 2) rfl Try.underlying27 rfl 1 rfl) I0 ?_
 refine oB (lB (.box 27 (cFm q)) (strsA q.msgs) (.tmp 139) rfl Try.underlying22 rfl rfl) I0 rfl ?_
 refine oA (sp_lenSl (.tmp 140) rfl Try.underlying22) I0 ?_
 refine oC (sp_sub (c := ((q.msgs.length : Nat) : Int) - 1) rfl (w64 (by omega) (by omega) (by omega))) I0 I0 ?_
 refine t_op rfl (sp_call (c := .func 69) (xs := #[.tmp 138, .const (.int .i64 0), .tmp 142]) [] (ctr_b (within_c q.rules[i].guards[k].msg 0 (((q.msgs.length : Nat) : Int) - 1)) hs23f) rfl (by kernel_rfl) rfl (Xs := [iv q.rules[i].guards[k].msg, iv 0, iv (((q.msgs.length : Nat) : Int) - 1)]) rfl rfl rfl) ⟨I0, I0, I0, I0, T0⟩ T0 T0 ?_
 refine oA (sp_not rfl rfl) I0 ?_
 refine kN 276 [(1, .box 27 (cFm q)), (2, .box 59 (cRu q.rules[i])), (3, .box 106 (cTh q.rules[i].guards[k]))] [(2, .box 1 0), (5, .box 2 0), (6, iv q.states.length), (10, iv k), (11, .box 3 0), (129, bv true), (144, bv true)] ?_
 refine t_then ?_
 refine t_condT rfl ?_
 refine tri_seq ?_
 refine tri_region ?_
 refine oA (sp_assign (.const (.int .i64 5)) (iv 5) rfl) I0 ?_
 refine kN 276 [(1, .box 27 (cFm q)), (2, .box 59 (cRu q.rules[i])), (3, .box 106 (cTh q.rules[i].guards[k]))] [(2, .box 1 0), (4, iv 5), (5, .box 2 0), (6, iv q.states.length), (10, iv k), (11, .box 3 0), (129, bv true), (144, bv true)] ?_
 refine t_then ?_
 refine tri_ret ?_
 refine t_then_ret ?_
 refine t_block_ret ?_
 refine t_then_ret ?_
 refine t_then_ret ?_
 refine t_block_ret ?_
 refine t_cut_ret ?_
 refine t_then_ret ?_
 refine tri_end1 Try.results90 (.tmp rfl) ?_
 exact congrArg (fun x : Int => AV.v (.int .i64 x)) (Eq.trans (part_2g HRX (k := k) (by omega) hs0 (guE_1 hs23f) (by decide)).symm (rruleE_part hs1 HNO hs10 hs17).symm)
 refine tri_region ?_
 refine oA (sp_move (.tmp 10) (iv k) rfl) I0 ?_
 refine oA (fB 7 (.tmp 5) rfl Try.underlying59 rfl 1 rfl) I0 ?_
 refine oB (lB (.box 59 (cRu q.rules[i])) (slA 6 cTh q.rules[i].guards) (.tmp 126) rfl Try.underlying57 rfl rfl) I0 rfl ?_
 refine oA (sp_lenSl (.tmp 127) rfl Try.underlying57) I0 ?_
 refine oC (sp_lss rfl (dF hs22)) I0 I0 ?_
 refine kN 276 [(1, .box 27 (cFm q)), (2, .box 59 (cRu q.rules[i]))] [(2, .box 1 0), (5, .box 2 0), (6, iv q.states.length), (10, iv k), (129, bv false)] ?_
 refine t_then ?_
 refine t_condF rfl ?_
 refine tri_exit ?_
 refine t_then_exit ?_
 refine t_then_exit ?_
 refine t_hit ?_
 exact t_meet (by have : k = q.rules[i].guards.length := (by omega); subst this; rwa [List.take_length] at hs0) (wk_keep _ _ rfl (by kernel_rfl) (by kernel_rfl))
 refine t_then ?_
 refine tri_seq ?_
 refine tri_seq ?_
 by_cases hs26 : 2 < ((q.rules[i].guards.length : Nat) : Int)
 refine tri_region ?_
 refine oA (fB 7 (.tmp 5) rfl Try.underlying59 rfl 1 rfl) I0 ?_
 refine oB (lB (.box 59 (cRu q.rules[i])) (slA 6 cTh q.rules[i].guards) (.tmp 153) rfl Try.underlying57 rfl rfl) I0 rfl ?_
 refine oA (sp_lenSl (.tmp 154) rfl Try.underlying57) I0 ?_
 refine oC (sp_gtr rfl (dT hs26)) I0 I0 ?_
 refine kN 276 [(1, .box 27 (cFm q)), (2, .box 59 (cRu q.rules[i]))] [(2, .box 1 0), (5, .box 2 0), (6, iv q.states.length), (156, bv true)] ?_
 refine t_then ?_
 refine t_condT rfl ?_
 refine tri_seq ?_
 refine tri_region ?_
 refine oA (sp_assign (.const (.int .i64 4)) (iv 4) rfl) I0 ?_
 refine kN 276 [(1, .box 27 (cFm q)), (2, .box 59 (cRu q.rules[i]))] [(2, .box 1 0), (4, iv 4), (5, .box 2 0), (6, iv q.states.length)] ?_
 refine t_then ?_
 refine tri_ret ?_
 refine t_then_ret ?_
 refine tri_end1 Try.results90 (.tmp rfl) ?_
 exact congrArg (fun x : Int => AV.v (.int .i64 x)) (Eq.trans (part_2l HRX HG (by omega)).symm (rruleE_part hs1 HNO hs10 hs17).symm)
 refine tri_region ?_
 refine oA (fB 7 (.tmp 5) rfl Try.underlying59 rfl 1 rfl) I0 ?_
 refine oB (lB (.box 59 (cRu q.rules[i])) (slA 6 cTh q.rules[i].guards) (.tmp 153) rfl Try.underlying57 rfl rfl) I0 rfl ?_
 refine oA (sp_lenSl (.tmp 154) rfl Try.underlying57) I0 ?_
 refine oC (sp_gtr rfl (dF hs26)) I0 I0 ?_
 refine kN 276 [(1, .box 27 (cFm q)), (2, .box 59 (cRu q.rules[i]))] [(2, .box 1 0), (5, .box 2 0), (6, iv q.states.length), (156, bv false)] ?_
 refine t_then ?_
 refine t_condF rfl ?_
 refine tri_skip ?_
 refine t_then ?_
 refine tri_seq ?_
 refine tri_seq ?_
 refine tri_region ?_
 refine oA (fB 8 (.tmp 5) rfl Try.underlying59 rfl 1 rfl) I0 ?_
 refine oB (lB (.box 59 (cRu q.rules[i])) (intsA q.rules[i].ex) (.tmp 157) rfl Try.underlying24 rfl rfl) I0 rfl ?_
 refine oA (sp_move (.tmp 6) (iv q.states.length) rfl) I0 ?_
 refine oD (sp_call (c := .func 67) (xs := #[.tmp 158, .tmp 159]) [] (rSet_c q.states.length (by omega) q.rules[i].ex HR.ex) rfl (by kernel_rfl) rfl (Xs := [intsA q.rules[i].ex, iv q.states.length]) rfl rfl rfl) I0 I0 I0 ?_
 refine oA (sp_assign (.tmp 160) (iv (setE q.states.length q.rules[i].ex)) rfl) I0 ?_
 refine kN 276 [(1, .box 27 (cFm q)), (2, .box 59 (cRu q.rules[i]))] [(2, .box 1 0), (5, .box 2 0), (6, iv q.states.length), (12, iv (setE q.states.length q.rules[i].ex))] ?_
 refine t_then ?_
 refine tri_seq ?_
 by_cases hs27 : setE q.states.length q.rules[i].ex = 0
 refine tri_region ?_
 refine oA (sp_move (.tmp 12) (iv (setE q.states.length q.rules[i].ex)) rfl) I0 ?_
 refine oC (sp_neq rfl (dT' hs27)) I0 I0 ?_
 refine kN 276 [(1, .box 27 (cFm q)), (2, .box 59 (cRu q.rules[i]))] [(2, .box 1 0), (5, .box 2 0), (6, iv q.states.length), (12, iv (setE q.states.length q.rules[i].ex)), (162, bv false)] ?_
 refine t_then ?_
 refine t_condF rfl ?_
 refine tri_skip ?_
 refine t_then ?_
 refine tri_seq ?_
 refine tri_seq ?_
 refine tri_region ?_
 refine oA (fB 9 (.tmp 5) rfl Try.underlying59 rfl 1 rfl) I0 ?_
 refine oB (lB (.box 59 (cRu q.rules[i])) (intsA q.rules[i].fa) (.tmp 164) rfl Try.underlying24 rfl rfl) I0 rfl ?_
 refine oA (sp_move (.tmp 6) (iv q.states.length) rfl) I0 ?_
 refine oD (sp_call (c := .func 67) (xs := #[.tmp 165, .tmp 166]) [] (rSet_c q.states.length (by omega) q.rules[i].fa HR.fa) rfl (by kernel_rfl) rfl (Xs := [intsA q.rules[i].fa, iv q.states.length]) rfl rfl rfl) I0 I0 I0 ?_
 refine oA (sp_assign (.tmp 167) (iv (setE q.states.length q.rules[i].fa)) rfl) I0 ?_
 refine kN 276 [(1, .box 27 (cFm q)), (2, .box 59 (cRu q.rules[i]))] [(2, .box 1 0), (5, .box 2 0), (6, iv q.states.length), (13, iv (setE q.states.length q.rules[i].fa))] ?_
 refine t_then ?_
 refine tri_seq ?_
 by_cases hs28 : setE q.states.length q.rules[i].fa = 0
 refine tri_region ?_
 refine oA (sp_move (.tmp 13) (iv (setE q.states.length q.rules[i].fa)) rfl) I0 ?_
 refine oC (sp_neq rfl (dT' hs28)) I0 I0 ?_
 refine kN 276 [(1, .box 27 (cFm q)), (2, .box 59 (cRu q.rules[i]))] [(2, .box 1 0), (5, .box 2 0), (6, iv q.states.length), (13, iv (setE q.states.length q.rules[i].fa)), (169, bv false)] ?_
 refine t_then ?_
 refine t_condF rfl ?_
 refine tri_skip ?_
 refine t_then ?_
 refine tri_seq ?_
 refine tri_seq ?_
 refine t_cut (True) (ofL [(1, .box 27 (cFm q)), (2, .box 59 (cRu q.rules[i]))]) (ofT 276 [(2, .box 1 0), (5, .box 2 0), (6, iv q.states.length), (198, bv (!decide (shE q.vals.length q.rules[i].rd q.rules[i].wr = 0)))]) ?_ (fun _ => ?_)
 by_cases hs29 : q.rules[i].rd = (-1)
 by_cases hs30 : q.rules[i].wr = (-1)
 refine tri_region ?_
 refine oA (fB 10 (.tmp 5) rfl Try.underlying59 rfl 1 rfl) I0 ?_
 refine oB (lB (.box 59 (cRu q.rules[i])) (iv q.rules[i].rd) (.tmp 171) rfl Try.underlying3 rfl rfl) I0 rfl ?_
 refine oC (sp_neq rfl (dT' hs29)) I0 I0 ?_
 refine oA (sp_move (.tmp 173) (bv false) rfl) I0 ?_
 refine t_skip rfl ?_
 refine t_skip rfl ?_
 refine t_skip rfl ?_
 refine t_skip rfl ?_
 refine t_skip rfl ?_
 refine t_skip rfl ?_
 refine t_skip rfl ?_
 refine t_skip rfl ?_
 refine oD (sp_pick (.tmp 174) (.tmp 182) (.const (.bool false)) false (.v (.tuple #[])) (bv false) rfl) I0 I0 I0 ?_
 refine oA (sp_move (.tmp 183) (bv false) rfl) I0 ?_
 refine gA (fB 11 (.tmp 5) rfl Try.underlying59 rfl 1 rfl) I0 ?_
 refine gB (lB (.box 59 (cRu q.rules[i])) (iv q.rules[i].wr) (.tmp 185) rfl Try.underlying3 rfl rfl) I0 rfl ?_
 refine gC (sp_neq rfl (dT' hs30)) I0 I0 ?_
 refine gA (sp_move (.tmp 187) (bv false) rfl) I0 ?_
 refine t_skip rfl ?_
 refine t_skip rfl ?_
 refine t_skip rfl ?_
 refine t_skip rfl ?_
 refine t_skip rfl ?_
 refine t_skip rfl ?_
 refine t_skip rfl ?_
 refine t_skip rfl ?_
 refine gD (sp_pick (.tmp 188) (.tmp 196) (.const (.bool false)) false (.v (.tuple #[])) (bv false) rfl) I0 I0 I0 ?_
 refine oD (sp_pick (.tmp 184) (.const (.bool true)) (.tmp 197) false (bv true) (bv false) rfl) I0 I0 I0 ?_
 refine kN 276 [(1, .box 27 (cFm q)), (2, .box 59 (cRu q.rules[i]))] [(2, .box 1 0), (5, .box 2 0), (6, iv q.states.length), (198, bv false)] ?_
 rw [show (!decide (shE q.vals.length q.rules[i].rd q.rules[i].wr = 0)) = false by first | (simp [shE, ixB, hs1, hs10, hs17, hs26, hs27, hs28, hs29, hs30]; done) | (simp [shE, ixB, inB, hs1, hs10, hs17, hs26, hs27, hs28, hs29, hs30]; done)]
 exact t_meet T0 (wk_keep _ _ rfl (by kernel_rfl) (by kernel_rfl))
 by_cases hs31 : (inB 0 (((q.vals.length : Nat) : Int) - 1) q.rules[i].wr) = true
 refine tri_region ?_
 refine oA (fB 10 (.tmp 5) rfl Try.underlying59 rfl 1 rfl) I0 ?_
 refine oB (lB (.box 59 (cRu q.rules[i])) (iv q.rules[i].rd) (.tmp 171) rfl Try.underlying3 rfl rfl) I0 rfl ?_
 refine oC (sp_neq rfl (dT' hs29)) I0 I0 ?_
 refine oA (sp_move (.tmp 173) (bv false) rfl) I0 ?_
 refine t_skip rfl ?_
 refine t_skip rfl ?_
 refine t_skip rfl ?_
 refine t_skip rfl ?_
 refine t_skip rfl ?_
 refine t_skip rfl ?_
 refine t_skip rfl ?_
 refine t_skip rfl ?_
 refine oD (sp_pick (.tmp 174) (.tmp 182) (.const (.bool false)) false (.v (.tuple #[])) (bv false) rfl) I0 I0 I0 ?_
 refine oA (sp_move (.tmp 183) (bv false) rfl) I0 ?_
 refine gA (fB 11 (.tmp 5) rfl Try.underlying59 rfl 1 rfl) I0 ?_
 refine gB (lB (.box 59 (cRu q.rules[i])) (iv q.rules[i].wr) (.tmp 185) rfl Try.underlying3 rfl rfl) I0 rfl ?_
 refine gC (sp_neq rfl (dF' hs30)) I0 I0 ?_
 refine gA (sp_move (.tmp 187) (bv true) rfl) I0 ?_
 refine gA (fB 11 (.tmp 5) rfl Try.underlying59 rfl 1 rfl) I0 ?_
 refine gB (lB (.box 59 (cRu q.rules[i])) (iv q.rules[i].wr) (.tmp 189) rfl Try.underlying3 rfl rfl) I0 rfl ?_
 refine gA (fB 4 (.tmp 2) rfl Try.underlying27 rfl 1 rfl) I0 ?_
 refine gB (lB (.box 27 (cFm q)) (strsA q.vals) (.tmp 191) rfl Try.underlying22 rfl rfl) I0 rfl ?_
 refine gA (sp_lenSl (.tmp 192) rfl Try.underlying22) I0 ?_
 refine gC (sp_sub (c := ((q.vals.length : Nat) : Int) - 1) rfl (w64 (by omega) (by omega) (by omega))) I0 I0 ?_
 refine t_opG rfl (sp_call (c := .func 69) (xs := #[.tmp 190, .const (.int .i64 0), .tmp 194]) [] (ctr_b (within_c q.rules[i].wr 0 (((q.vals.length : Nat) : Int) - 1)) hs31) rfl (by kernel_rfl) rfl (Xs := [iv q.rules[i].wr, iv 0, iv (((q.vals.length : Nat) : Int) - 1)]) rfl rfl rfl) ⟨I0, I0, I0, I0, T0⟩ T0 T0 ?_
 refine gA (sp_not rfl rfl) I0 ?_
 refine gD (sp_pick (.tmp 188) (.tmp 196) (.const (.bool false)) true (bv false) (bv false) rfl) I0 I0 I0 ?_
 refine oD (sp_pick (.tmp 184) (.const (.bool true)) (.tmp 197) false (bv true) (bv false) rfl) I0 I0 I0 ?_
 refine kN 276 [(1, .box 27 (cFm q)), (2, .box 59 (cRu q.rules[i]))] [(2, .box 1 0), (5, .box 2 0), (6, iv q.states.length), (198, bv false)] ?_
 rw [show (!decide (shE q.vals.length q.rules[i].rd q.rules[i].wr = 0)) = false by first | (simp [shE, ixB, hs1, hs10, hs17, hs26, hs27, hs28, hs29, hs30, hs31]; done) | (simp [shE, ixB, inB, hs1, hs10, hs17, hs26, hs27, hs28, hs29, hs30, hs31]; done)]
 exact t_meet T0 (wk_keep _ _ rfl (by kernel_rfl) (by kernel_rfl))
 have hs31f : (inB 0 (((q.vals.length : Nat) : Int) - 1) q.rules[i].wr) = false := by simpa using hs31
 refine tri_region ?_
 refine oA (fB 10 (.tmp 5) rfl Try.underlying59 rfl 1 rfl) I0 ?_
 refine oB (lB (.box 59 (cRu q.rules[i])) (iv q.rules[i].rd) (.tmp 171) rfl Try.underlying3 rfl rfl) I0 rfl ?_
 refine oC (sp_neq rfl (dT' hs29)) I0 I0 ?_
 refine oA (sp_move (.tmp 173) (bv false) rfl) I0 ?_
 refine t_skip rfl ?_
 refine t_skip rfl ?_
 refine t_skip rfl ?_
 refine t_skip rfl ?_
 refine t_skip rfl ?_
 refine t_skip rfl ?_
 refine t_skip rfl ?_
 refine t_skip rfl ?_
 refine oD (sp_pick (.tmp 174) (.tmp 182) (.const (.bool false)) false (.v (.tuple #[])) (bv false) rfl) I0 I0 I0 ?_
 refine oA (sp_move (.tmp 183) (bv false) rfl) I0 ?_
 refine gA (fB 11 (.tmp 5) rfl Try.underlying59 rfl 1 rfl) I0 ?_
 refine gB (lB (.box 59 (cRu q.rules[i])) (iv q.rules[i].wr) (.tmp 185) rfl Try.underlying3 rfl rfl) I0 rfl ?_
 refine gC (sp_neq rfl (dF' hs30)) I0 I0 ?_
 refine gA (sp_move (.tmp 187) (bv true) rfl) I0 ?_
 refine gA (fB 11 (.tmp 5) rfl Try.underlying59 rfl 1 rfl) I0 ?_
 refine gB (lB (.box 59 (cRu q.rules[i])) (iv q.rules[i].wr) (.tmp 189) rfl Try.underlying3 rfl rfl) I0 rfl ?_
 refine gA (fB 4 (.tmp 2) rfl Try.underlying27 rfl 1 rfl) I0 ?_
 refine gB (lB (.box 27 (cFm q)) (strsA q.vals) (.tmp 191) rfl Try.underlying22 rfl rfl) I0 rfl ?_
 refine gA (sp_lenSl (.tmp 192) rfl Try.underlying22) I0 ?_
 refine gC (sp_sub (c := ((q.vals.length : Nat) : Int) - 1) rfl (w64 (by omega) (by omega) (by omega))) I0 I0 ?_
 refine t_opG rfl (sp_call (c := .func 69) (xs := #[.tmp 190, .const (.int .i64 0), .tmp 194]) [] (ctr_b (within_c q.rules[i].wr 0 (((q.vals.length : Nat) : Int) - 1)) hs31f) rfl (by kernel_rfl) rfl (Xs := [iv q.rules[i].wr, iv 0, iv (((q.vals.length : Nat) : Int) - 1)]) rfl rfl rfl) ⟨I0, I0, I0, I0, T0⟩ T0 T0 ?_
 refine gA (sp_not rfl rfl) I0 ?_
 refine gD (sp_pick (.tmp 188) (.tmp 196) (.const (.bool false)) true (bv true) (bv false) rfl) I0 I0 I0 ?_
 refine oD (sp_pick (.tmp 184) (.const (.bool true)) (.tmp 197) false (bv true) (bv true) rfl) I0 I0 I0 ?_
 refine kN 276 [(1, .box 27 (cFm q)), (2, .box 59 (cRu q.rules[i]))] [(2, .box 1 0), (5, .box 2 0), (6, iv q.states.length), (198, bv true)] ?_
 rw [show (!decide (shE q.vals.length q.rules[i].rd q.rules[i].wr = 0)) = true by first | (simp [shE, ixB, hs1, hs10, hs17, hs26, hs27, hs28, hs29, hs30, hs31f]; done) | (simp [shE, ixB, inB, hs1, hs10, hs17, hs26, hs27, hs28, hs29, hs30, hs31f]; done)]
 exact t_meet T0 (wk_keep _ _ rfl (by kernel_rfl) (by kernel_rfl))
 by_cases hs32 : (inB 0 (((q.vals.length : Nat) : Int) - 1) q.rules[i].rd) = true
 by_cases hs33 : q.rules[i].wr = (-1)
 refine tri_region ?_
 refine oA (fB 10 (.tmp 5) rfl Try.underlying59 rfl 1 rfl) I0 ?_
 refine oB (lB (.box 59 (cRu q.rules[i])) (iv q.rules[i].rd) (.tmp 171) rfl Try.underlying3 rfl rfl) I0 rfl ?_
 refine oC (sp_neq rfl (dF' hs29)) I0 I0 ?_
 refine oA (sp_move (.tmp 173) (bv true) rfl) I0 ?_
 refine gA (fB 10 (.tmp 5) rfl Try.underlying59 rfl 1 rfl) I0 ?_
 refine gB (lB (.box 59 (cRu q.rules[i])) (iv q.rules[i].rd) (.tmp 175) rfl Try.underlying3 rfl rfl) I0 rfl ?_
 refine gA (fB 4 (.tmp 2) rfl Try.underlying27 rfl 1 rfl) I0 ?_
 refine gB (lB (.box 27 (cFm q)) (strsA q.vals) (.tmp 177) rfl Try.underlying22 rfl rfl) I0 rfl ?_
 refine gA (sp_lenSl (.tmp 178) rfl Try.underlying22) I0 ?_
 refine gC (sp_sub (c := ((q.vals.length : Nat) : Int) - 1) rfl (w64 (by omega) (by omega) (by omega))) I0 I0 ?_
 refine t_opG rfl (sp_call (c := .func 69) (xs := #[.tmp 176, .const (.int .i64 0), .tmp 180]) [] (ctr_b (within_c q.rules[i].rd 0 (((q.vals.length : Nat) : Int) - 1)) hs32) rfl (by kernel_rfl) rfl (Xs := [iv q.rules[i].rd, iv 0, iv (((q.vals.length : Nat) : Int) - 1)]) rfl rfl rfl) ⟨I0, I0, I0, I0, T0⟩ T0 T0 ?_
 refine gA (sp_not rfl rfl) I0 ?_
 refine oD (sp_pick (.tmp 174) (.tmp 182) (.const (.bool false)) true (bv false) (bv false) rfl) I0 I0 I0 ?_
 refine oA (sp_move (.tmp 183) (bv false) rfl) I0 ?_
 refine gA (fB 11 (.tmp 5) rfl Try.underlying59 rfl 1 rfl) I0 ?_
 refine gB (lB (.box 59 (cRu q.rules[i])) (iv q.rules[i].wr) (.tmp 185) rfl Try.underlying3 rfl rfl) I0 rfl ?_
 refine gC (sp_neq rfl (dT' hs33)) I0 I0 ?_
 refine gA (sp_move (.tmp 187) (bv false) rfl) I0 ?_
 refine t_skip rfl ?_
 refine t_skip rfl ?_
 refine t_skip rfl ?_
 refine t_skip rfl ?_
 refine t_skip rfl ?_
 refine t_skip rfl ?_
 refine t_skip rfl ?_
 refine t_skip rfl ?_
 refine gD (sp_pick (.tmp 188) (.tmp 196) (.const (.bool false)) false (.v (.tuple #[])) (bv false) rfl) I0 I0 I0 ?_
 refine oD (sp_pick (.tmp 184) (.const (.bool true)) (.tmp 197) false (bv true) (bv false) rfl) I0 I0 I0 ?_
 refine kN 276 [(1, .box 27 (cFm q)), (2, .box 59 (cRu q.rules[i]))] [(2, .box 1 0), (5, .box 2 0), (6, iv q.states.length), (198, bv false)] ?_
 rw [show (!decide (shE q.vals.length q.rules[i].rd q.rules[i].wr = 0)) = false by first | (simp [shE, ixB, hs1, hs10, hs17, hs26, hs27, hs28, hs29, hs32, hs33]; done) | (simp [shE, ixB, inB, hs1, hs10, hs17, hs26, hs27, hs28, hs29, hs32, hs33]; done)]
 exact t_meet T0 (wk_keep _ _ rfl (by kernel_rfl) (by kernel_rfl))
 by_cases hs34 : (inB 0 (((q.vals.length : Nat) : Int) - 1) q.rules[i].wr) = true
 refine tri_region ?_
 refine oA (fB 10 (.tmp 5) rfl Try.underlying59 rfl 1 rfl) I0 ?_
 refine oB (lB (.box 59 (cRu q.rules[i])) (iv q.rules[i].rd) (.tmp 171) rfl Try.underlying3 rfl rfl) I0 rfl ?_
 refine oC (sp_neq rfl (dF' hs29)) I0 I0 ?_
 refine oA (sp_move (.tmp 173) (bv true) rfl) I0 ?_
 refine gA (fB 10 (.tmp 5) rfl Try.underlying59 rfl 1 rfl) I0 ?_
 refine gB (lB (.box 59 (cRu q.rules[i])) (iv q.rules[i].rd) (.tmp 175) rfl Try.underlying3 rfl rfl) I0 rfl ?_
 refine gA (fB 4 (.tmp 2) rfl Try.underlying27 rfl 1 rfl) I0 ?_
 refine gB (lB (.box 27 (cFm q)) (strsA q.vals) (.tmp 177) rfl Try.underlying22 rfl rfl) I0 rfl ?_
 refine gA (sp_lenSl (.tmp 178) rfl Try.underlying22) I0 ?_
 refine gC (sp_sub (c := ((q.vals.length : Nat) : Int) - 1) rfl (w64 (by omega) (by omega) (by omega))) I0 I0 ?_
 refine t_opG rfl (sp_call (c := .func 69) (xs := #[.tmp 176, .const (.int .i64 0), .tmp 180]) [] (ctr_b (within_c q.rules[i].rd 0 (((q.vals.length : Nat) : Int) - 1)) hs32) rfl (by kernel_rfl) rfl (Xs := [iv q.rules[i].rd, iv 0, iv (((q.vals.length : Nat) : Int) - 1)]) rfl rfl rfl) ⟨I0, I0, I0, I0, T0⟩ T0 T0 ?_
 refine gA (sp_not rfl rfl) I0 ?_
 refine oD (sp_pick (.tmp 174) (.tmp 182) (.const (.bool false)) true (bv false) (bv false) rfl) I0 I0 I0 ?_
 refine oA (sp_move (.tmp 183) (bv false) rfl) I0 ?_
 refine gA (fB 11 (.tmp 5) rfl Try.underlying59 rfl 1 rfl) I0 ?_
 refine gB (lB (.box 59 (cRu q.rules[i])) (iv q.rules[i].wr) (.tmp 185) rfl Try.underlying3 rfl rfl) I0 rfl ?_
 refine gC (sp_neq rfl (dF' hs33)) I0 I0 ?_
 refine gA (sp_move (.tmp 187) (bv true) rfl) I0 ?_
 refine gA (fB 11 (.tmp 5) rfl Try.underlying59 rfl 1 rfl) I0 ?_
 refine gB (lB (.box 59 (cRu q.rules[i])) (iv q.rules[i].wr) (.tmp 189) rfl Try.underlying3 rfl rfl) I0 rfl ?_
 refine gA (fB 4 (.tmp 2) rfl Try.underlying27 rfl 1 rfl) I0 ?_
 refine gB (lB (.box 27 (cFm q)) (strsA q.vals) (.tmp 191) rfl Try.underlying22 rfl rfl) I0 rfl ?_
 refine gA (sp_lenSl (.tmp 192) rfl Try.underlying22) I0 ?_
 refine gC (sp_sub (c := ((q.vals.length : Nat) : Int) - 1) rfl (w64 (by omega) (by omega) (by omega))) I0 I0 ?_
 refine t_opG rfl (sp_call (c := .func 69) (xs := #[.tmp 190, .const (.int .i64 0), .tmp 194]) [] (ctr_b (within_c q.rules[i].wr 0 (((q.vals.length : Nat) : Int) - 1)) hs34) rfl (by kernel_rfl) rfl (Xs := [iv q.rules[i].wr, iv 0, iv (((q.vals.length : Nat) : Int) - 1)]) rfl rfl rfl) ⟨I0, I0, I0, I0, T0⟩ T0 T0 ?_
 refine gA (sp_not rfl rfl) I0 ?_
 refine gD (sp_pick (.tmp 188) (.tmp 196) (.const (.bool false)) true (bv false) (bv false) rfl) I0 I0 I0 ?_
 refine oD (sp_pick (.tmp 184) (.const (.bool true)) (.tmp 197) false (bv true) (bv false) rfl) I0 I0 I0 ?_
 refine kN 276 [(1, .box 27 (cFm q)), (2, .box 59 (cRu q.rules[i]))] [(2, .box 1 0), (5, .box 2 0), (6, iv q.states.length), (198, bv false)] ?_
 rw [show (!decide (shE q.vals.length q.rules[i].rd q.rules[i].wr = 0)) = false by first | (simp [shE, ixB, hs1, hs10, hs17, hs26, hs27, hs28, hs29, hs32, hs33, hs34]; done) | (simp [shE, ixB, inB, hs1, hs10, hs17, hs26, hs27, hs28, hs29, hs32, hs33, hs34]; done)]
 exact t_meet T0 (wk_keep _ _ rfl (by kernel_rfl) (by kernel_rfl))
 have hs34f : (inB 0 (((q.vals.length : Nat) : Int) - 1) q.rules[i].wr) = false := by simpa using hs34
 refine tri_region ?_
 refine oA (fB 10 (.tmp 5) rfl Try.underlying59 rfl 1 rfl) I0 ?_
 refine oB (lB (.box 59 (cRu q.rules[i])) (iv q.rules[i].rd) (.tmp 171) rfl Try.underlying3 rfl rfl) I0 rfl ?_
 refine oC (sp_neq rfl (dF' hs29)) I0 I0 ?_
 refine oA (sp_move (.tmp 173) (bv true) rfl) I0 ?_
 refine gA (fB 10 (.tmp 5) rfl Try.underlying59 rfl 1 rfl) I0 ?_
 refine gB (lB (.box 59 (cRu q.rules[i])) (iv q.rules[i].rd) (.tmp 175) rfl Try.underlying3 rfl rfl) I0 rfl ?_
 refine gA (fB 4 (.tmp 2) rfl Try.underlying27 rfl 1 rfl) I0 ?_
 refine gB (lB (.box 27 (cFm q)) (strsA q.vals) (.tmp 177) rfl Try.underlying22 rfl rfl) I0 rfl ?_
 refine gA (sp_lenSl (.tmp 178) rfl Try.underlying22) I0 ?_
 refine gC (sp_sub (c := ((q.vals.length : Nat) : Int) - 1) rfl (w64 (by omega) (by omega) (by omega))) I0 I0 ?_
 refine t_opG rfl (sp_call (c := .func 69) (xs := #[.tmp 176, .const (.int .i64 0), .tmp 180]) [] (ctr_b (within_c q.rules[i].rd 0 (((q.vals.length : Nat) : Int) - 1)) hs32) rfl (by kernel_rfl) rfl (Xs := [iv q.rules[i].rd, iv 0, iv (((q.vals.length : Nat) : Int) - 1)]) rfl rfl rfl) ⟨I0, I0, I0, I0, T0⟩ T0 T0 ?_
 refine gA (sp_not rfl rfl) I0 ?_
 refine oD (sp_pick (.tmp 174) (.tmp 182) (.const (.bool false)) true (bv false) (bv false) rfl) I0 I0 I0 ?_
 refine oA (sp_move (.tmp 183) (bv false) rfl) I0 ?_
 refine gA (fB 11 (.tmp 5) rfl Try.underlying59 rfl 1 rfl) I0 ?_
 refine gB (lB (.box 59 (cRu q.rules[i])) (iv q.rules[i].wr) (.tmp 185) rfl Try.underlying3 rfl rfl) I0 rfl ?_
 refine gC (sp_neq rfl (dF' hs33)) I0 I0 ?_
 refine gA (sp_move (.tmp 187) (bv true) rfl) I0 ?_
 refine gA (fB 11 (.tmp 5) rfl Try.underlying59 rfl 1 rfl) I0 ?_
 refine gB (lB (.box 59 (cRu q.rules[i])) (iv q.rules[i].wr) (.tmp 189) rfl Try.underlying3 rfl rfl) I0 rfl ?_
 refine gA (fB 4 (.tmp 2) rfl Try.underlying27 rfl 1 rfl) I0 ?_
 refine gB (lB (.box 27 (cFm q)) (strsA q.vals) (.tmp 191) rfl Try.underlying22 rfl rfl) I0 rfl ?_
 refine gA (sp_lenSl (.tmp 192) rfl Try.underlying22) I0 ?_
 refine gC (sp_sub (c := ((q.vals.length : Nat) : Int) - 1) rfl (w64 (by omega) (by omega) (by omega))) I0 I0 ?_
 refine t_opG rfl (sp_call (c := .func 69) (xs := #[.tmp 190, .const (.int .i64 0), .tmp 194]) [] (ctr_b (within_c q.rules[i].wr 0 (((q.vals.length : Nat) : Int) - 1)) hs34f) rfl (by kernel_rfl) rfl (Xs := [iv q.rules[i].wr, iv 0, iv (((q.vals.length : Nat) : Int) - 1)]) rfl rfl rfl) ⟨I0, I0, I0, I0, T0⟩ T0 T0 ?_
 refine gA (sp_not rfl rfl) I0 ?_
 refine gD (sp_pick (.tmp 188) (.tmp 196) (.const (.bool false)) true (bv true) (bv false) rfl) I0 I0 I0 ?_
 refine oD (sp_pick (.tmp 184) (.const (.bool true)) (.tmp 197) false (bv true) (bv true) rfl) I0 I0 I0 ?_
 refine kN 276 [(1, .box 27 (cFm q)), (2, .box 59 (cRu q.rules[i]))] [(2, .box 1 0), (5, .box 2 0), (6, iv q.states.length), (198, bv true)] ?_
 rw [show (!decide (shE q.vals.length q.rules[i].rd q.rules[i].wr = 0)) = true by first | (simp [shE, ixB, hs1, hs10, hs17, hs26, hs27, hs28, hs29, hs32, hs33, hs34f]; done) | (simp [shE, ixB, inB, hs1, hs10, hs17, hs26, hs27, hs28, hs29, hs32, hs33, hs34f]; done)]
 exact t_meet T0 (wk_keep _ _ rfl (by kernel_rfl) (by kernel_rfl))
 have hs32f : (inB 0 (((q.vals.length : Nat) : Int) - 1) q.rules[i].rd) = false := by simpa using hs32
 refine tri_region ?_
 refine oA (fB 10 (.tmp 5) rfl Try.underlying59 rfl 1 rfl) I0 ?_
 refine oB (lB (.box 59 (cRu q.rules[i])) (iv q.rules[i].rd) (.tmp 171) rfl Try.underlying3 rfl rfl) I0 rfl ?_
 refine oC (sp_neq rfl (dF' hs29)) I0 I0 ?_
 refine oA (sp_move (.tmp 173) (bv true) rfl) I0 ?_
 refine gA (fB 10 (.tmp 5) rfl Try.underlying59 rfl 1 rfl) I0 ?_
 refine gB (lB (.box 59 (cRu q.rules[i])) (iv q.rules[i].rd) (.tmp 175) rfl Try.underlying3 rfl rfl) I0 rfl ?_
 refine gA (fB 4 (.tmp 2) rfl Try.underlying27 rfl 1 rfl) I0 ?_
 refine gB (lB (.box 27 (cFm q)) (strsA q.vals) (.tmp 177) rfl Try.underlying22 rfl rfl) I0 rfl ?_
 refine gA (sp_lenSl (.tmp 178) rfl Try.underlying22) I0 ?_
 refine gC (sp_sub (c := ((q.vals.length : Nat) : Int) - 1) rfl (w64 (by omega) (by omega) (by omega))) I0 I0 ?_
 refine t_opG rfl (sp_call (c := .func 69) (xs := #[.tmp 176, .const (.int .i64 0), .tmp 180]) [] (ctr_b (within_c q.rules[i].rd 0 (((q.vals.length : Nat) : Int) - 1)) hs32f) rfl (by kernel_rfl) rfl (Xs := [iv q.rules[i].rd, iv 0, iv (((q.vals.length : Nat) : Int) - 1)]) rfl rfl rfl) ⟨I0, I0, I0, I0, T0⟩ T0 T0 ?_
 refine gA (sp_not rfl rfl) I0 ?_
 refine oD (sp_pick (.tmp 174) (.tmp 182) (.const (.bool false)) true (bv true) (bv false) rfl) I0 I0 I0 ?_
 refine oA (sp_move (.tmp 183) (bv true) rfl) I0 ?_
 refine t_skip rfl ?_
 refine t_skip rfl ?_
 refine t_skip rfl ?_
 refine t_skip rfl ?_
 refine t_skip rfl ?_
 refine t_skip rfl ?_
 refine t_skip rfl ?_
 refine t_skip rfl ?_
 refine t_skip rfl ?_
 refine t_skip rfl ?_
 refine t_skip rfl ?_
 refine t_skip rfl ?_
 refine t_skip rfl ?_
 refine oD (sp_pick (.tmp 184) (.const (.bool true)) (.tmp 197) true (bv true) (.v (.tuple #[])) rfl) I0 I0 I0 ?_
 refine kN 276 [(1, .box 27 (cFm q)), (2, .box 59 (cRu q.rules[i]))] [(2, .box 1 0), (5, .box 2 0), (6, iv q.states.length), (198, bv true)] ?_
 rw [show (!decide (shE q.vals.length q.rules[i].rd q.rules[i].wr = 0)) = true by first | (simp [shE, ixB, hs1, hs10, hs17, hs26, hs27, hs28, hs29, hs32f]; done) | (simp [shE, ixB, inB, hs1, hs10, hs17, hs26, hs27, hs28, hs29, hs32f]; done)]
 exact t_meet T0 (wk_keep _ _ rfl (by kernel_rfl) (by kernel_rfl))
 refine t_then ?_
 by_cases hs35 : shE q.vals.length q.rules[i].rd q.rules[i].wr = 0
 rw [dT hs35]
 refine kW 276 [(1, .box 27 (cFm q)), (2, .box 59 (cRu q.rules[i]))] [(2, .box 1 0), (5, .box 2 0), (6, iv q.states.length), (198, bv false)] ?_
 refine t_condF rfl ?_
 refine tri_skip ?_
 refine t_then ?_
 refine tri_seq ?_
 refine tri_seq ?_
 refine tri_region ?_
 refine oA (fB 12 (.tmp 5) rfl Try.underlying59 rfl 1 rfl) I0 ?_
 refine oB (lB (.box 59 (cRu q.rules[i])) (intsA q.rules[i].send) (.tmp 199) rfl Try.underlying24 rfl rfl) I0 rfl ?_
 refine oA (fB 3 (.tmp 2) rfl Try.underlying27 rfl 1 rfl) I0 ?_
 refine oB (lB (.box 27 (cFm q)) (strsA q.msgs) (.tmp 201) rfl Try.underlying22 rfl rfl) I0 rfl ?_
 refine oA (sp_lenSl (.tmp 202) rfl Try.underlying22) I0 ?_
 refine oD (sp_call (c := .func 67) (xs := #[.tmp 200, .tmp 203]) [] (rSet_c q.msgs.length (by omega) q.rules[i].send HR.send) rfl (by kernel_rfl) rfl (Xs := [intsA q.rules[i].send, iv q.msgs.length]) rfl rfl rfl) I0 I0 I0 ?_
 refine oA (sp_assign (.tmp 204) (iv (setE q.msgs.length q.rules[i].send)) rfl) I0 ?_
 refine kN 276 [(1, .box 27 (cFm q)), (2, .box 59 (cRu q.rules[i]))] [(2, .box 1 0), (5, .box 2 0), (6, iv q.states.length), (14, iv (setE q.msgs.length q.rules[i].send))] ?_
 refine t_then ?_
 refine tri_seq ?_
 by_cases hs36 : setE q.msgs.length q.rules[i].send = 0
 refine tri_region ?_
 refine oA (sp_move (.tmp 14) (iv (setE q.msgs.length q.rules[i].send)) rfl) I0 ?_
 refine oC (sp_neq rfl (dT' hs36)) I0 I0 ?_
 refine kN 276 [(1, .box 27 (cFm q)), (2, .box 59 (cRu q.rules[i]))] [(2, .box 1 0), (5, .box 2 0), (6, iv q.states.length), (14, iv (setE q.msgs.length q.rules[i].send)), (206, bv false)] ?_
 refine t_then ?_
 refine t_condF rfl ?_
 refine tri_skip ?_
 refine t_then ?_
 refine tri_seq ?_
 refine tri_seq ?_
 refine tri_region ?_
 refine oA (fB 14 (.tmp 5) rfl Try.underlying59 rfl 1 rfl) I0 ?_
 refine oB (lB (.box 59 (cRu q.rules[i])) (intsA q.rules[i].left) (.tmp 208) rfl Try.underlying24 rfl rfl) I0 rfl ?_
 refine oA (sp_move (.tmp 6) (iv q.states.length) rfl) I0 ?_
 refine oD (sp_call (c := .func 67) (xs := #[.tmp 209, .tmp 210]) [] (rSet_c q.states.length (by omega) q.rules[i].left HR.left) rfl (by kernel_rfl) rfl (Xs := [intsA q.rules[i].left, iv q.states.length]) rfl rfl rfl) I0 I0 I0 ?_
 refine oA (sp_assign (.tmp 211) (iv (setE q.states.length q.rules[i].left)) rfl) I0 ?_
 refine kN 276 [(1, .box 27 (cFm q)), (2, .box 59 (cRu q.rules[i]))] [(2, .box 1 0), (5, .box 2 0), (6, iv q.states.length), (15, iv (setE q.states.length q.rules[i].left))] ?_
 refine t_then ?_
 refine tri_seq ?_
 by_cases hs37 : setE q.states.length q.rules[i].left = 0
 refine tri_region ?_
 refine oA (sp_move (.tmp 15) (iv (setE q.states.length q.rules[i].left)) rfl) I0 ?_
 refine oC (sp_neq rfl (dT' hs37)) I0 I0 ?_
 refine kN 276 [(1, .box 27 (cFm q)), (2, .box 59 (cRu q.rules[i]))] [(2, .box 1 0), (5, .box 2 0), (6, iv q.states.length), (15, iv (setE q.states.length q.rules[i].left)), (213, bv false)] ?_
 refine t_then ?_
 refine t_condF rfl ?_
 refine tri_skip ?_
 refine t_then ?_
 refine tri_seq ?_
 refine tri_seq ?_
 refine tri_region ?_
 refine oA (fB 15 (.tmp 5) rfl Try.underlying59 rfl 1 rfl) I0 ?_
 refine oB (lB (.box 59 (cRu q.rules[i])) (intsA q.rules[i].right) (.tmp 215) rfl Try.underlying24 rfl rfl) I0 rfl ?_
 refine oA (sp_move (.tmp 6) (iv q.states.length) rfl) I0 ?_
 refine oD (sp_call (c := .func 67) (xs := #[.tmp 216, .tmp 217]) [] (rSet_c q.states.length (by omega) q.rules[i].right HR.right) rfl (by kernel_rfl) rfl (Xs := [intsA q.rules[i].right, iv q.states.length]) rfl rfl rfl) I0 I0 I0 ?_
 refine oA (sp_assign (.tmp 218) (iv (setE q.states.length q.rules[i].right)) rfl) I0 ?_
 refine kN 276 [(1, .box 27 (cFm q)), (2, .box 59 (cRu q.rules[i]))] [(2, .box 1 0), (5, .box 2 0), (6, iv q.states.length), (16, iv (setE q.states.length q.rules[i].right))] ?_
 refine t_then ?_
 refine tri_seq ?_
 by_cases hs38 : setE q.states.length q.rules[i].right = 0
 refine tri_region ?_
 refine oA (sp_move (.tmp 16) (iv (setE q.states.length q.rules[i].right)) rfl) I0 ?_
 refine oC (sp_neq rfl (dT' hs38)) I0 I0 ?_
 refine kN 276 [(1, .box 27 (cFm q)), (2, .box 59 (cRu q.rules[i]))] [(2, .box 1 0), (5, .box 2 0), (6, iv q.states.length), (16, iv (setE q.states.length q.rules[i].right)), (220, bv false)] ?_
 refine t_then ?_
 refine t_condF rfl ?_
 refine tri_skip ?_
 refine t_then ?_
 refine tri_seq ?_
 refine tri_seq ?_
 refine tri_region ?_
 refine oA (fB 16 (.tmp 5) rfl Try.underlying59 rfl 1 rfl) I0 ?_
 refine oB (lB (.box 59 (cRu q.rules[i])) (intsA q.rules[i].parent) (.tmp 222) rfl Try.underlying24 rfl rfl) I0 rfl ?_
 refine oA (sp_move (.tmp 6) (iv q.states.length) rfl) I0 ?_
 refine oD (sp_call (c := .func 67) (xs := #[.tmp 223, .tmp 224]) [] (rSet_c q.states.length (by omega) q.rules[i].parent HR.parent) rfl (by kernel_rfl) rfl (Xs := [intsA q.rules[i].parent, iv q.states.length]) rfl rfl rfl) I0 I0 I0 ?_
 refine oA (sp_assign (.tmp 225) (iv (setE q.states.length q.rules[i].parent)) rfl) I0 ?_
 refine kN 276 [(1, .box 27 (cFm q)), (2, .box 59 (cRu q.rules[i]))] [(2, .box 1 0), (5, .box 2 0), (17, iv (setE q.states.length q.rules[i].parent))] ?_
 refine t_then ?_
 refine tri_seq ?_
 by_cases hs39 : setE q.states.length q.rules[i].parent = 0
 refine tri_region ?_
 refine oA (sp_move (.tmp 17) (iv (setE q.states.length q.rules[i].parent)) rfl) I0 ?_
 refine oC (sp_neq rfl (dT' hs39)) I0 I0 ?_
 refine kN 276 [(1, .box 27 (cFm q)), (2, .box 59 (cRu q.rules[i]))] [(2, .box 1 0), (5, .box 2 0), (17, iv (setE q.states.length q.rules[i].parent)), (227, bv false)] ?_
 refine t_then ?_
 refine t_condF rfl ?_
 refine tri_skip ?_
 refine t_then ?_
 refine tri_seq ?_
 refine tri_seq ?_
 refine t_cut (True) (ofL [(1, .box 27 (cFm q)), (2, .box 59 (cRu q.rules[i]))]) (ofT 276 [(2, .box 1 0), (5, .box 2 0), (247, bv (!decide (poX q q.rules[i] = 0)))]) ?_ (fun _ => ?_)
 by_cases hs40 : q.rules[i].kind = 4
 by_cases hs41 : (inB 0 2 q.rules[i].pos) = true
 by_cases hs42 : q.rules[i].pos = 0
 refine tri_region ?_
 refine oA (fB 1 (.tmp 5) rfl Try.underlying59 rfl 1 rfl) I0 ?_
 refine oB (lB (.box 59 (cRu q.rules[i])) (iv q.rules[i].kind) (.tmp 229) rfl Try.underlying3 rfl rfl) I0 rfl ?_
 refine oC (sp_eql rfl (dT hs40)) I0 I0 ?_
 refine oA (sp_move (.tmp 231) (bv true) rfl) I0 ?_
 refine gA (fB 13 (.tmp 5) rfl Try.underlying59 rfl 1 rfl) I0 ?_
 refine gB (lB (.box 59 (cRu q.rules[i])) (iv q.rules[i].pos) (.tmp 233) rfl Try.underlying3 rfl rfl) I0 rfl ?_
 refine t_opG rfl (sp_call (c := .func 69) (xs := #[.tmp 234, .const (.int .i64 0), .const (.int .i64 2)]) [] (ctr_b (within_c q.rules[i].pos 0 2) hs41) rfl (by kernel_rfl) rfl (Xs := [iv q.rules[i].pos, iv 0, iv 2]) rfl rfl rfl) ⟨I0, I0, I0, I0, T0⟩ T0 T0 ?_
 refine gA (sp_not rfl rfl) I0 ?_
 refine gA (sp_move (.tmp 236) (bv false) rfl) I0 ?_
 refine gA (fB 13 (.tmp 5) rfl Try.underlying59 rfl 1 rfl) I0 ?_
 refine gB (lB (.box 59 (cRu q.rules[i])) (iv q.rules[i].pos) (.tmp 238) rfl Try.underlying3 rfl rfl) I0 rfl ?_
 refine gC (sp_neq rfl (dT' hs42)) I0 I0 ?_
 refine gA (sp_move (.tmp 240) (bv false) rfl) I0 ?_
 refine t_skip rfl ?_
 refine t_skip rfl ?_
 refine t_skip rfl ?_
 refine gD (sp_pick (.tmp 241) (.tmp 244) (.const (.bool false)) false (.v (.tuple #[])) (bv false) rfl) I0 I0 I0 ?_
 refine gD (sp_pick (.tmp 237) (.const (.bool true)) (.tmp 245) false (bv true) (bv false) rfl) I0 I0 I0 ?_
 refine oD (sp_pick (.tmp 232) (.tmp 246) (.const (.bool false)) true (bv false) (bv false) rfl) I0 I0 I0 ?_
 refine kN 276 [(1, .box 27 (cFm q)), (2, .box 59 (cRu q.rules[i]))] [(2, .box 1 0), (5, .box 2 0), (247, bv false)] ?_
 rw [show (!decide (poX q q.rules[i] = 0)) = false by first | (simp [poX, posE, hs1, hs10, hs17, hs26, hs27, hs28, hs35, hs36, hs37, hs38, hs39, hs40, hs41, hs42]; done) | (simp [poX, posE, inB, hs1, hs10, hs17, hs26, hs27, hs28, hs35, hs36, hs37, hs38, hs39, hs40, hs41, hs42]; done)]
 exact t_meet T0 (wk_keep _ _ rfl (by kernel_rfl) (by kernel_rfl))
 by_cases hs43 : q.top = 3
 refine tri_region ?_
 refine oA (fB 1 (.tmp 5) rfl Try.underlying59 rfl 1 rfl) I0 ?_
 refine oB (lB (.box 59 (cRu q.rules[i])) (iv q.rules[i].kind) (.tmp 229) rfl Try.underlying3 rfl rfl) I0 rfl ?_
 refine oC (sp_eql rfl (dT hs40)) I0 I0 ?_
 refine oA (sp_move (.tmp 231) (bv true) rfl) I0 ?_
 refine gA (fB 13 (.tmp 5) rfl Try.underlying59 rfl 1 rfl) I0 ?_
 refine gB (lB (.box 59 (cRu q.rules[i])) (iv q.rules[i].pos) (.tmp 233) rfl Try.underlying3 rfl rfl) I0 rfl ?_
 refine t_opG rfl (sp_call (c := .func 69) (xs := #[.tmp 234, .const (.int .i64 0), .const (.int .i64 2)]) [] (ctr_b (within_c q.rules[i].pos 0 2) hs41) rfl (by kernel_rfl) rfl (Xs := [iv q.rules[i].pos, iv 0, iv 2]) rfl rfl rfl) ⟨I0, I0, I0, I0, T0⟩ T0 T0 ?_
 refine gA (sp_not rfl rfl) I0 ?_
 refine gA (sp_move (.tmp 236) (bv false) rfl) I0 ?_
 refine gA (fB 13 (.tmp 5) rfl Try.underlying59 rfl 1 rfl) I0 ?_
 refine gB (lB (.box 59 (cRu q.rules[i])) (iv q.rules[i].pos) (.tmp 238) rfl Try.underlying3 rfl rfl) I0 rfl ?_
 refine gC (sp_neq rfl (dF' hs42)) I0 I0 ?_
 refine gA (sp_move (.tmp 240) (bv true) rfl) I0 ?_
 refine gA (fB 1 (.tmp 2) rfl Try.underlying27 rfl 1 rfl) I0 ?_
 refine gB (lB (.box 27 (cFm q)) (iv q.top) (.tmp 242) rfl Try.underlying3 rfl rfl) I0 rfl ?_
 refine gC (sp_eql rfl (dT hs43)) I0 I0 ?_
 refine gD (sp_pick (.tmp 241) (.tmp 244) (.const (.bool false)) true (bv true) (bv false) rfl) I0 I0 I0 ?_
 refine gD (sp_pick (.tmp 237) (.const (.bool true)) (.tmp 245) false (bv true) (bv true) rfl) I0 I0 I0 ?_
 refine oD (sp_pick (.tmp 232) (.tmp 246) (.const (.bool false)) true (bv true) (bv false) rfl) I0 I0 I0 ?_
 refine kN 276 [(1, .box 27 (cFm q)), (2, .box 59 (cRu q.rules[i]))] [(2, .box 1 0), (5, .box 2 0), (247, bv true)] ?_
 rw [show (!decide (poX q q.rules[i] = 0)) = true by first | (simp [poX, posE, hs1, hs10, hs17, hs26, hs27, hs28, hs35, hs36, hs37, hs38, hs39, hs40, hs41, hs42, hs43]; done) | (simp [poX, posE, inB, hs1, hs10, hs17, hs26, hs27, hs28, hs35, hs36, hs37, hs38, hs39, hs40, hs41, hs42, hs43]; done)]
 exact t_meet T0 (wk_keep _ _ rfl (by kernel_rfl) (by kernel_rfl))
 refine tri_region ?_
 refine oA (fB 1 (.tmp 5) rfl Try.underlying59 rfl 1 rfl) I0 ?_
 refine oB (lB (.box 59 (cRu q.rules[i])) (iv q.rules[i].kind) (.tmp 229) rfl Try.underlying3 rfl rfl) I0 rfl ?_
 refine oC (sp_eql rfl (dT hs40)) I0 I0 ?_
 refine oA (sp_move (.tmp 231) (bv true) rfl) I0 ?_
 refine gA (fB 13 (.tmp 5) rfl Try.underlying59 rfl 1 rfl) I0 ?_
 refine gB (lB (.box 59 (cRu q.rules[i])) (iv q.rules[i].pos) (.tmp 233) rfl Try.underlying3 rfl rfl) I0 rfl ?_
 refine t_opG rfl (sp_call (c := .func 69) (xs := #[.tmp 234, .const (.int .i64 0), .const (.int .i64 2)]) [] (ctr_b (within_c q.rules[i].pos 0 2) hs41) rfl (by kernel_rfl) rfl (Xs := [iv q.rules[i].pos, iv 0, iv 2]) rfl rfl rfl) ⟨I0, I0, I0, I0, T0⟩ T0 T0 ?_
 refine gA (sp_not rfl rfl) I0 ?_
 refine gA (sp_move (.tmp 236) (bv false) rfl) I0 ?_
 refine gA (fB 13 (.tmp 5) rfl Try.underlying59 rfl 1 rfl) I0 ?_
 refine gB (lB (.box 59 (cRu q.rules[i])) (iv q.rules[i].pos) (.tmp 238) rfl Try.underlying3 rfl rfl) I0 rfl ?_
 refine gC (sp_neq rfl (dF' hs42)) I0 I0 ?_
 refine gA (sp_move (.tmp 240) (bv true) rfl) I0 ?_
 refine gA (fB 1 (.tmp 2) rfl Try.underlying27 rfl 1 rfl) I0 ?_
 refine gB (lB (.box 27 (cFm q)) (iv q.top) (.tmp 242) rfl Try.underlying3 rfl rfl) I0 rfl ?_
 refine gC (sp_eql rfl (dF hs43)) I0 I0 ?_
 refine gD (sp_pick (.tmp 241) (.tmp 244) (.const (.bool false)) true (bv false) (bv false) rfl) I0 I0 I0 ?_
 refine gD (sp_pick (.tmp 237) (.const (.bool true)) (.tmp 245) false (bv true) (bv false) rfl) I0 I0 I0 ?_
 refine oD (sp_pick (.tmp 232) (.tmp 246) (.const (.bool false)) true (bv false) (bv false) rfl) I0 I0 I0 ?_
 refine kN 276 [(1, .box 27 (cFm q)), (2, .box 59 (cRu q.rules[i]))] [(2, .box 1 0), (5, .box 2 0), (247, bv false)] ?_
 rw [show (!decide (poX q q.rules[i] = 0)) = false by first | (simp [poX, posE, hs1, hs10, hs17, hs26, hs27, hs28, hs35, hs36, hs37, hs38, hs39, hs40, hs41, hs42, hs43]; done) | (simp [poX, posE, inB, hs1, hs10, hs17, hs26, hs27, hs28, hs35, hs36, hs37, hs38, hs39, hs40, hs41, hs42, hs43]; done)]
 exact t_meet T0 (wk_keep _ _ rfl (by kernel_rfl) (by kernel_rfl))
 have hs41f : (inB 0 2 q.rules[i].pos) = false := by simpa using hs41
 refine tri_region ?_
 refine oA (fB 1 (.tmp 5) rfl Try.underlying59 rfl 1 rfl) I0 ?_
 refine oB (lB (.box 59 (cRu q.rules[i])) (iv q.rules[i].kind) (.tmp 229) rfl Try.underlying3 rfl rfl) I0 rfl ?_
 refine oC (sp_eql rfl (dT hs40)) I0 I0 ?_
 refine oA (sp_move (.tmp 231) (bv true) rfl) I0 ?_
 refine gA (fB 13 (.tmp 5) rfl Try.underlying59 rfl 1 rfl) I0 ?_
 refine gB (lB (.box 59 (cRu q.rules[i])) (iv q.rules[i].pos) (.tmp 233) rfl Try.underlying3 rfl rfl) I0 rfl ?_
 refine t_opG rfl (sp_call (c := .func 69) (xs := #[.tmp 234, .const (.int .i64 0), .const (.int .i64 2)]) [] (ctr_b (within_c q.rules[i].pos 0 2) hs41f) rfl (by kernel_rfl) rfl (Xs := [iv q.rules[i].pos, iv 0, iv 2]) rfl rfl rfl) ⟨I0, I0, I0, I0, T0⟩ T0 T0 ?_
 refine gA (sp_not rfl rfl) I0 ?_
 refine gA (sp_move (.tmp 236) (bv true) rfl) I0 ?_
 refine t_skip rfl ?_
 refine t_skip rfl ?_
 refine t_skip rfl ?_
 refine t_skip rfl ?_
 refine t_skip rfl ?_
 refine t_skip rfl ?_
 refine t_skip rfl ?_
 refine t_skip rfl ?_
 refine gD (sp_pick (.tmp 237) (.const (.bool true)) (.tmp 245) true (bv true) (.v (.tuple #[])) rfl) I0 I0 I0 ?_
 refine oD (sp_pick (.tmp 232) (.tmp 246) (.const (.bool false)) true (bv true) (bv false) rfl) I0 I0 I0 ?_
 refine kN 276 [(1, .box 27 (cFm q)), (2, .box 59 (cRu q.rules[i]))] [(2, .box 1 0), (5, .box 2 0), (247, bv true)] ?_
 rw [show (!decide (poX q q.rules[i] = 0)) = true by first | (simp [poX, posE, hs1, hs10, hs17, hs26, hs27, hs28, hs35, hs36, hs37, hs38, hs39, hs40, hs41f]; done) | (simp [poX, posE, inB, hs1, hs10, hs17, hs26, hs27, hs28, hs35, hs36, hs37, hs38, hs39, hs40, hs41f]; done)]
 exact t_meet T0 (wk_keep _ _ rfl (by kernel_rfl) (by kernel_rfl))
 refine tri_region ?_
 refine oA (fB 1 (.tmp 5) rfl Try.underlying59 rfl 1 rfl) I0 ?_
 refine oB (lB (.box 59 (cRu q.rules[i])) (iv q.rules[i].kind) (.tmp 229) rfl Try.underlying3 rfl rfl) I0 rfl ?_
 refine oC (sp_eql rfl (dF hs40)) I0 I0 ?_
 refine oA (sp_move (.tmp 231) (bv false) rfl) I0 ?_
 refine t_skip rfl ?_
 refine t_skip rfl ?_
 refine t_skip rfl ?_
 refine t_skip rfl ?_
 refine t_skip rfl ?_
 refine t_skip rfl ?_
 refine t_skip rfl ?_
 refine t_skip rfl ?_
 refine t_skip rfl ?_
 refine t_skip rfl ?_
 refine t_skip rfl ?_
 refine t_skip rfl ?_
 refine t_skip rfl ?_
 refine t_skip rfl ?_
 refine oD (sp_pick (.tmp 232) (.tmp 246) (.const (.bool false)) false (.v (.tuple #[])) (bv false) rfl) I0 I0 I0 ?_
 refine kN 276 [(1, .box 27 (cFm q)), (2, .box 59 (cRu q.rules[i]))] [(2, .box 1 0), (5, .box 2 0), (247, bv false)] ?_
 rw [show (!decide (poX q q.rules[i] = 0)) = false by first | (simp [poX, posE, hs1, hs10, hs17, hs26, hs27, hs28, hs35, hs36, hs37, hs38, hs39, hs40]; done) | (simp [poX, posE, inB, hs1, hs10, hs17, hs26, hs27, hs28, hs35, hs36, hs37, hs38, hs39, hs40]; done)]
 exact t_meet T0 (wk_keep _ _ rfl (by kernel_rfl) (by kernel_rfl))
 refine t_then ?_
 by_cases hs44 : poX q q.rules[i] = 0
 rw [dT hs44]
 refine kW 276 [(1, .box 27 (cFm q)), (2, .box 59 (cRu q.rules[i]))] [(2, .box 1 0), (5, .box 2 0), (247, bv false)] ?_
 refine t_condF rfl ?_
 refine tri_skip ?_
 refine t_then ?_
 refine tri_seq ?_
 refine tri_seq ?_
 refine t_cut (True) (ofL [(1, .box 27 (cFm q)), (2, .box 59 (cRu q.rules[i]))]) (ofT 276 [(2, .box 1 0), (5, .box 2 0), (261, bv (dir4 q q.rules[i]))]) ?_ (fun _ => ?_)
 by_cases hs45 : q.rules[i].kind = 5
 by_cases hs46 : q.top = 4
 by_cases hs47 : (inB 3 4 q.rules[i].dir) = true
 refine tri_region ?_
 refine oA (fB 1 (.tmp 5) rfl Try.underlying59 rfl 1 rfl) I0 ?_
 refine oB (lB (.box 59 (cRu q.rules[i])) (iv q.rules[i].kind) (.tmp 248) rfl Try.underlying3 rfl rfl) I0 rfl ?_
 refine oC (sp_eql rfl (dT hs45)) I0 I0 ?_
 refine oA (sp_move (.tmp 250) (bv true) rfl) I0 ?_
 refine gA (fB 1 (.tmp 2) rfl Try.underlying27 rfl 1 rfl) I0 ?_
 refine gB (lB (.box 27 (cFm q)) (iv q.top) (.tmp 252) rfl Try.underlying3 rfl rfl) I0 rfl ?_
 refine gC (sp_eql rfl (dT hs46)) I0 I0 ?_
 refine oD (sp_pick (.tmp 251) (.tmp 254) (.const (.bool false)) true (bv true) (bv false) rfl) I0 I0 I0 ?_
 refine oA (sp_move (.tmp 255) (bv true) rfl) I0 ?_
 refine gA (fB 17 (.tmp 5) rfl Try.underlying59 rfl 1 rfl) I0 ?_
 refine gB (lB (.box 59 (cRu q.rules[i])) (iv q.rules[i].dir) (.tmp 257) rfl Try.underlying3 rfl rfl) I0 rfl ?_
 refine t_opG rfl (sp_call (c := .func 69) (xs := #[.tmp 258, .const (.int .i64 3), .const (.int .i64 4)]) [] (ctr_b (within_c q.rules[i].dir 3 4) hs47) rfl (by kernel_rfl) rfl (Xs := [iv q.rules[i].dir, iv 3, iv 4]) rfl rfl rfl) ⟨I0, I0, I0, I0, T0⟩ T0 T0 ?_
 refine gA (sp_not rfl rfl) I0 ?_
 refine oD (sp_pick (.tmp 256) (.tmp 260) (.const (.bool false)) true (bv false) (bv false) rfl) I0 I0 I0 ?_
 refine kN 276 [(1, .box 27 (cFm q)), (2, .box 59 (cRu q.rules[i]))] [(2, .box 1 0), (5, .box 2 0), (261, bv false)] ?_
 rw [show (dir4 q q.rules[i]) = false by first | (simp [dir4, hs1, hs10, hs17, hs26, hs27, hs28, hs35, hs36, hs37, hs38, hs39, hs44, hs45, hs46, hs47]; done) | (simp [dir4, inB, hs1, hs10, hs17, hs26, hs27, hs28, hs35, hs36, hs37, hs38, hs39, hs44, hs45, hs46, hs47]; done)]
 exact t_meet T0 (wk_keep _ _ rfl (by kernel_rfl) (by kernel_rfl))
 have hs47f : (inB 3 4 q.rules[i].dir) = false := by simpa using hs47
 refine tri_region ?_
 refine oA (fB 1 (.tmp 5) rfl Try.underlying59 rfl 1 rfl) I0 ?_
 refine oB (lB (.box 59 (cRu q.rules[i])) (iv q.rules[i].kind) (.tmp 248) rfl Try.underlying3 rfl rfl) I0 rfl ?_
 refine oC (sp_eql rfl (dT hs45)) I0 I0 ?_
 refine oA (sp_move (.tmp 250) (bv true) rfl) I0 ?_
 refine gA (fB 1 (.tmp 2) rfl Try.underlying27 rfl 1 rfl) I0 ?_
 refine gB (lB (.box 27 (cFm q)) (iv q.top) (.tmp 252) rfl Try.underlying3 rfl rfl) I0 rfl ?_
 refine gC (sp_eql rfl (dT hs46)) I0 I0 ?_
 refine oD (sp_pick (.tmp 251) (.tmp 254) (.const (.bool false)) true (bv true) (bv false) rfl) I0 I0 I0 ?_
 refine oA (sp_move (.tmp 255) (bv true) rfl) I0 ?_
 refine gA (fB 17 (.tmp 5) rfl Try.underlying59 rfl 1 rfl) I0 ?_
 refine gB (lB (.box 59 (cRu q.rules[i])) (iv q.rules[i].dir) (.tmp 257) rfl Try.underlying3 rfl rfl) I0 rfl ?_
 refine t_opG rfl (sp_call (c := .func 69) (xs := #[.tmp 258, .const (.int .i64 3), .const (.int .i64 4)]) [] (ctr_b (within_c q.rules[i].dir 3 4) hs47f) rfl (by kernel_rfl) rfl (Xs := [iv q.rules[i].dir, iv 3, iv 4]) rfl rfl rfl) ⟨I0, I0, I0, I0, T0⟩ T0 T0 ?_
 refine gA (sp_not rfl rfl) I0 ?_
 refine oD (sp_pick (.tmp 256) (.tmp 260) (.const (.bool false)) true (bv true) (bv false) rfl) I0 I0 I0 ?_
 refine kN 276 [(1, .box 27 (cFm q)), (2, .box 59 (cRu q.rules[i]))] [(2, .box 1 0), (5, .box 2 0), (261, bv true)] ?_
 rw [show (dir4 q q.rules[i]) = true by first | (simp [dir4, hs1, hs10, hs17, hs26, hs27, hs28, hs35, hs36, hs37, hs38, hs39, hs44, hs45, hs46, hs47f]; done) | (simp [dir4, inB, hs1, hs10, hs17, hs26, hs27, hs28, hs35, hs36, hs37, hs38, hs39, hs44, hs45, hs46, hs47f]; done)]
 exact t_meet T0 (wk_keep _ _ rfl (by kernel_rfl) (by kernel_rfl))
 refine tri_region ?_
 refine oA (fB 1 (.tmp 5) rfl Try.underlying59 rfl 1 rfl) I0 ?_
 refine oB (lB (.box 59 (cRu q.rules[i])) (iv q.rules[i].kind) (.tmp 248) rfl Try.underlying3 rfl rfl) I0 rfl ?_
 refine oC (sp_eql rfl (dT hs45)) I0 I0 ?_
 refine oA (sp_move (.tmp 250) (bv true) rfl) I0 ?_
 refine gA (fB 1 (.tmp 2) rfl Try.underlying27 rfl 1 rfl) I0 ?_
 refine gB (lB (.box 27 (cFm q)) (iv q.top) (.tmp 252) rfl Try.underlying3 rfl rfl) I0 rfl ?_
 refine gC (sp_eql rfl (dF hs46)) I0 I0 ?_
 refine oD (sp_pick (.tmp 251) (.tmp 254) (.const (.bool false)) true (bv false) (bv false) rfl) I0 I0 I0 ?_
 refine oA (sp_move (.tmp 255) (bv false) rfl) I0 ?_
 refine t_skip rfl ?_
 refine t_skip rfl ?_
 refine t_skip rfl ?_
 refine t_skip rfl ?_
 refine oD (sp_pick (.tmp 256) (.tmp 260) (.const (.bool false)) false (.v (.tuple #[])) (bv false) rfl) I0 I0 I0 ?_
 refine kN 276 [(1, .box 27 (cFm q)), (2, .box 59 (cRu q.rules[i]))] [(2, .box 1 0), (5, .box 2 0), (261, bv false)] ?_
 rw [show (dir4 q q.rules[i]) = false by first | (simp [dir4, hs1, hs10, hs17, hs26, hs27, hs28, hs35, hs36, hs37, hs38, hs39, hs44, hs45, hs46]; done) | (simp [dir4, inB, hs1, hs10, hs17, hs26, hs27, hs28, hs35, hs36, hs37, hs38, hs39, hs44, hs45, hs46]; done)]
 exact t_meet T0 (wk_keep _ _ rfl (by kernel_rfl) (by kernel_rfl))
 refine tri_region ?_
 refine oA (fB 1 (.tmp 5) rfl Try.underlying59 rfl 1 rfl) I0 ?_
 refine oB (lB (.box 59 (cRu q.rules[i])) (iv q.rules[i].kind) (.tmp 248) rfl Try.underlying3 rfl rfl) I0 rfl ?_
 refine oC (sp_eql rfl (dF hs45)) I0 I0 ?_
 refine oA (sp_move (.tmp 250) (bv false) rfl) I0 ?_
 refine t_skip rfl ?_
 refine t_skip rfl ?_
 refine t_skip rfl ?_
 refine oD (sp_pick (.tmp 251) (.tmp 254) (.const (.bool false)) false (.v (.tuple #[])) (bv false) rfl) I0 I0 I0 ?_
 refine oA (sp_move (.tmp 255) (bv false) rfl) I0 ?_
 refine t_skip rfl ?_
 refine t_skip rfl ?_
 refine t_skip rfl ?_
 refine t_skip rfl ?_
 refine oD (sp_pick (.tmp 256) (.tmp 260) (.const (.bool false)) false (.v (.tuple #[])) (bv false) rfl) I0 I0 I0 ?_
 refine kN 276 [(1, .box 27 (cFm q)), (2, .box 59 (cRu q.rules[i]))] [(2, .box 1 0), (5, .box 2 0), (261, bv false)] ?_
 rw [show (dir4 q q.rules[i]) = false by first | (simp [dir4, hs1, hs10, hs17, hs26, hs27, hs28, hs35, hs36, hs37, hs38, hs39, hs44, hs45]; done) | (simp [dir4, inB, hs1, hs10, hs17, hs26, hs27, hs28, hs35, hs36, hs37, hs38, hs39, hs44, hs45]; done)]
 exact t_meet T0 (wk_keep _ _ rfl (by kernel_rfl) (by kernel_rfl))
 refine t_then ?_
 by_cases hs48 : (dir4 q q.rules[i]) = true
 rw [hs48]
 refine kW 276 [(1, .box 27 (cFm q)), (2, .box 59 (cRu q.rules[i]))] [(2, .box 1 0), (5, .box 2 0), (261, bv true)] ?_
 refine t_condT rfl ?_
 refine tri_seq ?_
 refine tri_region ?_
 refine oA (sp_assign (.const (.int .i64 1)) (iv 1) rfl) I0 ?_
 refine kN 276 [(1, .box 27 (cFm q)), (2, .box 59 (cRu q.rules[i]))] [(2, .box 1 0), (4, iv 1), (5, .box 2 0)] ?_
 refine t_then ?_
 refine tri_ret ?_
 refine t_then_ret ?_
 refine tri_end1 Try.results90 (.tmp rfl) ?_
 exact congrArg (fun x : Int => AV.v (.int .i64 x)) (Eq.trans ((((part_rest ⟨⟨⟨HRX, guardE_fin HG (by omega)⟩, hs27⟩, hs28⟩).trans (rest_6 hs35 hs36 hs37 hs38 hs39)).trans (by rw [hs44, orE_zero])).trans (diX_4 hs48)).symm (rruleE_part hs1 HNO hs10 hs17).symm)
 have hs48f : (dir4 q q.rules[i]) = false := by simpa using hs48
 rw [hs48f]
 refine kW 276 [(1, .box 27 (cFm q)), (2, .box 59 (cRu q.rules[i]))] [(2, .box 1 0), (5, .box 2 0), (261, bv false)] ?_
 refine t_condF rfl ?_
 refine tri_skip ?_
 refine t_then ?_
 refine tri_seq ?_
 refine tri_seq ?_
 refine t_cut (True) (ofL []) (ofT 276 [(275, bv (dirO q q.rules[i]))]) ?_ (fun _ => ?_)
 by_cases hs49 : q.rules[i].kind = 5
 by_cases hs50 : q.top = 4
 refine tri_region ?_
 refine oA (fB 1 (.tmp 5) rfl Try.underlying59 rfl 1 rfl) I0 ?_
 refine oB (lB (.box 59 (cRu q.rules[i])) (iv q.rules[i].kind) (.tmp 262) rfl Try.underlying3 rfl rfl) I0 rfl ?_
 refine oC (sp_eql rfl (dT hs49)) I0 I0 ?_
 refine oA (sp_move (.tmp 264) (bv true) rfl) I0 ?_
 refine gA (fB 1 (.tmp 2) rfl Try.underlying27 rfl 1 rfl) I0 ?_
 refine gB (lB (.box 27 (cFm q)) (iv q.top) (.tmp 266) rfl Try.underlying3 rfl rfl) I0 rfl ?_
 refine gC (sp_neq rfl (dT' hs50)) I0 I0 ?_
 refine oD (sp_pick (.tmp 265) (.tmp 268) (.const (.bool false)) true (bv false) (bv false) rfl) I0 I0 I0 ?_
 refine oA (sp_move (.tmp 269) (bv false) rfl) I0 ?_
 refine t_skip rfl ?_
 refine t_skip rfl ?_
 refine t_skip rfl ?_
 refine t_skip rfl ?_
 refine oD (sp_pick (.tmp 270) (.tmp 274) (.const (.bool false)) false (.v (.tuple #[])) (bv false) rfl) I0 I0 I0 ?_
 refine kN 276 [] [(275, bv false)] ?_
 rw [show (dirO q q.rules[i]) = false by first | (simp [dirO, hs1, hs10, hs17, hs26, hs27, hs28, hs35, hs36, hs37, hs38, hs39, hs44, hs48f, hs49, hs50]; done) | (simp [dirO, inB, hs1, hs10, hs17, hs26, hs27, hs28, hs35, hs36, hs37, hs38, hs39, hs44, hs48f, hs49, hs50]; done)]
 exact t_meet T0 (wk_keep [] _ rfl (by kernel_rfl) (by kernel_rfl))
 by_cases hs51 : (inB 1 2 q.rules[i].dir) = true
 refine tri_region ?_
 refine oA (fB 1 (.tmp 5) rfl Try.underlying59 rfl 1 rfl) I0 ?_
 refine oB (lB (.box 59 (cRu q.rules[i])) (iv q.rules[i].kind) (.tmp 262) rfl Try.underlying3 rfl rfl) I0 rfl ?_
 refine oC (sp_eql rfl (dT hs49)) I0 I0 ?_
 refine oA (sp_move (.tmp 264) (bv true) rfl) I0 ?_
 refine gA (fB 1 (.tmp 2) rfl Try.underlying27 rfl 1 rfl) I0 ?_
 refine gB (lB (.box 27 (cFm q)) (iv q.top) (.tmp 266) rfl Try.underlying3 rfl rfl) I0 rfl ?_
 refine gC (sp_neq rfl (dF' hs50)) I0 I0 ?_
 refine oD (sp_pick (.tmp 265) (.tmp 268) (.const (.bool false)) true (bv true) (bv false) rfl) I0 I0 I0 ?_
 refine oA (sp_move (.tmp 269) (bv true) rfl) I0 ?_
 refine gA (fB 17 (.tmp 5) rfl Try.underlying59 rfl 1 rfl) I0 ?_
 refine gB (lB (.box 59 (cRu q.rules[i])) (iv q.rules[i].dir) (.tmp 271) rfl Try.underlying3 rfl rfl) I0 rfl ?_
 refine t_opG rfl (sp_call (c := .func 69) (xs := #[.tmp 272, .const (.int .i64 1), .const (.int .i64 2)]) [] (ctr_b (within_c q.rules[i].dir 1 2) hs51) rfl (by kernel_rfl) rfl (Xs := [iv q.rules[i].dir, iv 1, iv 2]) rfl rfl rfl) ⟨I0, I0, I0, I0, T0⟩ T0 T0 ?_
 refine gA (sp_not rfl rfl) I0 ?_
 refine oD (sp_pick (.tmp 270) (.tmp 274) (.const (.bool false)) true (bv false) (bv false) rfl) I0 I0 I0 ?_
 refine kN 276 [] [(275, bv false)] ?_
 rw [show (dirO q q.rules[i]) = false by first | (simp [dirO, hs1, hs10, hs17, hs26, hs27, hs28, hs35, hs36, hs37, hs38, hs39, hs44, hs48f, hs49, hs50, hs51]; done) | (simp [dirO, inB, hs1, hs10, hs17, hs26, hs27, hs28, hs35, hs36, hs37, hs38, hs39, hs44, hs48f, hs49, hs50, hs51]; done)]
 exact t_meet T0 (wk_keep [] _ rfl (by kernel_rfl) (by kernel_rfl))
 have hs51f : (inB 1 2 q.rules[i].dir) = false := by simpa using hs51
 refine tri_region ?_
 refine oA (fB 1 (.tmp 5) rfl Try.underlying59 rfl 1 rfl) I0 ?_
 refine oB (lB (.box 59 (cRu q.rules[i])) (iv q.rules[i].kind) (.tmp 262) rfl Try.underlying3 rfl rfl) I0 rfl ?_
 refine oC (sp_eql rfl (dT hs49)) I0 I0 ?_
 refine oA (sp_move (.tmp 264) (bv true) rfl) I0 ?_
 refine gA (fB 1 (.tmp 2) rfl Try.underlying27 rfl 1 rfl) I0 ?_
 refine gB (lB (.box 27 (cFm q)) (iv q.top) (.tmp 266) rfl Try.underlying3 rfl rfl) I0 rfl ?_
 refine gC (sp_neq rfl (dF' hs50)) I0 I0 ?_
 refine oD (sp_pick (.tmp 265) (.tmp 268) (.const (.bool false)) true (bv true) (bv false) rfl) I0 I0 I0 ?_
 refine oA (sp_move (.tmp 269) (bv true) rfl) I0 ?_
 refine gA (fB 17 (.tmp 5) rfl Try.underlying59 rfl 1 rfl) I0 ?_
 refine gB (lB (.box 59 (cRu q.rules[i])) (iv q.rules[i].dir) (.tmp 271) rfl Try.underlying3 rfl rfl) I0 rfl ?_
 refine t_opG rfl (sp_call (c := .func 69) (xs := #[.tmp 272, .const (.int .i64 1), .const (.int .i64 2)]) [] (ctr_b (within_c q.rules[i].dir 1 2) hs51f) rfl (by kernel_rfl) rfl (Xs := [iv q.rules[i].dir, iv 1, iv 2]) rfl rfl rfl) ⟨I0, I0, I0, I0, T0⟩ T0 T0 ?_
 refine gA (sp_not rfl rfl) I0 ?_
 refine oD (sp_pick (.tmp 270) (.tmp 274) (.const (.bool false)) true (bv true) (bv false) rfl) I0 I0 I0 ?_
 refine kN 276 [] [(275, bv true)] ?_
 rw [show (dirO q q.rules[i]) = true by first | (simp [dirO, hs1, hs10, hs17, hs26, hs27, hs28, hs35, hs36, hs37, hs38, hs39, hs44, hs48f, hs49, hs50, hs51f]; done) | (simp [dirO, inB, hs1, hs10, hs17, hs26, hs27, hs28, hs35, hs36, hs37, hs38, hs39, hs44, hs48f, hs49, hs50, hs51f]; done)]
 exact t_meet T0 (wk_keep [] _ rfl (by kernel_rfl) (by kernel_rfl))
 refine tri_region ?_
 refine oA (fB 1 (.tmp 5) rfl Try.underlying59 rfl 1 rfl) I0 ?_
 refine oB (lB (.box 59 (cRu q.rules[i])) (iv q.rules[i].kind) (.tmp 262) rfl Try.underlying3 rfl rfl) I0 rfl ?_
 refine oC (sp_eql rfl (dF hs49)) I0 I0 ?_
 refine oA (sp_move (.tmp 264) (bv false) rfl) I0 ?_
 refine t_skip rfl ?_
 refine t_skip rfl ?_
 refine t_skip rfl ?_
 refine oD (sp_pick (.tmp 265) (.tmp 268) (.const (.bool false)) false (.v (.tuple #[])) (bv false) rfl) I0 I0 I0 ?_
 refine oA (sp_move (.tmp 269) (bv false) rfl) I0 ?_
 refine t_skip rfl ?_
 refine t_skip rfl ?_
 refine t_skip rfl ?_
 refine t_skip rfl ?_
 refine oD (sp_pick (.tmp 270) (.tmp 274) (.const (.bool false)) false (.v (.tuple #[])) (bv false) rfl) I0 I0 I0 ?_
 refine kN 276 [] [(275, bv false)] ?_
 rw [show (dirO q q.rules[i]) = false by first | (simp [dirO, hs1, hs10, hs17, hs26, hs27, hs28, hs35, hs36, hs37, hs38, hs39, hs44, hs48f, hs49]; done) | (simp [dirO, inB, hs1, hs10, hs17, hs26, hs27, hs28, hs35, hs36, hs37, hs38, hs39, hs44, hs48f, hs49]; done)]
 exact t_meet T0 (wk_keep [] _ rfl (by kernel_rfl) (by kernel_rfl))
 refine t_then ?_
 by_cases hs52 : (dirO q q.rules[i]) = true
 rw [hs52]
 refine kW 276 [] [(275, bv true)] ?_
 refine t_condT rfl ?_
 refine tri_seq ?_
 refine tri_region ?_
 refine oA (sp_assign (.const (.int .i64 1)) (iv 1) rfl) I0 ?_
 refine kN 276 [] [(4, iv 1)] ?_
 refine t_then ?_
 refine tri_ret ?_
 refine t_then_ret ?_
 refine tri_end1 Try.results90 (.tmp rfl) ?_
 exact congrArg (fun x : Int => AV.v (.int .i64 x)) (Eq.trans ((((part_rest ⟨⟨⟨HRX, guardE_fin HG (by omega)⟩, hs27⟩, hs28⟩).trans (rest_6 hs35 hs36 hs37 hs38 hs39)).trans (by rw [hs44, orE_zero])).trans (diX_O hs52)).symm (rruleE_part hs1 HNO hs10 hs17).symm)
 have hs52f : (dirO q q.rules[i]) = false := by simpa using hs52
 rw [hs52f]
 refine kW 276 [] [(275, bv false)] ?_
 refine t_condF rfl ?_
 refine tri_skip ?_
 refine t_then ?_
 refine tri_seq ?_
 refine tri_region ?_
 refine oA (sp_assign (.const (.int .i64 0)) (iv 0) rfl) I0 ?_
 refine kN 276 [] [(4, iv 0)] ?_
 refine t_then ?_
 refine tri_ret ?_
 refine tri_end1 Try.results90 (.tmp rfl) ?_
 exact congrArg (fun x : Int => AV.v (.int .i64 x)) (Eq.trans ((((part_rest ⟨⟨⟨HRX, guardE_fin HG (by omega)⟩, hs27⟩, hs28⟩).trans (rest_6 hs35 hs36 hs37 hs38 hs39)).trans (by rw [hs44, orE_zero])).trans (diX_0 hs48f hs52f)).symm (rruleE_part hs1 HNO hs10 hs17).symm)
 rw [dF hs44]
 refine kW 276 [(1, .box 27 (cFm q)), (2, .box 59 (cRu q.rules[i]))] [(2, .box 1 0), (5, .box 2 0), (247, bv true)] ?_
 refine t_condT rfl ?_
 refine tri_seq ?_
 refine tri_region ?_
 refine oA (sp_assign (.const (.int .i64 1)) (iv 1) rfl) I0 ?_
 refine kN 276 [(1, .box 27 (cFm q)), (2, .box 59 (cRu q.rules[i]))] [(2, .box 1 0), (4, iv 1), (5, .box 2 0)] ?_
 refine t_then ?_
 refine tri_ret ?_
 refine t_then_ret ?_
 refine tri_end1 Try.results90 (.tmp rfl) ?_
 exact congrArg (fun x : Int => AV.v (.int .i64 x)) (Eq.trans (((part_rest ⟨⟨⟨HRX, guardE_fin HG (by omega)⟩, hs27⟩, hs28⟩).trans (rest_6 hs35 hs36 hs37 hs38 hs39)).trans ((orE_ne _ hs44).trans (poX_one hs44))).symm (rruleE_part hs1 HNO hs10 hs17).symm)
 refine tri_region ?_
 refine oA (sp_move (.tmp 17) (iv (setE q.states.length q.rules[i].parent)) rfl) I0 ?_
 refine oC (sp_neq rfl (dF' hs39)) I0 I0 ?_
 refine kN 276 [(1, .box 27 (cFm q)), (2, .box 59 (cRu q.rules[i]))] [(2, .box 1 0), (5, .box 2 0), (17, iv (setE q.states.length q.rules[i].parent)), (227, bv true)] ?_
 refine t_then ?_
 refine t_condT rfl ?_
 refine tri_seq ?_
 refine tri_region ?_
 refine oA (sp_move (.tmp 17) (iv (setE q.states.length q.rules[i].parent)) rfl) I0 ?_
 refine oA (sp_assign (.tmp 228) (iv (setE q.states.length q.rules[i].parent)) rfl) I0 ?_
 refine kN 276 [(1, .box 27 (cFm q)), (2, .box 59 (cRu q.rules[i]))] [(2, .box 1 0), (4, iv (setE q.states.length q.rules[i].parent)), (5, .box 2 0)] ?_
 refine t_then ?_
 refine tri_ret ?_
 refine t_then_ret ?_
 refine tri_end1 Try.results90 (.tmp rfl) ?_
 exact congrArg (fun x : Int => AV.v (.int .i64 x)) (Eq.trans ((part_rest ⟨⟨⟨HRX, guardE_fin HG (by omega)⟩, hs27⟩, hs28⟩).trans (rest_5 hs35 hs36 hs37 hs38 hs39)).symm (rruleE_part hs1 HNO hs10 hs17).symm)
 refine tri_region ?_
 refine oA (sp_move (.tmp 16) (iv (setE q.states.length q.rules[i].right)) rfl) I0 ?_
 refine oC (sp_neq rfl (dF' hs38)) I0 I0 ?_
 refine kN 276 [(1, .box 27 (cFm q)), (2, .box 59 (cRu q.rules[i]))] [(2, .box 1 0), (5, .box 2 0), (6, iv q.states.length), (16, iv (setE q.states.length q.rules[i].right)), (220, bv true)] ?_
 refine t_then ?_
 refine t_condT rfl ?_
 refine tri_seq ?_
 refine tri_region ?_
 refine oA (sp_move (.tmp 16) (iv (setE q.states.length q.rules[i].right)) rfl) I0 ?_
 refine oA (sp_assign (.tmp 221) (iv (setE q.states.length q.rules[i].right)) rfl) I0 ?_
 refine kN 276 [(1, .box 27 (cFm q)), (2, .box 59 (cRu q.rules[i]))] [(2, .box 1 0), (4, iv (setE q.states.length q.rules[i].right)), (5, .box 2 0), (6, iv q.states.length)] ?_
 refine t_then ?_
 refine tri_ret ?_
 refine t_then_ret ?_
 refine tri_end1 Try.results90 (.tmp rfl) ?_
 exact congrArg (fun x : Int => AV.v (.int .i64 x)) (Eq.trans ((part_rest ⟨⟨⟨HRX, guardE_fin HG (by omega)⟩, hs27⟩, hs28⟩).trans (rest_4 hs35 hs36 hs37 hs38)).symm (rruleE_part hs1 HNO hs10 hs17).symm)
 refine tri_region ?_
 refine oA (sp_move (.tmp 15) (iv (setE q.states.length q.rules[i].left)) rfl) I0 ?_
 refine oC (sp_neq rfl (dF' hs37)) I0 I0 ?_
 refine kN 276 [(1, .box 27 (cFm q)), (2, .box 59 (cRu q.rules[i]))] [(2, .box 1 0), (5, .box 2 0), (6, iv q.states.length), (15, iv (setE q.states.length q.rules[i].left)), (213, bv true)] ?_
 refine t_then ?_
 refine t_condT rfl ?_
 refine tri_seq ?_
 refine tri_region ?_
 refine oA (sp_move (.tmp 15) (iv (setE q.states.length q.rules[i].left)) rfl) I0 ?_
 refine oA (sp_assign (.tmp 214) (iv (setE q.states.length q.rules[i].left)) rfl) I0 ?_
 refine kN 276 [(1, .box 27 (cFm q)), (2, .box 59 (cRu q.rules[i]))] [(2, .box 1 0), (4, iv (setE q.states.length q.rules[i].left)), (5, .box 2 0), (6, iv q.states.length)] ?_
 refine t_then ?_
 refine tri_ret ?_
 refine t_then_ret ?_
 refine tri_end1 Try.results90 (.tmp rfl) ?_
 exact congrArg (fun x : Int => AV.v (.int .i64 x)) (Eq.trans ((part_rest ⟨⟨⟨HRX, guardE_fin HG (by omega)⟩, hs27⟩, hs28⟩).trans (rest_3 hs35 hs36 hs37)).symm (rruleE_part hs1 HNO hs10 hs17).symm)
 refine tri_region ?_
 refine oA (sp_move (.tmp 14) (iv (setE q.msgs.length q.rules[i].send)) rfl) I0 ?_
 refine oC (sp_neq rfl (dF' hs36)) I0 I0 ?_
 refine kN 276 [(1, .box 27 (cFm q)), (2, .box 59 (cRu q.rules[i]))] [(2, .box 1 0), (5, .box 2 0), (6, iv q.states.length), (14, iv (setE q.msgs.length q.rules[i].send)), (206, bv true)] ?_
 refine t_then ?_
 refine t_condT rfl ?_
 refine tri_seq ?_
 refine tri_region ?_
 refine oA (sp_move (.tmp 14) (iv (setE q.msgs.length q.rules[i].send)) rfl) I0 ?_
 refine oA (sp_assign (.tmp 207) (iv (setE q.msgs.length q.rules[i].send)) rfl) I0 ?_
 refine kN 276 [(1, .box 27 (cFm q)), (2, .box 59 (cRu q.rules[i]))] [(2, .box 1 0), (4, iv (setE q.msgs.length q.rules[i].send)), (5, .box 2 0), (6, iv q.states.length)] ?_
 refine t_then ?_
 refine tri_ret ?_
 refine t_then_ret ?_
 refine tri_end1 Try.results90 (.tmp rfl) ?_
 exact congrArg (fun x : Int => AV.v (.int .i64 x)) (Eq.trans ((part_rest ⟨⟨⟨HRX, guardE_fin HG (by omega)⟩, hs27⟩, hs28⟩).trans (rest_2 hs35 hs36)).symm (rruleE_part hs1 HNO hs10 hs17).symm)
 rw [dF hs35]
 refine kW 276 [(1, .box 27 (cFm q)), (2, .box 59 (cRu q.rules[i]))] [(2, .box 1 0), (5, .box 2 0), (6, iv q.states.length), (198, bv true)] ?_
 refine t_condT rfl ?_
 refine tri_seq ?_
 refine tri_region ?_
 refine oA (sp_assign (.const (.int .i64 5)) (iv 5) rfl) I0 ?_
 refine kN 276 [(1, .box 27 (cFm q)), (2, .box 59 (cRu q.rules[i]))] [(2, .box 1 0), (4, iv 5), (5, .box 2 0), (6, iv q.states.length)] ?_
 refine t_then ?_
 refine tri_ret ?_
 refine t_then_ret ?_
 refine tri_end1 Try.results90 (.tmp rfl) ?_
 exact congrArg (fun x : Int => AV.v (.int .i64 x)) (Eq.trans ((part_rest ⟨⟨⟨HRX, guardE_fin HG (by omega)⟩, hs27⟩, hs28⟩).trans ((rest_1 hs35).trans (shE_five hs35))).symm (rruleE_part hs1 HNO hs10 hs17).symm)
 refine tri_region ?_
 refine oA (sp_move (.tmp 13) (iv (setE q.states.length q.rules[i].fa)) rfl) I0 ?_
 refine oC (sp_neq rfl (dF' hs28)) I0 I0 ?_
 refine kN 276 [(1, .box 27 (cFm q)), (2, .box 59 (cRu q.rules[i]))] [(2, .box 1 0), (5, .box 2 0), (6, iv q.states.length), (13, iv (setE q.states.length q.rules[i].fa)), (169, bv true)] ?_
 refine t_then ?_
 refine t_condT rfl ?_
 refine tri_seq ?_
 refine tri_region ?_
 refine oA (sp_move (.tmp 13) (iv (setE q.states.length q.rules[i].fa)) rfl) I0 ?_
 refine oA (sp_assign (.tmp 170) (iv (setE q.states.length q.rules[i].fa)) rfl) I0 ?_
 refine kN 276 [(1, .box 27 (cFm q)), (2, .box 59 (cRu q.rules[i]))] [(2, .box 1 0), (4, iv (setE q.states.length q.rules[i].fa)), (5, .box 2 0), (6, iv q.states.length)] ?_
 refine t_then ?_
 refine tri_ret ?_
 refine t_then_ret ?_
 refine tri_end1 Try.results90 (.tmp rfl) ?_
 exact congrArg (fun x : Int => AV.v (.int .i64 x)) (Eq.trans (part_4 ⟨⟨HRX, guardE_fin HG (by omega)⟩, hs27⟩ hs28).symm (rruleE_part hs1 HNO hs10 hs17).symm)
 refine tri_region ?_
 refine oA (sp_move (.tmp 12) (iv (setE q.states.length q.rules[i].ex)) rfl) I0 ?_
 refine oC (sp_neq rfl (dF' hs27)) I0 I0 ?_
 refine kN 276 [(1, .box 27 (cFm q)), (2, .box 59 (cRu q.rules[i]))] [(2, .box 1 0), (5, .box 2 0), (6, iv q.states.length), (12, iv (setE q.states.length q.rules[i].ex)), (162, bv true)] ?_
 refine t_then ?_
 refine t_condT rfl ?_
 refine tri_seq ?_
 refine tri_region ?_
 refine oA (sp_move (.tmp 12) (iv (setE q.states.length q.rules[i].ex)) rfl) I0 ?_
 refine oA (sp_assign (.tmp 163) (iv (setE q.states.length q.rules[i].ex)) rfl) I0 ?_
 refine kN 276 [(1, .box 27 (cFm q)), (2, .box 59 (cRu q.rules[i]))] [(2, .box 1 0), (4, iv (setE q.states.length q.rules[i].ex)), (5, .box 2 0), (6, iv q.states.length)] ?_
 refine t_then ?_
 refine tri_ret ?_
 refine t_then_ret ?_
 refine tri_end1 Try.results90 (.tmp rfl) ?_
 exact congrArg (fun x : Int => AV.v (.int .i64 x)) (Eq.trans (part_3 ⟨HRX, guardE_fin HG (by omega)⟩ hs27).symm (rruleE_part hs1 HNO hs10 hs17).symm)
 have hs17f : (rstB q.rules[i] q.states.length) = false := by simpa using hs17
 rw [hs17f]
 refine kW 276 [(1, .box 27 (cFm q)), (2, .box 59 (cRu q.rules[i]))] [(2, .box 1 0), (5, .box 2 0), (6, iv q.states.length), (102, bv true)] ?_
 refine t_condT rfl ?_
 refine tri_seq ?_
 refine tri_region ?_
 refine oA (sp_assign (.const (.int .i64 5)) (iv 5) rfl) I0 ?_
 refine kN 276 [(1, .box 27 (cFm q)), (2, .box 59 (cRu q.rules[i]))] [(2, .box 1 0), (4, iv 5), (5, .box 2 0), (6, iv q.states.length)] ?_
 refine t_then ?_
 refine tri_ret ?_
 refine t_then_ret ?_
 refine tri_end1 Try.results90 (.tmp rfl) ?_
 exact congrArg (fun x : Int => AV.v (.int .i64 x)) ((rruleE_state hs1 HNO hs10 hs17f).symm)
 have hs10f : (rkindB q.rules[i] q.top) = false := by simpa using hs10
 rw [hs10f]
 refine kW 276 [(1, .box 27 (cFm q)), (2, .box 59 (cRu q.rules[i]))] [(2, .box 1 0), (5, .box 2 0), (6, iv q.states.length), (61, bv true)] ?_
 refine t_condT rfl ?_
 refine tri_seq ?_
 refine tri_region ?_
 refine oA (sp_assign (.const (.int .i64 6)) (iv 6) rfl) I0 ?_
 refine kN 276 [(1, .box 27 (cFm q)), (2, .box 59 (cRu q.rules[i]))] [(2, .box 1 0), (4, iv 6), (5, .box 2 0), (6, iv q.states.length)] ?_
 refine t_then ?_
 refine tri_ret ?_
 refine t_then_ret ?_
 refine tri_end1 Try.results90 (.tmp rfl) ?_
 exact congrArg (fun x : Int => AV.v (.int .i64 x)) ((rruleE_kind hs1 HNO hs10f).symm)
 have hs1f : (nameB q.rules[i].nm.toList) = false := by simpa using hs1
 refine tri_region ?_
 refine oA (fB 0 (.tmp 5) rfl Try.underlying59 rfl 1 rfl) I0 ?_
 refine oB (lB (.box 59 (cRu q.rules[i])) (sv q.rules[i].nm) (.tmp 26) rfl Try.underlying9 rfl rfl) I0 rfl ?_
 refine oC (sp_call (c := .func 66) (xs := #[.tmp 27]) [] (ctr_b (rValidName_c q.rules[i].nm HR.nm) hs1f) rfl (by kernel_rfl) rfl (Xs := [sv q.rules[i].nm]) rfl rfl rfl) I0 I0 ?_
 refine oA (sp_not rfl rfl) I0 ?_
 refine kN 276 [(1, .box 27 (cFm q)), (2, .box 59 (cRu q.rules[i]))] [(1, iv i), (2, .box 1 0), (4, iv 0), (5, .box 2 0), (6, iv q.states.length), (29, bv true)] ?_
 refine t_then ?_
 refine t_condT rfl ?_
 refine tri_seq ?_
 refine tri_region ?_
 refine oA (sp_assign (.const (.int .i64 2)) (iv 2) rfl) I0 ?_
 refine kN 276 [(1, .box 27 (cFm q)), (2, .box 59 (cRu q.rules[i]))] [(1, iv i), (2, .box 1 0), (4, iv 2), (5, .box 2 0), (6, iv q.states.length)] ?_
 refine t_then ?_
 refine tri_ret ?_
 refine t_then_ret ?_
 refine tri_end1 Try.results90 (.tmp rfl) ?_
 exact congrArg (fun x : Int => AV.v (.int .i64 x)) ((rruleE_nm (.inl hs1f)).symm)
end Go.Proofs.Ytgbgfkhkjlakbaa
