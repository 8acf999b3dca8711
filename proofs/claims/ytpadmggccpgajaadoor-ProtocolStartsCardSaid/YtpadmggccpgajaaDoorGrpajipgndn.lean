import Derived.Test.YtpadmggccpgajaaDoorRows
import Derived.Lib.LaidTab
import Derived.LaidSub
import Derived.Test.YtpadmggccpgajaaDoorGrpojaaoeef
import Derived.Test.YtpadmggccpgajaaDoorGrpcjoinjol
import Derived.Test.YtpadmggccpgajaaDoorGrpdkblhleg
import Derived.Test.YtpadmggccpgajaaDoorGrpmhappimk
import Derived.Test.YtpadmggccpgajaaDoorGrpibbgiigi
set_option linter.all false
namespace Go.Proofs.YtpadmggccpgajaaDoor
open Go.RowKit Go.Deep
variable {J : World → Prop}
set_option linter.unusedSimpArgs false in
set_option linter.unusedVariables false in
set_option maxRecDepth 100000 in
set_option maxHeartbeats 6400000 in
theorem lawStarts_c {p : Fm} (HP : FmOk p) {q : Pq} (HQ : PqOk q) : Ctr Tryd.prog TabW 3 [.agg (cFm p), .agg (cPq q)] (bv true) := by
 refine ctr_of_tri Tryd.func3 rfl (by intro X hX; simp only [List.mem_cons, List.not_mem_nil, or_false] at hX; rcases hX with rfl | rfl; exact plain_agg (plain_fm p); exact plain_agg (plain_pq q)) (n := 67) rfl (by simp) (fun w0 => ?_)
 refine kW 67 [] [(0, .agg (cFm p)), (1, .agg (cPq q))] ?_
 refine tri_seq ?_
 refine tri_region ?_
 refine t_op rfl (sp_box (X := .agg (cFm p)) (k := 1) (.tmp 0) rfl rfl) ⟨I0, T0⟩ T0 rfl ?_
 refine t_op rfl (sp_box (X := .agg (cPq q)) (k := 2) (.tmp 1) rfl rfl) ⟨I0, T0⟩ T0 rfl ?_
 refine oA (sp_assign (.const (.bool false)) (bv false) rfl) I0 ?_
 refine kN 67 [(1, .box 27 (cFm p)), (2, .box 30 (cPq q))] [(2, .box 1 0), (3, .box 2 0), (4, bv false)] ?_
 refine t_then ?_
 refine tri_seq ?_
 refine tri_seq ?_
 by_cases hs1 : (bigF p) = true
 refine tri_region ?_
 refine oB (sp_loadBoxS (Y := .box 27 (cFm p)) (ds := cFm p) (z := 10) (.tmp 2) rfl Tryd.underlying27 rfl (by kernel_rfl) (by decide) (by kernel_rfl) (by kernel_rfl)) I0 rfl ?_
 refine oC (sp_call (c := .func 12) (xs := #[.tmp 13]) [] (ctr_b (Big_c HP) hs1) rfl (by kernel_rfl) rfl (Xs := [.agg (cFm p)]) rfl rfl rfl) I0 I0 ?_
 refine oA (sp_move (.tmp 14) (bv true) rfl) I0 ?_
 refine t_skip rfl ?_
 refine t_skip rfl ?_
 refine oD (sp_pick (.tmp 15) (.const (.bool true)) (.tmp 17) true (bv true) (.v (.tuple #[])) rfl) I0 I0 I0 ?_
 refine kN 67 [(1, .box 27 (cFm p)), (2, .box 30 (cPq q))] [(2, .box 1 0), (3, .box 2 0), (4, bv false), (18, bv true)] ?_
 refine t_then ?_
 refine t_condT rfl ?_
 refine tri_seq ?_
 refine tri_region ?_
 refine oA (sp_call (c := .func 14) (xs := #[]) [] known_c rfl (by kernel_rfl) rfl (Xs := []) rfl rfl rfl) I0 ?_
 refine oA (sp_assign (.tmp 19) (bv true) rfl) I0 ?_
 refine kN 67 [(1, .box 27 (cFm p)), (2, .box 30 (cPq q))] [(2, .box 1 0), (3, .box 2 0), (4, bv true)] ?_
 refine t_then ?_
 refine tri_ret ?_
 refine t_then_ret ?_
 refine tri_end1 Tryd.results3 (.tmp rfl) ?_
 exact rfl
 have hs1f : (bigF p) = false := by simpa using hs1
 by_cases hs2 : (bigQ q) = true
 refine tri_region ?_
 refine oB (sp_loadBoxS (Y := .box 27 (cFm p)) (ds := cFm p) (z := 10) (.tmp 2) rfl Tryd.underlying27 rfl (by kernel_rfl) (by decide) (by kernel_rfl) (by kernel_rfl)) I0 rfl ?_
 refine oC (sp_call (c := .func 12) (xs := #[.tmp 13]) [] (ctr_b (Big_c HP) hs1f) rfl (by kernel_rfl) rfl (Xs := [.agg (cFm p)]) rfl rfl rfl) I0 I0 ?_
 refine oA (sp_move (.tmp 14) (bv false) rfl) I0 ?_
 refine gB (sp_loadBoxS (Y := .box 30 (cPq q)) (ds := cPq q) (z := 6) (.tmp 3) rfl Tryd.underlying30 rfl (by kernel_rfl) (by decide) (by kernel_rfl) (by kernel_rfl)) I0 rfl ?_
 refine gC (sp_call (c := .func 13) (xs := #[.tmp 16]) [] (ctr_b (BigProperty_c HQ) hs2) rfl (by kernel_rfl) rfl (Xs := [.agg (cPq q)]) rfl rfl rfl) I0 I0 ?_
 refine oD (sp_pick (.tmp 15) (.const (.bool true)) (.tmp 17) false (bv true) (bv true) rfl) I0 I0 I0 ?_
 refine kN 67 [(1, .box 27 (cFm p)), (2, .box 30 (cPq q))] [(2, .box 1 0), (3, .box 2 0), (4, bv false), (18, bv true)] ?_
 refine t_then ?_
 refine t_condT rfl ?_
 refine tri_seq ?_
 refine tri_region ?_
 refine oA (sp_call (c := .func 14) (xs := #[]) [] known_c rfl (by kernel_rfl) rfl (Xs := []) rfl rfl rfl) I0 ?_
 refine oA (sp_assign (.tmp 19) (bv true) rfl) I0 ?_
 refine kN 67 [(1, .box 27 (cFm p)), (2, .box 30 (cPq q))] [(2, .box 1 0), (3, .box 2 0), (4, bv true)] ?_
 refine t_then ?_
 refine tri_ret ?_
 refine t_then_ret ?_
 refine tri_end1 Tryd.results3 (.tmp rfl) ?_
 exact rfl
 have hs2f : (bigQ q) = false := by simpa using hs2
 refine tri_region ?_
 refine oB (sp_loadBoxS (Y := .box 27 (cFm p)) (ds := cFm p) (z := 10) (.tmp 2) rfl Tryd.underlying27 rfl (by kernel_rfl) (by decide) (by kernel_rfl) (by kernel_rfl)) I0 rfl ?_
 refine oC (sp_call (c := .func 12) (xs := #[.tmp 13]) [] (ctr_b (Big_c HP) hs1f) rfl (by kernel_rfl) rfl (Xs := [.agg (cFm p)]) rfl rfl rfl) I0 I0 ?_
 refine oA (sp_move (.tmp 14) (bv false) rfl) I0 ?_
 refine gB (sp_loadBoxS (Y := .box 30 (cPq q)) (ds := cPq q) (z := 6) (.tmp 3) rfl Tryd.underlying30 rfl (by kernel_rfl) (by decide) (by kernel_rfl) (by kernel_rfl)) I0 rfl ?_
 refine gC (sp_call (c := .func 13) (xs := #[.tmp 16]) [] (ctr_b (BigProperty_c HQ) hs2f) rfl (by kernel_rfl) rfl (Xs := [.agg (cPq q)]) rfl rfl rfl) I0 I0 ?_
 refine oD (sp_pick (.tmp 15) (.const (.bool true)) (.tmp 17) false (bv true) (bv false) rfl) I0 I0 I0 ?_
 refine kN 67 [(1, .box 27 (cFm p)), (2, .box 30 (cPq q))] [(2, .box 1 0), (3, .box 2 0), (4, bv false), (18, bv false)] ?_
 refine t_then ?_
 refine t_condF rfl ?_
 refine tri_skip ?_
 refine t_then ?_
 refine tri_seq ?_
 refine tri_draw [⟨[(.tmp 2, .box 1 0)], [(1, .box 27 (cFm p))], .agg (cFm p), .no⟩, ⟨[(.func 15, .v (.func (.func 15) #[] #[])), (.tmp 20, .agg (cFm p))], [], .fr (.agg (cFm p)), .no⟩, ⟨[(.tmp 3, .box 2 0)], [(2, .box 30 (cPq q))], .agg (cPq q), .no⟩, ⟨[(.func 16, .v (.func (.func 16) #[] #[])), (.tmp 22, .agg (cPq q))], [], .fr (.agg (cPq q)), .no⟩, ⟨[], [], .box 3 0, .new 3 (.box 27 [sv (⟨#[]⟩), iv 0, .v (.slice none 0 0), .v (.slice none 0 0), .v (.slice none 0 0), iv 0, .v (.slice none 0 0), .v (.slice none 0 0), .v (.slice none 0 0), .v (.slice none 0 0)])⟩, ⟨[], [], .box 4 0, .new 4 (.box 30 [sv (⟨#[]⟩), iv 0, .v (.slice none 0 0), .v (.slice none 0 0), .v (.slice none 0 0), .v (.slice none 0 0)])⟩, ⟨[(.tmp 5, .box 3 0), (.tmp 21, .agg [sv p.nm, iv p.top, .fr (strsA p.states), .fr (strsA p.msgs), .fr (strsA p.vals), iv p.fault, .fr (slA 4 cLn p.res), .fr (intsA p.init), .fr (intsA p.leader), .fr (slA 18 cRu p.rules)])], [(3, .box 27 [sv (⟨#[]⟩), iv 0, .v (.slice none 0 0), .v (.slice none 0 0), .v (.slice none 0 0), iv 0, .v (.slice none 0 0), .v (.slice none 0 0), .v (.slice none 0 0), .v (.slice none 0 0)])], .v undef, .st 3 (.box 27 [sv p.nm, iv p.top, .fr (strsA p.states), .fr (strsA p.msgs), .fr (strsA p.vals), iv p.fault, .fr (slA 4 cLn p.res), .fr (intsA p.init), .fr (intsA p.leader), .fr (slA 18 cRu p.rules)])⟩, ⟨[(.tmp 6, .box 4 0), (.tmp 23, .agg [sv q.nm, iv q.kind, .fr (intsA q.start), .fr (slA 2 cRw q.bad), .fr (intsA q.adj), .fr (intsA q.goal)])], [(4, .box 30 [sv (⟨#[]⟩), iv 0, .v (.slice none 0 0), .v (.slice none 0 0), .v (.slice none 0 0), .v (.slice none 0 0)])], .v undef, .st 4 (.box 30 [sv q.nm, iv q.kind, .fr (intsA q.start), .fr (slA 2 cRw q.bad), .fr (intsA q.adj), .fr (intsA q.goal)])⟩] (by kernel_rfl) (by kernel_rfl) ?_
 refine ⟨app_yes rfl (sp_loadBoxS (Y := .box 27 (cFm p)) (ds := cFm p) (z := 10) (.tmp 2) rfl Tryd.underlying27 rfl (by kernel_rfl) (by decide) (by kernel_rfl) (by kernel_rfl)) ⟨I0, T0⟩ ⟨rfl, T0⟩ T0, ?_⟩
 refine ⟨app_yes rfl (sp_call (c := .func 15) (xs := #[.tmp 20]) [] (rCopy_c (famLen hs1f)) rfl (by kernel_rfl) rfl (Xs := [.agg (cFm p)]) rfl rfl rfl) ⟨I0, I0, T0⟩ T0 T0, ?_⟩
 refine ⟨app_yes rfl (sp_loadBoxS (Y := .box 30 (cPq q)) (ds := cPq q) (z := 6) (.tmp 3) rfl Tryd.underlying30 rfl (by kernel_rfl) (by decide) (by kernel_rfl) (by kernel_rfl)) ⟨I0, T0⟩ ⟨rfl, T0⟩ T0, ?_⟩
 refine ⟨app_yes rfl (sp_call (c := .func 16) (xs := #[.tmp 22]) [] (CopyProperty_c (pqLen hs2f)) rfl (by kernel_rfl) rfl (Xs := [.agg (cPq q)]) rfl rfl rfl) ⟨I0, I0, T0⟩ T0 T0, ?_⟩
 refine ⟨app_yes rfl (sp_alloc (z := .agg #[.string (⟨#[]⟩), .int .i64 0, .slice none 0 0, .slice none 0 0, .slice none 0 0, .int .i64 0, .slice none 0 0, .slice none 0 0, .slice none 0 0, .slice none 0 0]) (k := 3) rfl (by kernel_rfl)) T0 T0 rfl, ?_⟩
 refine ⟨app_yes rfl (sp_alloc (z := .agg #[.string (⟨#[]⟩), .int .i64 0, .slice none 0 0, .slice none 0 0, .slice none 0 0, .slice none 0 0]) (k := 4) rfl (by kernel_rfl)) T0 T0 rfl, ?_⟩
 refine ⟨app_yes rfl (sp_storeBox (T0 := 27) (X := .agg [sv p.nm, iv p.top, .fr (strsA p.states), .fr (strsA p.msgs), .fr (strsA p.vals), iv p.fault, .fr (slA 4 cLn p.res), .fr (intsA p.init), .fr (intsA p.leader), .fr (slA 18 cRu p.rules)]) (cs := [sv (⟨#[]⟩), iv 0, .v (.slice none 0 0), .v (.slice none 0 0), .v (.slice none 0 0), iv 0, .v (.slice none 0 0), .v (.slice none 0 0), .v (.slice none 0 0), .v (.slice none 0 0)]) (ds := [sv p.nm, iv p.top, .fr (strsA p.states), .fr (strsA p.msgs), .fr (strsA p.vals), iv p.fault, .fr (slA 4 cLn p.res), .fr (intsA p.init), .fr (intsA p.leader), .fr (slA 18 cRu p.rules)]) (z := 10) (.tmp 5) (.tmp 21) rfl (by kernel_rfl) (by kernel_rfl) (by kernel_rfl) (of_decide_eq_true (by kernel_rfl)) (by kernel_rfl)) ⟨I0, .inr (.inr (.inl ⟨_, rfl, rfl⟩)), T0⟩ ⟨rfl, T0⟩ rfl, ?_⟩
 refine ⟨app_yes rfl (sp_storeBox (T0 := 30) (X := .agg [sv q.nm, iv q.kind, .fr (intsA q.start), .fr (slA 2 cRw q.bad), .fr (intsA q.adj), .fr (intsA q.goal)]) (cs := [sv (⟨#[]⟩), iv 0, .v (.slice none 0 0), .v (.slice none 0 0), .v (.slice none 0 0), .v (.slice none 0 0)]) (ds := [sv q.nm, iv q.kind, .fr (intsA q.start), .fr (slA 2 cRw q.bad), .fr (intsA q.adj), .fr (intsA q.goal)]) (z := 6) (.tmp 6) (.tmp 23) rfl (by kernel_rfl) (by kernel_rfl) (by kernel_rfl) (of_decide_eq_true (by kernel_rfl)) (by kernel_rfl)) ⟨I0, .inr (.inr (.inl ⟨_, rfl, rfl⟩)), T0⟩ ⟨rfl, T0⟩ rfl, ?_⟩
 show ETri TabW w0 _ _ _
 refine kW 67 [(1, .box 27 (cFm p)), (2, .box 30 (cPq q)), (3, .box 27 [sv p.nm, iv p.top, .fr (strsA p.states), .fr (strsA p.msgs), .fr (strsA p.vals), iv p.fault, .fr (slA 4 cLn p.res), .fr (intsA p.init), .fr (intsA p.leader), .fr (slA 18 cRu p.rules)]), (4, .box 30 [sv q.nm, iv q.kind, .fr (intsA q.start), .fr (slA 2 cRw q.bad), .fr (intsA q.adj), .fr (intsA q.goal)])] [(2, .box 1 0), (3, .box 2 0), (4, bv false), (5, .box 3 0), (6, .box 4 0)] ?_
 refine t_then ?_
 refine tri_seq ?_
 refine tri_rebase [(1, .box 27 (cFm p)), (2, .box 30 (cPq q)), (3, .box 27 [sv p.nm, iv p.top, .fr (strsA p.states), .fr (strsA p.msgs), .fr (strsA p.vals), iv p.fault, .fr (slA 4 cLn p.res), .fr (intsA p.init), .fr (intsA p.leader), .fr (slA 18 cRu p.rules)]), (4, .box 30 [sv q.nm, iv q.kind, .fr (intsA q.start), .fr (slA 2 cRw q.bad), .fr (intsA q.adj), .fr (intsA q.goal)])] [(2, .el (cFm p) 0), (3, .el (cPq q) 0), (4, bv false), (5, .el (cFm p) 0), (6, .el (cPq q) 0)] (n := 67) rfl (by kernel_rfl) (by kernel_rfl) rfl (by intro X hX; simp only [List.map_cons, List.map_nil, List.mem_cons, List.not_mem_nil, or_false] at hX; rcases hX with rfl | rfl | rfl | rfl | rfl; exact .el (plain_all (plain_fm p)); exact .el (plain_all (plain_pq q)); exact .v _; exact .el (plain_all (plain_fm p)); exact .el (plain_all (plain_pq q))) (fun w1 hw1 => ?_)
 refine kW 67 [] [(2, .old w1.heap.size (.el (cFm p) 0)), (3, .old w1.heap.size (.el (cPq q) 0)), (4, bv false), (5, .old w1.heap.size (.el (cFm p) 0)), (6, .old w1.heap.size (.el (cPq q) 0))] ?_
 refine tri_region ?_
 refine t_op rfl (sp_loadElS (z := 10) (.tmp 5) rfl Tryd.underlying27 rfl (by kernel_rfl) rfl rfl) ⟨.inr (.inr (.inr ⟨_, rfl⟩)), T0⟩ T0 T0 ?_
 refine t_op rfl (sp_loadElS (z := 6) (.tmp 6) rfl Tryd.underlying30 rfl (by kernel_rfl) rfl rfl) ⟨.inr (.inr (.inr ⟨_, rfl⟩)), T0⟩ T0 T0 ?_
 refine oD (sp_call (c := .func 17) (xs := #[.tmp 25, .tmp 26]) [] (qStarts_c HP (famLen hs1f) HQ (pqLen hs2f)) rfl (by kernel_rfl) rfl (Xs := [.agg (cFm p), .agg (cPq q)]) rfl rfl rfl) I0 I0 I0 ?_
 refine oA (sp_move (.tmp 27) (.tup [.fr (intsA (stL p q)), iv (vpE p q)]) rfl) I0 ?_
 refine oA (sp_extract (X := .fr (intsA (stL p q))) (.tmp 24) rfl rfl) I0 ?_
 refine oA (sp_extract (X := iv (vpE p q)) (.tmp 24) rfl rfl) I0 ?_
 refine oA (sp_assign (.tmp 28) (.fr (intsA (stL p q))) rfl) I0 ?_
 refine oA (sp_assign (.tmp 29) (iv (vpE p q)) rfl) I0 ?_
 refine kN 67 [] [(2, .old w1.heap.size (.el (cFm p) 0)), (3, .old w1.heap.size (.el (cPq q) 0)), (4, bv false), (5, .old w1.heap.size (.el (cFm p) 0)), (6, .old w1.heap.size (.el (cPq q) 0)), (7, .fr (intsA (stL p q))), (8, iv (vpE p q))] ?_
 refine t_then ?_
 refine tri_seq ?_
 refine tri_region ?_
 refine t_op rfl (sp_loadElS (z := 10) (.tmp 2) rfl Tryd.underlying27 rfl (by kernel_rfl) rfl rfl) ⟨.inr (.inr (.inr ⟨_, rfl⟩)), T0⟩ T0 T0 ?_
 refine t_op rfl (sp_loadElS (z := 6) (.tmp 3) rfl Tryd.underlying30 rfl (by kernel_rfl) rfl rfl) ⟨.inr (.inr (.inr ⟨_, rfl⟩)), T0⟩ T0 T0 ?_
 refine oD (sp_call (c := .func 18) (xs := #[.tmp 31, .tmp 32]) [] (rStarts_c HP (famLen hs1f) HQ (pqLen hs2f)) rfl (by kernel_rfl) rfl (Xs := [.agg (cFm p), .agg (cPq q)]) rfl rfl rfl) I0 I0 I0 ?_
 refine oA (sp_move (.tmp 33) (.tup [.fr (intsA (stL p q)), iv (vpE p q)]) rfl) I0 ?_
 refine oA (sp_extract (X := .fr (intsA (stL p q))) (.tmp 30) rfl rfl) I0 ?_
 refine oA (sp_extract (X := iv (vpE p q)) (.tmp 30) rfl rfl) I0 ?_
 refine oA (sp_assign (.tmp 34) (.fr (intsA (stL p q))) rfl) I0 ?_
 refine oA (sp_assign (.tmp 35) (iv (vpE p q)) rfl) I0 ?_
 refine kN 67 [] [(2, .old w1.heap.size (.el (cFm p) 0)), (3, .old w1.heap.size (.el (cPq q) 0)), (4, bv false), (5, .old w1.heap.size (.el (cFm p) 0)), (6, .old w1.heap.size (.el (cPq q) 0)), (7, .fr (intsA (stL p q))), (8, iv (vpE p q)), (9, .fr (intsA (stL p q))), (10, iv (vpE p q))] ?_
 refine t_then ?_
 refine tri_seq ?_
 refine tri_region ?_
 refine oA (sp_move (.tmp 8) (iv (vpE p q)) rfl) I0 ?_
 refine oA (sp_move (.tmp 10) (iv (vpE p q)) rfl) I0 ?_
 refine oC (sp_eql rfl (dT rfl)) I0 I0 ?_
 refine oA (sp_move (.tmp 38) (bv true) rfl) I0 ?_
 refine gA (sp_move (.tmp 7) (.fr (intsA (stL p q))) rfl) I0 ?_
 refine gA (sp_move (.tmp 9) (.fr (intsA (stL p q))) rfl) I0 ?_
 refine t_opG rfl (sp_call (c := .func 19) (xs := #[.tmp 40, .tmp 41]) [] (sameInts_c (stL p q) (stL_ok HP HQ)) rfl (by kernel_rfl) rfl (Xs := [intsA (stL p q), intsA (stL p q)]) rfl rfl rfl) ⟨I0, .inr (.inl rfl), .inr (.inl rfl), T0⟩ T0 T0 ?_
 refine oD (sp_pick (.tmp 39) (.tmp 42) (.const (.bool false)) true (bv true) (bv false) rfl) I0 I0 I0 ?_
 refine oA (sp_assign (.tmp 43) (bv true) rfl) I0 ?_
 refine kN 67 [] [(2, .old w1.heap.size (.el (cFm p) 0)), (3, .old w1.heap.size (.el (cPq q) 0)), (4, bv false), (5, .old w1.heap.size (.el (cFm p) 0)), (6, .old w1.heap.size (.el (cPq q) 0)), (7, .fr (intsA (stL p q))), (11, bv true)] ?_
 refine t_then ?_
 refine tri_seq ?_
 refine tri_seq ?_
 refine tri_region ?_
 refine oA (sp_assign (.const (.int .i64 0)) (iv 0) rfl) I0 ?_
 refine kN 67 [] [(2, .old w1.heap.size (.el (cFm p) 0)), (3, .old w1.heap.size (.el (cPq q) 0)), (4, bv false), (5, .old w1.heap.size (.el (cFm p) 0)), (6, .old w1.heap.size (.el (cPq q) 0)), (7, .fr (intsA (stL p q))), (11, bv true), (12, iv 0)] ?_
 refine t_then ?_
 refine tri_block ?_
 have hln := stL_len (p := p) (q := q) (famLen hs1f) (pqLen hs2f)
 refine tri_loop (σ := {r : Nat × List Int // r.1 ≤ (stL p q).length ∧ r.2.length = (stL p q).length}) (fun s => (ofL [], ofT 67 [(2, .old w1.heap.size (.el (cFm p) 0)), (3, .old w1.heap.size (.el (cPq q) 0)), (4, bv false), (5, .old w1.heap.size (.el (cFm p) 0)), (6, .old w1.heap.size (.el (cPq q) 0)), (7, .fr (intsA s.1.2)), (11, bv true), (12, iv s.1.1)])) (fun s => (stL p q).length - s.1.1) ⟨(0, stL p q), Nat.zero_le _, rfl⟩ (wk_keep [] _ rfl (by kernel_rfl) (by kernel_rfl)) (fun s => ?_)
 obtain ⟨⟨k, L⟩, hk0, hL⟩ := s
 show ETri TabW w1 (ofL []) (ofT 67 [(2, .old w1.heap.size (.el (cFm p) 0)), (3, .old w1.heap.size (.el (cPq q) 0)), (4, bv false), (5, .old w1.heap.size (.el (cFm p) 0)), (6, .old w1.heap.size (.el (cPq q) 0)), (7, .fr (intsA L)), (11, bv true), (12, iv k)]) _
 dsimp only at hk0 hL
 refine tri_seq ?_
 refine tri_seq ?_
 by_cases hs3 : ((k : Nat) : Int) < ((L.length : Nat) : Int)
 refine tri_region ?_
 refine oA (sp_move (.tmp 12) (iv k) rfl) I0 ?_
 refine oA (sp_move (.tmp 7) (.fr (intsA L)) rfl) I0 ?_
 refine t_op rfl (sp_lenSl (.tmp 45) rfl Tryd.underlying24) ⟨.inr (.inl rfl), T0⟩ T0 T0 ?_
 refine oC (sp_lss rfl (dT hs3)) I0 I0 ?_
 refine kN 67 [] [(2, .old w1.heap.size (.el (cFm p) 0)), (3, .old w1.heap.size (.el (cPq q) 0)), (4, bv false), (5, .old w1.heap.size (.el (cFm p) 0)), (6, .old w1.heap.size (.el (cPq q) 0)), (7, .fr (intsA L)), (11, bv true), (12, iv k), (47, bv true)] ?_
 refine t_then ?_
 refine t_condT rfl ?_
 refine tri_skip ?_
 refine t_then ?_
 refine tri_seq ?_
 refine tri_block ?_
 refine tri_region ?_
 refine oA (sp_move (.tmp 7) (.fr (intsA L)) rfl) I0 ?_
 refine oA (sp_move (.tmp 12) (iv k) rfl) I0 ?_
 refine oC (sp_indexSlF (off := k * 1) (.tmp 50) (.tmp 51) rfl Tryd.underlying24 (by kernel_rfl) (by omega) (by omega) rfl) I0 I0 ?_
 refine kW 67 [] [(7, .fr (intsA L)), (52, .fr (.el (L.map iv) (k * 1))), (2, .old w1.heap.size (.el (cFm p) 0)), (3, .old w1.heap.size (.el (cPq q) 0)), (5, .old w1.heap.size (.el (cFm p) 0)), (6, .old w1.heap.size (.el (cPq q) 0)), (4, bv false), (11, bv true), (12, iv k), (47, bv true), (51, iv k)] ?_
 refine tri_spoilSt (.tmp 52) (.const (.int .i64 99)) [(2, .el (cFm p) 0), (3, .el (cPq q) 0), (5, .el (cFm p) 0), (6, .el (cPq q) 0)] [(4, .bool false), (11, .bool true), (12, .int .i64 ((k : Nat) : Int)), (47, .bool true), (51, .int .i64 ((k : Nat) : Int))] rfl rfl (by kernel_rfl) rfl rfl (map_at1 L (by omega)) rfl rfl (fun l2 hl2 => ?_)
 refine kN 67 [] [(2, .old w1.heap.size (.el (cFm p) 0)), (3, .old w1.heap.size (.el (cPq q) 0)), (4, bv false), (5, .old w1.heap.size (.el (cFm p) 0)), (6, .old w1.heap.size (.el (cPq q) 0)), (7, .fr (intsA l2)), (11, bv true), (12, iv k), (47, bv true)] ?_
 refine t_block ?_
 refine t_then ?_
 refine tri_region ?_
 refine oA (sp_move (.tmp 12) (iv k) rfl) I0 ?_
 refine oC (sp_add (c := ((k + 1 : Nat) : Int)) rfl (w64 (by omega) (by omega) (by omega))) I0 I0 ?_
 refine oA (sp_assign (.tmp 49) (iv (k + 1 : Nat)) rfl) I0 ?_
 refine kN 67 [] [(2, .old w1.heap.size (.el (cFm p) 0)), (3, .old w1.heap.size (.el (cPq q) 0)), (4, bv false), (5, .old w1.heap.size (.el (cFm p) 0)), (6, .old w1.heap.size (.el (cPq q) 0)), (7, .fr (intsA l2)), (11, bv true), (12, iv (k + 1 : Nat)), (47, bv true)] ?_
 refine t_then ?_
 refine tri_again ⟨(k + 1, l2), by dsimp only; omega, by dsimp only; omega⟩ (show (stL p q).length - (k + 1) < (stL p q).length - k by omega) ?_
 show Wk _ _ (ofL []) (ofT 67 [(2, .old w1.heap.size (.el (cFm p) 0)), (3, .old w1.heap.size (.el (cPq q) 0)), (4, bv false), (5, .old w1.heap.size (.el (cFm p) 0)), (6, .old w1.heap.size (.el (cPq q) 0)), (7, .fr (intsA l2)), (11, bv true), (12, iv ((k + 1) : Nat))])
 exact wk_keep [] _ rfl (by kernel_rfl) (by kernel_rfl)
 refine tri_region ?_
 refine oA (sp_move (.tmp 12) (iv k) rfl) I0 ?_
 refine oA (sp_move (.tmp 7) (.fr (intsA L)) rfl) I0 ?_
 refine t_op rfl (sp_lenSl (.tmp 45) rfl Tryd.underlying24) ⟨.inr (.inl rfl), T0⟩ T0 T0 ?_
 refine oC (sp_lss rfl (dF hs3)) I0 I0 ?_
 refine kN 67 [] [(2, .old w1.heap.size (.el (cFm p) 0)), (3, .old w1.heap.size (.el (cPq q) 0)), (4, bv false), (5, .old w1.heap.size (.el (cFm p) 0)), (6, .old w1.heap.size (.el (cPq q) 0)), (7, .fr (intsA L)), (11, bv true), (12, iv k), (47, bv false)] ?_
 refine t_then ?_
 refine t_condF rfl ?_
 refine tri_exit ?_
 refine t_then_exit ?_
 refine t_then_exit ?_
 refine t_hit ?_
 refine t_then ?_
 refine tri_seq ?_
 refine tri_region ?_
 refine oA (sp_move (.tmp 11) (bv true) rfl) I0 ?_
 refine oA (sp_move (.tmp 53) (bv true) rfl) I0 ?_
 refine t_opG rfl (sp_loadElS (z := 10) (.tmp 5) rfl Tryd.underlying27 rfl (by kernel_rfl) rfl rfl) ⟨.inr (.inr (.inr ⟨_, rfl⟩)), T0⟩ T0 T0 ?_
 refine t_opG rfl (sp_loadElS (z := 10) (.tmp 2) rfl Tryd.underlying27 rfl (by kernel_rfl) rfl rfl) ⟨.inr (.inr (.inr ⟨_, rfl⟩)), T0⟩ T0 T0 ?_
 refine gD (sp_call (c := .func 20) (xs := #[.tmp 55, .tmp 56]) [] (rEqual_s HP) rfl (by kernel_rfl) rfl (Xs := [.agg (cFm p), .agg (cFm p)]) rfl rfl rfl) I0 I0 I0 ?_
 refine oD (sp_pick (.tmp 54) (.tmp 57) (.const (.bool false)) true (bv true) (bv false) rfl) I0 I0 I0 ?_
 refine oA (sp_move (.tmp 58) (bv true) rfl) I0 ?_
 refine t_opG rfl (sp_loadElS (z := 6) (.tmp 6) rfl Tryd.underlying30 rfl (by kernel_rfl) rfl rfl) ⟨.inr (.inr (.inr ⟨_, rfl⟩)), T0⟩ T0 T0 ?_
 refine t_opG rfl (sp_loadElS (z := 6) (.tmp 3) rfl Tryd.underlying30 rfl (by kernel_rfl) rfl rfl) ⟨.inr (.inr (.inr ⟨_, rfl⟩)), T0⟩ T0 T0 ?_
 refine gD (sp_call (c := .func 21) (xs := #[.tmp 60, .tmp 61]) [] (rEqualProperty_s HQ) rfl (by kernel_rfl) rfl (Xs := [.agg (cPq q), .agg (cPq q)]) rfl rfl rfl) I0 I0 I0 ?_
 refine oD (sp_pick (.tmp 59) (.tmp 62) (.const (.bool false)) true (bv true) (bv false) rfl) I0 I0 I0 ?_
 refine oA (sp_move (.tmp 63) (bv true) rfl) I0 ?_
 refine gA (sp_call (c := .func 14) (xs := #[]) [] known_c rfl (by kernel_rfl) rfl (Xs := []) rfl rfl rfl) I0 ?_
 refine oD (sp_pick (.tmp 64) (.tmp 65) (.const (.bool false)) true (bv true) (bv false) rfl) I0 I0 I0 ?_
 refine oA (sp_assign (.tmp 66) (bv true) rfl) I0 ?_
 refine kN 67 [] [(4, bv true)] ?_
 refine t_then ?_
 refine tri_ret ?_
 exact tri_endV hw1 Tryd.results3 (.tmp rfl)
theorem walk_Starts {v v' : Value} {p : Fm} {q : Pq} (w : World) (hp : IsFam 0 w v p) (hq : IsPropX 0 w v' q) (ht : TabW w) :
    Calls Tryd.prog 3 #[v, v'] w fun e w' => e = .returned (.bool true) ∧ Below w.heap.size w w' :=
  walk2 (lawStarts_c hp.ok hq.ok) (famw hp) (prop_pu (fun _ _ h => h) hq) ht
end Go.Proofs.YtpadmggccpgajaaDoor

namespace Go.Proofs.YtpadmggccpgajaaDoor
open Go.RowKit Go.Deep

theorem tab_of_laid {W : World} (h : laidMetH Tryd.prog [("math/bits.deBruijn32tab", Rows.laid_math_bits_deBruijn32tab), ("math/bits.deBruijn64tab", Rows.laid_math_bits_deBruijn64tab), ("internal/strconv.uint64pow10", Rows.laid_internal_strconv_uint64pow10)] W) : TabW W := by
  have h1 := h.filter fun x => x.1 == "internal/strconv.uint64pow10"
  have h2 := (laidMetH_iff.1 h1).1
  have e : ((([("math/bits.deBruijn32tab", Rows.laid_math_bits_deBruijn32tab), ("math/bits.deBruijn64tab", Rows.laid_math_bits_deBruijn64tab), ("internal/strconv.uint64pow10", Rows.laid_internal_strconv_uint64pow10)] : List (String × DataW Unit)).filter fun x => x.1 == "internal/strconv.uint64pow10").filter fun x => x.2.handleName?.isNone) = [("internal/strconv.uint64pow10", Go.Lib.tabData .u64 Go.Lib.pow10Tab)] := by kernel_rfl
  rw [e] at h2
  exact Go.Lib.tabIs_of_head (g := 0) (t := 207) (e := 195) (n := 20) (by kernel_rfl) (by kernel_rfl) Tryd.underlying207 Tryd.underlying195 (by kernel_rfl) (by kernel_rfl) h2
end Go.Proofs.YtpadmggccpgajaaDoor
