import Derived.Test.YtpadmggccpgajaaDoorGrpmhappimk
set_option linter.all false
namespace Go.Proofs.YtpadmggccpgajaaDoor
open Go.RowKit Go.Deep
variable {J : World → Prop}
structure PqLen (q : Pq) : Prop where
  start : q.start.length ≤ 60
  lbad : q.bad.length ≤ 60
  bad : ∀ r ∈ q.bad, r.1.length ≤ 60
  adj : q.adj.length ≤ 60
  goal : q.goal.length ≤ 60
theorem pqLen {q : Pq} (h : bigQ q = false) : PqLen q := by
  obtain ⟨a, b, c, d, e⟩ := bigQ_no h
  exact ⟨a, b, c, d, e⟩
theorem newRw (r : Rw) : ∀ d ∈ (cRw r).map AV.mkFr, d.isNew = true := fun d hd => by
  obtain ⟨x, _, rfl⟩ := List.mem_map.1 hd
  cases x <;> rfl
theorem cellRw (r : Rw) : ∀ d ∈ (cRw r).map AV.mkFr, d.cell = true := fun d hd => by
  simp only [cRw, List.map_cons, List.map_nil, List.mem_cons, List.not_mem_nil, or_false] at hd
  rcases hd with rfl | rfl <;> rfl
theorem snocRw {rs : List Rw} {k : Nat} (h : k < rs.length) : (rs.take k).flatMap cRw ++ rowCells true ((cRw rs[k]).map AV.mkFr) = (rs.take (k + 1)).flatMap cRw := by
  rw [List.take_succ_eq_append_getElem h, List.flatMap_append]
  congr 1
set_option linter.unusedSimpArgs false in
set_option linter.unusedVariables false in
set_option maxRecDepth 100000 in
set_option maxHeartbeats 6400000 in
theorem CopyProperty_c {q : Pq} (L : PqLen q) : Ctr Tryd.prog J 16 [.agg (cPq q)] (.agg (cPq q)) := by
 have l1 := L.lbad
 refine ctr_of_tri Tryd.func16 rfl (by intro X hX; simp only [List.mem_cons, List.not_mem_nil, or_false] at hX; rcases hX with rfl; exact plain_agg (plain_pq q)) (n := 46) rfl (by simp) (fun w0 => ?_)
 refine kW 46 [] [(0, .agg (cPq q))] ?_
 refine tri_seq ?_
 refine tri_region ?_
 refine t_op rfl (sp_box (X := .agg (cPq q)) (k := 1) (.tmp 0) rfl rfl) ⟨I0, T0⟩ T0 rfl ?_
 refine t_op rfl (sp_alloc (z := .agg #[.string (⟨#[]⟩), .int .i64 0, .slice none 0 0, .slice none 0 0, .slice none 0 0, .slice none 0 0]) (k := 2) rfl (by kernel_rfl)) T0 T0 rfl ?_
 refine kN 46 [(1, .box 30 (cPq q)), (2, .box 30 [sv (⟨#[]⟩), iv 0, .v (.slice none 0 0), .v (.slice none 0 0), .v (.slice none 0 0), .v (.slice none 0 0)])] [(1, .box 1 0), (2, .box 2 0)] ?_
 refine t_then ?_
 refine tri_seq ?_
 refine tri_region ?_
 refine oB (sp_loadBoxS (Y := .box 30 (cPq q)) (ds := cPq q) (z := 6) (.tmp 1) rfl Tryd.underlying30 rfl (by kernel_rfl) (by decide) (by kernel_rfl) (by kernel_rfl)) I0 rfl ?_
 refine t_op rfl (sp_alloc (z := .agg #[.string (⟨#[]⟩), .int .i64 0, .slice none 0 0, .slice none 0 0, .slice none 0 0, .slice none 0 0]) (k := 3) rfl (by kernel_rfl)) T0 T0 rfl ?_
 refine t_op rfl (sp_storeBox (T0 := 30) (X := .agg (cPq q)) (cs := [sv (⟨#[]⟩), iv 0, .v (.slice none 0 0), .v (.slice none 0 0), .v (.slice none 0 0), .v (.slice none 0 0)]) (ds := cPq q) (z := 6) (.tmp 3) (.tmp 5) rfl (by kernel_rfl) (by kernel_rfl) (by kernel_rfl) (of_decide_eq_true (by kernel_rfl)) (by kernel_rfl)) ⟨I0, I0, T0⟩ ⟨rfl, T0⟩ rfl ?_
 refine kN 46 [(1, .box 30 (cPq q)), (2, .box 30 [sv (⟨#[]⟩), iv 0, .v (.slice none 0 0), .v (.slice none 0 0), .v (.slice none 0 0), .v (.slice none 0 0)]), (3, .box 30 (cPq q))] [(1, .box 1 0), (2, .box 2 0), (3, .box 3 0)] ?_
 refine t_then ?_
 refine tri_seq ?_
 refine tri_region ?_
 refine oA (fB 2 (.tmp 1) rfl Tryd.underlying30 rfl 1 rfl) I0 ?_
 refine oB (lB (.box 30 (cPq q)) (intsA q.start) (.tmp 6) rfl Tryd.underlying24 rfl rfl) I0 rfl ?_
 refine oC (sp_call (c := .func 39) (xs := #[.tmp 7]) [] (CopyInts_c q.start (Nat.le_trans L.start (by decide))) rfl (by kernel_rfl) rfl (Xs := [intsA q.start]) rfl rfl rfl) I0 I0 ?_
 refine oA (fB 2 (.tmp 3) rfl Tryd.underlying30 rfl 1 rfl) I0 ?_
 refine t_op rfl (sp_storeBox (T0 := 30) (X := .fr (intsA q.start)) (cs := cPq q) (ds := [sv q.nm, iv q.kind, .fr (intsA q.start), slA 2 cRw q.bad, intsA q.adj, intsA q.goal]) (z := 1) (.tmp 9) (.tmp 8) rfl (by kernel_rfl) (by kernel_rfl) (by kernel_rfl) (of_decide_eq_true (by kernel_rfl)) (by kernel_rfl)) ⟨I0, I0, T0⟩ ⟨rfl, T0⟩ rfl ?_
 refine kN 46 [(1, .box 30 (cPq q)), (2, .box 30 [sv (⟨#[]⟩), iv 0, .v (.slice none 0 0), .v (.slice none 0 0), .v (.slice none 0 0), .v (.slice none 0 0)]), (3, .box 30 [sv q.nm, iv q.kind, .fr (intsA q.start), slA 2 cRw q.bad, intsA q.adj, intsA q.goal])] [(1, .box 1 0), (2, .box 2 0), (3, .box 3 0)] ?_
 refine t_then ?_
 refine tri_seq ?_
 refine tri_region ?_
 refine oA (fB 4 (.tmp 1) rfl Tryd.underlying30 rfl 1 rfl) I0 ?_
 refine oB (lB (.box 30 (cPq q)) (intsA q.adj) (.tmp 10) rfl Tryd.underlying24 rfl rfl) I0 rfl ?_
 refine oC (sp_call (c := .func 39) (xs := #[.tmp 11]) [] (CopyInts_c q.adj (Nat.le_trans L.adj (by decide))) rfl (by kernel_rfl) rfl (Xs := [intsA q.adj]) rfl rfl rfl) I0 I0 ?_
 refine oA (fB 4 (.tmp 3) rfl Tryd.underlying30 rfl 1 rfl) I0 ?_
 refine t_op rfl (sp_storeBox (T0 := 30) (X := .fr (intsA q.adj)) (cs := [sv q.nm, iv q.kind, .fr (intsA q.start), slA 2 cRw q.bad, intsA q.adj, intsA q.goal]) (ds := [sv q.nm, iv q.kind, .fr (intsA q.start), slA 2 cRw q.bad, .fr (intsA q.adj), intsA q.goal]) (z := 1) (.tmp 13) (.tmp 12) rfl (by kernel_rfl) (by kernel_rfl) (by kernel_rfl) (of_decide_eq_true (by kernel_rfl)) (by kernel_rfl)) ⟨I0, I0, T0⟩ ⟨rfl, T0⟩ rfl ?_
 refine kN 46 [(1, .box 30 (cPq q)), (2, .box 30 [sv (⟨#[]⟩), iv 0, .v (.slice none 0 0), .v (.slice none 0 0), .v (.slice none 0 0), .v (.slice none 0 0)]), (3, .box 30 [sv q.nm, iv q.kind, .fr (intsA q.start), slA 2 cRw q.bad, .fr (intsA q.adj), intsA q.goal])] [(1, .box 1 0), (2, .box 2 0), (3, .box 3 0)] ?_
 refine t_then ?_
 refine tri_seq ?_
 refine tri_region ?_
 refine oA (fB 5 (.tmp 1) rfl Tryd.underlying30 rfl 1 rfl) I0 ?_
 refine oB (lB (.box 30 (cPq q)) (intsA q.goal) (.tmp 14) rfl Tryd.underlying24 rfl rfl) I0 rfl ?_
 refine oC (sp_call (c := .func 39) (xs := #[.tmp 15]) [] (CopyInts_c q.goal (Nat.le_trans L.goal (by decide))) rfl (by kernel_rfl) rfl (Xs := [intsA q.goal]) rfl rfl rfl) I0 I0 ?_
 refine oA (fB 5 (.tmp 3) rfl Tryd.underlying30 rfl 1 rfl) I0 ?_
 refine t_op rfl (sp_storeBox (T0 := 30) (X := .fr (intsA q.goal)) (cs := [sv q.nm, iv q.kind, .fr (intsA q.start), slA 2 cRw q.bad, .fr (intsA q.adj), intsA q.goal]) (ds := [sv q.nm, iv q.kind, .fr (intsA q.start), slA 2 cRw q.bad, .fr (intsA q.adj), .fr (intsA q.goal)]) (z := 1) (.tmp 17) (.tmp 16) rfl (by kernel_rfl) (by kernel_rfl) (by kernel_rfl) (of_decide_eq_true (by kernel_rfl)) (by kernel_rfl)) ⟨I0, I0, T0⟩ ⟨rfl, T0⟩ rfl ?_
 refine kN 46 [(1, .box 30 (cPq q)), (2, .box 30 [sv (⟨#[]⟩), iv 0, .v (.slice none 0 0), .v (.slice none 0 0), .v (.slice none 0 0), .v (.slice none 0 0)]), (3, .box 30 [sv q.nm, iv q.kind, .fr (intsA q.start), slA 2 cRw q.bad, .fr (intsA q.adj), .fr (intsA q.goal)])] [(1, .box 1 0), (2, .box 2 0), (3, .box 3 0)] ?_
 refine t_then ?_
 refine tri_seq ?_
 refine tri_region ?_
 refine oA (fB 3 (.tmp 3) rfl Tryd.underlying30 rfl 1 rfl) I0 ?_
 refine t_op rfl (sp_storeBox (T0 := 30) (X := .v (.slice none 0 0)) (cs := [sv q.nm, iv q.kind, .fr (intsA q.start), slA 2 cRw q.bad, .fr (intsA q.adj), .fr (intsA q.goal)]) (ds := [sv q.nm, iv q.kind, .fr (intsA q.start), .v (.slice none 0 0), .fr (intsA q.adj), .fr (intsA q.goal)]) (z := 1) (.tmp 18) (.const (.slice none 0 0)) rfl (by kernel_rfl) (by kernel_rfl) (by kernel_rfl) (of_decide_eq_true (by kernel_rfl)) (by kernel_rfl)) ⟨I0, I0, T0⟩ ⟨rfl, T0⟩ rfl ?_
 refine kN 46 [(1, .box 30 (cPq q)), (2, .box 30 [sv (⟨#[]⟩), iv 0, .v (.slice none 0 0), .v (.slice none 0 0), .v (.slice none 0 0), .v (.slice none 0 0)]), (3, .box 30 [sv q.nm, iv q.kind, .fr (intsA q.start), .v (.slice none 0 0), .fr (intsA q.adj), .fr (intsA q.goal)])] [(1, .box 1 0), (2, .box 2 0), (3, .box 3 0)] ?_
 refine t_then ?_
 refine tri_seq ?_
 refine tri_seq ?_
 refine tri_region ?_
 refine oA (sp_assign (.const (.int .i64 0)) (iv 0) rfl) I0 ?_
 refine kN 46 [(1, .box 30 (cPq q)), (2, .box 30 [sv (⟨#[]⟩), iv 0, .v (.slice none 0 0), .v (.slice none 0 0), .v (.slice none 0 0), .v (.slice none 0 0)]), (3, .box 30 [sv q.nm, iv q.kind, .fr (intsA q.start), .v (.slice none 0 0), .fr (intsA q.adj), .fr (intsA q.goal)])] [(1, .box 1 0), (2, .box 2 0), (3, .box 3 0), (4, iv 0)] ?_
 refine t_then ?_
 refine tri_block ?_
 refine tri_wk (wk_adoptB 3 3 4 true 84 2 rfl rfl rfl rfl) ?_
 refine tri_loop (σ := {k : Nat // k ≤ q.bad.length}) (fun s => (ofL [(1, .box 30 (cPq q)), (2, .box 30 [sv (⟨#[]⟩), iv 0, .v (.slice none 0 0), .v (.slice none 0 0), .v (.slice none 0 0), .v (.slice none 0 0)]), (3, .box 30 [sv q.nm, iv q.kind, .fr (intsA q.start), .own 4, .fr (intsA q.adj), .fr (intsA q.goal)]), (4, .row true 84 2 s.1 ((q.bad.take s.1).flatMap cRw))], ofT 46 [(1, .box 1 0), (2, .box 2 0), (3, .box 3 0), (4, iv s.1)])) (fun s => q.bad.length - s.1) ⟨0, Nat.zero_le _⟩ (wk_keep _ _ rfl (by kernel_rfl) (by kernel_rfl)) (fun s => ?_)
 obtain ⟨k, hk0⟩ := s
 show ETri J w0 (ofL [(1, .box 30 (cPq q)), (2, .box 30 [sv (⟨#[]⟩), iv 0, .v (.slice none 0 0), .v (.slice none 0 0), .v (.slice none 0 0), .v (.slice none 0 0)]), (3, .box 30 [sv q.nm, iv q.kind, .fr (intsA q.start), .own 4, .fr (intsA q.adj), .fr (intsA q.goal)]), (4, .row true 84 2 k ((q.bad.take k).flatMap cRw))]) (ofT 46 [(1, .box 1 0), (2, .box 2 0), (3, .box 3 0), (4, iv k)]) _
 refine tri_seq ?_
 refine tri_seq ?_
 by_cases hs1 : ((k : Nat) : Int) < ((q.bad.length : Nat) : Int)
 refine tri_region ?_
 refine oA (sp_move (.tmp 4) (iv k) rfl) I0 ?_
 refine oA (fB 3 (.tmp 1) rfl Tryd.underlying30 rfl 1 rfl) I0 ?_
 refine oB (lB (.box 30 (cPq q)) (slA 2 cRw q.bad) (.tmp 20) rfl Tryd.underlying28 rfl rfl) I0 rfl ?_
 refine oA (sp_lenSl (.tmp 21) rfl Tryd.underlying28) I0 ?_
 refine oC (sp_lss rfl (dT hs1)) I0 I0 ?_
 refine kN 46 [(1, .box 30 (cPq q)), (2, .box 30 [sv (⟨#[]⟩), iv 0, .v (.slice none 0 0), .v (.slice none 0 0), .v (.slice none 0 0), .v (.slice none 0 0)]), (3, .box 30 [sv q.nm, iv q.kind, .fr (intsA q.start), .own 4, .fr (intsA q.adj), .fr (intsA q.goal)]), (4, .row true 84 2 k ((q.bad.take k).flatMap cRw))] [(1, .box 1 0), (2, .box 2 0), (3, .box 3 0), (4, iv k), (23, bv true)] ?_
 refine t_then ?_
 refine t_condT rfl ?_
 refine tri_skip ?_
 refine t_then ?_
 refine tri_seq ?_
 refine tri_block ?_
 refine tri_draw [⟨[(.tmp 3, .box 3 0)], [], .box 3 3, .no⟩, ⟨[(.tmp 26, .box 3 3)], [(3, .box 30 [sv q.nm, iv q.kind, .fr (intsA q.start), .own 4, .fr (intsA q.adj), .fr (intsA q.goal)])], .own 4, .no⟩, ⟨[(.tmp 1, .box 1 0)], [], .box 1 3, .no⟩, ⟨[(.tmp 28, .box 1 3)], [(1, .box 30 (cPq q))], slA 2 cRw q.bad, .no⟩, ⟨[(.tmp 4, iv k)], [], iv k, .no⟩, ⟨[(.tmp 29, slA 2 cRw q.bad), (.tmp 30, iv k)], [], .el (q.bad.flatMap cRw) (k * 2), .no⟩, ⟨[(.tmp 31, .el (q.bad.flatMap cRw) (k * 2))], [], .el (q.bad.flatMap cRw) (k * 2), .no⟩, ⟨[(.tmp 32, .el (q.bad.flatMap cRw) (k * 2))], [], intsA q.bad[k].1, .no⟩, ⟨[(.func 39, .v (.func (.func 39) #[] #[])), (.tmp 33, intsA q.bad[k].1)], [], .fr (intsA q.bad[k].1), .no⟩, ⟨[(.tmp 1, .box 1 0)], [], .box 1 3, .no⟩, ⟨[(.tmp 35, .box 1 3)], [(1, .box 30 (cPq q))], slA 2 cRw q.bad, .no⟩, ⟨[(.tmp 4, iv k)], [], iv k, .no⟩, ⟨[(.tmp 36, slA 2 cRw q.bad), (.tmp 37, iv k)], [], .el (q.bad.flatMap cRw) (k * 2), .no⟩, ⟨[(.tmp 38, .el (q.bad.flatMap cRw) (k * 2))], [], .el (q.bad.flatMap cRw) (k * 2 + 1), .no⟩, ⟨[(.tmp 39, .el (q.bad.flatMap cRw) (k * 2 + 1))], [], iv q.bad[k].2, .no⟩, ⟨[(.tmp 34, .fr (intsA q.bad[k].1)), (.tmp 40, iv q.bad[k].2)], [], .agg [.fr (intsA q.bad[k].1), iv q.bad[k].2], .no⟩, ⟨[(.tmp 41, .agg [.fr (intsA q.bad[k].1), iv q.bad[k].2])], [], .own 5, .new 5 (.row false 84 2 1 ([.fr (intsA q.bad[k].1), iv q.bad[k].2]))⟩, ⟨[(.tmp 27, .own 4), (.tmp 42, .own 5)], [(4, .row true 84 2 k ((q.bad.take k).flatMap cRw)), (5, .row false 84 2 1 ([.fr (intsA q.bad[k].1), iv q.bad[k].2]))], .own 4, .ap 4 (.row true 84 2 (k + 1) ((q.bad.take (k + 1)).flatMap cRw))⟩, ⟨[(.tmp 3, .box 3 0)], [], .box 3 3, .no⟩, ⟨[(.tmp 44, .box 3 3), (.tmp 43, .own 4)], [(3, .box 30 [sv q.nm, iv q.kind, .fr (intsA q.start), .any, .fr (intsA q.adj), .fr (intsA q.goal)])], .v undef, .st 3 (.box 30 [sv q.nm, iv q.kind, .fr (intsA q.start), .own 4, .fr (intsA q.adj), .fr (intsA q.goal)])⟩] (by kernel_rfl) (by kernel_rfl) ?_
 refine ⟨app_yes rfl (fB 3 (.tmp 3) rfl Tryd.underlying30 rfl 1 rfl) ⟨I0, T0⟩ T0 T0, ?_⟩
 refine ⟨app_yes rfl (lB (.box 30 [sv q.nm, iv q.kind, .fr (intsA q.start), .own 4, .fr (intsA q.adj), .fr (intsA q.goal)]) (.own 4) (.tmp 26) rfl Tryd.underlying28 rfl rfl) ⟨I0, T0⟩ ⟨rfl, T0⟩ T0, ?_⟩
 refine ⟨app_yes rfl (fB 3 (.tmp 1) rfl Tryd.underlying30 rfl 1 rfl) ⟨I0, T0⟩ T0 T0, ?_⟩
 refine ⟨app_yes rfl (lB (.box 30 (cPq q)) (slA 2 cRw q.bad) (.tmp 28) rfl Tryd.underlying28 rfl rfl) ⟨I0, T0⟩ ⟨rfl, T0⟩ T0, ?_⟩
 refine ⟨app_yes rfl (sp_move (.tmp 4) (iv k) rfl) ⟨I0, T0⟩ T0 T0, ?_⟩
 refine ⟨app_yes rfl (sp_indexSl (off := k * 2) (.tmp 29) (.tmp 30) rfl Tryd.underlying28 (by kernel_rfl) (by omega) (by omega) rfl) ⟨I0, I0, T0⟩ T0 T0, ?_⟩
 refine ⟨app_yes rfl (sp_fieldEl (off' := k * 2) (.tmp 31) rfl Tryd.underlying84 rfl (z := 1) (by kernel_rfl) (by decide) rfl) ⟨I0, T0⟩ T0 T0, ?_⟩
 refine ⟨app_yes rfl (sp_loadEl1 (X := intsA q.bad[k].1) (.tmp 32) rfl Tryd.underlying24 rfl ((eflat_get lenRw q.bad k 0 (by omega) (by decide)).trans rfl)) ⟨I0, T0⟩ T0 T0, ?_⟩
 refine ⟨app_yes rfl (sp_call (c := .func 39) (xs := #[.tmp 33]) [] (CopyInts_c q.bad[k].1 (Nat.le_trans (L.bad q.bad[k] (List.getElem_mem (by omega))) (by decide))) rfl (by kernel_rfl) rfl (Xs := [intsA q.bad[k].1]) rfl rfl rfl) ⟨I0, I0, T0⟩ T0 T0, ?_⟩
 refine ⟨app_yes rfl (fB 3 (.tmp 1) rfl Tryd.underlying30 rfl 1 rfl) ⟨I0, T0⟩ T0 T0, ?_⟩
 refine ⟨app_yes rfl (lB (.box 30 (cPq q)) (slA 2 cRw q.bad) (.tmp 35) rfl Tryd.underlying28 rfl rfl) ⟨I0, T0⟩ ⟨rfl, T0⟩ T0, ?_⟩
 refine ⟨app_yes rfl (sp_move (.tmp 4) (iv k) rfl) ⟨I0, T0⟩ T0 T0, ?_⟩
 refine ⟨app_yes rfl (sp_indexSl (off := k * 2) (.tmp 36) (.tmp 37) rfl Tryd.underlying28 (by kernel_rfl) (by omega) (by omega) rfl) ⟨I0, I0, T0⟩ T0 T0, ?_⟩
 refine ⟨app_yes rfl (sp_fieldEl (off' := k * 2 + 1) (.tmp 38) rfl Tryd.underlying84 rfl (z := 1) (by kernel_rfl) (by decide) rfl) ⟨I0, T0⟩ T0 T0, ?_⟩
 refine ⟨app_yes rfl (sp_loadEl1 (X := iv q.bad[k].2) (.tmp 39) rfl Tryd.underlying3 rfl ((eflat_get lenRw q.bad k 1 (by omega) (by decide)).trans rfl)) ⟨I0, T0⟩ T0 T0, ?_⟩
 refine ⟨app_yes rfl (sp_bldSI (X := .fr (intsA q.bad[k].1)) rfl rfl (fun _ _ _ => by kernel_rfl)) ⟨I0, I0, T0⟩ T0 T0, ?_⟩
 refine ⟨app_yes rfl (sp_build (z := 2) (k := 5) (fr := false) (cs := [.fr (intsA q.bad[k].1), iv q.bad[k].2]) [.tmp 41] [.agg [.fr (intsA q.bad[k].1), iv q.bad[k].2]] rfl Tryd.underlying28 (by kernel_rfl) (by decide) (by decide) rfl rfl rfl (by kernel_rfl) (by decide) (fun h => Bool.noConfusion h) (by kernel_rfl)) ⟨I0, T0⟩ T0 rfl, ?_⟩
 refine ⟨app_yes rfl (sp_appendOwn (n := k) (cs := ((q.bad.take k).flatMap cRw)) (fr := true) (m := 1) (ds := [.fr (intsA q.bad[k].1), iv q.bad[k].2]) (⟨Tryd.underlying28, by kernel_rfl, by decide⟩ : Elt Tryd.prog 28 84 2 32) (.tmp 27) (.tmp 42) rfl (fun _ => newRw q.bad[k]) (by unfold maxLen; omega) (by omega) (cellRw q.bad[k]) (es := ((q.bad.take (k + 1)).flatMap cRw)) (snocRw (by omega))) ⟨I0, I0, T0⟩ ⟨rfl, rfl, T0⟩ rfl, ?_⟩
 refine ⟨app_yes rfl (fB 3 (.tmp 3) rfl Tryd.underlying30 rfl 1 rfl) ⟨I0, T0⟩ T0 T0, ?_⟩
 refine ⟨app_yes rfl (sp_storeBox (T0 := 30) (X := .own 4) (cs := [sv q.nm, iv q.kind, .fr (intsA q.start), .any, .fr (intsA q.adj), .fr (intsA q.goal)]) (ds := [sv q.nm, iv q.kind, .fr (intsA q.start), .own 4, .fr (intsA q.adj), .fr (intsA q.goal)]) (z := 1) (.tmp 44) (.tmp 43) rfl (by kernel_rfl) (by kernel_rfl) (by kernel_rfl) (of_decide_eq_true (by kernel_rfl)) (by kernel_rfl)) ⟨I0, I0, T0⟩ ⟨rfl, T0⟩ rfl, ?_⟩
 show ETri J w0 _ _ _
 refine kW 46 [(1, .box 30 (cPq q)), (2, .box 30 [sv (⟨#[]⟩), iv 0, .v (.slice none 0 0), .v (.slice none 0 0), .v (.slice none 0 0), .v (.slice none 0 0)]), (3, .box 30 [sv q.nm, iv q.kind, .fr (intsA q.start), .own 4, .fr (intsA q.adj), .fr (intsA q.goal)]), (4, .row true 84 2 (k + 1) ((q.bad.take (k + 1)).flatMap cRw))] [(1, .box 1 0), (2, .box 2 0), (3, .box 3 0), (4, iv k), (23, bv true)] ?_
 refine t_block ?_
 refine t_then ?_
 refine tri_region ?_
 refine oA (sp_move (.tmp 4) (iv k) rfl) I0 ?_
 refine oC (sp_add (c := ((k + 1 : Nat) : Int)) rfl (w64 (by omega) (by omega) (by omega))) I0 I0 ?_
 refine oA (sp_assign (.tmp 25) (iv (k + 1 : Nat)) rfl) I0 ?_
 refine kN 46 [(1, .box 30 (cPq q)), (2, .box 30 [sv (⟨#[]⟩), iv 0, .v (.slice none 0 0), .v (.slice none 0 0), .v (.slice none 0 0), .v (.slice none 0 0)]), (3, .box 30 [sv q.nm, iv q.kind, .fr (intsA q.start), .own 4, .fr (intsA q.adj), .fr (intsA q.goal)]), (4, .row true 84 2 (k + 1) ((q.bad.take (k + 1)).flatMap cRw))] [(1, .box 1 0), (2, .box 2 0), (3, .box 3 0), (4, iv (k + 1 : Nat)), (23, bv true)] ?_
 refine t_then ?_
 refine tri_again ⟨k + 1, by omega⟩ (show q.bad.length - (k + 1) < q.bad.length - k by omega) ?_
 exact wk_keep _ _ rfl (by kernel_rfl) (by kernel_rfl)
 refine tri_region ?_
 refine oA (sp_move (.tmp 4) (iv k) rfl) I0 ?_
 refine oA (fB 3 (.tmp 1) rfl Tryd.underlying30 rfl 1 rfl) I0 ?_
 refine oB (lB (.box 30 (cPq q)) (slA 2 cRw q.bad) (.tmp 20) rfl Tryd.underlying28 rfl rfl) I0 rfl ?_
 refine oA (sp_lenSl (.tmp 21) rfl Tryd.underlying28) I0 ?_
 refine oC (sp_lss rfl (dF hs1)) I0 I0 ?_
 refine kN 46 [(1, .box 30 (cPq q)), (2, .box 30 [sv (⟨#[]⟩), iv 0, .v (.slice none 0 0), .v (.slice none 0 0), .v (.slice none 0 0), .v (.slice none 0 0)]), (3, .box 30 [sv q.nm, iv q.kind, .fr (intsA q.start), .own 4, .fr (intsA q.adj), .fr (intsA q.goal)]), (4, .row true 84 2 k ((q.bad.take k).flatMap cRw))] [(1, .box 1 0), (2, .box 2 0), (3, .box 3 0), (4, iv k), (23, bv false)] ?_
 refine t_then ?_
 refine t_condF rfl ?_
 refine tri_exit ?_
 refine t_then_exit ?_
 refine t_then_exit ?_
 refine t_hit ?_
 refine t_then ?_
 refine tri_seq ?_
 refine tri_region ?_
 refine oB (sp_loadBoxS (Y := .box 30 [sv q.nm, iv q.kind, .fr (intsA q.start), .own 4, .fr (intsA q.adj), .fr (intsA q.goal)]) (ds := [sv q.nm, iv q.kind, .fr (intsA q.start), .own 4, .fr (intsA q.adj), .fr (intsA q.goal)]) (z := 6) (.tmp 3) rfl Tryd.underlying30 rfl (by kernel_rfl) (by decide) (by kernel_rfl) (by kernel_rfl)) I0 rfl ?_
 refine t_op rfl (sp_storeBox (T0 := 30) (X := .agg [sv q.nm, iv q.kind, .fr (intsA q.start), .own 4, .fr (intsA q.adj), .fr (intsA q.goal)]) (cs := [sv (⟨#[]⟩), iv 0, .v (.slice none 0 0), .v (.slice none 0 0), .v (.slice none 0 0), .v (.slice none 0 0)]) (ds := [sv q.nm, iv q.kind, .fr (intsA q.start), .own 4, .fr (intsA q.adj), .fr (intsA q.goal)]) (z := 6) (.tmp 2) (.tmp 45) rfl (by kernel_rfl) (by kernel_rfl) (by kernel_rfl) (of_decide_eq_true (by kernel_rfl)) (by kernel_rfl)) ⟨I0, I0, T0⟩ ⟨rfl, T0⟩ rfl ?_
 refine kN 46 [(2, .box 30 [sv q.nm, iv q.kind, .fr (intsA q.start), .own 4, .fr (intsA q.adj), .fr (intsA q.goal)]), (4, .row true 84 2 k ((q.bad.take k).flatMap cRw))] [(2, .box 2 0)] ?_
 refine t_then ?_
 refine tri_ret ?_
 refine tri_end1 Tryd.results16 (.cellS rfl rfl Tryd.underlying30 rfl (z := 6) (by kernel_rfl) rfl (by decide)) ?_
 have hk : k = q.bad.length := by omega
 subst hk
 show AV.agg [sv q.nm, iv q.kind, intsA q.start, .sl 2 q.bad.length ((q.bad.take q.bad.length).flatMap cRw), intsA q.adj, intsA q.goal] = .agg (cPq q)
 rw [List.take_length]; rfl
set_option linter.unusedSimpArgs false in
set_option linter.unusedVariables false in
set_option maxRecDepth 100000 in
set_option maxHeartbeats 6400000 in
theorem rEqualProperty_s {q : Pq} (HQ : PqOk q) : Ctr Tryd.prog J 21 [.agg (cPq q), .agg (cPq q)] (bv true) := by
 have l1 := HQ.lbad
 refine ctr_of_tri Tryd.func21 rfl (by intro X hX; simp only [List.mem_cons, List.not_mem_nil, or_false] at hX; rcases hX with rfl | rfl <;> exact plain_agg (plain_pq q)) (n := 82) rfl (by simp) (fun w0 => ?_)
 refine kW 82 [] [(0, .agg (cPq q)), (1, .agg (cPq q))] ?_
 refine tri_seq ?_
 refine tri_region ?_
 refine t_op rfl (sp_box (X := .agg (cPq q)) (k := 1) (.tmp 0) rfl rfl) ⟨I0, T0⟩ T0 rfl ?_
 refine t_op rfl (sp_box (X := .agg (cPq q)) (k := 2) (.tmp 1) rfl rfl) ⟨I0, T0⟩ T0 rfl ?_
 refine oA (sp_assign (.const (.bool false)) (bv false) rfl) I0 ?_
 refine kN 82 [(1, .box 30 (cPq q)), (2, .box 30 (cPq q))] [(2, .box 1 0), (3, .box 2 0), (4, bv false)] ?_
 refine t_then ?_
 refine tri_seq ?_
 refine tri_seq ?_
 refine tri_region ?_
 refine oA (fB 0 (.tmp 2) rfl Tryd.underlying30 rfl 1 rfl) I0 ?_
 refine oB (lB (.box 30 (cPq q)) (sv q.nm) (.tmp 6) rfl Tryd.underlying9 rfl rfl) I0 rfl ?_
 refine oA (fB 0 (.tmp 3) rfl Tryd.underlying30 rfl 1 rfl) I0 ?_
 refine oB (lB (.box 30 (cPq q)) (sv q.nm) (.tmp 8) rfl Tryd.underlying9 rfl rfl) I0 rfl ?_
 refine oC (sp_sneq (r := false) rfl (beq_self_eq_true _)) I0 I0 ?_
 refine oA (sp_move (.tmp 10) (bv false) rfl) I0 ?_
 refine gA (fB 1 (.tmp 2) rfl Tryd.underlying30 rfl 1 rfl) I0 ?_
 refine gB (lB (.box 30 (cPq q)) (iv q.kind) (.tmp 12) rfl Tryd.underlying3 rfl rfl) I0 rfl ?_
 refine gA (fB 1 (.tmp 3) rfl Tryd.underlying30 rfl 1 rfl) I0 ?_
 refine gB (lB (.box 30 (cPq q)) (iv q.kind) (.tmp 14) rfl Tryd.underlying3 rfl rfl) I0 rfl ?_
 refine gC (sp_neq rfl (dT' rfl)) I0 I0 ?_
 refine oD (sp_pick (.tmp 11) (.const (.bool true)) (.tmp 16) false (bv true) (bv false) rfl) I0 I0 I0 ?_
 refine oA (sp_move (.tmp 17) (bv false) rfl) I0 ?_
 refine gA (fB 3 (.tmp 2) rfl Tryd.underlying30 rfl 1 rfl) I0 ?_
 refine gB (lB (.box 30 (cPq q)) (slA 2 cRw q.bad) (.tmp 19) rfl Tryd.underlying28 rfl rfl) I0 rfl ?_
 refine gA (sp_lenSl (.tmp 20) rfl Tryd.underlying28) I0 ?_
 refine gA (fB 3 (.tmp 3) rfl Tryd.underlying30 rfl 1 rfl) I0 ?_
 refine gB (lB (.box 30 (cPq q)) (slA 2 cRw q.bad) (.tmp 22) rfl Tryd.underlying28 rfl rfl) I0 rfl ?_
 refine gA (sp_lenSl (.tmp 23) rfl Tryd.underlying28) I0 ?_
 refine gC (sp_neq rfl (dT' rfl)) I0 I0 ?_
 refine oD (sp_pick (.tmp 18) (.const (.bool true)) (.tmp 25) false (bv true) (bv false) rfl) I0 I0 I0 ?_
 refine kN 82 [(1, .box 30 (cPq q)), (2, .box 30 (cPq q))] [(2, .box 1 0), (3, .box 2 0), (4, bv false), (26, bv false)] ?_
 refine t_then ?_
 refine t_condF rfl ?_
 refine tri_skip ?_
 refine t_then ?_
 refine tri_seq ?_
 refine tri_seq ?_
 refine tri_region ?_
 refine oA (sp_assign (.const (.int .i64 0)) (iv 0) rfl) I0 ?_
 refine kN 82 [(1, .box 30 (cPq q)), (2, .box 30 (cPq q))] [(2, .box 1 0), (3, .box 2 0), (4, bv false), (5, iv 0)] ?_
 refine t_then ?_
 refine tri_block ?_
 refine tri_loop (σ := {k : Nat // k ≤ q.bad.length}) (fun s => (ofL [(1, .box 30 (cPq q)), (2, .box 30 (cPq q))], ofT 82 [(2, .box 1 0), (3, .box 2 0), (5, iv s.1)])) (fun s => q.bad.length - s.1) ⟨0, Nat.zero_le _⟩ (wk_keep _ _ rfl (by kernel_rfl) (by kernel_rfl)) (fun s => ?_)
 obtain ⟨k, hk0⟩ := s
 show ETri J w0 (ofL [(1, .box 30 (cPq q)), (2, .box 30 (cPq q))]) (ofT 82 [(2, .box 1 0), (3, .box 2 0), (5, iv k)]) _
 refine tri_seq ?_
 refine tri_seq ?_
 by_cases hs1 : ((k : Nat) : Int) < ((q.bad.length : Nat) : Int)
 refine tri_region ?_
 refine oA (sp_move (.tmp 5) (iv k) rfl) I0 ?_
 refine oA (fB 3 (.tmp 2) rfl Tryd.underlying30 rfl 1 rfl) I0 ?_
 refine oB (lB (.box 30 (cPq q)) (slA 2 cRw q.bad) (.tmp 28) rfl Tryd.underlying28 rfl rfl) I0 rfl ?_
 refine oA (sp_lenSl (.tmp 29) rfl Tryd.underlying28) I0 ?_
 refine oC (sp_lss rfl (dT hs1)) I0 I0 ?_
 refine kN 82 [(1, .box 30 (cPq q)), (2, .box 30 (cPq q))] [(2, .box 1 0), (3, .box 2 0), (5, iv k), (31, bv true)] ?_
 refine t_then ?_
 refine t_condT rfl ?_
 refine tri_skip ?_
 refine t_then ?_
 refine tri_seq ?_
 refine tri_block ?_
 refine tri_seq ?_
 refine tri_draw [⟨[(.tmp 2, .box 1 0)], [], .box 1 3, .no⟩, ⟨[(.tmp 34, .box 1 3)], [(1, .box 30 (cPq q))], slA 2 cRw q.bad, .no⟩, ⟨[(.tmp 5, iv k)], [], iv k, .no⟩, ⟨[(.tmp 35, slA 2 cRw q.bad), (.tmp 36, iv k)], [], .el (q.bad.flatMap cRw) (k * 2), .no⟩, ⟨[(.tmp 37, .el (q.bad.flatMap cRw) (k * 2))], [], .el (q.bad.flatMap cRw) (k * 2 + 1), .no⟩, ⟨[(.tmp 38, .el (q.bad.flatMap cRw) (k * 2 + 1))], [], iv q.bad[k].2, .no⟩, ⟨[(.tmp 3, .box 2 0)], [], .box 2 3, .no⟩, ⟨[(.tmp 40, .box 2 3)], [(2, .box 30 (cPq q))], slA 2 cRw q.bad, .no⟩, ⟨[(.tmp 5, iv k)], [], iv k, .no⟩, ⟨[(.tmp 41, slA 2 cRw q.bad), (.tmp 42, iv k)], [], .el (q.bad.flatMap cRw) (k * 2), .no⟩, ⟨[(.tmp 43, .el (q.bad.flatMap cRw) (k * 2))], [], .el (q.bad.flatMap cRw) (k * 2 + 1), .no⟩, ⟨[(.tmp 44, .el (q.bad.flatMap cRw) (k * 2 + 1))], [], iv q.bad[k].2, .no⟩, ⟨[(.tmp 39, iv q.bad[k].2), (.tmp 45, iv q.bad[k].2)], [], bv false, .no⟩, ⟨[(.tmp 46, bv false)], [], bv false, .no⟩, ⟨[(.tmp 2, .box 1 0)], [], .box 1 3, .no⟩, ⟨[(.tmp 48, .box 1 3)], [(1, .box 30 (cPq q))], slA 2 cRw q.bad, .no⟩, ⟨[(.tmp 5, iv k)], [], iv k, .no⟩, ⟨[(.tmp 49, slA 2 cRw q.bad), (.tmp 50, iv k)], [], .el (q.bad.flatMap cRw) (k * 2), .no⟩, ⟨[(.tmp 51, .el (q.bad.flatMap cRw) (k * 2))], [], .el (q.bad.flatMap cRw) (k * 2), .no⟩, ⟨[(.tmp 52, .el (q.bad.flatMap cRw) (k * 2))], [], intsA q.bad[k].1, .no⟩, ⟨[(.tmp 3, .box 2 0)], [], .box 2 3, .no⟩, ⟨[(.tmp 54, .box 2 3)], [(2, .box 30 (cPq q))], slA 2 cRw q.bad, .no⟩, ⟨[(.tmp 5, iv k)], [], iv k, .no⟩, ⟨[(.tmp 55, slA 2 cRw q.bad), (.tmp 56, iv k)], [], .el (q.bad.flatMap cRw) (k * 2), .no⟩, ⟨[(.tmp 57, .el (q.bad.flatMap cRw) (k * 2))], [], .el (q.bad.flatMap cRw) (k * 2), .no⟩, ⟨[(.tmp 58, .el (q.bad.flatMap cRw) (k * 2))], [], intsA q.bad[k].1, .no⟩, ⟨[(.func 19, .v (.func (.func 19) #[] #[])), (.tmp 53, intsA q.bad[k].1), (.tmp 59, intsA q.bad[k].1)], [], bv true, .no⟩, ⟨[(.tmp 60, bv true)], [], bv false, .no⟩, ⟨[(.tmp 47, bv false), (.const (.bool true), bv true), (.tmp 61, bv false)], [], bv false, .no⟩] (by kernel_rfl) (by kernel_rfl) ?_
 refine ⟨app_yes rfl (fB 3 (.tmp 2) rfl Tryd.underlying30 rfl 1 rfl) ⟨I0, T0⟩ T0 T0, ?_⟩
 refine ⟨app_yes rfl (lB (.box 30 (cPq q)) (slA 2 cRw q.bad) (.tmp 34) rfl Tryd.underlying28 rfl rfl) ⟨I0, T0⟩ ⟨rfl, T0⟩ T0, ?_⟩
 refine ⟨app_yes rfl (sp_move (.tmp 5) (iv k) rfl) ⟨I0, T0⟩ T0 T0, ?_⟩
 refine ⟨app_yes rfl (sp_indexSl (off := k * 2) (.tmp 35) (.tmp 36) rfl Tryd.underlying28 (by kernel_rfl) (by omega) (by omega) rfl) ⟨I0, I0, T0⟩ T0 T0, ?_⟩
 refine ⟨app_yes rfl (sp_fieldEl (off' := k * 2 + 1) (.tmp 37) rfl Tryd.underlying84 rfl (z := 1) (by kernel_rfl) (by decide) rfl) ⟨I0, T0⟩ T0 T0, ?_⟩
 refine ⟨app_yes rfl (sp_loadEl1 (X := iv q.bad[k].2) (.tmp 38) rfl Tryd.underlying3 rfl ((eflat_get lenRw q.bad k 1 (by omega) (by decide)).trans rfl)) ⟨I0, T0⟩ T0 T0, ?_⟩
 refine ⟨app_yes rfl (fB 3 (.tmp 3) rfl Tryd.underlying30 rfl 1 rfl) ⟨I0, T0⟩ T0 T0, ?_⟩
 refine ⟨app_yes rfl (lB (.box 30 (cPq q)) (slA 2 cRw q.bad) (.tmp 40) rfl Tryd.underlying28 rfl rfl) ⟨I0, T0⟩ ⟨rfl, T0⟩ T0, ?_⟩
 refine ⟨app_yes rfl (sp_move (.tmp 5) (iv k) rfl) ⟨I0, T0⟩ T0 T0, ?_⟩
 refine ⟨app_yes rfl (sp_indexSl (off := k * 2) (.tmp 41) (.tmp 42) rfl Tryd.underlying28 (by kernel_rfl) (by omega) (by omega) rfl) ⟨I0, I0, T0⟩ T0 T0, ?_⟩
 refine ⟨app_yes rfl (sp_fieldEl (off' := k * 2 + 1) (.tmp 43) rfl Tryd.underlying84 rfl (z := 1) (by kernel_rfl) (by decide) rfl) ⟨I0, T0⟩ T0 T0, ?_⟩
 refine ⟨app_yes rfl (sp_loadEl1 (X := iv q.bad[k].2) (.tmp 44) rfl Tryd.underlying3 rfl ((eflat_get lenRw q.bad k 1 (by omega) (by decide)).trans rfl)) ⟨I0, T0⟩ T0 T0, ?_⟩
 refine ⟨app_yes rfl (sp_neq rfl (dT' rfl)) ⟨I0, I0, T0⟩ T0 T0, ?_⟩
 refine ⟨app_yes rfl (sp_move (.tmp 46) (bv false) rfl) ⟨I0, T0⟩ T0 T0, ?_⟩
 refine ⟨app_yes rfl (fB 3 (.tmp 2) rfl Tryd.underlying30 rfl 1 rfl) ⟨I0, T0⟩ T0 T0, ?_⟩
 refine ⟨app_yes rfl (lB (.box 30 (cPq q)) (slA 2 cRw q.bad) (.tmp 48) rfl Tryd.underlying28 rfl rfl) ⟨I0, T0⟩ ⟨rfl, T0⟩ T0, ?_⟩
 refine ⟨app_yes rfl (sp_move (.tmp 5) (iv k) rfl) ⟨I0, T0⟩ T0 T0, ?_⟩
 refine ⟨app_yes rfl (sp_indexSl (off := k * 2) (.tmp 49) (.tmp 50) rfl Tryd.underlying28 (by kernel_rfl) (by omega) (by omega) rfl) ⟨I0, I0, T0⟩ T0 T0, ?_⟩
 refine ⟨app_yes rfl (sp_fieldEl (off' := k * 2) (.tmp 51) rfl Tryd.underlying84 rfl (z := 1) (by kernel_rfl) (by decide) rfl) ⟨I0, T0⟩ T0 T0, ?_⟩
 refine ⟨app_yes rfl (sp_loadEl1 (X := intsA q.bad[k].1) (.tmp 52) rfl Tryd.underlying24 rfl ((eflat_get lenRw q.bad k 0 (by omega) (by decide)).trans rfl)) ⟨I0, T0⟩ T0 T0, ?_⟩
 refine ⟨app_yes rfl (fB 3 (.tmp 3) rfl Tryd.underlying30 rfl 1 rfl) ⟨I0, T0⟩ T0 T0, ?_⟩
 refine ⟨app_yes rfl (lB (.box 30 (cPq q)) (slA 2 cRw q.bad) (.tmp 54) rfl Tryd.underlying28 rfl rfl) ⟨I0, T0⟩ ⟨rfl, T0⟩ T0, ?_⟩
 refine ⟨app_yes rfl (sp_move (.tmp 5) (iv k) rfl) ⟨I0, T0⟩ T0 T0, ?_⟩
 refine ⟨app_yes rfl (sp_indexSl (off := k * 2) (.tmp 55) (.tmp 56) rfl Tryd.underlying28 (by kernel_rfl) (by omega) (by omega) rfl) ⟨I0, I0, T0⟩ T0 T0, ?_⟩
 refine ⟨app_yes rfl (sp_fieldEl (off' := k * 2) (.tmp 57) rfl Tryd.underlying84 rfl (z := 1) (by kernel_rfl) (by decide) rfl) ⟨I0, T0⟩ T0 T0, ?_⟩
 refine ⟨app_yes rfl (sp_loadEl1 (X := intsA q.bad[k].1) (.tmp 58) rfl Tryd.underlying24 rfl ((eflat_get lenRw q.bad k 0 (by omega) (by decide)).trans rfl)) ⟨I0, T0⟩ T0 T0, ?_⟩
 refine ⟨app_yes rfl (sp_call (c := .func 19) (xs := #[.tmp 53, .tmp 59]) [] (sameInts_c q.bad[k].1 (HQ.bad q.bad[k] (List.getElem_mem (by omega))).1) rfl (by kernel_rfl) rfl (Xs := [intsA q.bad[k].1, intsA q.bad[k].1]) rfl rfl rfl) ⟨I0, I0, I0, T0⟩ T0 T0, ?_⟩
 refine ⟨app_yes rfl (sp_not rfl rfl) ⟨I0, T0⟩ T0 T0, ?_⟩
 refine ⟨app_yes rfl (sp_pick (.tmp 47) (.const (.bool true)) (.tmp 61) false (bv true) (bv false) rfl) ⟨I0, I0, I0, T0⟩ T0 T0, ?_⟩
 show ETri J w0 _ _ _
 refine kW 82 [(1, .box 30 (cPq q)), (2, .box 30 (cPq q))] [(2, .box 1 0), (3, .box 2 0), (5, iv k), (31, bv true), (62, bv false)] ?_
 refine t_then ?_
 refine t_condF rfl ?_
 refine tri_skip ?_
 refine t_block ?_
 refine t_then ?_
 refine tri_region ?_
 refine oA (sp_move (.tmp 5) (iv k) rfl) I0 ?_
 refine oC (sp_add (c := ((k + 1 : Nat) : Int)) rfl (w64 (by omega) (by omega) (by omega))) I0 I0 ?_
 refine oA (sp_assign (.tmp 33) (iv (k + 1 : Nat)) rfl) I0 ?_
 refine kN 82 [(1, .box 30 (cPq q)), (2, .box 30 (cPq q))] [(2, .box 1 0), (3, .box 2 0), (5, iv (k + 1 : Nat)), (31, bv true), (62, bv false)] ?_
 refine t_then ?_
 refine tri_again ⟨k + 1, by omega⟩ (show q.bad.length - (k + 1) < q.bad.length - k by omega) ?_
 exact wk_keep _ _ rfl (by kernel_rfl) (by kernel_rfl)
 refine tri_region ?_
 refine oA (sp_move (.tmp 5) (iv k) rfl) I0 ?_
 refine oA (fB 3 (.tmp 2) rfl Tryd.underlying30 rfl 1 rfl) I0 ?_
 refine oB (lB (.box 30 (cPq q)) (slA 2 cRw q.bad) (.tmp 28) rfl Tryd.underlying28 rfl rfl) I0 rfl ?_
 refine oA (sp_lenSl (.tmp 29) rfl Tryd.underlying28) I0 ?_
 refine oC (sp_lss rfl (dF hs1)) I0 I0 ?_
 refine kN 82 [(1, .box 30 (cPq q)), (2, .box 30 (cPq q))] [(2, .box 1 0), (3, .box 2 0), (5, iv k), (31, bv false)] ?_
 refine t_then ?_
 refine t_condF rfl ?_
 refine tri_exit ?_
 refine t_then_exit ?_
 refine t_then_exit ?_
 refine t_hit ?_
 refine t_then ?_
 refine tri_seq ?_
 refine tri_region ?_
 refine oA (fB 2 (.tmp 2) rfl Tryd.underlying30 rfl 1 rfl) I0 ?_
 refine oB (lB (.box 30 (cPq q)) (intsA q.start) (.tmp 63) rfl Tryd.underlying24 rfl rfl) I0 rfl ?_
 refine oA (fB 2 (.tmp 3) rfl Tryd.underlying30 rfl 1 rfl) I0 ?_
 refine oB (lB (.box 30 (cPq q)) (intsA q.start) (.tmp 65) rfl Tryd.underlying24 rfl rfl) I0 rfl ?_
 refine oD (sp_call (c := .func 19) (xs := #[.tmp 64, .tmp 66]) [] (sameInts_c q.start HQ.start) rfl (by kernel_rfl) rfl (Xs := [intsA q.start, intsA q.start]) rfl rfl rfl) I0 I0 I0 ?_
 refine oA (sp_move (.tmp 67) (bv true) rfl) I0 ?_
 refine gA (fB 4 (.tmp 2) rfl Tryd.underlying30 rfl 1 rfl) I0 ?_
 refine gB (lB (.box 30 (cPq q)) (intsA q.adj) (.tmp 69) rfl Tryd.underlying24 rfl rfl) I0 rfl ?_
 refine gA (fB 4 (.tmp 3) rfl Tryd.underlying30 rfl 1 rfl) I0 ?_
 refine gB (lB (.box 30 (cPq q)) (intsA q.adj) (.tmp 71) rfl Tryd.underlying24 rfl rfl) I0 rfl ?_
 refine gD (sp_call (c := .func 19) (xs := #[.tmp 70, .tmp 72]) [] (sameInts_c q.adj HQ.adj) rfl (by kernel_rfl) rfl (Xs := [intsA q.adj, intsA q.adj]) rfl rfl rfl) I0 I0 I0 ?_
 refine oD (sp_pick (.tmp 68) (.tmp 73) (.const (.bool false)) true (bv true) (bv false) rfl) I0 I0 I0 ?_
 refine oA (sp_move (.tmp 74) (bv true) rfl) I0 ?_
 refine gA (fB 5 (.tmp 2) rfl Tryd.underlying30 rfl 1 rfl) I0 ?_
 refine gB (lB (.box 30 (cPq q)) (intsA q.goal) (.tmp 76) rfl Tryd.underlying24 rfl rfl) I0 rfl ?_
 refine gA (fB 5 (.tmp 3) rfl Tryd.underlying30 rfl 1 rfl) I0 ?_
 refine gB (lB (.box 30 (cPq q)) (intsA q.goal) (.tmp 78) rfl Tryd.underlying24 rfl rfl) I0 rfl ?_
 refine gD (sp_call (c := .func 19) (xs := #[.tmp 77, .tmp 79]) [] (sameInts_c q.goal HQ.goal) rfl (by kernel_rfl) rfl (Xs := [intsA q.goal, intsA q.goal]) rfl rfl rfl) I0 I0 I0 ?_
 refine oD (sp_pick (.tmp 75) (.tmp 80) (.const (.bool false)) true (bv true) (bv false) rfl) I0 I0 I0 ?_
 refine oA (sp_assign (.tmp 81) (bv true) rfl) I0 ?_
 refine kN 82 [] [(4, bv true)] ?_
 refine t_then ?_
 refine tri_ret ?_
 refine tri_end1 Tryd.results21 (.tmp rfl) ?_
 exact rfl
end Go.Proofs.YtpadmggccpgajaaDoor

namespace Go.Proofs.YtpadmggccpgajaaDoor
open Go.RowKit Go.Deep
variable {J : World → Prop}
theorem ownI {F : Nat → Prop} {lo : Nat} {w : World} {v : Value} {xs : List Int} (h : OwnV lo w v xs) : Pu F w (nw w lo) (intsA xs) v := by
  rcases h with ⟨rfl, rfl⟩ | ⟨g, cap, rfl, hl, hm, h1, h2, h3, cur, t, hg, hc⟩
  · exact .sl0 (by simp [maxLen]) (by simp)
  · refine .sl (b := g) (off := 0) (f := fun j => .int .i64 (xs.getD j 0)) (by simp) hl hm ⟨h1, _, _, hg⟩ (Array.getElem?_eq_some_iff.1 hg).1 (fun j hj => ?_) fun j hj => ?_
    · have hj' : j < xs.length := by simpa using hj
      rw [Nat.zero_add, cellB hg j (v := .int .i64 (xs.getD j 0)) (hc j hj')]
    · have hj' : j < xs.length := by simpa using hj
      simp only [List.getElem_map, List.getD_eq_getElem?_getD, List.getElem?_eq_getElem hj', Option.getD_some]
      exact .v _
theorem Clone_c (xs : List Int) (hx : InOk xs) (hn : xs.length ≤ 1000) : Ctr Tryd.prog J 50 [intsA xs] (intsA xs) := ctr1 fun w v _ h =>
  (Clone_any (pu_ints hx lo0 h) hn).mono fun _ _ ⟨v', he, ho, hb⟩ => ⟨v', he, ownI ho, hb⟩
/-- In which states the processes start. -/
def stL (p : Fm) (q : Pq) : List Int := if vpE p q = 0 then (if q.start = [] then p.init else q.start) else []
section
variable {p : Fm} {q : Pq}
theorem st_err (h : ¬ vpE p q = 0) : AV.tup [.sl 1 0 [], iv (vpE p q)] = .tup [intsA (stL p q), iv (vpE p q)] := by
  unfold stL; rw [if_neg h]; rfl
theorem st_s (h : vpE p q = 0) (h2 : 0 < ((q.start.length : Nat) : Int)) : AV.tup [intsA q.start, iv 0] = .tup [intsA (stL p q), iv (vpE p q)] := by
  unfold stL; rw [if_pos h, if_neg (by rintro e; rw [e] at h2; simp at h2), h]
theorem st_i (h : vpE p q = 0) (h2 : ¬ 0 < ((q.start.length : Nat) : Int)) : AV.tup [intsA p.init, iv 0] = .tup [intsA (stL p q), iv (vpE p q)] := by
  unfold stL; rw [if_pos h, if_pos (List.eq_nil_of_length_eq_zero (by omega)), h]
theorem stL_ok (hp : FmOk p) (hq : PqOk q) : InOk (stL p q) := by
  unfold stL
  split
  · split
    · exact hp.init
    · exact hq.start
  · intro x hx; simp at hx
theorem stL_len (hp : FamLen p) (hq : PqLen q) : (stL p q).length ≤ 60 := by
  unfold stL
  split
  · split
    · exact hp.init
    · exact hq.start
  · simp
end
end Go.Proofs.YtpadmggccpgajaaDoor
