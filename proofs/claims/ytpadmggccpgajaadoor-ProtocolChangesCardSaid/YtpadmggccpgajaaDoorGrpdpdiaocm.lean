import Derived.Test.YtpadmggccpgajaaDoorGrpjepmknok
set_option linter.all false
namespace Go.Proofs.YtpadmggccpgajaaDoor
open Go.RowKit Go.Deep
variable {J : World → Prop}
set_option linter.unusedSimpArgs false in
set_option linter.unusedVariables false in
set_option maxRecDepth 100000 in
set_option maxHeartbeats 6400000 in
theorem closeG {x r : Ru} (HX : RuOk x) (HR : RuOk r) : Ctr Tryd.prog J 114 [.agg (cRu x), .el (cRu r) 0] (bv (samP x r)) := by
 refine ctr_of_tri Tryd.func114 rfl (by intro X hX; simp only [List.mem_cons, List.not_mem_nil, or_false] at hX; rcases hX with rfl | rfl; exact plain_agg (plain_ru x); exact .el (plain_all (plain_ru r))) (n := 7) rfl (by simp) (fun w0 => ?_)
 refine tri_wk (wk_keep [] [(0, .agg (cRu x)), (1, .el (cRu r) 0)] (n := 7)) ?_
 refine tri_seq ?_
 refine tri_region ?_
 refine t_op rfl (sp_box (X := .agg (cRu x)) (k := 1) (.tmp 0) rfl rfl) ⟨I0, T0⟩ T0 rfl ?_
 refine t_op rfl (sp_assign (.const (.bool false)) (bv false) rfl) ⟨I0, T0⟩ T0 T0 ?_
 refine tri_nil ?_
 refine tri_wk (wk_keep [(1, .box 81 (cRu x))] [(1, .el (cRu r) 0), (2, .box 1 0), (3, bv false)] (n := 7)) ?_
 refine t_then ?_
 refine tri_seq ?_
 refine tri_region ?_
 refine t_op rfl (sp_loadBoxS (Y := .box 81 (cRu x)) (ds := cRu x) (z := 18) (.tmp 2) rfl Tryd.underlying81 rfl (by kernel_rfl) (by decide) (by kernel_rfl) (by kernel_rfl)) ⟨I0, T0⟩ ⟨rfl, T0⟩ T0 ?_
 refine t_op rfl (sp_loadElS (z := 18) (.tmp 1) rfl Tryd.underlying81 rfl (by kernel_rfl) rfl rfl) ⟨I0, T0⟩ T0 T0 ?_
 refine t_op rfl (sp_call (c := .func 60) (xs := #[.tmp 4, .tmp 5]) [] (samePartsG HX HR) rfl (by kernel_rfl) rfl (Xs := [.agg (cRu x), .agg (cRu r)]) rfl rfl rfl) ⟨I0, I0, I0, T0⟩ T0 T0 ?_
 refine t_op rfl (sp_assign (.tmp 6) (bv (samP x r)) rfl) ⟨I0, T0⟩ T0 T0 ?_
 refine tri_nil ?_
 refine tri_wk (wk_keep [] [(3, bv (samP x r))] (n := 7)) ?_
 refine t_then ?_
 refine tri_ret ?_
 refine tri_end1 Tryd.results114 (.tmp rfl) ?_
 exact rfl
set_option linter.unusedSimpArgs false in
set_option linter.unusedVariables false in
set_option maxRecDepth 100000 in
set_option maxHeartbeats 6400000 in
theorem indexFG (ra : List Ru) {r : Ru} (ha : ∀ x ∈ ra, RuOk x) (HR : RuOk r) (la : ra.length ≤ 9223372036854775807) : Ctr Tryd.prog J 152 [slA 18 cRu ra, .clo 114 [.el (cRu r) 0]] (iv (ixR ra r)) := by
 refine ctr_of_tri Tryd.func152 rfl (by intro X hX; simp only [List.mem_cons, List.not_mem_nil, or_false] at hX; rcases hX with rfl | rfl; exact plain_sl plain_ru _; exact .clo (fun j hj => match j, hj with | 0, _ => .el (plain_all (plain_ru r)))) (n := 19) rfl (by simp) (fun w0 => ?_)
 refine tri_wk (wk_keep [] [(0, slA 18 cRu ra), (1, .clo 114 [.el (cRu r) 0])] (n := 19)) ?_
 refine tri_seq ?_
 refine tri_region ?_
 refine t_op rfl (sp_assign (.const (.int .i64 0)) (iv 0) rfl) ⟨I0, T0⟩ T0 T0 ?_
 refine tri_nil ?_
 refine tri_wk (wk_keep [] [(0, slA 18 cRu ra), (1, .clo 114 [.el (cRu r) 0]), (4, iv 0)] (n := 19)) ?_
 refine t_then ?_
 refine tri_seq ?_
 refine tri_seq ?_
 refine tri_region ?_
 refine t_op rfl (sp_move (.tmp 0) (slA 18 cRu ra) rfl) ⟨I0, T0⟩ T0 T0 ?_
 refine t_op rfl (sp_lenSl (.tmp 6) rfl Tryd.underlying25) ⟨I0, T0⟩ T0 T0 ?_
 refine t_op rfl (sp_move (.const (.int .i64 0)) (iv 0) rfl) ⟨I0, T0⟩ T0 T0 ?_
 refine tri_nil ?_
 refine tri_wk (wk_keep [] [(0, slA 18 cRu ra), (1, .clo 114 [.el (cRu r) 0]), (4, iv 0), (7, iv ra.length), (8, iv 0)] (n := 19)) ?_
 refine t_then ?_
 refine tri_block ?_
 refine tri_loop (σ := {k : Nat // k ≤ ra.length ∧ noK ra r k}) (fun s => (ofL [], ofT 19 [(0, slA 18 cRu ra), (1, .clo 114 [.el (cRu r) 0]), (7, iv ra.length), (8, iv s.1)])) (fun s => ra.length - s.1) ⟨0, Nat.zero_le _, noK_zero _ _⟩ (wk_keep [] _ rfl (by kernel_rfl) (by kernel_rfl)) (fun s => ?_)
 obtain ⟨k, hk0, hs0⟩ := s
 show ETri J w0 (ofL []) (ofT 19 [(0, slA 18 cRu ra), (1, .clo 114 [.el (cRu r) 0]), (7, iv ra.length), (8, iv k)]) _
 refine tri_seq ?_
 by_cases hs1 : ((k : Nat) : Int) < ((ra.length : Nat) : Int)
 refine tri_region ?_
 refine t_op rfl (sp_lss rfl (dT hs1)) ⟨I0, I0, T0⟩ T0 T0 ?_
 refine tri_nil ?_
 refine tri_wk (wk_keep [] [(0, slA 18 cRu ra), (1, .clo 114 [.el (cRu r) 0]), (7, iv ra.length), (8, iv k), (9, bv true)] (n := 19)) ?_
 refine t_then ?_
 refine tri_seq ?_
 refine t_condT rfl ?_
 refine tri_skip ?_
 refine t_then ?_
 refine tri_seq ?_
 refine tri_block ?_
 refine tri_seq ?_
 refine tri_region ?_
 refine t_op rfl (sp_move (.tmp 8) (iv k) rfl) ⟨I0, T0⟩ T0 T0 ?_
 refine t_op rfl (sp_assign (.tmp 10) (iv k) rfl) ⟨I0, T0⟩ T0 T0 ?_
 refine tri_nil ?_
 refine tri_wk (wk_keep [] [(0, slA 18 cRu ra), (1, .clo 114 [.el (cRu r) 0]), (5, iv k), (7, iv ra.length), (8, iv k), (9, bv true)] (n := 19)) ?_
 refine t_then ?_
 refine tri_seq ?_
 by_cases hs2 : (samP ra[k] r) = true
 refine tri_region ?_
 refine t_op rfl (sp_move (.tmp 1) (.clo 114 [.el (cRu r) 0]) rfl) ⟨I0, T0⟩ T0 T0 ?_
 refine t_op rfl (sp_move (.tmp 0) (slA 18 cRu ra) rfl) ⟨I0, T0⟩ T0 T0 ?_
 refine t_op rfl (sp_move (.tmp 5) (iv k) rfl) ⟨I0, T0⟩ T0 T0 ?_
 refine t_op rfl (sp_indexSl (off := k * 18) (.tmp 12) (.tmp 13) rfl Tryd.underlying25 (by kernel_rfl) (by omega) (by omega) rfl) ⟨I0, I0, T0⟩ T0 T0 ?_
 refine t_op rfl (sp_loadElS (z := 18) (.tmp 14) rfl Tryd.underlying81 rfl (by kernel_rfl) (flat_take lenRu ra k (by omega)) rfl) ⟨I0, T0⟩ T0 T0 ?_
 refine t_op rfl (sp_callClo (c := .tmp 11) (xs := #[.tmp 15]) (Cs := [.el (cRu r) 0]) [] (ctr_b (closeG (ha ra[k] (List.getElem_mem (by omega))) HR) hs2) rfl (by kernel_rfl) rfl (Xs := [.agg (cRu ra[k])]) rfl rfl rfl rfl rfl) ⟨I0, I0, T0⟩ T0 T0 ?_
 refine tri_nil ?_
 refine tri_wk (wk_keep [] [(0, slA 18 cRu ra), (1, .clo 114 [.el (cRu r) 0]), (5, iv k), (7, iv ra.length), (8, iv k), (9, bv true), (16, bv true)] (n := 19)) ?_
 refine t_then ?_
 refine t_condT rfl ?_
 refine tri_seq ?_
 refine tri_region ?_
 refine t_op rfl (sp_move (.tmp 5) (iv k) rfl) ⟨I0, T0⟩ T0 T0 ?_
 refine t_op rfl (sp_assign (.tmp 17) (iv k) rfl) ⟨I0, T0⟩ T0 T0 ?_
 refine tri_nil ?_
 refine tri_wk (wk_keep [] [(0, slA 18 cRu ra), (1, .clo 114 [.el (cRu r) 0]), (4, iv k), (5, iv k), (7, iv ra.length), (8, iv k), (9, bv true), (16, bv true)] (n := 19)) ?_
 refine t_then ?_
 refine tri_ret ?_
 refine t_block_ret ?_
 refine t_then_ret ?_
 refine t_then_ret ?_
 refine t_block_ret ?_
 refine t_then_ret ?_
 refine tri_end1 Tryd.results152 (.tmp rfl) ?_
 exact congrArg (fun x : Int => AV.v (.int .i64 x)) ((ixR_at (by omega) hs0 hs2).symm)
 have hs2f : (samP ra[k] r) = false := by simpa using hs2
 refine tri_region ?_
 refine t_op rfl (sp_move (.tmp 1) (.clo 114 [.el (cRu r) 0]) rfl) ⟨I0, T0⟩ T0 T0 ?_
 refine t_op rfl (sp_move (.tmp 0) (slA 18 cRu ra) rfl) ⟨I0, T0⟩ T0 T0 ?_
 refine t_op rfl (sp_move (.tmp 5) (iv k) rfl) ⟨I0, T0⟩ T0 T0 ?_
 refine t_op rfl (sp_indexSl (off := k * 18) (.tmp 12) (.tmp 13) rfl Tryd.underlying25 (by kernel_rfl) (by omega) (by omega) rfl) ⟨I0, I0, T0⟩ T0 T0 ?_
 refine t_op rfl (sp_loadElS (z := 18) (.tmp 14) rfl Tryd.underlying81 rfl (by kernel_rfl) (flat_take lenRu ra k (by omega)) rfl) ⟨I0, T0⟩ T0 T0 ?_
 refine t_op rfl (sp_callClo (c := .tmp 11) (xs := #[.tmp 15]) (Cs := [.el (cRu r) 0]) [] (ctr_b (closeG (ha ra[k] (List.getElem_mem (by omega))) HR) hs2f) rfl (by kernel_rfl) rfl (Xs := [.agg (cRu ra[k])]) rfl rfl rfl rfl rfl) ⟨I0, I0, T0⟩ T0 T0 ?_
 refine tri_nil ?_
 refine tri_wk (wk_keep [] [(0, slA 18 cRu ra), (1, .clo 114 [.el (cRu r) 0]), (5, iv k), (7, iv ra.length), (8, iv k), (9, bv true), (16, bv false)] (n := 19)) ?_
 refine t_then ?_
 refine t_condF rfl ?_
 refine tri_skip ?_
 refine t_block ?_
 refine t_then ?_
 refine tri_region ?_
 refine t_op rfl (sp_add (c := ((k + 1 : Nat) : Int)) rfl (w64 (by omega) (by omega) (by omega))) ⟨I0, I0, T0⟩ T0 T0 ?_
 refine t_op rfl (sp_move (.tmp 18) (iv (k + 1 : Nat)) rfl) ⟨I0, T0⟩ T0 T0 ?_
 refine tri_nil ?_
 refine tri_wk (wk_keep [] [(0, slA 18 cRu ra), (1, .clo 114 [.el (cRu r) 0]), (5, iv k), (7, iv ra.length), (8, iv (k + 1 : Nat)), (9, bv true), (16, bv false)] (n := 19)) ?_
 refine t_then ?_
 refine tri_again ⟨k + 1, by omega, noK_succ (by omega) hs0 hs2f⟩ (show ra.length - (k + 1) < ra.length - k by omega) ?_
 exact wk_keep [] _ rfl (by kernel_rfl) (by kernel_rfl)
 refine tri_region ?_
 refine t_op rfl (sp_lss rfl (dF hs1)) ⟨I0, I0, T0⟩ T0 T0 ?_
 refine tri_nil ?_
 refine tri_wk (wk_keep [] [(0, slA 18 cRu ra), (1, .clo 114 [.el (cRu r) 0]), (7, iv ra.length), (8, iv k), (9, bv false)] (n := 19)) ?_
 refine t_then ?_
 refine tri_seq ?_
 refine t_condF rfl ?_
 refine tri_exit ?_
 refine t_then_exit ?_
 refine t_then_exit ?_
 refine t_hit ?_
 refine t_then ?_
 refine tri_seq ?_
 refine tri_region ?_
 refine t_op rfl (sp_assign (.const (.int .i64 (-1))) (iv (-1)) rfl) ⟨I0, T0⟩ T0 T0 ?_
 refine tri_nil ?_
 refine tri_wk (wk_keep [] [(4, iv (-1))] (n := 19)) ?_
 refine t_then ?_
 refine tri_ret ?_
 refine tri_end1 Tryd.results152 (.tmp rfl) ?_
 exact congrArg (fun x : Int => AV.v (.int .i64 x)) ((ixR_none (k := k) (by omega) hs0).symm)
set_option linter.unusedSimpArgs false in
set_option linter.unusedVariables false in
set_option maxRecDepth 100000 in
set_option maxHeartbeats 6400000 in
theorem containsFG (ra : List Ru) {r : Ru} (ha : ∀ x ∈ ra, RuOk x) (HR : RuOk r) (la : ra.length ≤ 9223372036854775807) : Ctr Tryd.prog J 115 [slA 18 cRu ra, .clo 114 [.el (cRu r) 0]] (bv (knB ra r)) := by
 refine ctr_of_tri Tryd.func115 rfl (by intro X hX; simp only [List.mem_cons, List.not_mem_nil, or_false] at hX; rcases hX with rfl | rfl; exact plain_sl plain_ru _; exact .clo (fun j hj => match j, hj with | 0, _ => .el (plain_all (plain_ru r)))) (n := 9) rfl (by simp) (fun w0 => ?_)
 refine tri_wk (wk_keep [] [(0, slA 18 cRu ra), (1, .clo 114 [.el (cRu r) 0])] (n := 9)) ?_
 refine tri_seq ?_
 refine tri_region ?_
 refine t_op rfl (sp_assign (.const (.bool false)) (bv false) rfl) ⟨I0, T0⟩ T0 T0 ?_
 refine tri_nil ?_
 refine tri_wk (wk_keep [] [(0, slA 18 cRu ra), (1, .clo 114 [.el (cRu r) 0]), (4, bv false)] (n := 9)) ?_
 refine t_then ?_
 refine tri_seq ?_
 refine tri_region ?_
 refine t_op rfl (sp_move (.tmp 0) (slA 18 cRu ra) rfl) ⟨I0, T0⟩ T0 T0 ?_
 refine t_op rfl (sp_move (.tmp 1) (.clo 114 [.el (cRu r) 0]) rfl) ⟨I0, T0⟩ T0 T0 ?_
 refine t_op rfl (sp_call (c := .func 152) (xs := #[.tmp 5, .tmp 6]) [] (indexFG ra ha HR la) rfl (by kernel_rfl) rfl (Xs := [slA 18 cRu ra, .clo 114 [.el (cRu r) 0]]) rfl rfl rfl) ⟨I0, I0, I0, T0⟩ T0 T0 ?_
 refine t_op rfl (sp_geq rfl rfl) ⟨I0, I0, T0⟩ T0 T0 ?_
 refine t_op rfl (sp_assign (.tmp 8) (bv (decide (0 ≤ ixR ra r))) rfl) ⟨I0, T0⟩ T0 T0 ?_
 refine tri_nil ?_
 refine tri_wk (wk_keep [] [(4, bv (decide (0 ≤ ixR ra r)))] (n := 9)) ?_
 refine t_then ?_
 refine tri_ret ?_
 refine tri_end1 Tryd.results115 (.tmp rfl) ?_
 exact congrArg (fun x : Bool => AV.v (.bool x)) (show decide (0 ≤ ixR ra r) = knB ra r from knB_ix ra r)
set_option linter.unusedSimpArgs false in
set_option linter.unusedVariables false in
set_option maxRecDepth 100000 in
set_option maxHeartbeats 6400000 in
theorem newRulesG (ra rb : List Ru) (ha : ∀ x ∈ ra, RuOk x) (hb : ∀ x ∈ rb, RuOk x) (la : ra.length ≤ 9223372036854775807) (lb : rb.length ≤ 8) : Ctr Tryd.prog J 61 [slA 18 cRu ra, slA 18 cRu rb] (intsA (newTo ra rb rb.length)) := by
 refine ctr_of_tri Tryd.func61 rfl (by intro X hX; simp only [List.mem_cons, List.not_mem_nil, or_false] at hX; rcases hX with rfl | rfl; exact plain_sl plain_ru _; exact plain_sl plain_ru _) (n := 27) rfl (by simp) (fun w0 => ?_)
 refine tri_wk (wk_keep [] [(0, slA 18 cRu ra), (1, slA 18 cRu rb)] (n := 27)) ?_
 refine tri_seq ?_
 refine tri_region ?_
 refine t_op rfl (sp_assign (.const (.slice none 0 0)) (.v (.slice none 0 0)) rfl) ⟨I0, T0⟩ T0 T0 ?_
 refine tri_nil ?_
 refine tri_wk (wk_keep [] [(0, slA 18 cRu ra), (1, slA 18 cRu rb), (4, .v (.slice none 0 0))] (n := 27)) ?_
 refine t_then ?_
 refine tri_seq ?_
 refine tri_region ?_
 refine t_op rfl (sp_assign (.const (.slice none 0 0)) (.v (.slice none 0 0)) rfl) ⟨I0, T0⟩ T0 T0 ?_
 refine tri_nil ?_
 refine tri_wk (wk_keep [] [(0, slA 18 cRu ra), (1, slA 18 cRu rb), (4, .v (.slice none 0 0)), (5, .v (.slice none 0 0))] (n := 27)) ?_
 refine t_then ?_
 refine tri_seq ?_
 refine tri_seq ?_
 refine tri_region ?_
 refine t_op rfl (sp_move (.tmp 1) (slA 18 cRu rb) rfl) ⟨I0, T0⟩ T0 T0 ?_
 refine t_op rfl (sp_lenSl (.tmp 9) rfl Tryd.underlying25) ⟨I0, T0⟩ T0 T0 ?_
 refine t_op rfl (sp_move (.const (.int .i64 0)) (iv 0) rfl) ⟨I0, T0⟩ T0 T0 ?_
 refine tri_nil ?_
 refine tri_wk (wk_keep [] [(0, slA 18 cRu ra), (4, .v (.slice none 0 0)), (5, .v (.slice none 0 0)), (9, slA 18 cRu rb), (10, iv rb.length), (11, iv 0)] (n := 27)) ?_
 refine t_then ?_
 refine tri_block ?_
 refine tri_wk (wk_adopt 5 1 true 3 1 rfl rfl rfl) ?_
 refine tri_loop (σ := {p : Nat × List Int // p.1 ≤ rb.length ∧ p.2 = newTo ra rb p.1 ∧ p.2.length ≤ p.1}) (fun s => (ofL [(1, .row true 3 1 s.1.2.length (s.1.2.map iv))], ofT 27 [(0, slA 18 cRu ra), (4, .v (.slice none 0 0)), (5, .own 1), (9, slA 18 cRu rb), (10, iv rb.length), (11, iv s.1.1)])) (fun s => rb.length - s.1.1) ⟨(0, []), Nat.zero_le _, rfl, Nat.zero_le _⟩ (wk_keep _ _ rfl (by kernel_rfl) (by kernel_rfl)) (fun s => ?_)
 obtain ⟨⟨k, L⟩, hk0, hL, hLb⟩ := s
 show ETri J w0 (ofL [(1, .row true 3 1 L.length (L.map iv))]) (ofT 27 [(0, slA 18 cRu ra), (4, .v (.slice none 0 0)), (5, .own 1), (9, slA 18 cRu rb), (10, iv rb.length), (11, iv k)]) _
 dsimp only at hk0 hL hLb
 refine tri_seq ?_
 by_cases hs1 : ((k : Nat) : Int) < ((rb.length : Nat) : Int)
 refine tri_region ?_
 refine t_op rfl (sp_lss rfl (dT hs1)) ⟨I0, I0, T0⟩ T0 T0 ?_
 refine tri_nil ?_
 refine tri_wk (wk_keep [(1, .row true 3 1 L.length (L.map iv))] [(0, slA 18 cRu ra), (4, .v (.slice none 0 0)), (5, .own 1), (9, slA 18 cRu rb), (10, iv rb.length), (11, iv k), (12, bv true)] (n := 27)) ?_
 refine t_then ?_
 refine tri_seq ?_
 refine t_condT rfl ?_
 refine tri_skip ?_
 refine t_then ?_
 refine tri_seq ?_
 refine tri_block ?_
 refine tri_seq ?_
 refine tri_region ?_
 refine t_op rfl (sp_move (.tmp 11) (iv k) rfl) ⟨I0, T0⟩ T0 T0 ?_
 refine t_op rfl (sp_indexSl (off := k * 18) (.tmp 9) (.tmp 11) rfl Tryd.underlying25 (by kernel_rfl) (by omega) (by omega) rfl) ⟨I0, I0, T0⟩ T0 T0 ?_
 refine t_op rfl (sp_loadElS (z := 18) (.tmp 14) rfl Tryd.underlying81 rfl (by kernel_rfl) (flat_take lenRu rb k (by omega)) rfl) ⟨I0, T0⟩ T0 T0 ?_
 refine t_op rfl (sp_alloc (z := .agg #[.string (⟨#[]⟩), .int .i64 0, .int .i64 0, .int .i64 0, .int .i64 0, .int .i64 0, .slice none 0 0, .slice none 0 0, .slice none 0 0, .slice none 0 0, .int .i64 0, .int .i64 0, .slice none 0 0, .int .i64 0, .slice none 0 0, .slice none 0 0, .slice none 0 0, .int .i64 0]) (k := 2) rfl (by kernel_rfl)) T0 T0 rfl ?_
 refine t_op rfl (sp_assign (.tmp 13) (iv k) rfl) ⟨I0, T0⟩ T0 T0 ?_
 refine t_op rfl (sp_storeBox (T0 := 81) (X := .agg (cRu rb[k])) (cs := [sv (⟨#[]⟩), iv 0, iv 0, iv 0, iv 0, iv 0, .v (.slice none 0 0), .v (.slice none 0 0), .v (.slice none 0 0), .v (.slice none 0 0), iv 0, iv 0, .v (.slice none 0 0), iv 0, .v (.slice none 0 0), .v (.slice none 0 0), .v (.slice none 0 0), iv 0]) (ds := cRu rb[k]) (z := 18) (.tmp 7) (.tmp 15) rfl (by kernel_rfl) (by kernel_rfl) (by kernel_rfl) (of_decide_eq_true (by kernel_rfl)) (by kernel_rfl)) ⟨I0, I0, T0⟩ ⟨rfl, T0⟩ rfl ?_
 refine tri_nil ?_
 refine tri_wk (wk_keep [(1, .row true 3 1 L.length (L.map iv)), (2, .box 81 (cRu rb[k]))] [(0, slA 18 cRu ra), (4, .v (.slice none 0 0)), (5, .own 1), (6, iv k), (7, .box 2 0), (9, slA 18 cRu rb), (10, iv rb.length), (11, iv k), (12, bv true)] (n := 27)) ?_
 refine t_then ?_
 refine tri_seq ?_
 refine tri_region ?_
 refine t_op rfl (sp_makeFunc (xs := #[.tmp 7]) (Xs := [.box 2 0]) rfl rfl) ⟨I0, T0⟩ T0 T0 ?_
 refine t_op rfl (sp_assign (.tmp 16) (.clo 114 [.box 2 0]) rfl) ⟨I0, T0⟩ T0 T0 ?_
 refine tri_nil ?_
 refine tri_wk (wk_keep [(1, .row true 3 1 L.length (L.map iv)), (2, .box 81 (cRu rb[k]))] [(0, slA 18 cRu ra), (4, .v (.slice none 0 0)), (5, .own 1), (6, iv k), (7, .box 2 0), (8, .clo 114 [.box 2 0]), (9, slA 18 cRu rb), (10, iv rb.length), (11, iv k), (12, bv true)] (n := 27)) ?_
 refine t_then ?_
 refine tri_seq ?_
 by_cases hs2 : (knB ra rb[k]) = true
 refine tri_region ?_
 refine t_op rfl (sp_move (.tmp 0) (slA 18 cRu ra) rfl) ⟨I0, T0⟩ T0 T0 ?_
 refine t_op rfl (sp_move (.tmp 8) (.clo 114 [.box 2 0]) rfl) ⟨I0, T0⟩ T0 T0 ?_
 refine t_op rfl (sp_call (c := .func 115) (xs := #[.tmp 17, .tmp 18]) [(2, .box 81 (cRu rb[k]))] (ctr_b (containsFG ra ha (hb rb[k] (List.getElem_mem (by omega))) la) hs2) rfl (by kernel_rfl) rfl (Xs := [slA 18 cRu ra, .clo 114 [.box 2 0]]) rfl rfl rfl) ⟨I0, I0, I0, T0⟩ ⟨rfl, T0⟩ T0 ?_
 refine t_op rfl (sp_not rfl rfl) ⟨I0, T0⟩ T0 T0 ?_
 refine tri_nil ?_
 refine tri_wk (wk_keep [(1, .row true 3 1 L.length (L.map iv)), (2, .box 81 (cRu rb[k]))] [(0, slA 18 cRu ra), (4, .v (.slice none 0 0)), (5, .own 1), (6, iv k), (7, .box 2 0), (8, .clo 114 [.box 2 0]), (9, slA 18 cRu rb), (10, iv rb.length), (11, iv k), (12, bv true), (20, bv false)] (n := 27)) ?_
 refine t_then ?_
 refine t_condF rfl ?_
 refine tri_skip ?_
 refine t_block ?_
 refine t_then ?_
 refine tri_region ?_
 refine t_op rfl (sp_add (c := ((k + 1 : Nat) : Int)) rfl (w64 (by omega) (by omega) (by omega))) ⟨I0, I0, T0⟩ T0 T0 ?_
 refine t_op rfl (sp_move (.tmp 25) (iv (k + 1 : Nat)) rfl) ⟨I0, T0⟩ T0 T0 ?_
 refine tri_nil ?_
 refine tri_wk (wk_keep [(1, .row true 3 1 L.length (L.map iv)), (2, .box 81 (cRu rb[k]))] [(0, slA 18 cRu ra), (4, .v (.slice none 0 0)), (5, .own 1), (6, iv k), (7, .box 2 0), (8, .clo 114 [.box 2 0]), (9, slA 18 cRu rb), (10, iv rb.length), (11, iv (k + 1 : Nat)), (12, bv true), (20, bv false)] (n := 27)) ?_
 refine t_then ?_
 refine tri_again ⟨(k + 1, L), by dsimp only; omega, by rw [newTo_yes (by omega) hs2]; exact hL, by dsimp only; omega⟩ (show rb.length - (k + 1) < rb.length - k by omega) ?_
 exact wk_keep _ _ rfl (by kernel_rfl) (by kernel_rfl)
 have hs2f : (knB ra rb[k]) = false := by simpa using hs2
 refine tri_region ?_
 refine t_op rfl (sp_move (.tmp 0) (slA 18 cRu ra) rfl) ⟨I0, T0⟩ T0 T0 ?_
 refine t_op rfl (sp_move (.tmp 8) (.clo 114 [.box 2 0]) rfl) ⟨I0, T0⟩ T0 T0 ?_
 refine t_op rfl (sp_call (c := .func 115) (xs := #[.tmp 17, .tmp 18]) [(2, .box 81 (cRu rb[k]))] (ctr_b (containsFG ra ha (hb rb[k] (List.getElem_mem (by omega))) la) hs2f) rfl (by kernel_rfl) rfl (Xs := [slA 18 cRu ra, .clo 114 [.box 2 0]]) rfl rfl rfl) ⟨I0, I0, I0, T0⟩ ⟨rfl, T0⟩ T0 ?_
 refine t_op rfl (sp_not rfl rfl) ⟨I0, T0⟩ T0 T0 ?_
 refine tri_nil ?_
 refine tri_wk (wk_keep [(1, .row true 3 1 L.length (L.map iv)), (2, .box 81 (cRu rb[k]))] [(0, slA 18 cRu ra), (4, .v (.slice none 0 0)), (5, .own 1), (6, iv k), (7, .box 2 0), (8, .clo 114 [.box 2 0]), (9, slA 18 cRu rb), (10, iv rb.length), (11, iv k), (12, bv true), (20, bv true)] (n := 27)) ?_
 refine t_then ?_
 refine t_condT rfl ?_
 refine tri_region ?_
 refine t_op rfl (sp_move (.tmp 5) (.own 1) rfl) ⟨I0, T0⟩ T0 T0 ?_
 refine t_op rfl (sp_move (.tmp 6) (iv k) rfl) ⟨I0, T0⟩ T0 T0 ?_
 refine t_op rfl (sp_build (z := 1) (k := 3) (fr := true) (cs := [iv k]) [.tmp 22] [iv k] rfl Tryd.underlying24 (by kernel_rfl) (by decide) (by decide) rfl rfl rfl (by kernel_rfl) (by decide) (fun _ => by simp [AV.cellsOf, AV.isNew, cLn, cTh]) (by kernel_rfl)) ⟨I0, T0⟩ T0 rfl ?_
 refine t_op rfl (sp_appendOwn (n := L.length) (cs := (L.map iv)) (fr := true) (m := 1) (ds := [iv k]) (⟨Tryd.underlying24, by kernel_rfl, by decide⟩ : Elt Tryd.prog 24 3 1 8) (.tmp 21) (.tmp 23) rfl (fun _ => newI) (by unfold maxLen; omega) (by omega) cellI (es := ((L ++ [((k : Nat) : Int)]).map iv)) snocI) ⟨I0, I0, T0⟩ ⟨rfl, rfl, T0⟩ rfl ?_
 refine t_op rfl (sp_assign (.tmp 24) (.own 1) rfl) ⟨I0, T0⟩ T0 T0 ?_
 refine tri_nil ?_
 refine tri_wk (wk_keep [(1, .row true 3 1 (L.length + 1) ((L ++ [((k : Nat) : Int)]).map iv)), (2, .box 81 (cRu rb[k]))] [(0, slA 18 cRu ra), (4, .v (.slice none 0 0)), (5, .own 1), (6, iv k), (7, .box 2 0), (9, slA 18 cRu rb), (10, iv rb.length), (11, iv k), (12, bv true), (20, bv true)] (n := 27)) ?_
 refine t_block ?_
 refine t_then ?_
 refine tri_region ?_
 refine t_op rfl (sp_add (c := ((k + 1 : Nat) : Int)) rfl (w64 (by omega) (by omega) (by omega))) ⟨I0, I0, T0⟩ T0 T0 ?_
 refine t_op rfl (sp_move (.tmp 25) (iv (k + 1 : Nat)) rfl) ⟨I0, T0⟩ T0 T0 ?_
 refine tri_nil ?_
 refine tri_wk (wk_keep [(1, .row true 3 1 (L.length + 1) ((L ++ [((k : Nat) : Int)]).map iv)), (2, .box 81 (cRu rb[k]))] [(0, slA 18 cRu ra), (4, .v (.slice none 0 0)), (5, .own 1), (6, iv k), (7, .box 2 0), (9, slA 18 cRu rb), (10, iv rb.length), (11, iv (k + 1 : Nat)), (12, bv true), (20, bv true)] (n := 27)) ?_
 refine t_then ?_
 refine tri_again ⟨(k + 1, L ++ [((k : Nat) : Int)]), by dsimp only; omega, by rw [newTo_no (by omega) hs2f, ← hL], by rw [snocIL]; dsimp only; omega⟩ (show rb.length - (k + 1) < rb.length - k by omega) ?_
 show Wk _ _ (ofL [(1, .row true 3 1 ((L ++ [((k : Nat) : Int)]).length) ((L ++ [((k : Nat) : Int)]).map iv))]) (ofT 27 [(0, slA 18 cRu ra), (4, .v (.slice none 0 0)), (5, .own 1), (9, slA 18 cRu rb), (10, iv rb.length), (11, iv ((k + 1) : Nat))])
 rw [snocIL]
 exact wk_keep _ _ rfl (by kernel_rfl) (by kernel_rfl)
 refine tri_region ?_
 refine t_op rfl (sp_lss rfl (dF hs1)) ⟨I0, I0, T0⟩ T0 T0 ?_
 refine tri_nil ?_
 refine tri_wk (wk_keep [(1, .row true 3 1 L.length (L.map iv))] [(0, slA 18 cRu ra), (4, .v (.slice none 0 0)), (5, .own 1), (9, slA 18 cRu rb), (10, iv rb.length), (11, iv k), (12, bv false)] (n := 27)) ?_
 refine t_then ?_
 refine tri_seq ?_
 refine t_condF rfl ?_
 refine tri_exit ?_
 refine t_then_exit ?_
 refine t_then_exit ?_
 refine t_hit ?_
 refine t_then ?_
 refine tri_seq ?_
 refine tri_region ?_
 refine t_op rfl (sp_move (.tmp 5) (.own 1) rfl) ⟨I0, T0⟩ T0 T0 ?_
 refine t_op rfl (sp_assign (.tmp 26) (.own 1) rfl) ⟨I0, T0⟩ T0 T0 ?_
 refine tri_nil ?_
 refine tri_wk (wk_keep [(1, .row true 3 1 L.length (L.map iv))] [(4, .own 1)] (n := 27)) ?_
 refine t_then ?_
 refine tri_ret ?_
 refine tri_end1 Tryd.results61 (.tmp rfl) ?_
 show AV.sl 1 L.length (L.map iv) = intsA _
 rw [hL, show k = rb.length by omega]; rfl
set_option linter.unusedSimpArgs false in
set_option linter.unusedVariables false in
set_option maxRecDepth 100000 in
set_option maxHeartbeats 6400000 in
theorem eqPartsG (xs ys : List Ru) (hx : ∀ r ∈ xs, RuOk r) (hy : ∀ r ∈ ys, RuOk r) (lx : xs.length ≤ 9223372036854775807) (ly : ys.length ≤ 9223372036854775807) : Ctr Tryd.prog J 59 [slA 18 cRu xs, slA 18 cRu ys, .v (.func (.func 60) #[] #[])] (bv (samR xs ys)) := by
 refine ctr_of_tri Tryd.func59 rfl (by intro X hX; simp only [List.mem_cons, List.not_mem_nil, or_false] at hX; rcases hX with rfl | rfl | rfl; exact plain_sl plain_ru _; exact plain_sl plain_ru _; exact .v _) (n := 32) rfl (by simp) (fun w0 => ?_)
 refine tri_wk (wk_keep [] [(0, slA 18 cRu xs), (1, slA 18 cRu ys), (2, .v (.func (.func 60) #[] #[]))] (n := 32)) ?_
 refine tri_seq ?_
 refine tri_region ?_
 refine t_op rfl (sp_assign (.const (.bool false)) (bv false) rfl) ⟨I0, T0⟩ T0 T0 ?_
 refine tri_nil ?_
 refine tri_wk (wk_keep [] [(0, slA 18 cRu xs), (1, slA 18 cRu ys), (2, .v (.func (.func 60) #[] #[])), (6, bv false)] (n := 32)) ?_
 refine t_then ?_
 refine tri_seq ?_
 refine tri_seq ?_
 by_cases hs1 : ((xs.length : Nat) : Int) = ((ys.length : Nat) : Int)
 refine tri_region ?_
 refine t_op rfl (sp_move (.tmp 0) (slA 18 cRu xs) rfl) ⟨I0, T0⟩ T0 T0 ?_
 refine t_op rfl (sp_lenSl (.tmp 10) rfl Tryd.underlying25) ⟨I0, T0⟩ T0 T0 ?_
 refine t_op rfl (sp_move (.tmp 1) (slA 18 cRu ys) rfl) ⟨I0, T0⟩ T0 T0 ?_
 refine t_op rfl (sp_lenSl (.tmp 12) rfl Tryd.underlying25) ⟨I0, T0⟩ T0 T0 ?_
 refine t_op rfl (sp_neq rfl (dT' hs1)) ⟨I0, I0, T0⟩ T0 T0 ?_
 refine tri_nil ?_
 refine tri_wk (wk_keep [] [(0, slA 18 cRu xs), (1, slA 18 cRu ys), (2, .v (.func (.func 60) #[] #[])), (6, bv false), (14, bv false)] (n := 32)) ?_
 refine t_then ?_
 refine t_condF rfl ?_
 refine tri_skip ?_
 refine t_then ?_
 refine tri_seq ?_
 refine tri_seq ?_
 refine tri_region ?_
 refine t_op rfl (sp_move (.tmp 0) (slA 18 cRu xs) rfl) ⟨I0, T0⟩ T0 T0 ?_
 refine t_op rfl (sp_lenSl (.tmp 15) rfl Tryd.underlying25) ⟨I0, T0⟩ T0 T0 ?_
 refine t_op rfl (sp_move (.const (.int .i64 0)) (iv 0) rfl) ⟨I0, T0⟩ T0 T0 ?_
 refine tri_nil ?_
 refine tri_wk (wk_keep [] [(1, slA 18 cRu ys), (2, .v (.func (.func 60) #[] #[])), (6, bv false), (15, slA 18 cRu xs), (16, iv xs.length), (17, iv 0)] (n := 32)) ?_
 refine t_then ?_
 refine tri_block ?_
 refine tri_loop (σ := {k : Nat // k ≤ xs.length ∧ allTo xs ys k = true}) (fun s => (ofL [], ofT 32 [(1, slA 18 cRu ys), (2, .v (.func (.func 60) #[] #[])), (15, slA 18 cRu xs), (16, iv xs.length), (17, iv s.1)])) (fun s => xs.length - s.1) ⟨0, Nat.zero_le _, allTo_zero⟩ (wk_keep [] _ rfl (by kernel_rfl) (by kernel_rfl)) (fun s => ?_)
 obtain ⟨k, hk0, hs0⟩ := s
 show ETri J w0 (ofL []) (ofT 32 [(1, slA 18 cRu ys), (2, .v (.func (.func 60) #[] #[])), (15, slA 18 cRu xs), (16, iv xs.length), (17, iv k)]) _
 refine tri_seq ?_
 by_cases hs2 : ((k : Nat) : Int) < ((xs.length : Nat) : Int)
 refine tri_region ?_
 refine t_op rfl (sp_lss rfl (dT hs2)) ⟨I0, I0, T0⟩ T0 T0 ?_
 refine tri_nil ?_
 refine tri_wk (wk_keep [] [(1, slA 18 cRu ys), (2, .v (.func (.func 60) #[] #[])), (15, slA 18 cRu xs), (16, iv xs.length), (17, iv k), (18, bv true)] (n := 32)) ?_
 refine t_then ?_
 refine tri_seq ?_
 refine t_condT rfl ?_
 refine tri_skip ?_
 refine t_then ?_
 refine tri_seq ?_
 refine tri_block ?_
 refine tri_seq ?_
 refine tri_region ?_
 refine t_op rfl (sp_move (.tmp 17) (iv k) rfl) ⟨I0, T0⟩ T0 T0 ?_
 refine t_op rfl (sp_indexSl (off := k * 18) (.tmp 15) (.tmp 17) rfl Tryd.underlying25 (by kernel_rfl) (by omega) (by omega) rfl) ⟨I0, I0, T0⟩ T0 T0 ?_
 refine t_op rfl (sp_loadElS (z := 18) (.tmp 20) rfl Tryd.underlying81 rfl (by kernel_rfl) (flat_take lenRu xs k (by omega)) rfl) ⟨I0, T0⟩ T0 T0 ?_
 refine t_op rfl (sp_alloc (z := .agg #[.string (⟨#[]⟩), .int .i64 0, .int .i64 0, .int .i64 0, .int .i64 0, .int .i64 0, .slice none 0 0, .slice none 0 0, .slice none 0 0, .slice none 0 0, .int .i64 0, .int .i64 0, .slice none 0 0, .int .i64 0, .slice none 0 0, .slice none 0 0, .slice none 0 0, .int .i64 0]) (k := 1) rfl (by kernel_rfl)) T0 T0 rfl ?_
 refine t_op rfl (sp_assign (.tmp 19) (iv k) rfl) ⟨I0, T0⟩ T0 T0 ?_
 refine t_op rfl (sp_storeBox (T0 := 81) (X := .agg (cRu xs[k])) (cs := [sv (⟨#[]⟩), iv 0, iv 0, iv 0, iv 0, iv 0, .v (.slice none 0 0), .v (.slice none 0 0), .v (.slice none 0 0), .v (.slice none 0 0), iv 0, iv 0, .v (.slice none 0 0), iv 0, .v (.slice none 0 0), .v (.slice none 0 0), .v (.slice none 0 0), iv 0]) (ds := cRu xs[k]) (z := 18) (.tmp 8) (.tmp 21) rfl (by kernel_rfl) (by kernel_rfl) (by kernel_rfl) (of_decide_eq_true (by kernel_rfl)) (by kernel_rfl)) ⟨I0, I0, T0⟩ ⟨rfl, T0⟩ rfl ?_
 refine tri_nil ?_
 refine tri_wk (wk_keep [(1, .box 81 (cRu xs[k]))] [(1, slA 18 cRu ys), (2, .v (.func (.func 60) #[] #[])), (7, iv k), (8, .box 1 0), (15, slA 18 cRu xs), (16, iv xs.length), (17, iv k), (18, bv true)] (n := 32)) ?_
 refine t_then ?_
 refine tri_seq ?_
 refine tri_region ?_
 refine t_op rfl (sp_move (.tmp 1) (slA 18 cRu ys) rfl) ⟨I0, T0⟩ T0 T0 ?_
 refine t_op rfl (sp_move (.tmp 7) (iv k) rfl) ⟨I0, T0⟩ T0 T0 ?_
 refine t_op rfl (sp_indexSl (off := k * 18) (.tmp 22) (.tmp 23) rfl Tryd.underlying25 (by kernel_rfl) (by omega) (by omega) rfl) ⟨I0, I0, T0⟩ T0 T0 ?_
 refine t_op rfl (sp_loadElS (z := 18) (.tmp 24) rfl Tryd.underlying81 rfl (by kernel_rfl) (flat_take lenRu ys k (by omega)) rfl) ⟨I0, T0⟩ T0 T0 ?_
 refine t_op rfl (sp_alloc (z := .agg #[.string (⟨#[]⟩), .int .i64 0, .int .i64 0, .int .i64 0, .int .i64 0, .int .i64 0, .slice none 0 0, .slice none 0 0, .slice none 0 0, .slice none 0 0, .int .i64 0, .int .i64 0, .slice none 0 0, .int .i64 0, .slice none 0 0, .slice none 0 0, .slice none 0 0, .int .i64 0]) (k := 2) rfl (by kernel_rfl)) T0 T0 rfl ?_
 refine t_op rfl (sp_storeBox (T0 := 81) (X := .agg (cRu ys[k])) (cs := [sv (⟨#[]⟩), iv 0, iv 0, iv 0, iv 0, iv 0, .v (.slice none 0 0), .v (.slice none 0 0), .v (.slice none 0 0), .v (.slice none 0 0), iv 0, iv 0, .v (.slice none 0 0), iv 0, .v (.slice none 0 0), .v (.slice none 0 0), .v (.slice none 0 0), iv 0]) (ds := cRu ys[k]) (z := 18) (.tmp 9) (.tmp 25) rfl (by kernel_rfl) (by kernel_rfl) (by kernel_rfl) (of_decide_eq_true (by kernel_rfl)) (by kernel_rfl)) ⟨I0, I0, T0⟩ ⟨rfl, T0⟩ rfl ?_
 refine tri_nil ?_
 refine tri_wk (wk_keep [(1, .box 81 (cRu xs[k])), (2, .box 81 (cRu ys[k]))] [(1, slA 18 cRu ys), (2, .v (.func (.func 60) #[] #[])), (7, iv k), (8, .box 1 0), (9, .box 2 0), (15, slA 18 cRu xs), (16, iv xs.length), (17, iv k), (18, bv true)] (n := 32)) ?_
 refine t_then ?_
 refine tri_seq ?_
 by_cases hs3 : (samP xs[k] ys[k]) = true
 refine tri_region ?_
 refine t_op rfl (sp_move (.tmp 2) (.v (.func (.func 60) #[] #[])) rfl) ⟨I0, T0⟩ T0 T0 ?_
 refine t_op rfl (sp_loadBoxS (Y := .box 81 (cRu xs[k])) (ds := cRu xs[k]) (z := 18) (.tmp 8) rfl Tryd.underlying81 rfl (by kernel_rfl) (by decide) (by kernel_rfl) (by kernel_rfl)) ⟨I0, T0⟩ ⟨rfl, T0⟩ T0 ?_
 refine t_op rfl (sp_loadBoxS (Y := .box 81 (cRu ys[k])) (ds := cRu ys[k]) (z := 18) (.tmp 9) rfl Tryd.underlying81 rfl (by kernel_rfl) (by decide) (by kernel_rfl) (by kernel_rfl)) ⟨I0, T0⟩ ⟨rfl, T0⟩ T0 ?_
 refine t_op rfl (sp_call (c := .tmp 26) (xs := #[.tmp 27, .tmp 28]) [] (ctr_b (samePartsG (hx xs[k] (List.getElem_mem (by omega))) (hy ys[k] (List.getElem_mem (by omega)))) hs3) rfl (by kernel_rfl) rfl (Xs := [.agg (cRu xs[k]), .agg (cRu ys[k])]) rfl rfl rfl) ⟨I0, I0, I0, T0⟩ T0 T0 ?_
 refine t_op rfl (sp_not rfl rfl) ⟨I0, T0⟩ T0 T0 ?_
 refine tri_nil ?_
 refine tri_wk (wk_keep [(1, .box 81 (cRu xs[k])), (2, .box 81 (cRu ys[k]))] [(1, slA 18 cRu ys), (2, .v (.func (.func 60) #[] #[])), (7, iv k), (8, .box 1 0), (9, .box 2 0), (15, slA 18 cRu xs), (16, iv xs.length), (17, iv k), (18, bv true), (30, bv false)] (n := 32)) ?_
 refine t_then ?_
 refine t_condF rfl ?_
 refine tri_skip ?_
 refine t_block ?_
 refine t_then ?_
 refine tri_region ?_
 refine t_op rfl (sp_add (c := ((k + 1 : Nat) : Int)) rfl (w64 (by omega) (by omega) (by omega))) ⟨I0, I0, T0⟩ T0 T0 ?_
 refine t_op rfl (sp_move (.tmp 31) (iv (k + 1 : Nat)) rfl) ⟨I0, T0⟩ T0 T0 ?_
 refine tri_nil ?_
 refine tri_wk (wk_keep [(1, .box 81 (cRu xs[k])), (2, .box 81 (cRu ys[k]))] [(1, slA 18 cRu ys), (2, .v (.func (.func 60) #[] #[])), (7, iv k), (8, .box 1 0), (9, .box 2 0), (15, slA 18 cRu xs), (16, iv xs.length), (17, iv (k + 1 : Nat)), (18, bv true), (30, bv false)] (n := 32)) ?_
 refine t_then ?_
 refine tri_again ⟨k + 1, by omega, by rw [allTo_succ (by omega) (by omega), hs0, hs3]; rfl⟩ (show xs.length - (k + 1) < xs.length - k by omega) ?_
 exact wk_keep [] _ rfl (by kernel_rfl) (by kernel_rfl)
 have hs3f : (samP xs[k] ys[k]) = false := by simpa using hs3
 refine tri_region ?_
 refine t_op rfl (sp_move (.tmp 2) (.v (.func (.func 60) #[] #[])) rfl) ⟨I0, T0⟩ T0 T0 ?_
 refine t_op rfl (sp_loadBoxS (Y := .box 81 (cRu xs[k])) (ds := cRu xs[k]) (z := 18) (.tmp 8) rfl Tryd.underlying81 rfl (by kernel_rfl) (by decide) (by kernel_rfl) (by kernel_rfl)) ⟨I0, T0⟩ ⟨rfl, T0⟩ T0 ?_
 refine t_op rfl (sp_loadBoxS (Y := .box 81 (cRu ys[k])) (ds := cRu ys[k]) (z := 18) (.tmp 9) rfl Tryd.underlying81 rfl (by kernel_rfl) (by decide) (by kernel_rfl) (by kernel_rfl)) ⟨I0, T0⟩ ⟨rfl, T0⟩ T0 ?_
 refine t_op rfl (sp_call (c := .tmp 26) (xs := #[.tmp 27, .tmp 28]) [] (ctr_b (samePartsG (hx xs[k] (List.getElem_mem (by omega))) (hy ys[k] (List.getElem_mem (by omega)))) hs3f) rfl (by kernel_rfl) rfl (Xs := [.agg (cRu xs[k]), .agg (cRu ys[k])]) rfl rfl rfl) ⟨I0, I0, I0, T0⟩ T0 T0 ?_
 refine t_op rfl (sp_not rfl rfl) ⟨I0, T0⟩ T0 T0 ?_
 refine tri_nil ?_
 refine tri_wk (wk_keep [(1, .box 81 (cRu xs[k])), (2, .box 81 (cRu ys[k]))] [(1, slA 18 cRu ys), (2, .v (.func (.func 60) #[] #[])), (7, iv k), (8, .box 1 0), (9, .box 2 0), (15, slA 18 cRu xs), (16, iv xs.length), (17, iv k), (18, bv true), (30, bv true)] (n := 32)) ?_
 refine t_then ?_
 refine t_condT rfl ?_
 refine tri_seq ?_
 refine tri_region ?_
 refine t_op rfl (sp_assign (.const (.bool false)) (bv false) rfl) ⟨I0, T0⟩ T0 T0 ?_
 refine tri_nil ?_
 refine tri_wk (wk_keep [(1, .box 81 (cRu xs[k])), (2, .box 81 (cRu ys[k]))] [(1, slA 18 cRu ys), (2, .v (.func (.func 60) #[] #[])), (6, bv false), (7, iv k), (8, .box 1 0), (9, .box 2 0), (15, slA 18 cRu xs), (16, iv xs.length), (17, iv k), (18, bv true), (30, bv true)] (n := 32)) ?_
 refine t_then ?_
 refine tri_ret ?_
 refine t_block_ret ?_
 refine t_then_ret ?_
 refine t_then_ret ?_
 refine t_block_ret ?_
 refine t_then_ret ?_
 refine tri_end1 Tryd.results59 (.tmp rfl) ?_
 exact congrArg (fun x : Bool => AV.v (.bool x)) ((samR_at (k := k) (by omega) (by omega) hs3f).symm)
 refine tri_region ?_
 refine t_op rfl (sp_lss rfl (dF hs2)) ⟨I0, I0, T0⟩ T0 T0 ?_
 refine tri_nil ?_
 refine tri_wk (wk_keep [] [(1, slA 18 cRu ys), (2, .v (.func (.func 60) #[] #[])), (15, slA 18 cRu xs), (16, iv xs.length), (17, iv k), (18, bv false)] (n := 32)) ?_
 refine t_then ?_
 refine tri_seq ?_
 refine t_condF rfl ?_
 refine tri_exit ?_
 refine t_then_exit ?_
 refine t_then_exit ?_
 refine t_hit ?_
 refine t_then ?_
 refine tri_seq ?_
 refine tri_region ?_
 refine t_op rfl (sp_assign (.const (.bool true)) (bv true) rfl) ⟨I0, T0⟩ T0 T0 ?_
 refine tri_nil ?_
 refine tri_wk (wk_keep [] [(6, bv true)] (n := 32)) ?_
 refine t_then ?_
 refine tri_ret ?_
 refine tri_end1 Tryd.results59 (.tmp rfl) ?_
 exact congrArg (fun x : Bool => AV.v (.bool x)) ((samR_end hs1 (by omega) hk0 hs0).symm)
 refine tri_region ?_
 refine t_op rfl (sp_move (.tmp 0) (slA 18 cRu xs) rfl) ⟨I0, T0⟩ T0 T0 ?_
 refine t_op rfl (sp_lenSl (.tmp 10) rfl Tryd.underlying25) ⟨I0, T0⟩ T0 T0 ?_
 refine t_op rfl (sp_move (.tmp 1) (slA 18 cRu ys) rfl) ⟨I0, T0⟩ T0 T0 ?_
 refine t_op rfl (sp_lenSl (.tmp 12) rfl Tryd.underlying25) ⟨I0, T0⟩ T0 T0 ?_
 refine t_op rfl (sp_neq rfl (dF' hs1)) ⟨I0, I0, T0⟩ T0 T0 ?_
 refine tri_nil ?_
 refine tri_wk (wk_keep [] [(0, slA 18 cRu xs), (1, slA 18 cRu ys), (2, .v (.func (.func 60) #[] #[])), (6, bv false), (14, bv true)] (n := 32)) ?_
 refine t_then ?_
 refine t_condT rfl ?_
 refine tri_seq ?_
 refine tri_region ?_
 refine t_op rfl (sp_assign (.const (.bool false)) (bv false) rfl) ⟨I0, T0⟩ T0 T0 ?_
 refine tri_nil ?_
 refine tri_wk (wk_keep [] [(0, slA 18 cRu xs), (1, slA 18 cRu ys), (2, .v (.func (.func 60) #[] #[])), (6, bv false)] (n := 32)) ?_
 refine t_then ?_
 refine tri_ret ?_
 refine t_then_ret ?_
 refine tri_end1 Tryd.results59 (.tmp rfl) ?_
 exact congrArg (fun x : Bool => AV.v (.bool x)) ((samR_len hs1).symm)
set_option linter.unusedSimpArgs false in
set_option linter.unusedVariables false in
set_option maxRecDepth 100000 in
set_option maxHeartbeats 6400000 in
theorem differG {a b : Fm} (HA : FmOk a) (HB : FmOk b) : Ctr Tryd.prog J 58 [.agg (cFm a), .agg (cFm b)] (bv (difB a b)) := by
 refine ctr_of_tri Tryd.func58 rfl (by intro X hX; simp only [List.mem_cons, List.not_mem_nil, or_false] at hX; rcases hX with rfl | rfl; exact plain_agg (plain_fm a); exact plain_agg (plain_fm b)) (n := 68) rfl (by simp) (fun w0 => ?_)
 refine tri_wk (wk_keep [] [(0, .agg (cFm a)), (1, .agg (cFm b))] (n := 68)) ?_
 refine tri_seq ?_
 refine tri_region ?_
 refine t_op rfl (sp_box (X := .agg (cFm a)) (k := 1) (.tmp 0) rfl rfl) ⟨I0, T0⟩ T0 rfl ?_
 refine t_op rfl (sp_box (X := .agg (cFm b)) (k := 2) (.tmp 1) rfl rfl) ⟨I0, T0⟩ T0 rfl ?_
 refine t_op rfl (sp_assign (.const (.bool false)) (bv false) rfl) ⟨I0, T0⟩ T0 T0 ?_
 refine tri_nil ?_
 refine tri_wk (wk_keep [(1, .box 27 (cFm a)), (2, .box 27 (cFm b))] [(2, .box 1 0), (3, .box 2 0), (4, bv false)] (n := 68)) ?_
 refine t_then ?_
 refine tri_seq ?_
 by_cases hs1 : a.top = b.top
 by_cases hs2 : a.fault = b.fault
 by_cases hs3 : ((a.states.length : Nat) : Int) = ((b.states.length : Nat) : Int)
 by_cases hs4 : ((a.msgs.length : Nat) : Int) = ((b.msgs.length : Nat) : Int)
 by_cases hs5 : ((a.vals.length : Nat) : Int) = ((b.vals.length : Nat) : Int)
 by_cases hs6 : (decide (a.res = b.res)) = true
 by_cases hs7 : (decide (a.init = b.init)) = true
 refine tri_region ?_
 refine t_op rfl (sp_fieldBox (off' := 1) (.tmp 2) rfl Tryd.underlying27 rfl (z := 1) (by kernel_rfl) (by decide) rfl) ⟨I0, T0⟩ T0 T0 ?_
 refine t_op rfl (sp_loadBox1 (Y := .box 27 (cFm a)) (X := iv a.top) (.tmp 5) rfl Tryd.underlying3 rfl rfl) ⟨I0, T0⟩ ⟨rfl, T0⟩ T0 ?_
 refine t_op rfl (sp_fieldBox (off' := 1) (.tmp 3) rfl Tryd.underlying27 rfl (z := 1) (by kernel_rfl) (by decide) rfl) ⟨I0, T0⟩ T0 T0 ?_
 refine t_op rfl (sp_loadBox1 (Y := .box 27 (cFm b)) (X := iv b.top) (.tmp 7) rfl Tryd.underlying3 rfl rfl) ⟨I0, T0⟩ ⟨rfl, T0⟩ T0 ?_
 refine t_op rfl (sp_neq rfl (dT' hs1)) ⟨I0, I0, T0⟩ T0 T0 ?_
 refine t_op rfl (sp_move (.tmp 9) (bv false) rfl) ⟨I0, T0⟩ T0 T0 ?_
 refine t_opG rfl (sp_fieldBox (off' := 5) (.tmp 2) rfl Tryd.underlying27 rfl (z := 1) (by kernel_rfl) (by decide) rfl) ⟨I0, T0⟩ T0 T0 ?_
 refine t_opG rfl (sp_loadBox1 (Y := .box 27 (cFm a)) (X := iv a.fault) (.tmp 11) rfl Tryd.underlying3 rfl rfl) ⟨I0, T0⟩ ⟨rfl, T0⟩ T0 ?_
 refine t_opG rfl (sp_fieldBox (off' := 5) (.tmp 3) rfl Tryd.underlying27 rfl (z := 1) (by kernel_rfl) (by decide) rfl) ⟨I0, T0⟩ T0 T0 ?_
 refine t_opG rfl (sp_loadBox1 (Y := .box 27 (cFm b)) (X := iv b.fault) (.tmp 13) rfl Tryd.underlying3 rfl rfl) ⟨I0, T0⟩ ⟨rfl, T0⟩ T0 ?_
 refine t_opG rfl (sp_neq rfl (dT' hs2)) ⟨I0, I0, T0⟩ T0 T0 ?_
 refine t_op rfl (sp_pick (.tmp 10) (.const (.bool true)) (.tmp 15) false (bv true) (bv false) rfl) ⟨I0, I0, I0, T0⟩ T0 T0 ?_
 refine t_op rfl (sp_move (.tmp 16) (bv false) rfl) ⟨I0, T0⟩ T0 T0 ?_
 refine t_opG rfl (sp_fieldBox (off' := 2) (.tmp 2) rfl Tryd.underlying27 rfl (z := 1) (by kernel_rfl) (by decide) rfl) ⟨I0, T0⟩ T0 T0 ?_
 refine t_opG rfl (sp_loadBox1 (Y := .box 27 (cFm a)) (X := strsA a.states) (.tmp 18) rfl Tryd.underlying22 rfl rfl) ⟨I0, T0⟩ ⟨rfl, T0⟩ T0 ?_
 refine t_opG rfl (sp_lenSl (.tmp 19) rfl Tryd.underlying22) ⟨I0, T0⟩ T0 T0 ?_
 refine t_opG rfl (sp_fieldBox (off' := 2) (.tmp 3) rfl Tryd.underlying27 rfl (z := 1) (by kernel_rfl) (by decide) rfl) ⟨I0, T0⟩ T0 T0 ?_
 refine t_opG rfl (sp_loadBox1 (Y := .box 27 (cFm b)) (X := strsA b.states) (.tmp 21) rfl Tryd.underlying22 rfl rfl) ⟨I0, T0⟩ ⟨rfl, T0⟩ T0 ?_
 refine t_opG rfl (sp_lenSl (.tmp 22) rfl Tryd.underlying22) ⟨I0, T0⟩ T0 T0 ?_
 refine t_opG rfl (sp_neq rfl (dT' hs3)) ⟨I0, I0, T0⟩ T0 T0 ?_
 refine t_op rfl (sp_pick (.tmp 17) (.const (.bool true)) (.tmp 24) false (bv true) (bv false) rfl) ⟨I0, I0, I0, T0⟩ T0 T0 ?_
 refine t_op rfl (sp_move (.tmp 25) (bv false) rfl) ⟨I0, T0⟩ T0 T0 ?_
 refine t_opG rfl (sp_fieldBox (off' := 3) (.tmp 2) rfl Tryd.underlying27 rfl (z := 1) (by kernel_rfl) (by decide) rfl) ⟨I0, T0⟩ T0 T0 ?_
 refine t_opG rfl (sp_loadBox1 (Y := .box 27 (cFm a)) (X := strsA a.msgs) (.tmp 27) rfl Tryd.underlying22 rfl rfl) ⟨I0, T0⟩ ⟨rfl, T0⟩ T0 ?_
 refine t_opG rfl (sp_lenSl (.tmp 28) rfl Tryd.underlying22) ⟨I0, T0⟩ T0 T0 ?_
 refine t_opG rfl (sp_fieldBox (off' := 3) (.tmp 3) rfl Tryd.underlying27 rfl (z := 1) (by kernel_rfl) (by decide) rfl) ⟨I0, T0⟩ T0 T0 ?_
 refine t_opG rfl (sp_loadBox1 (Y := .box 27 (cFm b)) (X := strsA b.msgs) (.tmp 30) rfl Tryd.underlying22 rfl rfl) ⟨I0, T0⟩ ⟨rfl, T0⟩ T0 ?_
 refine t_opG rfl (sp_lenSl (.tmp 31) rfl Tryd.underlying22) ⟨I0, T0⟩ T0 T0 ?_
 refine t_opG rfl (sp_neq rfl (dT' hs4)) ⟨I0, I0, T0⟩ T0 T0 ?_
 refine t_op rfl (sp_pick (.tmp 26) (.const (.bool true)) (.tmp 33) false (bv true) (bv false) rfl) ⟨I0, I0, I0, T0⟩ T0 T0 ?_
 refine t_op rfl (sp_move (.tmp 34) (bv false) rfl) ⟨I0, T0⟩ T0 T0 ?_
 refine t_opG rfl (sp_fieldBox (off' := 4) (.tmp 2) rfl Tryd.underlying27 rfl (z := 1) (by kernel_rfl) (by decide) rfl) ⟨I0, T0⟩ T0 T0 ?_
 refine t_opG rfl (sp_loadBox1 (Y := .box 27 (cFm a)) (X := strsA a.vals) (.tmp 36) rfl Tryd.underlying22 rfl rfl) ⟨I0, T0⟩ ⟨rfl, T0⟩ T0 ?_
 refine t_opG rfl (sp_lenSl (.tmp 37) rfl Tryd.underlying22) ⟨I0, T0⟩ T0 T0 ?_
 refine t_opG rfl (sp_fieldBox (off' := 4) (.tmp 3) rfl Tryd.underlying27 rfl (z := 1) (by kernel_rfl) (by decide) rfl) ⟨I0, T0⟩ T0 T0 ?_
 refine t_opG rfl (sp_loadBox1 (Y := .box 27 (cFm b)) (X := strsA b.vals) (.tmp 39) rfl Tryd.underlying22 rfl rfl) ⟨I0, T0⟩ ⟨rfl, T0⟩ T0 ?_
 refine t_opG rfl (sp_lenSl (.tmp 40) rfl Tryd.underlying22) ⟨I0, T0⟩ T0 T0 ?_
 refine t_opG rfl (sp_neq rfl (dT' hs5)) ⟨I0, I0, T0⟩ T0 T0 ?_
 refine t_op rfl (sp_pick (.tmp 35) (.const (.bool true)) (.tmp 42) false (bv true) (bv false) rfl) ⟨I0, I0, I0, T0⟩ T0 T0 ?_
 refine t_op rfl (sp_move (.tmp 43) (bv false) rfl) ⟨I0, T0⟩ T0 T0 ?_
 refine t_opG rfl (sp_fieldBox (off' := 6) (.tmp 2) rfl Tryd.underlying27 rfl (z := 1) (by kernel_rfl) (by decide) rfl) ⟨I0, T0⟩ T0 T0 ?_
 refine t_opG rfl (sp_loadBox1 (Y := .box 27 (cFm a)) (X := slA 4 cLn a.res) (.tmp 45) rfl Tryd.underlying23 rfl rfl) ⟨I0, T0⟩ ⟨rfl, T0⟩ T0 ?_
 refine t_opG rfl (sp_fieldBox (off' := 6) (.tmp 3) rfl Tryd.underlying27 rfl (z := 1) (by kernel_rfl) (by decide) rfl) ⟨I0, T0⟩ T0 T0 ?_
 refine t_opG rfl (sp_loadBox1 (Y := .box 27 (cFm b)) (X := slA 4 cLn b.res) (.tmp 47) rfl Tryd.underlying23 rfl rfl) ⟨I0, T0⟩ ⟨rfl, T0⟩ T0 ?_
 refine t_opG rfl (sp_call (c := .func 111) (xs := #[.tmp 46, .tmp 48]) [] (ctr_b (eqLinearsG a.res b.res HA.lres HB.lres) hs6) rfl (by kernel_rfl) rfl (Xs := [slA 4 cLn a.res, slA 4 cLn b.res]) rfl rfl rfl) ⟨I0, I0, I0, T0⟩ T0 T0 ?_
 refine t_opG rfl (sp_not rfl rfl) ⟨I0, T0⟩ T0 T0 ?_
 refine t_op rfl (sp_pick (.tmp 44) (.const (.bool true)) (.tmp 50) false (bv true) (bv false) rfl) ⟨I0, I0, I0, T0⟩ T0 T0 ?_
 refine t_op rfl (sp_move (.tmp 51) (bv false) rfl) ⟨I0, T0⟩ T0 T0 ?_
 refine t_opG rfl (sp_fieldBox (off' := 7) (.tmp 2) rfl Tryd.underlying27 rfl (z := 1) (by kernel_rfl) (by decide) rfl) ⟨I0, T0⟩ T0 T0 ?_
 refine t_opG rfl (sp_loadBox1 (Y := .box 27 (cFm a)) (X := intsA a.init) (.tmp 53) rfl Tryd.underlying24 rfl rfl) ⟨I0, T0⟩ ⟨rfl, T0⟩ T0 ?_
 refine t_opG rfl (sp_fieldBox (off' := 7) (.tmp 3) rfl Tryd.underlying27 rfl (z := 1) (by kernel_rfl) (by decide) rfl) ⟨I0, T0⟩ T0 T0 ?_
 refine t_opG rfl (sp_loadBox1 (Y := .box 27 (cFm b)) (X := intsA b.init) (.tmp 55) rfl Tryd.underlying24 rfl rfl) ⟨I0, T0⟩ ⟨rfl, T0⟩ T0 ?_
 refine t_opG rfl (sp_call (c := .func 112) (xs := #[.tmp 54, .tmp 56]) [] (ctr_b (eqIntsG a.init b.init HA.init HB.init) hs7) rfl (by kernel_rfl) rfl (Xs := [intsA a.init, intsA b.init]) rfl rfl rfl) ⟨I0, I0, I0, T0⟩ T0 T0 ?_
 refine t_opG rfl (sp_not rfl rfl) ⟨I0, T0⟩ T0 T0 ?_
 refine t_op rfl (sp_pick (.tmp 52) (.const (.bool true)) (.tmp 58) false (bv true) (bv false) rfl) ⟨I0, I0, I0, T0⟩ T0 T0 ?_
 refine t_op rfl (sp_move (.tmp 59) (bv false) rfl) ⟨I0, T0⟩ T0 T0 ?_
 refine t_opG rfl (sp_fieldBox (off' := 8) (.tmp 2) rfl Tryd.underlying27 rfl (z := 1) (by kernel_rfl) (by decide) rfl) ⟨I0, T0⟩ T0 T0 ?_
 refine t_opG rfl (sp_loadBox1 (Y := .box 27 (cFm a)) (X := intsA a.leader) (.tmp 61) rfl Tryd.underlying24 rfl rfl) ⟨I0, T0⟩ ⟨rfl, T0⟩ T0 ?_
 refine t_opG rfl (sp_fieldBox (off' := 8) (.tmp 3) rfl Tryd.underlying27 rfl (z := 1) (by kernel_rfl) (by decide) rfl) ⟨I0, T0⟩ T0 T0 ?_
 refine t_opG rfl (sp_loadBox1 (Y := .box 27 (cFm b)) (X := intsA b.leader) (.tmp 63) rfl Tryd.underlying24 rfl rfl) ⟨I0, T0⟩ ⟨rfl, T0⟩ T0 ?_
 refine t_opG rfl (sp_call (c := .func 112) (xs := #[.tmp 62, .tmp 64]) [] (eqIntsG a.leader b.leader HA.leader HB.leader) rfl (by kernel_rfl) rfl (Xs := [intsA a.leader, intsA b.leader]) rfl rfl rfl) ⟨I0, I0, I0, T0⟩ T0 T0 ?_
 refine t_opG rfl (sp_not rfl rfl) ⟨I0, T0⟩ T0 T0 ?_
 refine t_op rfl (sp_pick (.tmp 60) (.const (.bool true)) (.tmp 66) false (bv true) (bv (!(decide (a.leader = b.leader)))) rfl) ⟨I0, I0, I0, T0⟩ T0 T0 ?_
 refine t_op rfl (sp_assign (.tmp 67) (bv (!(decide (a.leader = b.leader)))) rfl) ⟨I0, T0⟩ T0 T0 ?_
 refine tri_nil ?_
 refine tri_wk (wk_keep [] [(4, bv (!(decide (a.leader = b.leader))))] (n := 68)) ?_
 refine t_then ?_
 refine tri_ret ?_
 refine tri_end1 Tryd.results58 (.tmp rfl) ?_
 exact congrArg (fun x : Bool => AV.v (.bool x)) (show (!(decide (a.leader = b.leader))) = difB a b by simp only [difB, Bool.or_true, Bool.true_or, Bool.or_false, Bool.false_or, Bool.and_true, Bool.true_and, Bool.and_false, Bool.false_and, Bool.not_true, Bool.not_false, decide_eq_true hs1, decide_eq_true hs2, decide_eq_true hs3, decide_eq_true hs4, decide_eq_true hs5, hs6, hs7])
 have hs7f : (decide (a.init = b.init)) = false := by simpa using hs7
 refine tri_region ?_
 refine t_op rfl (sp_fieldBox (off' := 1) (.tmp 2) rfl Tryd.underlying27 rfl (z := 1) (by kernel_rfl) (by decide) rfl) ⟨I0, T0⟩ T0 T0 ?_
 refine t_op rfl (sp_loadBox1 (Y := .box 27 (cFm a)) (X := iv a.top) (.tmp 5) rfl Tryd.underlying3 rfl rfl) ⟨I0, T0⟩ ⟨rfl, T0⟩ T0 ?_
 refine t_op rfl (sp_fieldBox (off' := 1) (.tmp 3) rfl Tryd.underlying27 rfl (z := 1) (by kernel_rfl) (by decide) rfl) ⟨I0, T0⟩ T0 T0 ?_
 refine t_op rfl (sp_loadBox1 (Y := .box 27 (cFm b)) (X := iv b.top) (.tmp 7) rfl Tryd.underlying3 rfl rfl) ⟨I0, T0⟩ ⟨rfl, T0⟩ T0 ?_
 refine t_op rfl (sp_neq rfl (dT' hs1)) ⟨I0, I0, T0⟩ T0 T0 ?_
 refine t_op rfl (sp_move (.tmp 9) (bv false) rfl) ⟨I0, T0⟩ T0 T0 ?_
 refine t_opG rfl (sp_fieldBox (off' := 5) (.tmp 2) rfl Tryd.underlying27 rfl (z := 1) (by kernel_rfl) (by decide) rfl) ⟨I0, T0⟩ T0 T0 ?_
 refine t_opG rfl (sp_loadBox1 (Y := .box 27 (cFm a)) (X := iv a.fault) (.tmp 11) rfl Tryd.underlying3 rfl rfl) ⟨I0, T0⟩ ⟨rfl, T0⟩ T0 ?_
 refine t_opG rfl (sp_fieldBox (off' := 5) (.tmp 3) rfl Tryd.underlying27 rfl (z := 1) (by kernel_rfl) (by decide) rfl) ⟨I0, T0⟩ T0 T0 ?_
 refine t_opG rfl (sp_loadBox1 (Y := .box 27 (cFm b)) (X := iv b.fault) (.tmp 13) rfl Tryd.underlying3 rfl rfl) ⟨I0, T0⟩ ⟨rfl, T0⟩ T0 ?_
 refine t_opG rfl (sp_neq rfl (dT' hs2)) ⟨I0, I0, T0⟩ T0 T0 ?_
 refine t_op rfl (sp_pick (.tmp 10) (.const (.bool true)) (.tmp 15) false (bv true) (bv false) rfl) ⟨I0, I0, I0, T0⟩ T0 T0 ?_
 refine t_op rfl (sp_move (.tmp 16) (bv false) rfl) ⟨I0, T0⟩ T0 T0 ?_
 refine t_opG rfl (sp_fieldBox (off' := 2) (.tmp 2) rfl Tryd.underlying27 rfl (z := 1) (by kernel_rfl) (by decide) rfl) ⟨I0, T0⟩ T0 T0 ?_
 refine t_opG rfl (sp_loadBox1 (Y := .box 27 (cFm a)) (X := strsA a.states) (.tmp 18) rfl Tryd.underlying22 rfl rfl) ⟨I0, T0⟩ ⟨rfl, T0⟩ T0 ?_
 refine t_opG rfl (sp_lenSl (.tmp 19) rfl Tryd.underlying22) ⟨I0, T0⟩ T0 T0 ?_
 refine t_opG rfl (sp_fieldBox (off' := 2) (.tmp 3) rfl Tryd.underlying27 rfl (z := 1) (by kernel_rfl) (by decide) rfl) ⟨I0, T0⟩ T0 T0 ?_
 refine t_opG rfl (sp_loadBox1 (Y := .box 27 (cFm b)) (X := strsA b.states) (.tmp 21) rfl Tryd.underlying22 rfl rfl) ⟨I0, T0⟩ ⟨rfl, T0⟩ T0 ?_
 refine t_opG rfl (sp_lenSl (.tmp 22) rfl Tryd.underlying22) ⟨I0, T0⟩ T0 T0 ?_
 refine t_opG rfl (sp_neq rfl (dT' hs3)) ⟨I0, I0, T0⟩ T0 T0 ?_
 refine t_op rfl (sp_pick (.tmp 17) (.const (.bool true)) (.tmp 24) false (bv true) (bv false) rfl) ⟨I0, I0, I0, T0⟩ T0 T0 ?_
 refine t_op rfl (sp_move (.tmp 25) (bv false) rfl) ⟨I0, T0⟩ T0 T0 ?_
 refine t_opG rfl (sp_fieldBox (off' := 3) (.tmp 2) rfl Tryd.underlying27 rfl (z := 1) (by kernel_rfl) (by decide) rfl) ⟨I0, T0⟩ T0 T0 ?_
 refine t_opG rfl (sp_loadBox1 (Y := .box 27 (cFm a)) (X := strsA a.msgs) (.tmp 27) rfl Tryd.underlying22 rfl rfl) ⟨I0, T0⟩ ⟨rfl, T0⟩ T0 ?_
 refine t_opG rfl (sp_lenSl (.tmp 28) rfl Tryd.underlying22) ⟨I0, T0⟩ T0 T0 ?_
 refine t_opG rfl (sp_fieldBox (off' := 3) (.tmp 3) rfl Tryd.underlying27 rfl (z := 1) (by kernel_rfl) (by decide) rfl) ⟨I0, T0⟩ T0 T0 ?_
 refine t_opG rfl (sp_loadBox1 (Y := .box 27 (cFm b)) (X := strsA b.msgs) (.tmp 30) rfl Tryd.underlying22 rfl rfl) ⟨I0, T0⟩ ⟨rfl, T0⟩ T0 ?_
 refine t_opG rfl (sp_lenSl (.tmp 31) rfl Tryd.underlying22) ⟨I0, T0⟩ T0 T0 ?_
 refine t_opG rfl (sp_neq rfl (dT' hs4)) ⟨I0, I0, T0⟩ T0 T0 ?_
 refine t_op rfl (sp_pick (.tmp 26) (.const (.bool true)) (.tmp 33) false (bv true) (bv false) rfl) ⟨I0, I0, I0, T0⟩ T0 T0 ?_
 refine t_op rfl (sp_move (.tmp 34) (bv false) rfl) ⟨I0, T0⟩ T0 T0 ?_
 refine t_opG rfl (sp_fieldBox (off' := 4) (.tmp 2) rfl Tryd.underlying27 rfl (z := 1) (by kernel_rfl) (by decide) rfl) ⟨I0, T0⟩ T0 T0 ?_
 refine t_opG rfl (sp_loadBox1 (Y := .box 27 (cFm a)) (X := strsA a.vals) (.tmp 36) rfl Tryd.underlying22 rfl rfl) ⟨I0, T0⟩ ⟨rfl, T0⟩ T0 ?_
 refine t_opG rfl (sp_lenSl (.tmp 37) rfl Tryd.underlying22) ⟨I0, T0⟩ T0 T0 ?_
 refine t_opG rfl (sp_fieldBox (off' := 4) (.tmp 3) rfl Tryd.underlying27 rfl (z := 1) (by kernel_rfl) (by decide) rfl) ⟨I0, T0⟩ T0 T0 ?_
 refine t_opG rfl (sp_loadBox1 (Y := .box 27 (cFm b)) (X := strsA b.vals) (.tmp 39) rfl Tryd.underlying22 rfl rfl) ⟨I0, T0⟩ ⟨rfl, T0⟩ T0 ?_
 refine t_opG rfl (sp_lenSl (.tmp 40) rfl Tryd.underlying22) ⟨I0, T0⟩ T0 T0 ?_
 refine t_opG rfl (sp_neq rfl (dT' hs5)) ⟨I0, I0, T0⟩ T0 T0 ?_
 refine t_op rfl (sp_pick (.tmp 35) (.const (.bool true)) (.tmp 42) false (bv true) (bv false) rfl) ⟨I0, I0, I0, T0⟩ T0 T0 ?_
 refine t_op rfl (sp_move (.tmp 43) (bv false) rfl) ⟨I0, T0⟩ T0 T0 ?_
 refine t_opG rfl (sp_fieldBox (off' := 6) (.tmp 2) rfl Tryd.underlying27 rfl (z := 1) (by kernel_rfl) (by decide) rfl) ⟨I0, T0⟩ T0 T0 ?_
 refine t_opG rfl (sp_loadBox1 (Y := .box 27 (cFm a)) (X := slA 4 cLn a.res) (.tmp 45) rfl Tryd.underlying23 rfl rfl) ⟨I0, T0⟩ ⟨rfl, T0⟩ T0 ?_
 refine t_opG rfl (sp_fieldBox (off' := 6) (.tmp 3) rfl Tryd.underlying27 rfl (z := 1) (by kernel_rfl) (by decide) rfl) ⟨I0, T0⟩ T0 T0 ?_
 refine t_opG rfl (sp_loadBox1 (Y := .box 27 (cFm b)) (X := slA 4 cLn b.res) (.tmp 47) rfl Tryd.underlying23 rfl rfl) ⟨I0, T0⟩ ⟨rfl, T0⟩ T0 ?_
 refine t_opG rfl (sp_call (c := .func 111) (xs := #[.tmp 46, .tmp 48]) [] (ctr_b (eqLinearsG a.res b.res HA.lres HB.lres) hs6) rfl (by kernel_rfl) rfl (Xs := [slA 4 cLn a.res, slA 4 cLn b.res]) rfl rfl rfl) ⟨I0, I0, I0, T0⟩ T0 T0 ?_
 refine t_opG rfl (sp_not rfl rfl) ⟨I0, T0⟩ T0 T0 ?_
 refine t_op rfl (sp_pick (.tmp 44) (.const (.bool true)) (.tmp 50) false (bv true) (bv false) rfl) ⟨I0, I0, I0, T0⟩ T0 T0 ?_
 refine t_op rfl (sp_move (.tmp 51) (bv false) rfl) ⟨I0, T0⟩ T0 T0 ?_
 refine t_opG rfl (sp_fieldBox (off' := 7) (.tmp 2) rfl Tryd.underlying27 rfl (z := 1) (by kernel_rfl) (by decide) rfl) ⟨I0, T0⟩ T0 T0 ?_
 refine t_opG rfl (sp_loadBox1 (Y := .box 27 (cFm a)) (X := intsA a.init) (.tmp 53) rfl Tryd.underlying24 rfl rfl) ⟨I0, T0⟩ ⟨rfl, T0⟩ T0 ?_
 refine t_opG rfl (sp_fieldBox (off' := 7) (.tmp 3) rfl Tryd.underlying27 rfl (z := 1) (by kernel_rfl) (by decide) rfl) ⟨I0, T0⟩ T0 T0 ?_
 refine t_opG rfl (sp_loadBox1 (Y := .box 27 (cFm b)) (X := intsA b.init) (.tmp 55) rfl Tryd.underlying24 rfl rfl) ⟨I0, T0⟩ ⟨rfl, T0⟩ T0 ?_
 refine t_opG rfl (sp_call (c := .func 112) (xs := #[.tmp 54, .tmp 56]) [] (ctr_b (eqIntsG a.init b.init HA.init HB.init) hs7f) rfl (by kernel_rfl) rfl (Xs := [intsA a.init, intsA b.init]) rfl rfl rfl) ⟨I0, I0, I0, T0⟩ T0 T0 ?_
 refine t_opG rfl (sp_not rfl rfl) ⟨I0, T0⟩ T0 T0 ?_
 refine t_op rfl (sp_pick (.tmp 52) (.const (.bool true)) (.tmp 58) false (bv true) (bv true) rfl) ⟨I0, I0, I0, T0⟩ T0 T0 ?_
 refine t_op rfl (sp_move (.tmp 59) (bv true) rfl) ⟨I0, T0⟩ T0 T0 ?_
 refine t_skip rfl ?_
 refine t_skip rfl ?_
 refine t_skip rfl ?_
 refine t_skip rfl ?_
 refine t_skip rfl ?_
 refine t_skip rfl ?_
 refine t_op rfl (sp_pick (.tmp 60) (.const (.bool true)) (.tmp 66) true (bv true) (.v (.tuple #[])) rfl) ⟨I0, I0, I0, T0⟩ T0 T0 ?_
 refine t_op rfl (sp_assign (.tmp 67) (bv true) rfl) ⟨I0, T0⟩ T0 T0 ?_
 refine tri_nil ?_
 refine tri_wk (wk_keep [] [(4, bv true)] (n := 68)) ?_
 refine t_then ?_
 refine tri_ret ?_
 refine tri_end1 Tryd.results58 (.tmp rfl) ?_
 exact congrArg (fun x : Bool => AV.v (.bool x)) (show true = difB a b by simp only [difB, Bool.or_true, Bool.true_or, Bool.or_false, Bool.false_or, Bool.and_true, Bool.true_and, Bool.and_false, Bool.false_and, Bool.not_true, Bool.not_false, decide_eq_true hs1, decide_eq_true hs2, decide_eq_true hs3, decide_eq_true hs4, decide_eq_true hs5, hs6, hs7f])
 have hs6f : (decide (a.res = b.res)) = false := by simpa using hs6
 refine tri_region ?_
 refine t_op rfl (sp_fieldBox (off' := 1) (.tmp 2) rfl Tryd.underlying27 rfl (z := 1) (by kernel_rfl) (by decide) rfl) ⟨I0, T0⟩ T0 T0 ?_
 refine t_op rfl (sp_loadBox1 (Y := .box 27 (cFm a)) (X := iv a.top) (.tmp 5) rfl Tryd.underlying3 rfl rfl) ⟨I0, T0⟩ ⟨rfl, T0⟩ T0 ?_
 refine t_op rfl (sp_fieldBox (off' := 1) (.tmp 3) rfl Tryd.underlying27 rfl (z := 1) (by kernel_rfl) (by decide) rfl) ⟨I0, T0⟩ T0 T0 ?_
 refine t_op rfl (sp_loadBox1 (Y := .box 27 (cFm b)) (X := iv b.top) (.tmp 7) rfl Tryd.underlying3 rfl rfl) ⟨I0, T0⟩ ⟨rfl, T0⟩ T0 ?_
 refine t_op rfl (sp_neq rfl (dT' hs1)) ⟨I0, I0, T0⟩ T0 T0 ?_
 refine t_op rfl (sp_move (.tmp 9) (bv false) rfl) ⟨I0, T0⟩ T0 T0 ?_
 refine t_opG rfl (sp_fieldBox (off' := 5) (.tmp 2) rfl Tryd.underlying27 rfl (z := 1) (by kernel_rfl) (by decide) rfl) ⟨I0, T0⟩ T0 T0 ?_
 refine t_opG rfl (sp_loadBox1 (Y := .box 27 (cFm a)) (X := iv a.fault) (.tmp 11) rfl Tryd.underlying3 rfl rfl) ⟨I0, T0⟩ ⟨rfl, T0⟩ T0 ?_
 refine t_opG rfl (sp_fieldBox (off' := 5) (.tmp 3) rfl Tryd.underlying27 rfl (z := 1) (by kernel_rfl) (by decide) rfl) ⟨I0, T0⟩ T0 T0 ?_
 refine t_opG rfl (sp_loadBox1 (Y := .box 27 (cFm b)) (X := iv b.fault) (.tmp 13) rfl Tryd.underlying3 rfl rfl) ⟨I0, T0⟩ ⟨rfl, T0⟩ T0 ?_
 refine t_opG rfl (sp_neq rfl (dT' hs2)) ⟨I0, I0, T0⟩ T0 T0 ?_
 refine t_op rfl (sp_pick (.tmp 10) (.const (.bool true)) (.tmp 15) false (bv true) (bv false) rfl) ⟨I0, I0, I0, T0⟩ T0 T0 ?_
 refine t_op rfl (sp_move (.tmp 16) (bv false) rfl) ⟨I0, T0⟩ T0 T0 ?_
 refine t_opG rfl (sp_fieldBox (off' := 2) (.tmp 2) rfl Tryd.underlying27 rfl (z := 1) (by kernel_rfl) (by decide) rfl) ⟨I0, T0⟩ T0 T0 ?_
 refine t_opG rfl (sp_loadBox1 (Y := .box 27 (cFm a)) (X := strsA a.states) (.tmp 18) rfl Tryd.underlying22 rfl rfl) ⟨I0, T0⟩ ⟨rfl, T0⟩ T0 ?_
 refine t_opG rfl (sp_lenSl (.tmp 19) rfl Tryd.underlying22) ⟨I0, T0⟩ T0 T0 ?_
 refine t_opG rfl (sp_fieldBox (off' := 2) (.tmp 3) rfl Tryd.underlying27 rfl (z := 1) (by kernel_rfl) (by decide) rfl) ⟨I0, T0⟩ T0 T0 ?_
 refine t_opG rfl (sp_loadBox1 (Y := .box 27 (cFm b)) (X := strsA b.states) (.tmp 21) rfl Tryd.underlying22 rfl rfl) ⟨I0, T0⟩ ⟨rfl, T0⟩ T0 ?_
 refine t_opG rfl (sp_lenSl (.tmp 22) rfl Tryd.underlying22) ⟨I0, T0⟩ T0 T0 ?_
 refine t_opG rfl (sp_neq rfl (dT' hs3)) ⟨I0, I0, T0⟩ T0 T0 ?_
 refine t_op rfl (sp_pick (.tmp 17) (.const (.bool true)) (.tmp 24) false (bv true) (bv false) rfl) ⟨I0, I0, I0, T0⟩ T0 T0 ?_
 refine t_op rfl (sp_move (.tmp 25) (bv false) rfl) ⟨I0, T0⟩ T0 T0 ?_
 refine t_opG rfl (sp_fieldBox (off' := 3) (.tmp 2) rfl Tryd.underlying27 rfl (z := 1) (by kernel_rfl) (by decide) rfl) ⟨I0, T0⟩ T0 T0 ?_
 refine t_opG rfl (sp_loadBox1 (Y := .box 27 (cFm a)) (X := strsA a.msgs) (.tmp 27) rfl Tryd.underlying22 rfl rfl) ⟨I0, T0⟩ ⟨rfl, T0⟩ T0 ?_
 refine t_opG rfl (sp_lenSl (.tmp 28) rfl Tryd.underlying22) ⟨I0, T0⟩ T0 T0 ?_
 refine t_opG rfl (sp_fieldBox (off' := 3) (.tmp 3) rfl Tryd.underlying27 rfl (z := 1) (by kernel_rfl) (by decide) rfl) ⟨I0, T0⟩ T0 T0 ?_
 refine t_opG rfl (sp_loadBox1 (Y := .box 27 (cFm b)) (X := strsA b.msgs) (.tmp 30) rfl Tryd.underlying22 rfl rfl) ⟨I0, T0⟩ ⟨rfl, T0⟩ T0 ?_
 refine t_opG rfl (sp_lenSl (.tmp 31) rfl Tryd.underlying22) ⟨I0, T0⟩ T0 T0 ?_
 refine t_opG rfl (sp_neq rfl (dT' hs4)) ⟨I0, I0, T0⟩ T0 T0 ?_
 refine t_op rfl (sp_pick (.tmp 26) (.const (.bool true)) (.tmp 33) false (bv true) (bv false) rfl) ⟨I0, I0, I0, T0⟩ T0 T0 ?_
 refine t_op rfl (sp_move (.tmp 34) (bv false) rfl) ⟨I0, T0⟩ T0 T0 ?_
 refine t_opG rfl (sp_fieldBox (off' := 4) (.tmp 2) rfl Tryd.underlying27 rfl (z := 1) (by kernel_rfl) (by decide) rfl) ⟨I0, T0⟩ T0 T0 ?_
 refine t_opG rfl (sp_loadBox1 (Y := .box 27 (cFm a)) (X := strsA a.vals) (.tmp 36) rfl Tryd.underlying22 rfl rfl) ⟨I0, T0⟩ ⟨rfl, T0⟩ T0 ?_
 refine t_opG rfl (sp_lenSl (.tmp 37) rfl Tryd.underlying22) ⟨I0, T0⟩ T0 T0 ?_
 refine t_opG rfl (sp_fieldBox (off' := 4) (.tmp 3) rfl Tryd.underlying27 rfl (z := 1) (by kernel_rfl) (by decide) rfl) ⟨I0, T0⟩ T0 T0 ?_
 refine t_opG rfl (sp_loadBox1 (Y := .box 27 (cFm b)) (X := strsA b.vals) (.tmp 39) rfl Tryd.underlying22 rfl rfl) ⟨I0, T0⟩ ⟨rfl, T0⟩ T0 ?_
 refine t_opG rfl (sp_lenSl (.tmp 40) rfl Tryd.underlying22) ⟨I0, T0⟩ T0 T0 ?_
 refine t_opG rfl (sp_neq rfl (dT' hs5)) ⟨I0, I0, T0⟩ T0 T0 ?_
 refine t_op rfl (sp_pick (.tmp 35) (.const (.bool true)) (.tmp 42) false (bv true) (bv false) rfl) ⟨I0, I0, I0, T0⟩ T0 T0 ?_
 refine t_op rfl (sp_move (.tmp 43) (bv false) rfl) ⟨I0, T0⟩ T0 T0 ?_
 refine t_opG rfl (sp_fieldBox (off' := 6) (.tmp 2) rfl Tryd.underlying27 rfl (z := 1) (by kernel_rfl) (by decide) rfl) ⟨I0, T0⟩ T0 T0 ?_
 refine t_opG rfl (sp_loadBox1 (Y := .box 27 (cFm a)) (X := slA 4 cLn a.res) (.tmp 45) rfl Tryd.underlying23 rfl rfl) ⟨I0, T0⟩ ⟨rfl, T0⟩ T0 ?_
 refine t_opG rfl (sp_fieldBox (off' := 6) (.tmp 3) rfl Tryd.underlying27 rfl (z := 1) (by kernel_rfl) (by decide) rfl) ⟨I0, T0⟩ T0 T0 ?_
 refine t_opG rfl (sp_loadBox1 (Y := .box 27 (cFm b)) (X := slA 4 cLn b.res) (.tmp 47) rfl Tryd.underlying23 rfl rfl) ⟨I0, T0⟩ ⟨rfl, T0⟩ T0 ?_
 refine t_opG rfl (sp_call (c := .func 111) (xs := #[.tmp 46, .tmp 48]) [] (ctr_b (eqLinearsG a.res b.res HA.lres HB.lres) hs6f) rfl (by kernel_rfl) rfl (Xs := [slA 4 cLn a.res, slA 4 cLn b.res]) rfl rfl rfl) ⟨I0, I0, I0, T0⟩ T0 T0 ?_
 refine t_opG rfl (sp_not rfl rfl) ⟨I0, T0⟩ T0 T0 ?_
 refine t_op rfl (sp_pick (.tmp 44) (.const (.bool true)) (.tmp 50) false (bv true) (bv true) rfl) ⟨I0, I0, I0, T0⟩ T0 T0 ?_
 refine t_op rfl (sp_move (.tmp 51) (bv true) rfl) ⟨I0, T0⟩ T0 T0 ?_
 refine t_skip rfl ?_
 refine t_skip rfl ?_
 refine t_skip rfl ?_
 refine t_skip rfl ?_
 refine t_skip rfl ?_
 refine t_skip rfl ?_
 refine t_op rfl (sp_pick (.tmp 52) (.const (.bool true)) (.tmp 58) true (bv true) (.v (.tuple #[])) rfl) ⟨I0, I0, I0, T0⟩ T0 T0 ?_
 refine t_op rfl (sp_move (.tmp 59) (bv true) rfl) ⟨I0, T0⟩ T0 T0 ?_
 refine t_skip rfl ?_
 refine t_skip rfl ?_
 refine t_skip rfl ?_
 refine t_skip rfl ?_
 refine t_skip rfl ?_
 refine t_skip rfl ?_
 refine t_op rfl (sp_pick (.tmp 60) (.const (.bool true)) (.tmp 66) true (bv true) (.v (.tuple #[])) rfl) ⟨I0, I0, I0, T0⟩ T0 T0 ?_
 refine t_op rfl (sp_assign (.tmp 67) (bv true) rfl) ⟨I0, T0⟩ T0 T0 ?_
 refine tri_nil ?_
 refine tri_wk (wk_keep [] [(4, bv true)] (n := 68)) ?_
 refine t_then ?_
 refine tri_ret ?_
 refine tri_end1 Tryd.results58 (.tmp rfl) ?_
 exact congrArg (fun x : Bool => AV.v (.bool x)) (show true = difB a b by simp only [difB, Bool.or_true, Bool.true_or, Bool.or_false, Bool.false_or, Bool.and_true, Bool.true_and, Bool.and_false, Bool.false_and, Bool.not_true, Bool.not_false, decide_eq_true hs1, decide_eq_true hs2, decide_eq_true hs3, decide_eq_true hs4, decide_eq_true hs5, hs6f])
 refine tri_region ?_
 refine t_op rfl (sp_fieldBox (off' := 1) (.tmp 2) rfl Tryd.underlying27 rfl (z := 1) (by kernel_rfl) (by decide) rfl) ⟨I0, T0⟩ T0 T0 ?_
 refine t_op rfl (sp_loadBox1 (Y := .box 27 (cFm a)) (X := iv a.top) (.tmp 5) rfl Tryd.underlying3 rfl rfl) ⟨I0, T0⟩ ⟨rfl, T0⟩ T0 ?_
 refine t_op rfl (sp_fieldBox (off' := 1) (.tmp 3) rfl Tryd.underlying27 rfl (z := 1) (by kernel_rfl) (by decide) rfl) ⟨I0, T0⟩ T0 T0 ?_
 refine t_op rfl (sp_loadBox1 (Y := .box 27 (cFm b)) (X := iv b.top) (.tmp 7) rfl Tryd.underlying3 rfl rfl) ⟨I0, T0⟩ ⟨rfl, T0⟩ T0 ?_
 refine t_op rfl (sp_neq rfl (dT' hs1)) ⟨I0, I0, T0⟩ T0 T0 ?_
 refine t_op rfl (sp_move (.tmp 9) (bv false) rfl) ⟨I0, T0⟩ T0 T0 ?_
 refine t_opG rfl (sp_fieldBox (off' := 5) (.tmp 2) rfl Tryd.underlying27 rfl (z := 1) (by kernel_rfl) (by decide) rfl) ⟨I0, T0⟩ T0 T0 ?_
 refine t_opG rfl (sp_loadBox1 (Y := .box 27 (cFm a)) (X := iv a.fault) (.tmp 11) rfl Tryd.underlying3 rfl rfl) ⟨I0, T0⟩ ⟨rfl, T0⟩ T0 ?_
 refine t_opG rfl (sp_fieldBox (off' := 5) (.tmp 3) rfl Tryd.underlying27 rfl (z := 1) (by kernel_rfl) (by decide) rfl) ⟨I0, T0⟩ T0 T0 ?_
 refine t_opG rfl (sp_loadBox1 (Y := .box 27 (cFm b)) (X := iv b.fault) (.tmp 13) rfl Tryd.underlying3 rfl rfl) ⟨I0, T0⟩ ⟨rfl, T0⟩ T0 ?_
 refine t_opG rfl (sp_neq rfl (dT' hs2)) ⟨I0, I0, T0⟩ T0 T0 ?_
 refine t_op rfl (sp_pick (.tmp 10) (.const (.bool true)) (.tmp 15) false (bv true) (bv false) rfl) ⟨I0, I0, I0, T0⟩ T0 T0 ?_
 refine t_op rfl (sp_move (.tmp 16) (bv false) rfl) ⟨I0, T0⟩ T0 T0 ?_
 refine t_opG rfl (sp_fieldBox (off' := 2) (.tmp 2) rfl Tryd.underlying27 rfl (z := 1) (by kernel_rfl) (by decide) rfl) ⟨I0, T0⟩ T0 T0 ?_
 refine t_opG rfl (sp_loadBox1 (Y := .box 27 (cFm a)) (X := strsA a.states) (.tmp 18) rfl Tryd.underlying22 rfl rfl) ⟨I0, T0⟩ ⟨rfl, T0⟩ T0 ?_
 refine t_opG rfl (sp_lenSl (.tmp 19) rfl Tryd.underlying22) ⟨I0, T0⟩ T0 T0 ?_
 refine t_opG rfl (sp_fieldBox (off' := 2) (.tmp 3) rfl Tryd.underlying27 rfl (z := 1) (by kernel_rfl) (by decide) rfl) ⟨I0, T0⟩ T0 T0 ?_
 refine t_opG rfl (sp_loadBox1 (Y := .box 27 (cFm b)) (X := strsA b.states) (.tmp 21) rfl Tryd.underlying22 rfl rfl) ⟨I0, T0⟩ ⟨rfl, T0⟩ T0 ?_
 refine t_opG rfl (sp_lenSl (.tmp 22) rfl Tryd.underlying22) ⟨I0, T0⟩ T0 T0 ?_
 refine t_opG rfl (sp_neq rfl (dT' hs3)) ⟨I0, I0, T0⟩ T0 T0 ?_
 refine t_op rfl (sp_pick (.tmp 17) (.const (.bool true)) (.tmp 24) false (bv true) (bv false) rfl) ⟨I0, I0, I0, T0⟩ T0 T0 ?_
 refine t_op rfl (sp_move (.tmp 25) (bv false) rfl) ⟨I0, T0⟩ T0 T0 ?_
 refine t_opG rfl (sp_fieldBox (off' := 3) (.tmp 2) rfl Tryd.underlying27 rfl (z := 1) (by kernel_rfl) (by decide) rfl) ⟨I0, T0⟩ T0 T0 ?_
 refine t_opG rfl (sp_loadBox1 (Y := .box 27 (cFm a)) (X := strsA a.msgs) (.tmp 27) rfl Tryd.underlying22 rfl rfl) ⟨I0, T0⟩ ⟨rfl, T0⟩ T0 ?_
 refine t_opG rfl (sp_lenSl (.tmp 28) rfl Tryd.underlying22) ⟨I0, T0⟩ T0 T0 ?_
 refine t_opG rfl (sp_fieldBox (off' := 3) (.tmp 3) rfl Tryd.underlying27 rfl (z := 1) (by kernel_rfl) (by decide) rfl) ⟨I0, T0⟩ T0 T0 ?_
 refine t_opG rfl (sp_loadBox1 (Y := .box 27 (cFm b)) (X := strsA b.msgs) (.tmp 30) rfl Tryd.underlying22 rfl rfl) ⟨I0, T0⟩ ⟨rfl, T0⟩ T0 ?_
 refine t_opG rfl (sp_lenSl (.tmp 31) rfl Tryd.underlying22) ⟨I0, T0⟩ T0 T0 ?_
 refine t_opG rfl (sp_neq rfl (dT' hs4)) ⟨I0, I0, T0⟩ T0 T0 ?_
 refine t_op rfl (sp_pick (.tmp 26) (.const (.bool true)) (.tmp 33) false (bv true) (bv false) rfl) ⟨I0, I0, I0, T0⟩ T0 T0 ?_
 refine t_op rfl (sp_move (.tmp 34) (bv false) rfl) ⟨I0, T0⟩ T0 T0 ?_
 refine t_opG rfl (sp_fieldBox (off' := 4) (.tmp 2) rfl Tryd.underlying27 rfl (z := 1) (by kernel_rfl) (by decide) rfl) ⟨I0, T0⟩ T0 T0 ?_
 refine t_opG rfl (sp_loadBox1 (Y := .box 27 (cFm a)) (X := strsA a.vals) (.tmp 36) rfl Tryd.underlying22 rfl rfl) ⟨I0, T0⟩ ⟨rfl, T0⟩ T0 ?_
 refine t_opG rfl (sp_lenSl (.tmp 37) rfl Tryd.underlying22) ⟨I0, T0⟩ T0 T0 ?_
 refine t_opG rfl (sp_fieldBox (off' := 4) (.tmp 3) rfl Tryd.underlying27 rfl (z := 1) (by kernel_rfl) (by decide) rfl) ⟨I0, T0⟩ T0 T0 ?_
 refine t_opG rfl (sp_loadBox1 (Y := .box 27 (cFm b)) (X := strsA b.vals) (.tmp 39) rfl Tryd.underlying22 rfl rfl) ⟨I0, T0⟩ ⟨rfl, T0⟩ T0 ?_
 refine t_opG rfl (sp_lenSl (.tmp 40) rfl Tryd.underlying22) ⟨I0, T0⟩ T0 T0 ?_
 refine t_opG rfl (sp_neq rfl (dF' hs5)) ⟨I0, I0, T0⟩ T0 T0 ?_
 refine t_op rfl (sp_pick (.tmp 35) (.const (.bool true)) (.tmp 42) false (bv true) (bv true) rfl) ⟨I0, I0, I0, T0⟩ T0 T0 ?_
 refine t_op rfl (sp_move (.tmp 43) (bv true) rfl) ⟨I0, T0⟩ T0 T0 ?_
 refine t_skip rfl ?_
 refine t_skip rfl ?_
 refine t_skip rfl ?_
 refine t_skip rfl ?_
 refine t_skip rfl ?_
 refine t_skip rfl ?_
 refine t_op rfl (sp_pick (.tmp 44) (.const (.bool true)) (.tmp 50) true (bv true) (.v (.tuple #[])) rfl) ⟨I0, I0, I0, T0⟩ T0 T0 ?_
 refine t_op rfl (sp_move (.tmp 51) (bv true) rfl) ⟨I0, T0⟩ T0 T0 ?_
 refine t_skip rfl ?_
 refine t_skip rfl ?_
 refine t_skip rfl ?_
 refine t_skip rfl ?_
 refine t_skip rfl ?_
 refine t_skip rfl ?_
 refine t_op rfl (sp_pick (.tmp 52) (.const (.bool true)) (.tmp 58) true (bv true) (.v (.tuple #[])) rfl) ⟨I0, I0, I0, T0⟩ T0 T0 ?_
 refine t_op rfl (sp_move (.tmp 59) (bv true) rfl) ⟨I0, T0⟩ T0 T0 ?_
 refine t_skip rfl ?_
 refine t_skip rfl ?_
 refine t_skip rfl ?_
 refine t_skip rfl ?_
 refine t_skip rfl ?_
 refine t_skip rfl ?_
 refine t_op rfl (sp_pick (.tmp 60) (.const (.bool true)) (.tmp 66) true (bv true) (.v (.tuple #[])) rfl) ⟨I0, I0, I0, T0⟩ T0 T0 ?_
 refine t_op rfl (sp_assign (.tmp 67) (bv true) rfl) ⟨I0, T0⟩ T0 T0 ?_
 refine tri_nil ?_
 refine tri_wk (wk_keep [] [(4, bv true)] (n := 68)) ?_
 refine t_then ?_
 refine tri_ret ?_
 refine tri_end1 Tryd.results58 (.tmp rfl) ?_
 exact congrArg (fun x : Bool => AV.v (.bool x)) (show true = difB a b by simp only [difB, Bool.or_true, Bool.true_or, Bool.or_false, Bool.false_or, Bool.and_true, Bool.true_and, Bool.and_false, Bool.false_and, Bool.not_true, Bool.not_false, decide_eq_true hs1, decide_eq_true hs2, decide_eq_true hs3, decide_eq_true hs4, decide_eq_false hs5])
 refine tri_region ?_
 refine t_op rfl (sp_fieldBox (off' := 1) (.tmp 2) rfl Tryd.underlying27 rfl (z := 1) (by kernel_rfl) (by decide) rfl) ⟨I0, T0⟩ T0 T0 ?_
 refine t_op rfl (sp_loadBox1 (Y := .box 27 (cFm a)) (X := iv a.top) (.tmp 5) rfl Tryd.underlying3 rfl rfl) ⟨I0, T0⟩ ⟨rfl, T0⟩ T0 ?_
 refine t_op rfl (sp_fieldBox (off' := 1) (.tmp 3) rfl Tryd.underlying27 rfl (z := 1) (by kernel_rfl) (by decide) rfl) ⟨I0, T0⟩ T0 T0 ?_
 refine t_op rfl (sp_loadBox1 (Y := .box 27 (cFm b)) (X := iv b.top) (.tmp 7) rfl Tryd.underlying3 rfl rfl) ⟨I0, T0⟩ ⟨rfl, T0⟩ T0 ?_
 refine t_op rfl (sp_neq rfl (dT' hs1)) ⟨I0, I0, T0⟩ T0 T0 ?_
 refine t_op rfl (sp_move (.tmp 9) (bv false) rfl) ⟨I0, T0⟩ T0 T0 ?_
 refine t_opG rfl (sp_fieldBox (off' := 5) (.tmp 2) rfl Tryd.underlying27 rfl (z := 1) (by kernel_rfl) (by decide) rfl) ⟨I0, T0⟩ T0 T0 ?_
 refine t_opG rfl (sp_loadBox1 (Y := .box 27 (cFm a)) (X := iv a.fault) (.tmp 11) rfl Tryd.underlying3 rfl rfl) ⟨I0, T0⟩ ⟨rfl, T0⟩ T0 ?_
 refine t_opG rfl (sp_fieldBox (off' := 5) (.tmp 3) rfl Tryd.underlying27 rfl (z := 1) (by kernel_rfl) (by decide) rfl) ⟨I0, T0⟩ T0 T0 ?_
 refine t_opG rfl (sp_loadBox1 (Y := .box 27 (cFm b)) (X := iv b.fault) (.tmp 13) rfl Tryd.underlying3 rfl rfl) ⟨I0, T0⟩ ⟨rfl, T0⟩ T0 ?_
 refine t_opG rfl (sp_neq rfl (dT' hs2)) ⟨I0, I0, T0⟩ T0 T0 ?_
 refine t_op rfl (sp_pick (.tmp 10) (.const (.bool true)) (.tmp 15) false (bv true) (bv false) rfl) ⟨I0, I0, I0, T0⟩ T0 T0 ?_
 refine t_op rfl (sp_move (.tmp 16) (bv false) rfl) ⟨I0, T0⟩ T0 T0 ?_
 refine t_opG rfl (sp_fieldBox (off' := 2) (.tmp 2) rfl Tryd.underlying27 rfl (z := 1) (by kernel_rfl) (by decide) rfl) ⟨I0, T0⟩ T0 T0 ?_
 refine t_opG rfl (sp_loadBox1 (Y := .box 27 (cFm a)) (X := strsA a.states) (.tmp 18) rfl Tryd.underlying22 rfl rfl) ⟨I0, T0⟩ ⟨rfl, T0⟩ T0 ?_
 refine t_opG rfl (sp_lenSl (.tmp 19) rfl Tryd.underlying22) ⟨I0, T0⟩ T0 T0 ?_
 refine t_opG rfl (sp_fieldBox (off' := 2) (.tmp 3) rfl Tryd.underlying27 rfl (z := 1) (by kernel_rfl) (by decide) rfl) ⟨I0, T0⟩ T0 T0 ?_
 refine t_opG rfl (sp_loadBox1 (Y := .box 27 (cFm b)) (X := strsA b.states) (.tmp 21) rfl Tryd.underlying22 rfl rfl) ⟨I0, T0⟩ ⟨rfl, T0⟩ T0 ?_
 refine t_opG rfl (sp_lenSl (.tmp 22) rfl Tryd.underlying22) ⟨I0, T0⟩ T0 T0 ?_
 refine t_opG rfl (sp_neq rfl (dT' hs3)) ⟨I0, I0, T0⟩ T0 T0 ?_
 refine t_op rfl (sp_pick (.tmp 17) (.const (.bool true)) (.tmp 24) false (bv true) (bv false) rfl) ⟨I0, I0, I0, T0⟩ T0 T0 ?_
 refine t_op rfl (sp_move (.tmp 25) (bv false) rfl) ⟨I0, T0⟩ T0 T0 ?_
 refine t_opG rfl (sp_fieldBox (off' := 3) (.tmp 2) rfl Tryd.underlying27 rfl (z := 1) (by kernel_rfl) (by decide) rfl) ⟨I0, T0⟩ T0 T0 ?_
 refine t_opG rfl (sp_loadBox1 (Y := .box 27 (cFm a)) (X := strsA a.msgs) (.tmp 27) rfl Tryd.underlying22 rfl rfl) ⟨I0, T0⟩ ⟨rfl, T0⟩ T0 ?_
 refine t_opG rfl (sp_lenSl (.tmp 28) rfl Tryd.underlying22) ⟨I0, T0⟩ T0 T0 ?_
 refine t_opG rfl (sp_fieldBox (off' := 3) (.tmp 3) rfl Tryd.underlying27 rfl (z := 1) (by kernel_rfl) (by decide) rfl) ⟨I0, T0⟩ T0 T0 ?_
 refine t_opG rfl (sp_loadBox1 (Y := .box 27 (cFm b)) (X := strsA b.msgs) (.tmp 30) rfl Tryd.underlying22 rfl rfl) ⟨I0, T0⟩ ⟨rfl, T0⟩ T0 ?_
 refine t_opG rfl (sp_lenSl (.tmp 31) rfl Tryd.underlying22) ⟨I0, T0⟩ T0 T0 ?_
 refine t_opG rfl (sp_neq rfl (dF' hs4)) ⟨I0, I0, T0⟩ T0 T0 ?_
 refine t_op rfl (sp_pick (.tmp 26) (.const (.bool true)) (.tmp 33) false (bv true) (bv true) rfl) ⟨I0, I0, I0, T0⟩ T0 T0 ?_
 refine t_op rfl (sp_move (.tmp 34) (bv true) rfl) ⟨I0, T0⟩ T0 T0 ?_
 refine t_skip rfl ?_
 refine t_skip rfl ?_
 refine t_skip rfl ?_
 refine t_skip rfl ?_
 refine t_skip rfl ?_
 refine t_skip rfl ?_
 refine t_skip rfl ?_
 refine t_op rfl (sp_pick (.tmp 35) (.const (.bool true)) (.tmp 42) true (bv true) (.v (.tuple #[])) rfl) ⟨I0, I0, I0, T0⟩ T0 T0 ?_
 refine t_op rfl (sp_move (.tmp 43) (bv true) rfl) ⟨I0, T0⟩ T0 T0 ?_
 refine t_skip rfl ?_
 refine t_skip rfl ?_
 refine t_skip rfl ?_
 refine t_skip rfl ?_
 refine t_skip rfl ?_
 refine t_skip rfl ?_
 refine t_op rfl (sp_pick (.tmp 44) (.const (.bool true)) (.tmp 50) true (bv true) (.v (.tuple #[])) rfl) ⟨I0, I0, I0, T0⟩ T0 T0 ?_
 refine t_op rfl (sp_move (.tmp 51) (bv true) rfl) ⟨I0, T0⟩ T0 T0 ?_
 refine t_skip rfl ?_
 refine t_skip rfl ?_
 refine t_skip rfl ?_
 refine t_skip rfl ?_
 refine t_skip rfl ?_
 refine t_skip rfl ?_
 refine t_op rfl (sp_pick (.tmp 52) (.const (.bool true)) (.tmp 58) true (bv true) (.v (.tuple #[])) rfl) ⟨I0, I0, I0, T0⟩ T0 T0 ?_
 refine t_op rfl (sp_move (.tmp 59) (bv true) rfl) ⟨I0, T0⟩ T0 T0 ?_
 refine t_skip rfl ?_
 refine t_skip rfl ?_
 refine t_skip rfl ?_
 refine t_skip rfl ?_
 refine t_skip rfl ?_
 refine t_skip rfl ?_
 refine t_op rfl (sp_pick (.tmp 60) (.const (.bool true)) (.tmp 66) true (bv true) (.v (.tuple #[])) rfl) ⟨I0, I0, I0, T0⟩ T0 T0 ?_
 refine t_op rfl (sp_assign (.tmp 67) (bv true) rfl) ⟨I0, T0⟩ T0 T0 ?_
 refine tri_nil ?_
 refine tri_wk (wk_keep [] [(4, bv true)] (n := 68)) ?_
 refine t_then ?_
 refine tri_ret ?_
 refine tri_end1 Tryd.results58 (.tmp rfl) ?_
 exact congrArg (fun x : Bool => AV.v (.bool x)) (show true = difB a b by simp only [difB, Bool.or_true, Bool.true_or, Bool.or_false, Bool.false_or, Bool.and_true, Bool.true_and, Bool.and_false, Bool.false_and, Bool.not_true, Bool.not_false, decide_eq_true hs1, decide_eq_true hs2, decide_eq_true hs3, decide_eq_false hs4])
 refine tri_region ?_
 refine t_op rfl (sp_fieldBox (off' := 1) (.tmp 2) rfl Tryd.underlying27 rfl (z := 1) (by kernel_rfl) (by decide) rfl) ⟨I0, T0⟩ T0 T0 ?_
 refine t_op rfl (sp_loadBox1 (Y := .box 27 (cFm a)) (X := iv a.top) (.tmp 5) rfl Tryd.underlying3 rfl rfl) ⟨I0, T0⟩ ⟨rfl, T0⟩ T0 ?_
 refine t_op rfl (sp_fieldBox (off' := 1) (.tmp 3) rfl Tryd.underlying27 rfl (z := 1) (by kernel_rfl) (by decide) rfl) ⟨I0, T0⟩ T0 T0 ?_
 refine t_op rfl (sp_loadBox1 (Y := .box 27 (cFm b)) (X := iv b.top) (.tmp 7) rfl Tryd.underlying3 rfl rfl) ⟨I0, T0⟩ ⟨rfl, T0⟩ T0 ?_
 refine t_op rfl (sp_neq rfl (dT' hs1)) ⟨I0, I0, T0⟩ T0 T0 ?_
 refine t_op rfl (sp_move (.tmp 9) (bv false) rfl) ⟨I0, T0⟩ T0 T0 ?_
 refine t_opG rfl (sp_fieldBox (off' := 5) (.tmp 2) rfl Tryd.underlying27 rfl (z := 1) (by kernel_rfl) (by decide) rfl) ⟨I0, T0⟩ T0 T0 ?_
 refine t_opG rfl (sp_loadBox1 (Y := .box 27 (cFm a)) (X := iv a.fault) (.tmp 11) rfl Tryd.underlying3 rfl rfl) ⟨I0, T0⟩ ⟨rfl, T0⟩ T0 ?_
 refine t_opG rfl (sp_fieldBox (off' := 5) (.tmp 3) rfl Tryd.underlying27 rfl (z := 1) (by kernel_rfl) (by decide) rfl) ⟨I0, T0⟩ T0 T0 ?_
 refine t_opG rfl (sp_loadBox1 (Y := .box 27 (cFm b)) (X := iv b.fault) (.tmp 13) rfl Tryd.underlying3 rfl rfl) ⟨I0, T0⟩ ⟨rfl, T0⟩ T0 ?_
 refine t_opG rfl (sp_neq rfl (dT' hs2)) ⟨I0, I0, T0⟩ T0 T0 ?_
 refine t_op rfl (sp_pick (.tmp 10) (.const (.bool true)) (.tmp 15) false (bv true) (bv false) rfl) ⟨I0, I0, I0, T0⟩ T0 T0 ?_
 refine t_op rfl (sp_move (.tmp 16) (bv false) rfl) ⟨I0, T0⟩ T0 T0 ?_
 refine t_opG rfl (sp_fieldBox (off' := 2) (.tmp 2) rfl Tryd.underlying27 rfl (z := 1) (by kernel_rfl) (by decide) rfl) ⟨I0, T0⟩ T0 T0 ?_
 refine t_opG rfl (sp_loadBox1 (Y := .box 27 (cFm a)) (X := strsA a.states) (.tmp 18) rfl Tryd.underlying22 rfl rfl) ⟨I0, T0⟩ ⟨rfl, T0⟩ T0 ?_
 refine t_opG rfl (sp_lenSl (.tmp 19) rfl Tryd.underlying22) ⟨I0, T0⟩ T0 T0 ?_
 refine t_opG rfl (sp_fieldBox (off' := 2) (.tmp 3) rfl Tryd.underlying27 rfl (z := 1) (by kernel_rfl) (by decide) rfl) ⟨I0, T0⟩ T0 T0 ?_
 refine t_opG rfl (sp_loadBox1 (Y := .box 27 (cFm b)) (X := strsA b.states) (.tmp 21) rfl Tryd.underlying22 rfl rfl) ⟨I0, T0⟩ ⟨rfl, T0⟩ T0 ?_
 refine t_opG rfl (sp_lenSl (.tmp 22) rfl Tryd.underlying22) ⟨I0, T0⟩ T0 T0 ?_
 refine t_opG rfl (sp_neq rfl (dF' hs3)) ⟨I0, I0, T0⟩ T0 T0 ?_
 refine t_op rfl (sp_pick (.tmp 17) (.const (.bool true)) (.tmp 24) false (bv true) (bv true) rfl) ⟨I0, I0, I0, T0⟩ T0 T0 ?_
 refine t_op rfl (sp_move (.tmp 25) (bv true) rfl) ⟨I0, T0⟩ T0 T0 ?_
 refine t_skip rfl ?_
 refine t_skip rfl ?_
 refine t_skip rfl ?_
 refine t_skip rfl ?_
 refine t_skip rfl ?_
 refine t_skip rfl ?_
 refine t_skip rfl ?_
 refine t_op rfl (sp_pick (.tmp 26) (.const (.bool true)) (.tmp 33) true (bv true) (.v (.tuple #[])) rfl) ⟨I0, I0, I0, T0⟩ T0 T0 ?_
 refine t_op rfl (sp_move (.tmp 34) (bv true) rfl) ⟨I0, T0⟩ T0 T0 ?_
 refine t_skip rfl ?_
 refine t_skip rfl ?_
 refine t_skip rfl ?_
 refine t_skip rfl ?_
 refine t_skip rfl ?_
 refine t_skip rfl ?_
 refine t_skip rfl ?_
 refine t_op rfl (sp_pick (.tmp 35) (.const (.bool true)) (.tmp 42) true (bv true) (.v (.tuple #[])) rfl) ⟨I0, I0, I0, T0⟩ T0 T0 ?_
 refine t_op rfl (sp_move (.tmp 43) (bv true) rfl) ⟨I0, T0⟩ T0 T0 ?_
 refine t_skip rfl ?_
 refine t_skip rfl ?_
 refine t_skip rfl ?_
 refine t_skip rfl ?_
 refine t_skip rfl ?_
 refine t_skip rfl ?_
 refine t_op rfl (sp_pick (.tmp 44) (.const (.bool true)) (.tmp 50) true (bv true) (.v (.tuple #[])) rfl) ⟨I0, I0, I0, T0⟩ T0 T0 ?_
 refine t_op rfl (sp_move (.tmp 51) (bv true) rfl) ⟨I0, T0⟩ T0 T0 ?_
 refine t_skip rfl ?_
 refine t_skip rfl ?_
 refine t_skip rfl ?_
 refine t_skip rfl ?_
 refine t_skip rfl ?_
 refine t_skip rfl ?_
 refine t_op rfl (sp_pick (.tmp 52) (.const (.bool true)) (.tmp 58) true (bv true) (.v (.tuple #[])) rfl) ⟨I0, I0, I0, T0⟩ T0 T0 ?_
 refine t_op rfl (sp_move (.tmp 59) (bv true) rfl) ⟨I0, T0⟩ T0 T0 ?_
 refine t_skip rfl ?_
 refine t_skip rfl ?_
 refine t_skip rfl ?_
 refine t_skip rfl ?_
 refine t_skip rfl ?_
 refine t_skip rfl ?_
 refine t_op rfl (sp_pick (.tmp 60) (.const (.bool true)) (.tmp 66) true (bv true) (.v (.tuple #[])) rfl) ⟨I0, I0, I0, T0⟩ T0 T0 ?_
 refine t_op rfl (sp_assign (.tmp 67) (bv true) rfl) ⟨I0, T0⟩ T0 T0 ?_
 refine tri_nil ?_
 refine tri_wk (wk_keep [] [(4, bv true)] (n := 68)) ?_
 refine t_then ?_
 refine tri_ret ?_
 refine tri_end1 Tryd.results58 (.tmp rfl) ?_
 exact congrArg (fun x : Bool => AV.v (.bool x)) (show true = difB a b by simp only [difB, Bool.or_true, Bool.true_or, Bool.or_false, Bool.false_or, Bool.and_true, Bool.true_and, Bool.and_false, Bool.false_and, Bool.not_true, Bool.not_false, decide_eq_true hs1, decide_eq_true hs2, decide_eq_false hs3])
 refine tri_region ?_
 refine t_op rfl (sp_fieldBox (off' := 1) (.tmp 2) rfl Tryd.underlying27 rfl (z := 1) (by kernel_rfl) (by decide) rfl) ⟨I0, T0⟩ T0 T0 ?_
 refine t_op rfl (sp_loadBox1 (Y := .box 27 (cFm a)) (X := iv a.top) (.tmp 5) rfl Tryd.underlying3 rfl rfl) ⟨I0, T0⟩ ⟨rfl, T0⟩ T0 ?_
 refine t_op rfl (sp_fieldBox (off' := 1) (.tmp 3) rfl Tryd.underlying27 rfl (z := 1) (by kernel_rfl) (by decide) rfl) ⟨I0, T0⟩ T0 T0 ?_
 refine t_op rfl (sp_loadBox1 (Y := .box 27 (cFm b)) (X := iv b.top) (.tmp 7) rfl Tryd.underlying3 rfl rfl) ⟨I0, T0⟩ ⟨rfl, T0⟩ T0 ?_
 refine t_op rfl (sp_neq rfl (dT' hs1)) ⟨I0, I0, T0⟩ T0 T0 ?_
 refine t_op rfl (sp_move (.tmp 9) (bv false) rfl) ⟨I0, T0⟩ T0 T0 ?_
 refine t_opG rfl (sp_fieldBox (off' := 5) (.tmp 2) rfl Tryd.underlying27 rfl (z := 1) (by kernel_rfl) (by decide) rfl) ⟨I0, T0⟩ T0 T0 ?_
 refine t_opG rfl (sp_loadBox1 (Y := .box 27 (cFm a)) (X := iv a.fault) (.tmp 11) rfl Tryd.underlying3 rfl rfl) ⟨I0, T0⟩ ⟨rfl, T0⟩ T0 ?_
 refine t_opG rfl (sp_fieldBox (off' := 5) (.tmp 3) rfl Tryd.underlying27 rfl (z := 1) (by kernel_rfl) (by decide) rfl) ⟨I0, T0⟩ T0 T0 ?_
 refine t_opG rfl (sp_loadBox1 (Y := .box 27 (cFm b)) (X := iv b.fault) (.tmp 13) rfl Tryd.underlying3 rfl rfl) ⟨I0, T0⟩ ⟨rfl, T0⟩ T0 ?_
 refine t_opG rfl (sp_neq rfl (dF' hs2)) ⟨I0, I0, T0⟩ T0 T0 ?_
 refine t_op rfl (sp_pick (.tmp 10) (.const (.bool true)) (.tmp 15) false (bv true) (bv true) rfl) ⟨I0, I0, I0, T0⟩ T0 T0 ?_
 refine t_op rfl (sp_move (.tmp 16) (bv true) rfl) ⟨I0, T0⟩ T0 T0 ?_
 refine t_skip rfl ?_
 refine t_skip rfl ?_
 refine t_skip rfl ?_
 refine t_skip rfl ?_
 refine t_skip rfl ?_
 refine t_skip rfl ?_
 refine t_skip rfl ?_
 refine t_op rfl (sp_pick (.tmp 17) (.const (.bool true)) (.tmp 24) true (bv true) (.v (.tuple #[])) rfl) ⟨I0, I0, I0, T0⟩ T0 T0 ?_
 refine t_op rfl (sp_move (.tmp 25) (bv true) rfl) ⟨I0, T0⟩ T0 T0 ?_
 refine t_skip rfl ?_
 refine t_skip rfl ?_
 refine t_skip rfl ?_
 refine t_skip rfl ?_
 refine t_skip rfl ?_
 refine t_skip rfl ?_
 refine t_skip rfl ?_
 refine t_op rfl (sp_pick (.tmp 26) (.const (.bool true)) (.tmp 33) true (bv true) (.v (.tuple #[])) rfl) ⟨I0, I0, I0, T0⟩ T0 T0 ?_
 refine t_op rfl (sp_move (.tmp 34) (bv true) rfl) ⟨I0, T0⟩ T0 T0 ?_
 refine t_skip rfl ?_
 refine t_skip rfl ?_
 refine t_skip rfl ?_
 refine t_skip rfl ?_
 refine t_skip rfl ?_
 refine t_skip rfl ?_
 refine t_skip rfl ?_
 refine t_op rfl (sp_pick (.tmp 35) (.const (.bool true)) (.tmp 42) true (bv true) (.v (.tuple #[])) rfl) ⟨I0, I0, I0, T0⟩ T0 T0 ?_
 refine t_op rfl (sp_move (.tmp 43) (bv true) rfl) ⟨I0, T0⟩ T0 T0 ?_
 refine t_skip rfl ?_
 refine t_skip rfl ?_
 refine t_skip rfl ?_
 refine t_skip rfl ?_
 refine t_skip rfl ?_
 refine t_skip rfl ?_
 refine t_op rfl (sp_pick (.tmp 44) (.const (.bool true)) (.tmp 50) true (bv true) (.v (.tuple #[])) rfl) ⟨I0, I0, I0, T0⟩ T0 T0 ?_
 refine t_op rfl (sp_move (.tmp 51) (bv true) rfl) ⟨I0, T0⟩ T0 T0 ?_
 refine t_skip rfl ?_
 refine t_skip rfl ?_
 refine t_skip rfl ?_
 refine t_skip rfl ?_
 refine t_skip rfl ?_
 refine t_skip rfl ?_
 refine t_op rfl (sp_pick (.tmp 52) (.const (.bool true)) (.tmp 58) true (bv true) (.v (.tuple #[])) rfl) ⟨I0, I0, I0, T0⟩ T0 T0 ?_
 refine t_op rfl (sp_move (.tmp 59) (bv true) rfl) ⟨I0, T0⟩ T0 T0 ?_
 refine t_skip rfl ?_
 refine t_skip rfl ?_
 refine t_skip rfl ?_
 refine t_skip rfl ?_
 refine t_skip rfl ?_
 refine t_skip rfl ?_
 refine t_op rfl (sp_pick (.tmp 60) (.const (.bool true)) (.tmp 66) true (bv true) (.v (.tuple #[])) rfl) ⟨I0, I0, I0, T0⟩ T0 T0 ?_
 refine t_op rfl (sp_assign (.tmp 67) (bv true) rfl) ⟨I0, T0⟩ T0 T0 ?_
 refine tri_nil ?_
 refine tri_wk (wk_keep [] [(4, bv true)] (n := 68)) ?_
 refine t_then ?_
 refine tri_ret ?_
 refine tri_end1 Tryd.results58 (.tmp rfl) ?_
 exact congrArg (fun x : Bool => AV.v (.bool x)) (show true = difB a b by simp only [difB, Bool.or_true, Bool.true_or, Bool.or_false, Bool.false_or, Bool.and_true, Bool.true_and, Bool.and_false, Bool.false_and, Bool.not_true, Bool.not_false, decide_eq_true hs1, decide_eq_false hs2])
 refine tri_region ?_
 refine t_op rfl (sp_fieldBox (off' := 1) (.tmp 2) rfl Tryd.underlying27 rfl (z := 1) (by kernel_rfl) (by decide) rfl) ⟨I0, T0⟩ T0 T0 ?_
 refine t_op rfl (sp_loadBox1 (Y := .box 27 (cFm a)) (X := iv a.top) (.tmp 5) rfl Tryd.underlying3 rfl rfl) ⟨I0, T0⟩ ⟨rfl, T0⟩ T0 ?_
 refine t_op rfl (sp_fieldBox (off' := 1) (.tmp 3) rfl Tryd.underlying27 rfl (z := 1) (by kernel_rfl) (by decide) rfl) ⟨I0, T0⟩ T0 T0 ?_
 refine t_op rfl (sp_loadBox1 (Y := .box 27 (cFm b)) (X := iv b.top) (.tmp 7) rfl Tryd.underlying3 rfl rfl) ⟨I0, T0⟩ ⟨rfl, T0⟩ T0 ?_
 refine t_op rfl (sp_neq rfl (dF' hs1)) ⟨I0, I0, T0⟩ T0 T0 ?_
 refine t_op rfl (sp_move (.tmp 9) (bv true) rfl) ⟨I0, T0⟩ T0 T0 ?_
 refine t_skip rfl ?_
 refine t_skip rfl ?_
 refine t_skip rfl ?_
 refine t_skip rfl ?_
 refine t_skip rfl ?_
 refine t_op rfl (sp_pick (.tmp 10) (.const (.bool true)) (.tmp 15) true (bv true) (.v (.tuple #[])) rfl) ⟨I0, I0, I0, T0⟩ T0 T0 ?_
 refine t_op rfl (sp_move (.tmp 16) (bv true) rfl) ⟨I0, T0⟩ T0 T0 ?_
 refine t_skip rfl ?_
 refine t_skip rfl ?_
 refine t_skip rfl ?_
 refine t_skip rfl ?_
 refine t_skip rfl ?_
 refine t_skip rfl ?_
 refine t_skip rfl ?_
 refine t_op rfl (sp_pick (.tmp 17) (.const (.bool true)) (.tmp 24) true (bv true) (.v (.tuple #[])) rfl) ⟨I0, I0, I0, T0⟩ T0 T0 ?_
 refine t_op rfl (sp_move (.tmp 25) (bv true) rfl) ⟨I0, T0⟩ T0 T0 ?_
 refine t_skip rfl ?_
 refine t_skip rfl ?_
 refine t_skip rfl ?_
 refine t_skip rfl ?_
 refine t_skip rfl ?_
 refine t_skip rfl ?_
 refine t_skip rfl ?_
 refine t_op rfl (sp_pick (.tmp 26) (.const (.bool true)) (.tmp 33) true (bv true) (.v (.tuple #[])) rfl) ⟨I0, I0, I0, T0⟩ T0 T0 ?_
 refine t_op rfl (sp_move (.tmp 34) (bv true) rfl) ⟨I0, T0⟩ T0 T0 ?_
 refine t_skip rfl ?_
 refine t_skip rfl ?_
 refine t_skip rfl ?_
 refine t_skip rfl ?_
 refine t_skip rfl ?_
 refine t_skip rfl ?_
 refine t_skip rfl ?_
 refine t_op rfl (sp_pick (.tmp 35) (.const (.bool true)) (.tmp 42) true (bv true) (.v (.tuple #[])) rfl) ⟨I0, I0, I0, T0⟩ T0 T0 ?_
 refine t_op rfl (sp_move (.tmp 43) (bv true) rfl) ⟨I0, T0⟩ T0 T0 ?_
 refine t_skip rfl ?_
 refine t_skip rfl ?_
 refine t_skip rfl ?_
 refine t_skip rfl ?_
 refine t_skip rfl ?_
 refine t_skip rfl ?_
 refine t_op rfl (sp_pick (.tmp 44) (.const (.bool true)) (.tmp 50) true (bv true) (.v (.tuple #[])) rfl) ⟨I0, I0, I0, T0⟩ T0 T0 ?_
 refine t_op rfl (sp_move (.tmp 51) (bv true) rfl) ⟨I0, T0⟩ T0 T0 ?_
 refine t_skip rfl ?_
 refine t_skip rfl ?_
 refine t_skip rfl ?_
 refine t_skip rfl ?_
 refine t_skip rfl ?_
 refine t_skip rfl ?_
 refine t_op rfl (sp_pick (.tmp 52) (.const (.bool true)) (.tmp 58) true (bv true) (.v (.tuple #[])) rfl) ⟨I0, I0, I0, T0⟩ T0 T0 ?_
 refine t_op rfl (sp_move (.tmp 59) (bv true) rfl) ⟨I0, T0⟩ T0 T0 ?_
 refine t_skip rfl ?_
 refine t_skip rfl ?_
 refine t_skip rfl ?_
 refine t_skip rfl ?_
 refine t_skip rfl ?_
 refine t_skip rfl ?_
 refine t_op rfl (sp_pick (.tmp 60) (.const (.bool true)) (.tmp 66) true (bv true) (.v (.tuple #[])) rfl) ⟨I0, I0, I0, T0⟩ T0 T0 ?_
 refine t_op rfl (sp_assign (.tmp 67) (bv true) rfl) ⟨I0, T0⟩ T0 T0 ?_
 refine tri_nil ?_
 refine tri_wk (wk_keep [] [(4, bv true)] (n := 68)) ?_
 refine t_then ?_
 refine tri_ret ?_
 refine tri_end1 Tryd.results58 (.tmp rfl) ?_
 exact congrArg (fun x : Bool => AV.v (.bool x)) (show true = difB a b by simp only [difB, Bool.or_true, Bool.true_or, Bool.or_false, Bool.false_or, Bool.and_true, Bool.true_and, Bool.and_false, Bool.false_and, Bool.not_true, Bool.not_false, decide_eq_false hs1])
set_option linter.unusedSimpArgs false in
set_option linter.unusedVariables false in
set_option maxRecDepth 100000 in
set_option maxHeartbeats 6400000 in
theorem qChanged_c {a b : Fm} (HA : FmOk a) (HB : FmOk b) : Ctr Tryd.prog J 22 [.agg (cFm a), .agg (cFm b)] (.tup [.agg (chA a b), iv (chE a b)]) := by
 refine ctr_of_tri Tryd.func22 rfl (by intro X hX; simp only [List.mem_cons, List.not_mem_nil, or_false] at hX; rcases hX with rfl | rfl; exact plain_agg (plain_fm a); exact plain_agg (plain_fm b)) (n := 40) rfl (by simp) (fun w0 => ?_)
 refine tri_wk (wk_keep [] [(0, .agg (cFm a)), (1, .agg (cFm b))] (n := 40)) ?_
 refine tri_seq ?_
 refine tri_region ?_
 refine t_op rfl (sp_box (X := .agg (cFm a)) (k := 1) (.tmp 0) rfl rfl) ⟨I0, T0⟩ T0 rfl ?_
 refine t_op rfl (sp_box (X := .agg (cFm b)) (k := 2) (.tmp 1) rfl rfl) ⟨I0, T0⟩ T0 rfl ?_
 refine t_op rfl (sp_alloc (z := .agg #[.bool false, .bool false, .slice none 0 0]) (k := 3) rfl (by kernel_rfl)) T0 T0 rfl ?_
 refine t_op rfl (sp_assign (.const (.int .i64 0)) (iv 0) rfl) ⟨I0, T0⟩ T0 T0 ?_
 refine tri_nil ?_
 refine tri_wk (wk_keep [(1, .box 27 (cFm a)), (2, .box 27 (cFm b)), (3, .box 44 [bv false, bv false, .v (.slice none 0 0)])] [(2, .box 1 0), (3, .box 2 0), (4, .box 3 0), (5, iv 0)] (n := 40)) ?_
 refine t_then ?_
 refine tri_seq ?_
 refine tri_seq ?_
 refine tri_region ?_
 refine t_op rfl (sp_loadBoxS (Y := .box 27 (cFm a)) (ds := cFm a) (z := 10) (.tmp 2) rfl Tryd.underlying27 rfl (by kernel_rfl) (by decide) (by kernel_rfl) (by kernel_rfl)) ⟨I0, T0⟩ ⟨rfl, T0⟩ T0 ?_
 refine t_op rfl (sp_call (c := .func 57) (xs := #[.tmp 9]) [] (qValidate_c HA) rfl (by kernel_rfl) rfl (Xs := [.agg (cFm a)]) rfl rfl rfl) ⟨I0, I0, T0⟩ T0 T0 ?_
 refine t_op rfl (sp_assign (.tmp 10) (iv (valE a)) rfl) ⟨I0, T0⟩ T0 T0 ?_
 refine tri_nil ?_
 refine tri_wk (wk_keep [(1, .box 27 (cFm a)), (2, .box 27 (cFm b)), (3, .box 44 [bv false, bv false, .v (.slice none 0 0)])] [(2, .box 1 0), (3, .box 2 0), (4, .box 3 0), (5, iv 0), (6, iv (valE a))] (n := 40)) ?_
 refine t_then ?_
 refine tri_seq ?_
 by_cases hs1 : valE a = 0
 refine tri_region ?_
 refine t_op rfl (sp_move (.tmp 6) (iv (valE a)) rfl) ⟨I0, T0⟩ T0 T0 ?_
 refine t_op rfl (sp_neq rfl (dT' hs1)) ⟨I0, I0, T0⟩ T0 T0 ?_
 refine tri_nil ?_
 refine tri_wk (wk_keep [(1, .box 27 (cFm a)), (2, .box 27 (cFm b)), (3, .box 44 [bv false, bv false, .v (.slice none 0 0)])] [(2, .box 1 0), (3, .box 2 0), (4, .box 3 0), (5, iv 0), (6, iv (valE a)), (12, bv false)] (n := 40)) ?_
 refine t_then ?_
 refine t_condF rfl ?_
 refine tri_skip ?_
 refine t_then ?_
 refine tri_seq ?_
 refine tri_seq ?_
 refine tri_region ?_
 refine t_op rfl (sp_loadBoxS (Y := .box 27 (cFm b)) (ds := cFm b) (z := 10) (.tmp 3) rfl Tryd.underlying27 rfl (by kernel_rfl) (by decide) (by kernel_rfl) (by kernel_rfl)) ⟨I0, T0⟩ ⟨rfl, T0⟩ T0 ?_
 refine t_op rfl (sp_call (c := .func 57) (xs := #[.tmp 15]) [] (qValidate_c HB) rfl (by kernel_rfl) rfl (Xs := [.agg (cFm b)]) rfl rfl rfl) ⟨I0, I0, T0⟩ T0 T0 ?_
 refine t_op rfl (sp_assign (.tmp 16) (iv (valE b)) rfl) ⟨I0, T0⟩ T0 T0 ?_
 refine tri_nil ?_
 refine tri_wk (wk_keep [(1, .box 27 (cFm a)), (2, .box 27 (cFm b)), (3, .box 44 [bv false, bv false, .v (.slice none 0 0)])] [(2, .box 1 0), (3, .box 2 0), (4, .box 3 0), (5, iv 0), (7, iv (valE b))] (n := 40)) ?_
 refine t_then ?_
 refine tri_seq ?_
 by_cases hs2 : valE b = 0
 refine tri_region ?_
 refine t_op rfl (sp_move (.tmp 7) (iv (valE b)) rfl) ⟨I0, T0⟩ T0 T0 ?_
 refine t_op rfl (sp_neq rfl (dT' hs2)) ⟨I0, I0, T0⟩ T0 T0 ?_
 refine tri_nil ?_
 refine tri_wk (wk_keep [(1, .box 27 (cFm a)), (2, .box 27 (cFm b)), (3, .box 44 [bv false, bv false, .v (.slice none 0 0)])] [(2, .box 1 0), (3, .box 2 0), (4, .box 3 0), (5, iv 0), (7, iv (valE b)), (18, bv false)] (n := 40)) ?_
 refine t_then ?_
 refine t_condF rfl ?_
 refine tri_skip ?_
 refine t_then ?_
 refine tri_seq ?_
 refine tri_region ?_
 refine t_op rfl (sp_loadBoxS (Y := .box 27 (cFm a)) (ds := cFm a) (z := 10) (.tmp 2) rfl Tryd.underlying27 rfl (by kernel_rfl) (by decide) (by kernel_rfl) (by kernel_rfl)) ⟨I0, T0⟩ ⟨rfl, T0⟩ T0 ?_
 refine t_op rfl (sp_loadBoxS (Y := .box 27 (cFm b)) (ds := cFm b) (z := 10) (.tmp 3) rfl Tryd.underlying27 rfl (by kernel_rfl) (by decide) (by kernel_rfl) (by kernel_rfl)) ⟨I0, T0⟩ ⟨rfl, T0⟩ T0 ?_
 refine t_op rfl (sp_call (c := .func 58) (xs := #[.tmp 21, .tmp 22]) [] (differG HA HB) rfl (by kernel_rfl) rfl (Xs := [.agg (cFm a), .agg (cFm b)]) rfl rfl rfl) ⟨I0, I0, I0, T0⟩ T0 T0 ?_
 refine t_op rfl (sp_assign (.tmp 23) (bv (difB a b)) rfl) ⟨I0, T0⟩ T0 T0 ?_
 refine tri_nil ?_
 refine tri_wk (wk_keep [(1, .box 27 (cFm a)), (2, .box 27 (cFm b)), (3, .box 44 [bv false, bv false, .v (.slice none 0 0)])] [(2, .box 1 0), (3, .box 2 0), (4, .box 3 0), (5, iv 0), (8, bv (difB a b))] (n := 40)) ?_
 refine t_then ?_
 refine tri_seq ?_
 by_cases hs3 : (difB a b) = true
 rw [hs3]
 refine tri_wk (wk_keep [(1, .box 27 (cFm a)), (2, .box 27 (cFm b)), (3, .box 44 [bv false, bv false, .v (.slice none 0 0)])] [(2, .box 1 0), (3, .box 2 0), (4, .box 3 0), (5, iv 0), (8, bv true)] (n := 40)) ?_
 refine tri_draw [⟨[(.tmp 8, bv true)], [], bv true, .no⟩, ⟨[(.tmp 24, bv true)], [], bv false, .no⟩, ⟨[(.tmp 25, bv false)], [], bv false, .no⟩, ⟨[], [], .v undef, .no⟩, ⟨[], [], .v undef, .no⟩, ⟨[], [], .v undef, .no⟩, ⟨[], [], .v undef, .no⟩, ⟨[], [], .v undef, .no⟩, ⟨[(.tmp 26, bv false), (.tmp 31, .v (.tuple #[])), (.const (.bool false), bv false)], [], bv false, .no⟩, ⟨[(.tmp 8, bv true)], [], bv true, .no⟩, ⟨[(.tmp 2, .box 1 0)], [], .box 1 9, .no⟩, ⟨[(.tmp 34, .box 1 9)], [(1, .box 27 (cFm a))], slA 18 cRu a.rules, .no⟩, ⟨[(.tmp 3, .box 2 0)], [], .box 2 9, .no⟩, ⟨[(.tmp 36, .box 2 9)], [(2, .box 27 (cFm b))], slA 18 cRu b.rules, .no⟩, ⟨[(.func 61, .v (.func (.func 61) #[] #[])), (.tmp 35, slA 18 cRu a.rules), (.tmp 37, slA 18 cRu b.rules)], [], .fr (intsA (newTo a.rules b.rules b.rules.length)), .no⟩, ⟨[(.tmp 32, bv false), (.tmp 33, bv true), (.tmp 38, .fr (intsA (newTo a.rules b.rules b.rules.length)))], [], .agg [bv false, bv true, .fr (intsA (newTo a.rules b.rules b.rules.length))], .no⟩, ⟨[(.tmp 4, .box 3 0), (.tmp 39, .agg [bv false, bv true, .fr (intsA (newTo a.rules b.rules b.rules.length))])], [(3, .box 44 [bv false, bv false, .v (.slice none 0 0)])], .v undef, .st 3 (.box 44 [bv false, bv true, .fr (intsA (newTo a.rules b.rules b.rules.length))])⟩, ⟨[(.const (.int .i64 0), iv 0)], [], iv 0, .no⟩] (by kernel_rfl) (by kernel_rfl) ?_
 refine ⟨app_yes rfl (sp_move (.tmp 8) (bv true) rfl) ⟨I0, T0⟩ T0 T0, ?_⟩
 refine ⟨app_yes rfl (sp_not rfl rfl) ⟨I0, T0⟩ T0 T0, ?_⟩
 refine ⟨app_yes rfl (sp_move (.tmp 25) (bv false) rfl) ⟨I0, T0⟩ T0 T0, ?_⟩
 refine ⟨app_no rfl, ?_⟩
 refine ⟨app_no rfl, ?_⟩
 refine ⟨app_no rfl, ?_⟩
 refine ⟨app_no rfl, ?_⟩
 refine ⟨app_no rfl, ?_⟩
 refine ⟨app_yes rfl (sp_pick (.tmp 26) (.tmp 31) (.const (.bool false)) false (.v (.tuple #[])) (bv false) rfl) ⟨I0, I0, I0, T0⟩ T0 T0, ?_⟩
 refine ⟨app_yes rfl (sp_move (.tmp 8) (bv true) rfl) ⟨I0, T0⟩ T0 T0, ?_⟩
 refine ⟨app_yes rfl (sp_fieldBox (off' := 9) (.tmp 2) rfl Tryd.underlying27 rfl (z := 1) (by kernel_rfl) (by decide) rfl) ⟨I0, T0⟩ T0 T0, ?_⟩
 refine ⟨app_yes rfl (sp_loadBox1 (Y := .box 27 (cFm a)) (X := slA 18 cRu a.rules) (.tmp 34) rfl Tryd.underlying25 rfl rfl) ⟨I0, T0⟩ ⟨rfl, T0⟩ T0, ?_⟩
 refine ⟨app_yes rfl (sp_fieldBox (off' := 9) (.tmp 3) rfl Tryd.underlying27 rfl (z := 1) (by kernel_rfl) (by decide) rfl) ⟨I0, T0⟩ T0 T0, ?_⟩
 refine ⟨app_yes rfl (sp_loadBox1 (Y := .box 27 (cFm b)) (X := slA 18 cRu b.rules) (.tmp 36) rfl Tryd.underlying25 rfl rfl) ⟨I0, T0⟩ ⟨rfl, T0⟩ T0, ?_⟩
 refine ⟨app_yes rfl (sp_call (c := .func 61) (xs := #[.tmp 35, .tmp 37]) [] (newRulesG a.rules b.rules HA.rules HB.rules HA.lrules (val_small hs2).1) rfl (by kernel_rfl) rfl (Xs := [slA 18 cRu a.rules, slA 18 cRu b.rules]) rfl rfl rfl) ⟨I0, I0, I0, T0⟩ T0 T0, ?_⟩
 refine ⟨app_yes rfl (sp_bldN [0, 1, 2] [.tmp 32, .tmp 33, .tmp 38] [bv false, bv true, .fr (intsA (newTo a.rules b.rules b.rules.length))] [.inr 0, .inr 1, .inr 2] rfl rfl rfl rfl rfl (fun _ => by kernel_rfl) rfl (ds := [bv false, bv true, .fr (intsA (newTo a.rules b.rules b.rules.length))]) rfl) ⟨I0, I0, I0, T0⟩ T0 T0, ?_⟩
 refine ⟨app_yes rfl (sp_storeBox (T0 := 44) (X := .agg [bv false, bv true, .fr (intsA (newTo a.rules b.rules b.rules.length))]) (cs := [bv false, bv false, .v (.slice none 0 0)]) (ds := [bv false, bv true, .fr (intsA (newTo a.rules b.rules b.rules.length))]) (z := 3) (.tmp 4) (.tmp 39) rfl (by kernel_rfl) (by kernel_rfl) (by kernel_rfl) (of_decide_eq_true (by kernel_rfl)) (by kernel_rfl)) ⟨I0, I0, T0⟩ ⟨rfl, T0⟩ rfl, ?_⟩
 refine ⟨app_yes rfl (sp_assign (.const (.int .i64 0)) (iv 0) rfl) ⟨I0, T0⟩ T0 T0, ?_⟩
 show ETri J w0 _ _ _
 refine tri_wk (wk_keep [(3, .box 44 [bv false, bv true, .fr (intsA (newTo a.rules b.rules b.rules.length))])] [(4, .box 3 0), (5, iv 0)] (n := 40)) ?_
 refine t_then ?_
 refine tri_ret ?_
 refine tri_end2 Tryd.results22 (.cellS rfl rfl Tryd.underlying44 rfl (z := 3) (by kernel_rfl) rfl (by decide)) (.tmp rfl) ?_
 exact ch_ok hs1 hs2 hs3.symm (by rw [hs3]; rfl) rfl
 have hs3f : (difB a b) = false := by simpa using hs3
 rw [hs3f]
 refine tri_wk (wk_keep [(1, .box 27 (cFm a)), (2, .box 27 (cFm b)), (3, .box 44 [bv false, bv false, .v (.slice none 0 0)])] [(2, .box 1 0), (3, .box 2 0), (4, .box 3 0), (5, iv 0), (8, bv false)] (n := 40)) ?_
 refine tri_draw [⟨[(.tmp 8, bv false)], [], bv false, .no⟩, ⟨[(.tmp 24, bv false)], [], bv true, .no⟩, ⟨[(.tmp 25, bv true)], [], bv true, .no⟩, ⟨[(.tmp 2, .box 1 0)], [], .box 1 9, .no⟩, ⟨[(.tmp 27, .box 1 9)], [(1, .box 27 (cFm a))], slA 18 cRu a.rules, .no⟩, ⟨[(.tmp 3, .box 2 0)], [], .box 2 9, .no⟩, ⟨[(.tmp 29, .box 2 9)], [(2, .box 27 (cFm b))], slA 18 cRu b.rules, .no⟩, ⟨[(.func 59, .v (.func (.func 59) #[] #[])), (.tmp 28, slA 18 cRu a.rules), (.tmp 30, slA 18 cRu b.rules), (.func 60, .v (.func (.func 60) #[] #[]))], [], bv (samR a.rules b.rules), .no⟩, ⟨[(.tmp 26, bv true), (.tmp 31, bv (samR a.rules b.rules)), (.const (.bool false), bv false)], [], bv (samR a.rules b.rules), .no⟩, ⟨[(.tmp 8, bv false)], [], bv false, .no⟩, ⟨[(.tmp 2, .box 1 0)], [], .box 1 9, .no⟩, ⟨[(.tmp 34, .box 1 9)], [(1, .box 27 (cFm a))], slA 18 cRu a.rules, .no⟩, ⟨[(.tmp 3, .box 2 0)], [], .box 2 9, .no⟩, ⟨[(.tmp 36, .box 2 9)], [(2, .box 27 (cFm b))], slA 18 cRu b.rules, .no⟩, ⟨[(.func 61, .v (.func (.func 61) #[] #[])), (.tmp 35, slA 18 cRu a.rules), (.tmp 37, slA 18 cRu b.rules)], [], .fr (intsA (newTo a.rules b.rules b.rules.length)), .no⟩, ⟨[(.tmp 32, bv (samR a.rules b.rules)), (.tmp 33, bv false), (.tmp 38, .fr (intsA (newTo a.rules b.rules b.rules.length)))], [], .agg [bv (samR a.rules b.rules), bv false, .fr (intsA (newTo a.rules b.rules b.rules.length))], .no⟩, ⟨[(.tmp 4, .box 3 0), (.tmp 39, .agg [bv (samR a.rules b.rules), bv false, .fr (intsA (newTo a.rules b.rules b.rules.length))])], [(3, .box 44 [bv false, bv false, .v (.slice none 0 0)])], .v undef, .st 3 (.box 44 [bv (samR a.rules b.rules), bv false, .fr (intsA (newTo a.rules b.rules b.rules.length))])⟩, ⟨[(.const (.int .i64 0), iv 0)], [], iv 0, .no⟩] (by kernel_rfl) (by kernel_rfl) ?_
 refine ⟨app_yes rfl (sp_move (.tmp 8) (bv false) rfl) ⟨I0, T0⟩ T0 T0, ?_⟩
 refine ⟨app_yes rfl (sp_not rfl rfl) ⟨I0, T0⟩ T0 T0, ?_⟩
 refine ⟨app_yes rfl (sp_move (.tmp 25) (bv true) rfl) ⟨I0, T0⟩ T0 T0, ?_⟩
 refine ⟨app_yes rfl (sp_fieldBox (off' := 9) (.tmp 2) rfl Tryd.underlying27 rfl (z := 1) (by kernel_rfl) (by decide) rfl) ⟨I0, T0⟩ T0 T0, ?_⟩
 refine ⟨app_yes rfl (sp_loadBox1 (Y := .box 27 (cFm a)) (X := slA 18 cRu a.rules) (.tmp 27) rfl Tryd.underlying25 rfl rfl) ⟨I0, T0⟩ ⟨rfl, T0⟩ T0, ?_⟩
 refine ⟨app_yes rfl (sp_fieldBox (off' := 9) (.tmp 3) rfl Tryd.underlying27 rfl (z := 1) (by kernel_rfl) (by decide) rfl) ⟨I0, T0⟩ T0 T0, ?_⟩
 refine ⟨app_yes rfl (sp_loadBox1 (Y := .box 27 (cFm b)) (X := slA 18 cRu b.rules) (.tmp 29) rfl Tryd.underlying25 rfl rfl) ⟨I0, T0⟩ ⟨rfl, T0⟩ T0, ?_⟩
 refine ⟨app_yes rfl (sp_call (c := .func 59) (xs := #[.tmp 28, .tmp 30, .func 60]) [] (eqPartsG a.rules b.rules HA.rules HB.rules HA.lrules HB.lrules) rfl (by kernel_rfl) rfl (Xs := [slA 18 cRu a.rules, slA 18 cRu b.rules, .v (.func (.func 60) #[] #[])]) rfl rfl rfl) ⟨I0, I0, I0, I0, T0⟩ T0 T0, ?_⟩
 refine ⟨app_yes rfl (sp_pick (.tmp 26) (.tmp 31) (.const (.bool false)) true (bv (samR a.rules b.rules)) (bv false) rfl) ⟨I0, I0, I0, T0⟩ T0 T0, ?_⟩
 refine ⟨app_yes rfl (sp_move (.tmp 8) (bv false) rfl) ⟨I0, T0⟩ T0 T0, ?_⟩
 refine ⟨app_yes rfl (sp_fieldBox (off' := 9) (.tmp 2) rfl Tryd.underlying27 rfl (z := 1) (by kernel_rfl) (by decide) rfl) ⟨I0, T0⟩ T0 T0, ?_⟩
 refine ⟨app_yes rfl (sp_loadBox1 (Y := .box 27 (cFm a)) (X := slA 18 cRu a.rules) (.tmp 34) rfl Tryd.underlying25 rfl rfl) ⟨I0, T0⟩ ⟨rfl, T0⟩ T0, ?_⟩
 refine ⟨app_yes rfl (sp_fieldBox (off' := 9) (.tmp 3) rfl Tryd.underlying27 rfl (z := 1) (by kernel_rfl) (by decide) rfl) ⟨I0, T0⟩ T0 T0, ?_⟩
 refine ⟨app_yes rfl (sp_loadBox1 (Y := .box 27 (cFm b)) (X := slA 18 cRu b.rules) (.tmp 36) rfl Tryd.underlying25 rfl rfl) ⟨I0, T0⟩ ⟨rfl, T0⟩ T0, ?_⟩
 refine ⟨app_yes rfl (sp_call (c := .func 61) (xs := #[.tmp 35, .tmp 37]) [] (newRulesG a.rules b.rules HA.rules HB.rules HA.lrules (val_small hs2).1) rfl (by kernel_rfl) rfl (Xs := [slA 18 cRu a.rules, slA 18 cRu b.rules]) rfl rfl rfl) ⟨I0, I0, I0, T0⟩ T0 T0, ?_⟩
 refine ⟨app_yes rfl (sp_bldN [0, 1, 2] [.tmp 32, .tmp 33, .tmp 38] [bv (samR a.rules b.rules), bv false, .fr (intsA (newTo a.rules b.rules b.rules.length))] [.inr 0, .inr 1, .inr 2] rfl rfl rfl rfl rfl (fun _ => by kernel_rfl) rfl (ds := [bv (samR a.rules b.rules), bv false, .fr (intsA (newTo a.rules b.rules b.rules.length))]) rfl) ⟨I0, I0, I0, T0⟩ T0 T0, ?_⟩
 refine ⟨app_yes rfl (sp_storeBox (T0 := 44) (X := .agg [bv (samR a.rules b.rules), bv false, .fr (intsA (newTo a.rules b.rules b.rules.length))]) (cs := [bv false, bv false, .v (.slice none 0 0)]) (ds := [bv (samR a.rules b.rules), bv false, .fr (intsA (newTo a.rules b.rules b.rules.length))]) (z := 3) (.tmp 4) (.tmp 39) rfl (by kernel_rfl) (by kernel_rfl) (by kernel_rfl) (of_decide_eq_true (by kernel_rfl)) (by kernel_rfl)) ⟨I0, I0, T0⟩ ⟨rfl, T0⟩ rfl, ?_⟩
 refine ⟨app_yes rfl (sp_assign (.const (.int .i64 0)) (iv 0) rfl) ⟨I0, T0⟩ T0 T0, ?_⟩
 show ETri J w0 _ _ _
 refine tri_wk (wk_keep [(3, .box 44 [bv (samR a.rules b.rules), bv false, .fr (intsA (newTo a.rules b.rules b.rules.length))])] [(4, .box 3 0), (5, iv 0)] (n := 40)) ?_
 refine t_then ?_
 refine tri_ret ?_
 refine tri_end2 Tryd.results22 (.cellS rfl rfl Tryd.underlying44 rfl (z := 3) (by kernel_rfl) rfl (by decide)) (.tmp rfl) ?_
 exact ch_ok hs1 hs2 hs3f.symm (by rw [hs3f]; rfl) rfl
 refine tri_region ?_
 refine t_op rfl (sp_move (.tmp 7) (iv (valE b)) rfl) ⟨I0, T0⟩ T0 T0 ?_
 refine t_op rfl (sp_neq rfl (dF' hs2)) ⟨I0, I0, T0⟩ T0 T0 ?_
 refine tri_nil ?_
 refine tri_wk (wk_keep [(1, .box 27 (cFm a)), (2, .box 27 (cFm b)), (3, .box 44 [bv false, bv false, .v (.slice none 0 0)])] [(2, .box 1 0), (3, .box 2 0), (4, .box 3 0), (5, iv 0), (7, iv (valE b)), (18, bv true)] (n := 40)) ?_
 refine t_then ?_
 refine t_condT rfl ?_
 refine tri_seq ?_
 refine tri_region ?_
 refine t_op rfl (sp_bld [] #[.bool false, .bool false, .slice none 0 0] rfl rfl (by kernel_rfl) rfl) T0 T0 T0 ?_
 refine t_op rfl (sp_move (.tmp 7) (iv (valE b)) rfl) ⟨I0, T0⟩ T0 T0 ?_
 refine t_op rfl (sp_storeBox (T0 := 44) (X := .agg [bv false, bv false, .v (.slice none 0 0)]) (cs := [bv false, bv false, .v (.slice none 0 0)]) (ds := [bv false, bv false, .v (.slice none 0 0)]) (z := 3) (.tmp 4) (.tmp 19) rfl (by kernel_rfl) (by kernel_rfl) (by kernel_rfl) (of_decide_eq_true (by kernel_rfl)) (by kernel_rfl)) ⟨I0, I0, T0⟩ ⟨rfl, T0⟩ rfl ?_
 refine t_op rfl (sp_assign (.tmp 20) (iv (valE b)) rfl) ⟨I0, T0⟩ T0 T0 ?_
 refine tri_nil ?_
 refine tri_wk (wk_keep [(1, .box 27 (cFm a)), (2, .box 27 (cFm b)), (3, .box 44 [bv false, bv false, .v (.slice none 0 0)])] [(2, .box 1 0), (3, .box 2 0), (4, .box 3 0), (5, iv (valE b))] (n := 40)) ?_
 refine t_then ?_
 refine tri_ret ?_
 refine t_then_ret ?_
 refine tri_wk (wk_adoptB 3 2 4 true 3 1 rfl rfl rfl rfl) ?_
 refine tri_end2 Tryd.results22 (.cellS rfl rfl Tryd.underlying44 rfl (z := 3) (by kernel_rfl) rfl (by decide)) (.tmp rfl) ?_
 exact ch_e2 hs1 hs2
 refine tri_region ?_
 refine t_op rfl (sp_move (.tmp 6) (iv (valE a)) rfl) ⟨I0, T0⟩ T0 T0 ?_
 refine t_op rfl (sp_neq rfl (dF' hs1)) ⟨I0, I0, T0⟩ T0 T0 ?_
 refine tri_nil ?_
 refine tri_wk (wk_keep [(1, .box 27 (cFm a)), (2, .box 27 (cFm b)), (3, .box 44 [bv false, bv false, .v (.slice none 0 0)])] [(2, .box 1 0), (3, .box 2 0), (4, .box 3 0), (5, iv 0), (6, iv (valE a)), (12, bv true)] (n := 40)) ?_
 refine t_then ?_
 refine t_condT rfl ?_
 refine tri_seq ?_
 refine tri_region ?_
 refine t_op rfl (sp_bld [] #[.bool false, .bool false, .slice none 0 0] rfl rfl (by kernel_rfl) rfl) T0 T0 T0 ?_
 refine t_op rfl (sp_move (.tmp 6) (iv (valE a)) rfl) ⟨I0, T0⟩ T0 T0 ?_
 refine t_op rfl (sp_storeBox (T0 := 44) (X := .agg [bv false, bv false, .v (.slice none 0 0)]) (cs := [bv false, bv false, .v (.slice none 0 0)]) (ds := [bv false, bv false, .v (.slice none 0 0)]) (z := 3) (.tmp 4) (.tmp 13) rfl (by kernel_rfl) (by kernel_rfl) (by kernel_rfl) (of_decide_eq_true (by kernel_rfl)) (by kernel_rfl)) ⟨I0, I0, T0⟩ ⟨rfl, T0⟩ rfl ?_
 refine t_op rfl (sp_assign (.tmp 14) (iv (valE a)) rfl) ⟨I0, T0⟩ T0 T0 ?_
 refine tri_nil ?_
 refine tri_wk (wk_keep [(1, .box 27 (cFm a)), (2, .box 27 (cFm b)), (3, .box 44 [bv false, bv false, .v (.slice none 0 0)])] [(2, .box 1 0), (3, .box 2 0), (4, .box 3 0), (5, iv (valE a))] (n := 40)) ?_
 refine t_then ?_
 refine tri_ret ?_
 refine t_then_ret ?_
 refine tri_wk (wk_adoptB 3 2 4 true 3 1 rfl rfl rfl rfl) ?_
 refine tri_end2 Tryd.results22 (.cellS rfl rfl Tryd.underlying44 rfl (z := 3) (by kernel_rfl) rfl (by decide)) (.tmp rfl) ?_
 exact ch_e1 hs1
end Go.Proofs.YtpadmggccpgajaaDoor
