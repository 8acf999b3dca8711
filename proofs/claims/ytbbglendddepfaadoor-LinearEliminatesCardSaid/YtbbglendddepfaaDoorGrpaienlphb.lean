import Derived.Test.YtbbglendddepfaaDoorGrpgflmeckk
set_option linter.all false
namespace Go.Proofs.YtbbglendddepfaaDoor
open Go.RowKit Go.Deep
variable {J : World → Prop}
set_option linter.unusedSimpArgs false in
set_option linter.unusedVariables false in
set_option maxRecDepth 100000 in
set_option maxHeartbeats 6400000 in
theorem lEliminate_in {p m : Nat} {rs : List Rw} (H : SyOk rs) (hv : valS ((p : Nat) : Int) rs = 0) (hm : m < p) : Ctr Tryd.prog J 21 [.agg (cSy ((p : Nat) : Int) rs), iv m] (.tup [.agg (cSy (Elm.EN ((p : Nat) : Int) ((m : Nat) : Int) rs) (Elm.ER ((p : Nat) : Int) ((m : Nat) : Int) rs)), iv (Elm.EE ((p : Nat) : Int) ((m : Nat) : Int) rs)]) := by
 have F := Elm.fit_of hv hm
 have hl : rs.length ≤ 250 := Nat.le_trans F.n (by decide)
 have ol := Elm.oth_len (m := m) (rs := rs)
 have ll := Elm.low_len (p := p) (m := m) (rs := rs)
 have ul := Elm.upp_len (m := m) (rs := rs)
 have hp96 := F.p96
 refine ctrB_of_tri Tryd.func21 rfl (by intro X hX; simp only [List.mem_cons, List.not_mem_nil, or_false] at hX; rcases hX with rfl | rfl; exact plain_agg (plain_sy _ rs); exact .v _) (n := 82) rfl (by simp) (fun w0 hb0 => ?_)
 refine kW 82 [] [(0, .agg (cSy ((p : Nat) : Int) rs)), (1, iv m)] ?_
 refine tri_seq ?_
 refine tri_region ?_
 refine oA (sp_boxR (X := .agg (cSy ((p : Nat) : Int) rs)) (.tmp 0) rfl rfl rfl) I0 ?_
 refine t_op rfl (sp_alloc (z := .agg #[.int .i64 0, .slice none 0 0]) (k := 1) rfl (by kernel_rfl)) T0 T0 rfl ?_
 refine oA (sp_assign (.const (.int .i64 0)) (iv 0) rfl) I0 ?_
 refine kN 82 [(1, .box 24 [iv 0, .v (.slice none 0 0)])] [(1, iv m), (2, .el (cSy ((p : Nat) : Int) rs) 0), (4, .box 1 0), (5, iv 0)] ?_
 refine t_then ?_
 refine tri_seq ?_
 refine tri_seq ?_
 refine tri_region ?_
 refine oA (sp_loadElS (z := 2) (.tmp 2) rfl Tryd.underlying24 rfl (by kernel_rfl) rfl rfl) I0 ?_
 refine oC (sp_call (c := .func 32) (xs := #[.tmp 16]) [] (lValidate_c H) rfl (by kernel_rfl) rfl (Xs := [.agg (cSy ((p : Nat) : Int) rs)]) rfl rfl rfl) I0 I0 ?_
 refine oA (sp_assign (.tmp 17) (iv (valS ((p : Nat) : Int) rs)) rfl) I0 ?_
 refine kN 82 [(1, .box 24 [iv 0, .v (.slice none 0 0)])] [(1, iv m), (2, .el (cSy ((p : Nat) : Int) rs) 0), (4, .box 1 0), (5, iv 0), (6, iv (valS ((p : Nat) : Int) rs))] ?_
 refine t_then ?_
 refine tri_seq ?_
 refine tri_region ?_
 refine oA (sp_move (.tmp 6) (iv (valS ((p : Nat) : Int) rs)) rfl) I0 ?_
 refine oC (sp_neq rfl (dT' hv)) I0 I0 ?_
 refine kN 82 [(1, .box 24 [iv 0, .v (.slice none 0 0)])] [(1, iv m), (2, .el (cSy ((p : Nat) : Int) rs) 0), (4, .box 1 0), (5, iv 0), (6, iv (valS ((p : Nat) : Int) rs)), (19, bv false)] ?_
 refine t_then ?_
 refine t_condF rfl ?_
 refine tri_skip ?_
 refine t_then ?_
 refine tri_seq ?_
 refine tri_seq ?_
 refine tri_region ?_
 refine oA (sp_move (.tmp 1) (iv m) rfl) I0 ?_
 refine oC (sp_lss rfl (dF (by omega))) I0 I0 ?_
 refine oA (sp_move (.tmp 23) (bv false) rfl) I0 ?_
 refine gA (sp_move (.tmp 1) (iv m) rfl) I0 ?_
 refine gA (sp_fieldEl (off' := 0) (.tmp 2) rfl Tryd.underlying24 rfl (z := 1) (by kernel_rfl) (by decide) rfl) I0 ?_
 refine gA (sp_loadEl1 (X := iv p) (.tmp 26) rfl Tryd.underlying3 rfl rfl) I0 ?_
 refine gC (sp_geq rfl (dF (by omega))) I0 I0 ?_
 refine oD (sp_pick (.tmp 24) (.const (.bool true)) (.tmp 28) false (bv true) (bv false) rfl) I0 I0 I0 ?_
 refine kN 82 [(1, .box 24 [iv 0, .v (.slice none 0 0)])] [(1, iv m), (2, .el (cSy ((p : Nat) : Int) rs) 0), (4, .box 1 0), (5, iv 0), (29, bv false)] ?_
 refine t_then ?_
 refine t_condF rfl ?_
 refine tri_skip ?_
 refine t_then ?_
 refine tri_seq ?_
 refine tri_region ?_
 refine oA (sp_loadElS (z := 2) (.tmp 2) rfl Tryd.underlying24 rfl (by kernel_rfl) rfl rfl) I0 ?_
 refine oA (sp_move (.tmp 1) (iv m) rfl) I0 ?_
 refine kW 82 [(1, .box 24 [iv 0, .v (.slice none 0 0)])] [(1, iv m), (2, .el (cSy ((p : Nat) : Int) rs) 0), (4, .box 1 0), (5, iv 0), (29, bv false), (32, .agg (cSy ((p : Nat) : Int) rs)), (33, iv m)] ?_
 refine tri_callL (c := .func 42) (xs := #[.tmp 32, .tmp 33]) (k := 2) [.int .i64 0, .slice none 0 0] [.agg (cSy ((p : Nat) : Int) rs), iv m] hb0 (bounds_L hp96 hm (fun r hr => by rw [F.len r hr]; exact hm) hl 2) rfl rfl rfl (by kernel_rfl) rfl rfl rfl rfl rfl rfl ?_
 refine oA (sp_move (.tmp 34) (.tup [.own 2, slA 2 cRo (Elm.low p m rs), slA 2 cRo (Elm.upp m rs)]) rfl) I0 ?_
 refine oA (sp_extract (X := .own 2) (.tmp 31) rfl rfl) I0 ?_
 refine oA (sp_extract (X := slA 2 cRo (Elm.low p m rs)) (.tmp 31) rfl rfl) I0 ?_
 refine oA (sp_extract (X := slA 2 cRo (Elm.upp m rs)) (.tmp 31) rfl rfl) I0 ?_
 refine oA (sp_assign (.tmp 35) (.own 2) rfl) I0 ?_
 refine oA (sp_assign (.tmp 36) (slA 2 cRo (Elm.low p m rs)) rfl) I0 ?_
 refine oA (sp_assign (.tmp 37) (slA 2 cRo (Elm.upp m rs)) rfl) I0 ?_
 refine kN 82 [(1, .box 24 [iv 0, .v (.slice none 0 0)]), (2, .row false 39 2 ((Elm.oth m rs).length) ((Elm.oth m rs).flatMap cRo))] [(1, iv m), (2, .el (cSy ((p : Nat) : Int) rs) 0), (4, .box 1 0), (5, iv 0), (7, .own 2), (8, slA 2 cRo (Elm.low p m rs)), (9, slA 2 cRo (Elm.upp m rs))] ?_
 refine t_then ?_
 refine tri_seq ?_
 refine tri_seq ?_
 by_cases hs1 : 192 < (Elm.szE p m rs)
 refine tri_region ?_
 refine oA (sp_move (.tmp 7) (.own 2) rfl) I0 ?_
 refine oB (sp_lenOwn (.tmp 38) rfl Tryd.underlying22) I0 rfl ?_
 refine oA (sp_move (.tmp 8) (slA 2 cRo (Elm.low p m rs)) rfl) I0 ?_
 refine oA (sp_lenSl (.tmp 40) rfl Tryd.underlying22) I0 ?_
 refine oA (sp_move (.tmp 9) (slA 2 cRo (Elm.upp m rs)) rfl) I0 ?_
 refine oA (sp_lenSl (.tmp 42) rfl Tryd.underlying22) I0 ?_
 refine oC (sp_mul (c := (Elm.mulE p m rs)) rfl (Elm.wrap_mul hl)) I0 I0 ?_
 refine oC (sp_add (c := (Elm.szE p m rs)) rfl (Elm.wrap_sz hl)) I0 I0 ?_
 refine oC (sp_gtr rfl (dT hs1)) I0 I0 ?_
 refine kN 82 [(1, .box 24 [iv 0, .v (.slice none 0 0)]), (2, .row false 39 2 ((Elm.oth m rs).length) ((Elm.oth m rs).flatMap cRo))] [(1, iv m), (2, .el (cSy ((p : Nat) : Int) rs) 0), (4, .box 1 0), (5, iv 0), (7, .own 2), (8, slA 2 cRo (Elm.low p m rs)), (9, slA 2 cRo (Elm.upp m rs)), (46, bv true)] ?_
 refine t_then ?_
 refine t_condT rfl ?_
 refine tri_seq ?_
 refine tri_region ?_
 refine t_op rfl (sp_bld [] #[.int .i64 0, .slice none 0 0] rfl rfl (by kernel_rfl) rfl) T0 T0 T0 ?_
 refine t_op rfl (sp_storeBox (T0 := 24) (X := .agg [iv 0, .v (.slice none 0 0)]) (cs := [iv 0, .v (.slice none 0 0)]) (ds := [iv 0, .v (.slice none 0 0)]) (z := 2) (.tmp 4) (.tmp 47) rfl (by kernel_rfl) (by kernel_rfl) (by kernel_rfl) (of_decide_eq_true (by kernel_rfl)) (by kernel_rfl)) ⟨I0, I0, T0⟩ ⟨rfl, T0⟩ rfl ?_
 refine oA (sp_assign (.const (.int .i64 4)) (iv 4) rfl) I0 ?_
 refine kN 82 [(1, .box 24 [iv 0, .v (.slice none 0 0)]), (2, .row false 39 2 ((Elm.oth m rs).length) ((Elm.oth m rs).flatMap cRo))] [(1, iv m), (2, .el (cSy ((p : Nat) : Int) rs) 0), (4, .box 1 0), (5, iv 4), (7, .own 2), (8, slA 2 cRo (Elm.low p m rs)), (9, slA 2 cRo (Elm.upp m rs))] ?_
 refine t_then ?_
 refine tri_ret ?_
 refine t_then_ret ?_
 refine tri_wk (wk_adoptB 1 1 3 true 39 2 rfl rfl rfl rfl) ?_
 refine tri_end2 Tryd.results21 (.cellS rfl rfl Tryd.underlying24 rfl (z := 2) (by kernel_rfl) rfl (by decide)) (.tmp rfl) ?_
 exact Elm.el_big hv hm hs1
 refine tri_region ?_
 refine oA (sp_move (.tmp 7) (.own 2) rfl) I0 ?_
 refine oB (sp_lenOwn (.tmp 38) rfl Tryd.underlying22) I0 rfl ?_
 refine oA (sp_move (.tmp 8) (slA 2 cRo (Elm.low p m rs)) rfl) I0 ?_
 refine oA (sp_lenSl (.tmp 40) rfl Tryd.underlying22) I0 ?_
 refine oA (sp_move (.tmp 9) (slA 2 cRo (Elm.upp m rs)) rfl) I0 ?_
 refine oA (sp_lenSl (.tmp 42) rfl Tryd.underlying22) I0 ?_
 refine oC (sp_mul (c := (Elm.mulE p m rs)) rfl (Elm.wrap_mul hl)) I0 I0 ?_
 refine oC (sp_add (c := (Elm.szE p m rs)) rfl (Elm.wrap_sz hl)) I0 I0 ?_
 refine oC (sp_gtr rfl (dF hs1)) I0 I0 ?_
 refine kN 82 [(1, .box 24 [iv 0, .v (.slice none 0 0)]), (2, .row false 39 2 ((Elm.oth m rs).length) ((Elm.oth m rs).flatMap cRo))] [(1, iv m), (2, .el (cSy ((p : Nat) : Int) rs) 0), (4, .box 1 0), (5, iv 0), (7, .own 2), (8, slA 2 cRo (Elm.low p m rs)), (9, slA 2 cRo (Elm.upp m rs)), (46, bv false)] ?_
 refine t_then ?_
 refine t_condF rfl ?_
 refine tri_skip ?_
 refine t_then ?_
 refine tri_seq ?_
 refine tri_seq ?_
 refine tri_region ?_
 refine oA (sp_move (.tmp 8) (slA 2 cRo (Elm.low p m rs)) rfl) I0 ?_
 refine oA (sp_lenSl (.tmp 48) rfl Tryd.underlying22) I0 ?_
 refine oA (sp_move (.const (.int .i64 0)) (iv 0) rfl) I0 ?_
 refine kN 82 [(1, .box 24 [iv 0, .v (.slice none 0 0)]), (2, .row false 39 2 ((Elm.oth m rs).length) ((Elm.oth m rs).flatMap cRo))] [(1, iv m), (2, .el (cSy ((p : Nat) : Int) rs) 0), (4, .box 1 0), (5, iv 0), (7, .own 2), (9, slA 2 cRo (Elm.upp m rs)), (48, slA 2 cRo (Elm.low p m rs)), (49, iv ((Elm.low p m rs).length : Nat)), (50, iv 0)] ?_
 refine t_then ?_
 refine tri_block ?_
 refine tri_loop (σ := {q : Nat × List Rw // q.1 ≤ (Elm.low p m rs).length ∧ q.2 = Elm.oth m rs ++ Elm.pairs m ((Elm.low p m rs).take q.1) (Elm.upp m rs) ∧ (∀ l ∈ (Elm.low p m rs).take q.1, ∀ u ∈ (Elm.upp m rs), Elm.okE m l u = true) ∧ q.2.length ≤ 250 + 250 * q.1}) (fun s => (ofL [(1, .box 24 [iv 0, .v (.slice none 0 0)]), (2, .row false 39 2 s.1.2.length (s.1.2.flatMap cRo))], ofT 82 [(1, iv m), (2, .el (cSy ((p : Nat) : Int) rs) 0), (4, .box 1 0), (7, .own 2), (9, slA 2 cRo (Elm.upp m rs)), (48, slA 2 cRo (Elm.low p m rs)), (49, iv ((Elm.low p m rs).length : Nat)), (50, iv s.1.1)])) (fun s => (Elm.low p m rs).length - s.1.1) ⟨(0, Elm.oth m rs), Nat.zero_le _, by simp [Elm.pairs], by simp, by dsimp only; omega⟩ (wk_keep _ _ rfl (by kernel_rfl) (by kernel_rfl)) (fun s => ?_)
 obtain ⟨⟨i, L⟩, hi0, hL, hLo, hLb⟩ := s
 show ETri J w0 (ofL [(1, .box 24 [iv 0, .v (.slice none 0 0)]), (2, .row false 39 2 L.length (L.flatMap cRo))]) (ofT 82 [(1, iv m), (2, .el (cSy ((p : Nat) : Int) rs) 0), (4, .box 1 0), (7, .own 2), (9, slA 2 cRo (Elm.upp m rs)), (48, slA 2 cRo (Elm.low p m rs)), (49, iv ((Elm.low p m rs).length : Nat)), (50, iv i)]) _
 dsimp only at hi0 hL hLo hLb
 refine tri_seq ?_
 by_cases hs2 : ((i : Nat) : Int) < (((Elm.low p m rs).length : Nat) : Int)
 have hi1 : i < (Elm.low p m rs).length := by omega
 refine tri_region ?_
 refine oC (sp_lss rfl (dT hs2)) I0 I0 ?_
 refine kN 82 [(1, .box 24 [iv 0, .v (.slice none 0 0)]), (2, .row false 39 2 L.length (L.flatMap cRo))] [(1, iv m), (2, .el (cSy ((p : Nat) : Int) rs) 0), (4, .box 1 0), (7, .own 2), (9, slA 2 cRo (Elm.upp m rs)), (48, slA 2 cRo (Elm.low p m rs)), (49, iv ((Elm.low p m rs).length : Nat)), (50, iv i), (51, bv true)] ?_
 refine t_then ?_
 refine tri_seq ?_
 refine t_condT rfl ?_
 refine tri_skip ?_
 refine t_then ?_
 refine tri_seq ?_
 refine tri_block ?_
 refine tri_seq ?_
 refine tri_region ?_
 refine oC (sp_indexSl (off := i * 2) (.tmp 48) (.tmp 50) rfl Tryd.underlying22 (by kernel_rfl) (by omega) (by omega) rfl) I0 I0 ?_
 refine oA (sp_loadElS (z := 2) (.tmp 52) rfl Tryd.underlying39 rfl (by kernel_rfl) (flat_take lenRo (Elm.low p m rs) i (by omega)) rfl) I0 ?_
 refine t_op rfl (sp_alloc (z := .agg #[.slice none 0 0, .int .i64 0]) (k := 3) rfl (by kernel_rfl)) T0 T0 rfl ?_
 refine t_op rfl (sp_storeBox (T0 := 39) (X := .agg (cRo (Elm.low p m rs)[i])) (cs := [.v (.slice none 0 0), iv 0]) (ds := cRo (Elm.low p m rs)[i]) (z := 2) (.tmp 11) (.tmp 53) rfl (by kernel_rfl) (by kernel_rfl) (by kernel_rfl) (of_decide_eq_true (by kernel_rfl)) (by kernel_rfl)) ⟨I0, I0, T0⟩ ⟨rfl, T0⟩ rfl ?_
 refine kN 82 [(1, .box 24 [iv 0, .v (.slice none 0 0)]), (2, .row false 39 2 L.length (L.flatMap cRo)), (3, .box 39 (cRo (Elm.low p m rs)[i]))] [(1, iv m), (2, .el (cSy ((p : Nat) : Int) rs) 0), (4, .box 1 0), (7, .own 2), (9, slA 2 cRo (Elm.upp m rs)), (11, .box 3 0), (48, slA 2 cRo (Elm.low p m rs)), (49, iv ((Elm.low p m rs).length : Nat)), (50, iv i), (51, bv true)] ?_
 refine t_then ?_
 refine tri_seq ?_
 refine tri_region ?_
 refine oA (sp_move (.tmp 9) (slA 2 cRo (Elm.upp m rs)) rfl) I0 ?_
 refine oA (sp_lenSl (.tmp 54) rfl Tryd.underlying22) I0 ?_
 refine oA (sp_move (.const (.int .i64 0)) (iv 0) rfl) I0 ?_
 refine kN 82 [(1, .box 24 [iv 0, .v (.slice none 0 0)]), (2, .row false 39 2 L.length (L.flatMap cRo)), (3, .box 39 (cRo (Elm.low p m rs)[i]))] [(1, iv m), (2, .el (cSy ((p : Nat) : Int) rs) 0), (4, .box 1 0), (7, .own 2), (9, slA 2 cRo (Elm.upp m rs)), (11, .box 3 0), (48, slA 2 cRo (Elm.low p m rs)), (49, iv ((Elm.low p m rs).length : Nat)), (50, iv i), (51, bv true), (54, slA 2 cRo (Elm.upp m rs)), (55, iv ((Elm.upp m rs).length : Nat)), (56, iv 0)] ?_
 refine t_then ?_
 refine tri_block ?_
 refine tri_loop (σ := {q : Nat × List Rw // q.1 ≤ (Elm.upp m rs).length ∧ q.2 = L ++ ((Elm.upp m rs).take q.1).map (Elm.mixR m (Elm.low p m rs)[i]) ∧ (∀ u ∈ (Elm.upp m rs).take q.1, Elm.okE m (Elm.low p m rs)[i] u = true) ∧ q.2.length ≤ 250 + 250 * i + q.1}) (fun s => (ofL [(1, .box 24 [iv 0, .v (.slice none 0 0)]), (2, .row false 39 2 s.1.2.length (s.1.2.flatMap cRo)), (3, .box 39 (cRo (Elm.low p m rs)[i]))], ofT 82 [(1, iv m), (2, .el (cSy ((p : Nat) : Int) rs) 0), (4, .box 1 0), (7, .own 2), (9, slA 2 cRo (Elm.upp m rs)), (11, .box 3 0), (48, slA 2 cRo (Elm.low p m rs)), (49, iv ((Elm.low p m rs).length : Nat)), (50, iv i), (51, bv true), (54, slA 2 cRo (Elm.upp m rs)), (55, iv ((Elm.upp m rs).length : Nat)), (56, iv s.1.1)])) (fun s => (Elm.upp m rs).length - s.1.1) ⟨(0, L), Nat.zero_le _, by simp, by simp, by dsimp only; omega⟩ (wk_keep _ _ rfl (by kernel_rfl) (by kernel_rfl)) (fun s => ?_)
 obtain ⟨⟨j, L2⟩, hj0, hL2, hL2o, hL2b⟩ := s
 show ETri J w0 (ofL [(1, .box 24 [iv 0, .v (.slice none 0 0)]), (2, .row false 39 2 L2.length (L2.flatMap cRo)), (3, .box 39 (cRo (Elm.low p m rs)[i]))]) (ofT 82 [(1, iv m), (2, .el (cSy ((p : Nat) : Int) rs) 0), (4, .box 1 0), (7, .own 2), (9, slA 2 cRo (Elm.upp m rs)), (11, .box 3 0), (48, slA 2 cRo (Elm.low p m rs)), (49, iv ((Elm.low p m rs).length : Nat)), (50, iv i), (51, bv true), (54, slA 2 cRo (Elm.upp m rs)), (55, iv ((Elm.upp m rs).length : Nat)), (56, iv j)]) _
 dsimp only at hj0 hL2 hL2o hL2b
 refine tri_seq ?_
 by_cases hs3 : ((j : Nat) : Int) < (((Elm.upp m rs).length : Nat) : Int)
 have hj1 : j < (Elm.upp m rs).length := by omega
 refine tri_region ?_
 refine oC (sp_lss rfl (dT hs3)) I0 I0 ?_
 refine kN 82 [(1, .box 24 [iv 0, .v (.slice none 0 0)]), (2, .row false 39 2 L2.length (L2.flatMap cRo)), (3, .box 39 (cRo (Elm.low p m rs)[i]))] [(1, iv m), (2, .el (cSy ((p : Nat) : Int) rs) 0), (4, .box 1 0), (7, .own 2), (9, slA 2 cRo (Elm.upp m rs)), (11, .box 3 0), (48, slA 2 cRo (Elm.low p m rs)), (49, iv ((Elm.low p m rs).length : Nat)), (50, iv i), (51, bv true), (54, slA 2 cRo (Elm.upp m rs)), (55, iv ((Elm.upp m rs).length : Nat)), (56, iv j), (57, bv true)] ?_
 refine t_then ?_
 refine tri_seq ?_
 refine t_condT rfl ?_
 refine tri_skip ?_
 refine t_then ?_
 refine tri_seq ?_
 refine tri_block ?_
 refine tri_seq ?_
 refine tri_region ?_
 refine oC (sp_indexSl (off := j * 2) (.tmp 54) (.tmp 56) rfl Tryd.underlying22 (by kernel_rfl) (by omega) (by omega) rfl) I0 I0 ?_
 refine oA (sp_loadElS (z := 2) (.tmp 58) rfl Tryd.underlying39 rfl (by kernel_rfl) (flat_take lenRo (Elm.upp m rs) j (by omega)) rfl) I0 ?_
 refine t_op rfl (sp_alloc (z := .agg #[.slice none 0 0, .int .i64 0]) (k := 4) rfl (by kernel_rfl)) T0 T0 rfl ?_
 refine t_op rfl (sp_storeBox (T0 := 39) (X := .agg (cRo (Elm.upp m rs)[j])) (cs := [.v (.slice none 0 0), iv 0]) (ds := cRo (Elm.upp m rs)[j]) (z := 2) (.tmp 13) (.tmp 59) rfl (by kernel_rfl) (by kernel_rfl) (by kernel_rfl) (of_decide_eq_true (by kernel_rfl)) (by kernel_rfl)) ⟨I0, I0, T0⟩ ⟨rfl, T0⟩ rfl ?_
 refine kN 82 [(1, .box 24 [iv 0, .v (.slice none 0 0)]), (2, .row false 39 2 L2.length (L2.flatMap cRo)), (3, .box 39 (cRo (Elm.low p m rs)[i])), (4, .box 39 (cRo (Elm.upp m rs)[j]))] [(1, iv m), (2, .el (cSy ((p : Nat) : Int) rs) 0), (4, .box 1 0), (7, .own 2), (9, slA 2 cRo (Elm.upp m rs)), (11, .box 3 0), (13, .box 4 0), (48, slA 2 cRo (Elm.low p m rs)), (49, iv ((Elm.low p m rs).length : Nat)), (50, iv i), (51, bv true), (54, slA 2 cRo (Elm.upp m rs)), (55, iv ((Elm.upp m rs).length : Nat)), (56, iv j), (57, bv true)] ?_
 refine t_then ?_
 refine tri_seq ?_
 refine tri_region ?_
 refine oB (sp_loadBoxS (Y := .box 39 (cRo (Elm.low p m rs)[i])) (ds := cRo (Elm.low p m rs)[i]) (z := 2) (.tmp 11) rfl Tryd.underlying39 rfl (by kernel_rfl) (by decide) (by kernel_rfl) (by kernel_rfl)) I0 rfl ?_
 refine oB (sp_loadBoxS (Y := .box 39 (cRo (Elm.upp m rs)[j])) (ds := cRo (Elm.upp m rs)[j]) (z := 2) (.tmp 13) rfl Tryd.underlying39 rfl (by kernel_rfl) (by decide) (by kernel_rfl) (by kernel_rfl)) I0 rfl ?_
 refine oA (sp_move (.tmp 1) (iv m) rfl) I0 ?_
 refine t_op rfl (sp_call (c := .func 43) (xs := #[.tmp 61, .tmp 62, .tmp 63]) [] (cancel_c (F.pair (List.getElem_mem hi1) (List.getElem_mem hj1))) rfl (by kernel_rfl) rfl (Xs := [.agg (cRo (Elm.low p m rs)[i]), .agg (cRo (Elm.upp m rs)[j]), iv m]) rfl rfl rfl) ⟨I0, I0, I0, I0, T0⟩ T0 T0 ?_
 refine oA (sp_move (.tmp 64) (.tup [.fr (.agg (cRo (Elm.cnR m (Elm.low p m rs)[i] (Elm.upp m rs)[j]))), iv (Elm.cnE m (Elm.low p m rs)[i] (Elm.upp m rs)[j])]) rfl) I0 ?_
 refine oA (sp_extract (X := .fr (.agg (cRo (Elm.cnR m (Elm.low p m rs)[i] (Elm.upp m rs)[j])))) (.tmp 60) rfl rfl) I0 ?_
 refine oA (sp_extract (X := iv (Elm.cnE m (Elm.low p m rs)[i] (Elm.upp m rs)[j])) (.tmp 60) rfl rfl) I0 ?_
 refine t_op rfl (sp_alloc (z := .agg #[.slice none 0 0, .int .i64 0]) (k := 5) rfl (by kernel_rfl)) T0 T0 rfl ?_
 refine t_op rfl (sp_storeBox (T0 := 39) (X := .agg [.fr (intsA ((Elm.cnR m (Elm.low p m rs)[i] (Elm.upp m rs)[j]).1)), iv ((Elm.cnR m (Elm.low p m rs)[i] (Elm.upp m rs)[j]).2)]) (cs := [.v (.slice none 0 0), iv 0]) (ds := [.fr (intsA ((Elm.cnR m (Elm.low p m rs)[i] (Elm.upp m rs)[j]).1)), iv ((Elm.cnR m (Elm.low p m rs)[i] (Elm.upp m rs)[j]).2)]) (z := 2) (.tmp 14) (.tmp 65) rfl (by kernel_rfl) (by kernel_rfl) (by kernel_rfl) (of_decide_eq_true (by kernel_rfl)) (by kernel_rfl)) ⟨I0, .inr (.inr (.inl ⟨_, rfl, rfl⟩)), T0⟩ ⟨rfl, T0⟩ rfl ?_
 refine oA (sp_assign (.tmp 66) (iv (Elm.cnE m (Elm.low p m rs)[i] (Elm.upp m rs)[j])) rfl) I0 ?_
 refine kN 82 [(1, .box 24 [iv 0, .v (.slice none 0 0)]), (2, .row false 39 2 L2.length (L2.flatMap cRo)), (3, .box 39 (cRo (Elm.low p m rs)[i])), (4, .box 39 (cRo (Elm.upp m rs)[j])), (5, .box 39 [.fr (intsA ((Elm.cnR m (Elm.low p m rs)[i] (Elm.upp m rs)[j]).1)), iv ((Elm.cnR m (Elm.low p m rs)[i] (Elm.upp m rs)[j]).2)])] [(1, iv m), (2, .el (cSy ((p : Nat) : Int) rs) 0), (4, .box 1 0), (7, .own 2), (9, slA 2 cRo (Elm.upp m rs)), (11, .box 3 0), (13, .box 4 0), (14, .box 5 0), (15, iv (Elm.cnE m (Elm.low p m rs)[i] (Elm.upp m rs)[j])), (48, slA 2 cRo (Elm.low p m rs)), (49, iv ((Elm.low p m rs).length : Nat)), (50, iv i), (51, bv true), (54, slA 2 cRo (Elm.upp m rs)), (55, iv ((Elm.upp m rs).length : Nat)), (56, iv j), (57, bv true)] ?_
 refine t_then ?_
 refine tri_seq ?_
 refine tri_seq ?_
 by_cases hs4 : (Elm.cnE m (Elm.low p m rs)[i] (Elm.upp m rs)[j]) = 0
 obtain ⟨hok1, hcn⟩ := Elm.cnE_ok hs4
 refine tri_region ?_
 refine oA (sp_move (.tmp 15) (iv (Elm.cnE m (Elm.low p m rs)[i] (Elm.upp m rs)[j])) rfl) I0 ?_
 refine oC (sp_neq rfl (dT' hs4)) I0 I0 ?_
 refine kN 82 [(1, .box 24 [iv 0, .v (.slice none 0 0)]), (2, .row false 39 2 L2.length (L2.flatMap cRo)), (3, .box 39 (cRo (Elm.low p m rs)[i])), (4, .box 39 (cRo (Elm.upp m rs)[j])), (5, .box 39 [.fr (intsA ((Elm.cnR m (Elm.low p m rs)[i] (Elm.upp m rs)[j]).1)), iv ((Elm.cnR m (Elm.low p m rs)[i] (Elm.upp m rs)[j]).2)])] [(1, iv m), (2, .el (cSy ((p : Nat) : Int) rs) 0), (4, .box 1 0), (7, .own 2), (9, slA 2 cRo (Elm.upp m rs)), (11, .box 3 0), (13, .box 4 0), (14, .box 5 0), (15, iv (Elm.cnE m (Elm.low p m rs)[i] (Elm.upp m rs)[j])), (48, slA 2 cRo (Elm.low p m rs)), (49, iv ((Elm.low p m rs).length : Nat)), (50, iv i), (51, bv true), (54, slA 2 cRo (Elm.upp m rs)), (55, iv ((Elm.upp m rs).length : Nat)), (56, iv j), (57, bv true), (68, bv false)] ?_
 refine t_then ?_
 refine t_condF rfl ?_
 refine tri_skip ?_
 refine t_then ?_
 refine tri_wk (wk_stripB 5 rfl (ds := [intsA ((Elm.cnR m (Elm.low p m rs)[i] (Elm.upp m rs)[j]).1), iv ((Elm.cnR m (Elm.low p m rs)[i] (Elm.upp m rs)[j]).2)]) rfl) ?_
 refine kW 82 [(1, .box 24 [iv 0, .v (.slice none 0 0)]), (2, .row false 39 2 L2.length (L2.flatMap cRo)), (3, .box 39 (cRo (Elm.low p m rs)[i])), (4, .box 39 (cRo (Elm.upp m rs)[j])), (5, .box 39 [intsA ((Elm.cnR m (Elm.low p m rs)[i] (Elm.upp m rs)[j]).1), iv ((Elm.cnR m (Elm.low p m rs)[i] (Elm.upp m rs)[j]).2)])] [(1, iv m), (2, .el (cSy ((p : Nat) : Int) rs) 0), (4, .box 1 0), (7, .own 2), (9, slA 2 cRo (Elm.upp m rs)), (11, .box 3 0), (13, .box 4 0), (14, .box 5 0), (15, iv (Elm.cnE m (Elm.low p m rs)[i] (Elm.upp m rs)[j])), (48, slA 2 cRo (Elm.low p m rs)), (49, iv ((Elm.low p m rs).length : Nat)), (50, iv i), (51, bv true), (54, slA 2 cRo (Elm.upp m rs)), (55, iv ((Elm.upp m rs).length : Nat)), (56, iv j), (57, bv true), (68, bv false)] ?_
 refine tri_region ?_
 refine oA (sp_move (.tmp 7) (.own 2) rfl) I0 ?_
 refine oB (sp_loadBoxS (Y := .box 39 [intsA ((Elm.cnR m (Elm.low p m rs)[i] (Elm.upp m rs)[j]).1), iv ((Elm.cnR m (Elm.low p m rs)[i] (Elm.upp m rs)[j]).2)]) (ds := [intsA ((Elm.cnR m (Elm.low p m rs)[i] (Elm.upp m rs)[j]).1), iv ((Elm.cnR m (Elm.low p m rs)[i] (Elm.upp m rs)[j]).2)]) (z := 2) (.tmp 14) rfl Tryd.underlying39 rfl (by kernel_rfl) (by decide) (by kernel_rfl) (by kernel_rfl)) I0 rfl ?_
 refine t_op rfl (sp_build (z := 2) (k := 6) (fr := false) (cs := [intsA ((Elm.cnR m (Elm.low p m rs)[i] (Elm.upp m rs)[j]).1), iv ((Elm.cnR m (Elm.low p m rs)[i] (Elm.upp m rs)[j]).2)]) [.tmp 72] [.agg [intsA ((Elm.cnR m (Elm.low p m rs)[i] (Elm.upp m rs)[j]).1), iv ((Elm.cnR m (Elm.low p m rs)[i] (Elm.upp m rs)[j]).2)]] rfl Tryd.underlying22 (by kernel_rfl) (by decide) (by decide) rfl rfl rfl (by kernel_rfl) (by decide) (fun h => Bool.noConfusion h) (by kernel_rfl)) ⟨I0, T0⟩ T0 rfl ?_
 refine t_op rfl (sp_appendOwn (n := L2.length) (cs := (L2.flatMap cRo)) (fr := false) (m := 1) (ds := [intsA ((Elm.cnR m (Elm.low p m rs)[i] (Elm.upp m rs)[j]).1), iv ((Elm.cnR m (Elm.low p m rs)[i] (Elm.upp m rs)[j]).2)]) (⟨Tryd.underlying22, by kernel_rfl, by decide⟩ : Elt Tryd.prog 22 39 2 32) (.tmp 71) (.tmp 73) rfl (fun h => Bool.noConfusion h) (by unfold maxLen; omega) (by omega) (Elm.cellRp _) (es := ((L2 ++ [(Elm.cnR m (Elm.low p m rs)[i] (Elm.upp m rs)[j])]).flatMap cRo)) Elm.snocRp) ⟨I0, I0, T0⟩ ⟨rfl, rfl, T0⟩ rfl ?_
 refine oA (sp_assign (.tmp 74) (.own 2) rfl) I0 ?_
 refine kN 82 [(1, .box 24 [iv 0, .v (.slice none 0 0)]), (2, .row false 39 2 (L2.length + 1) ((L2 ++ [(Elm.cnR m (Elm.low p m rs)[i] (Elm.upp m rs)[j])]).flatMap cRo)), (3, .box 39 (cRo (Elm.low p m rs)[i])), (4, .box 39 (cRo (Elm.upp m rs)[j])), (5, .box 39 [intsA ((Elm.cnR m (Elm.low p m rs)[i] (Elm.upp m rs)[j]).1), iv ((Elm.cnR m (Elm.low p m rs)[i] (Elm.upp m rs)[j]).2)])] [(1, iv m), (2, .el (cSy ((p : Nat) : Int) rs) 0), (4, .box 1 0), (7, .own 2), (9, slA 2 cRo (Elm.upp m rs)), (11, .box 3 0), (13, .box 4 0), (14, .box 5 0), (15, iv (Elm.cnE m (Elm.low p m rs)[i] (Elm.upp m rs)[j])), (48, slA 2 cRo (Elm.low p m rs)), (49, iv ((Elm.low p m rs).length : Nat)), (50, iv i), (51, bv true), (54, slA 2 cRo (Elm.upp m rs)), (55, iv ((Elm.upp m rs).length : Nat)), (56, iv j), (57, bv true), (68, bv false)] ?_
 refine t_block ?_
 refine t_then ?_
 refine tri_region ?_
 refine oC (sp_add (c := ((j + 1 : Nat) : Int)) rfl (w64 (by omega) (by omega) (by omega))) I0 I0 ?_
 refine oA (sp_move (.tmp 75) (iv (j + 1 : Nat)) rfl) I0 ?_
 refine kN 82 [(1, .box 24 [iv 0, .v (.slice none 0 0)]), (2, .row false 39 2 (L2.length + 1) ((L2 ++ [(Elm.cnR m (Elm.low p m rs)[i] (Elm.upp m rs)[j])]).flatMap cRo)), (3, .box 39 (cRo (Elm.low p m rs)[i])), (4, .box 39 (cRo (Elm.upp m rs)[j])), (5, .box 39 [intsA ((Elm.cnR m (Elm.low p m rs)[i] (Elm.upp m rs)[j]).1), iv ((Elm.cnR m (Elm.low p m rs)[i] (Elm.upp m rs)[j]).2)])] [(1, iv m), (2, .el (cSy ((p : Nat) : Int) rs) 0), (4, .box 1 0), (7, .own 2), (9, slA 2 cRo (Elm.upp m rs)), (11, .box 3 0), (13, .box 4 0), (14, .box 5 0), (15, iv (Elm.cnE m (Elm.low p m rs)[i] (Elm.upp m rs)[j])), (48, slA 2 cRo (Elm.low p m rs)), (49, iv ((Elm.low p m rs).length : Nat)), (50, iv i), (51, bv true), (54, slA 2 cRo (Elm.upp m rs)), (55, iv ((Elm.upp m rs).length : Nat)), (56, iv (j + 1 : Nat)), (57, bv true), (68, bv false)] ?_
 refine t_then ?_
 refine tri_again ⟨(j + 1, L2 ++ [Elm.mixR m (Elm.low p m rs)[i] (Elm.upp m rs)[j]]), by dsimp only; omega, (Elm.in_next hj1 hL2 hL2o hok1).1, (Elm.in_next hj1 hL2 hL2o hok1).2, by rw [List.length_append]; dsimp only [List.length]; omega⟩ (show (Elm.upp m rs).length - (j + 1) < (Elm.upp m rs).length - j by omega) ?_
 show Wk _ _ (ofL [(1, .box 24 [iv 0, .v (.slice none 0 0)]), (2, .row false 39 2 ((L2 ++ [Elm.mixR m (Elm.low p m rs)[i] (Elm.upp m rs)[j]]).length) ((L2 ++ [Elm.mixR m (Elm.low p m rs)[i] (Elm.upp m rs)[j]]).flatMap cRo)), (3, .box 39 (cRo (Elm.low p m rs)[i]))]) (ofT 82 [(1, iv m), (2, .el (cSy ((p : Nat) : Int) rs) 0), (4, .box 1 0), (7, .own 2), (9, slA 2 cRo (Elm.upp m rs)), (11, .box 3 0), (48, slA 2 cRo (Elm.low p m rs)), (49, iv ((Elm.low p m rs).length : Nat)), (50, iv i), (51, bv true), (54, slA 2 cRo (Elm.upp m rs)), (55, iv ((Elm.upp m rs).length : Nat)), (56, iv ((j + 1) : Nat))])
 rw [List.length_append, ← hcn]
 exact wk_keep _ _ rfl (by kernel_rfl) (by kernel_rfl)
 refine tri_region ?_
 refine oA (sp_move (.tmp 15) (iv (Elm.cnE m (Elm.low p m rs)[i] (Elm.upp m rs)[j])) rfl) I0 ?_
 refine oC (sp_neq rfl (dF' hs4)) I0 I0 ?_
 refine kN 82 [(1, .box 24 [iv 0, .v (.slice none 0 0)]), (2, .row false 39 2 L2.length (L2.flatMap cRo)), (3, .box 39 (cRo (Elm.low p m rs)[i])), (4, .box 39 (cRo (Elm.upp m rs)[j])), (5, .box 39 [.fr (intsA ((Elm.cnR m (Elm.low p m rs)[i] (Elm.upp m rs)[j]).1)), iv ((Elm.cnR m (Elm.low p m rs)[i] (Elm.upp m rs)[j]).2)])] [(1, iv m), (2, .el (cSy ((p : Nat) : Int) rs) 0), (4, .box 1 0), (7, .own 2), (9, slA 2 cRo (Elm.upp m rs)), (11, .box 3 0), (13, .box 4 0), (14, .box 5 0), (15, iv (Elm.cnE m (Elm.low p m rs)[i] (Elm.upp m rs)[j])), (48, slA 2 cRo (Elm.low p m rs)), (49, iv ((Elm.low p m rs).length : Nat)), (50, iv i), (51, bv true), (54, slA 2 cRo (Elm.upp m rs)), (55, iv ((Elm.upp m rs).length : Nat)), (56, iv j), (57, bv true), (68, bv true)] ?_
 refine t_then ?_
 refine t_condT rfl ?_
 refine tri_seq ?_
 refine tri_region ?_
 refine t_op rfl (sp_bld [] #[.int .i64 0, .slice none 0 0] rfl rfl (by kernel_rfl) rfl) T0 T0 T0 ?_
 refine oA (sp_move (.tmp 15) (iv (Elm.cnE m (Elm.low p m rs)[i] (Elm.upp m rs)[j])) rfl) I0 ?_
 refine t_op rfl (sp_storeBox (T0 := 24) (X := .agg [iv 0, .v (.slice none 0 0)]) (cs := [iv 0, .v (.slice none 0 0)]) (ds := [iv 0, .v (.slice none 0 0)]) (z := 2) (.tmp 4) (.tmp 69) rfl (by kernel_rfl) (by kernel_rfl) (by kernel_rfl) (of_decide_eq_true (by kernel_rfl)) (by kernel_rfl)) ⟨I0, I0, T0⟩ ⟨rfl, T0⟩ rfl ?_
 refine oA (sp_assign (.tmp 70) (iv (Elm.cnE m (Elm.low p m rs)[i] (Elm.upp m rs)[j])) rfl) I0 ?_
 refine kN 82 [(1, .box 24 [iv 0, .v (.slice none 0 0)]), (2, .row false 39 2 L2.length (L2.flatMap cRo)), (3, .box 39 (cRo (Elm.low p m rs)[i])), (4, .box 39 (cRo (Elm.upp m rs)[j])), (5, .box 39 [.fr (intsA ((Elm.cnR m (Elm.low p m rs)[i] (Elm.upp m rs)[j]).1)), iv ((Elm.cnR m (Elm.low p m rs)[i] (Elm.upp m rs)[j]).2)])] [(1, iv m), (2, .el (cSy ((p : Nat) : Int) rs) 0), (4, .box 1 0), (5, iv (Elm.cnE m (Elm.low p m rs)[i] (Elm.upp m rs)[j])), (7, .own 2), (9, slA 2 cRo (Elm.upp m rs)), (11, .box 3 0), (13, .box 4 0), (14, .box 5 0), (15, iv (Elm.cnE m (Elm.low p m rs)[i] (Elm.upp m rs)[j])), (48, slA 2 cRo (Elm.low p m rs)), (49, iv ((Elm.low p m rs).length : Nat)), (50, iv i), (51, bv true), (54, slA 2 cRo (Elm.upp m rs)), (55, iv ((Elm.upp m rs).length : Nat)), (56, iv j), (57, bv true), (68, bv true)] ?_
 refine t_then ?_
 refine tri_ret ?_
 refine t_then_ret ?_
 refine t_block_ret ?_
 refine t_then_ret ?_
 refine t_then_ret ?_
 refine t_block_ret ?_
 refine t_block_ret ?_
 refine t_then_ret ?_
 refine t_then_ret ?_
 refine t_block_ret ?_
 refine t_then_ret ?_
 refine tri_wk (wk_adoptB 1 1 6 true 39 2 rfl rfl rfl rfl) ?_
 refine tri_end2 Tryd.results21 (.cellS rfl rfl Tryd.underlying24 rfl (z := 2) (by kernel_rfl) rfl (by decide)) (.tmp rfl) ?_
 exact Elm.el_no hv hm hs1 (Elm.elOk_no (List.getElem_mem hi1) (List.getElem_mem hj1) (Elm.cnE_no hs4).1) (Elm.cnE_no hs4).2
 refine tri_region ?_
 refine oC (sp_lss rfl (dF hs3)) I0 I0 ?_
 refine kN 82 [(1, .box 24 [iv 0, .v (.slice none 0 0)]), (2, .row false 39 2 L2.length (L2.flatMap cRo)), (3, .box 39 (cRo (Elm.low p m rs)[i]))] [(1, iv m), (2, .el (cSy ((p : Nat) : Int) rs) 0), (4, .box 1 0), (7, .own 2), (9, slA 2 cRo (Elm.upp m rs)), (11, .box 3 0), (48, slA 2 cRo (Elm.low p m rs)), (49, iv ((Elm.low p m rs).length : Nat)), (50, iv i), (51, bv true), (54, slA 2 cRo (Elm.upp m rs)), (55, iv ((Elm.upp m rs).length : Nat)), (56, iv j), (57, bv false)] ?_
 refine t_then ?_
 refine tri_seq ?_
 refine t_condF rfl ?_
 refine tri_exit ?_
 refine t_then_exit ?_
 refine t_then_exit ?_
 refine t_hit ?_
 refine t_block ?_
 refine t_then ?_
 refine tri_region ?_
 refine oC (sp_add (c := ((i + 1 : Nat) : Int)) rfl (w64 (by omega) (by omega) (by omega))) I0 I0 ?_
 refine oA (sp_move (.tmp 76) (iv (i + 1 : Nat)) rfl) I0 ?_
 refine kN 82 [(1, .box 24 [iv 0, .v (.slice none 0 0)]), (2, .row false 39 2 L2.length (L2.flatMap cRo)), (3, .box 39 (cRo (Elm.low p m rs)[i]))] [(1, iv m), (2, .el (cSy ((p : Nat) : Int) rs) 0), (4, .box 1 0), (7, .own 2), (9, slA 2 cRo (Elm.upp m rs)), (11, .box 3 0), (48, slA 2 cRo (Elm.low p m rs)), (49, iv ((Elm.low p m rs).length : Nat)), (50, iv (i + 1 : Nat)), (51, bv true), (54, slA 2 cRo (Elm.upp m rs)), (55, iv ((Elm.upp m rs).length : Nat)), (56, iv j), (57, bv false)] ?_
 refine t_then ?_
 refine tri_again ⟨(i + 1, L2), by dsimp only; omega, (Elm.out_next hi1 (by omega) hL hLo hL2 hL2o).1, (Elm.out_next hi1 (by omega) hL hLo hL2 hL2o).2, by dsimp only; omega⟩ (show (Elm.low p m rs).length - (i + 1) < (Elm.low p m rs).length - i by omega) ?_
 show Wk _ _ (ofL [(1, .box 24 [iv 0, .v (.slice none 0 0)]), (2, .row false 39 2 L2.length (L2.flatMap cRo))]) (ofT 82 [(1, iv m), (2, .el (cSy ((p : Nat) : Int) rs) 0), (4, .box 1 0), (7, .own 2), (9, slA 2 cRo (Elm.upp m rs)), (48, slA 2 cRo (Elm.low p m rs)), (49, iv ((Elm.low p m rs).length : Nat)), (50, iv ((i + 1) : Nat))])
 exact wk_keep _ _ rfl (by kernel_rfl) (by kernel_rfl)
 have hi2 : i = (Elm.low p m rs).length := by omega
 rw [hi2, List.take_length] at hLo hL
 have hok2 := Elm.elOk_yes hLo
 have hL3 : L = Elm.elL p m rs := hL
 refine tri_region ?_
 refine oC (sp_lss rfl (dF hs2)) I0 I0 ?_
 refine kN 82 [(1, .box 24 [iv 0, .v (.slice none 0 0)]), (2, .row false 39 2 L.length (L.flatMap cRo))] [(1, iv m), (2, .el (cSy ((p : Nat) : Int) rs) 0), (4, .box 1 0), (7, .own 2), (9, slA 2 cRo (Elm.upp m rs)), (48, slA 2 cRo (Elm.low p m rs)), (49, iv ((Elm.low p m rs).length : Nat)), (50, iv i), (51, bv false)] ?_
 refine t_then ?_
 refine tri_seq ?_
 refine t_condF rfl ?_
 refine tri_exit ?_
 refine t_then_exit ?_
 refine t_then_exit ?_
 refine t_hit ?_
 refine t_then ?_
 refine tri_seq ?_
 refine tri_draw [⟨[(.tmp 2, .el (cSy ((p : Nat) : Int) rs) 0)], [], .el (cSy ((p : Nat) : Int) rs) 0, .no⟩, ⟨[(.tmp 77, .el (cSy ((p : Nat) : Int) rs) 0)], [], iv p, .no⟩, ⟨[(.tmp 7, .own 2)], [], .own 2, .no⟩, ⟨[(.func 33, .v (.func (.func 33) #[] #[])), (.tmp 79, .own 2)], [(2, .row false 39 2 L.length (L.flatMap cRo))], .own 3, .new 3 (.row true 39 2 ((nrm (Elm.elL p m rs)).length) ((nrm (Elm.elL p m rs)).flatMap cRo))⟩, ⟨[(.tmp 78, iv p), (.tmp 80, .own 3)], [], .agg [iv p, .own 3], .no⟩, ⟨[(.tmp 4, .box 1 0), (.tmp 81, .agg [iv p, .own 3])], [(1, .box 24 [iv 0, .v (.slice none 0 0)])], .v undef, .st 1 (.box 24 [iv p, .own 3])⟩, ⟨[(.const (.int .i64 0), iv 0)], [], iv 0, .no⟩] (by kernel_rfl) (by kernel_rfl) ?_
 refine ⟨app_yes rfl (sp_fieldEl (off' := 0) (.tmp 2) rfl Tryd.underlying24 rfl (z := 1) (by kernel_rfl) (by decide) rfl) ⟨I0, T0⟩ T0 T0, ?_⟩
 refine ⟨app_yes rfl (sp_loadEl1 (X := iv p) (.tmp 77) rfl Tryd.underlying3 rfl rfl) ⟨I0, T0⟩ T0 T0, ?_⟩
 refine ⟨app_yes rfl (sp_move (.tmp 7) (.own 2) rfl) ⟨I0, T0⟩ T0 T0, ?_⟩
 refine ⟨app_yes rfl (sp_callO (c := .func 33) (xs := #[.tmp 79]) [(2, .row false 39 2 L.length (L.flatMap cRo))] (Elm.norm_L F hok2 hs1 hL3 3) rfl (by kernel_rfl) rfl (Xs := [.own 2]) rfl rfl rfl) ⟨I0, I0, T0⟩ ⟨rfl, T0⟩ rfl, ?_⟩
 refine ⟨app_yes rfl (sp_bldN [0, 1] [.tmp 78, .tmp 80] [iv p, .own 3] [.inr 0, .inr 1] rfl rfl rfl rfl rfl (fun _ => by kernel_rfl) rfl (ds := [iv p, .own 3]) rfl) ⟨I0, I0, T0⟩ T0 T0, ?_⟩
 refine ⟨app_yes rfl (sp_storeBox (T0 := 24) (X := .agg [iv p, .own 3]) (cs := [iv 0, .v (.slice none 0 0)]) (ds := [iv p, .own 3]) (z := 2) (.tmp 4) (.tmp 81) rfl (by kernel_rfl) (by kernel_rfl) (by kernel_rfl) (of_decide_eq_true (by kernel_rfl)) (by kernel_rfl)) ⟨I0, I0, T0⟩ ⟨rfl, T0⟩ rfl, ?_⟩
 refine ⟨app_yes rfl (sp_assign (.const (.int .i64 0)) (iv 0) rfl) ⟨I0, T0⟩ T0 T0, ?_⟩
 show ETri J w0 _ _ _
 refine kW 82 [(1, .box 24 [iv p, .own 3]), (3, .row true 39 2 ((nrm (Elm.elL p m rs)).length) ((nrm (Elm.elL p m rs)).flatMap cRo))] [(4, .box 1 0), (5, iv 0)] ?_
 refine t_then ?_
 refine tri_ret ?_
 refine tri_end2 Tryd.results21 (.cellS rfl rfl Tryd.underlying24 rfl (z := 2) (by kernel_rfl) rfl (by decide)) (.tmp rfl) ?_
 exact Elm.el_ok hv hm hs1 hok2
end Go.Proofs.YtbbglendddepfaaDoor

namespace Go.Proofs.YtbbglendddepfaaDoor
open Go.RowKit Go.Deep
variable {J : World → Prop}
set_option linter.unusedSimpArgs false in
set_option linter.unusedVariables false in
set_option maxRecDepth 100000 in
set_option maxHeartbeats 6400000 in
theorem lEliminate_inv {n v : Int} {rs : List Rw} (H : SyOk rs) (hv : ¬ valS n rs = 0) : Ctr Tryd.prog J 21 [.agg (cSy n rs), iv v] (.tup [.agg (cSy (Elm.EN n v rs) (Elm.ER n v rs)), iv (Elm.EE n v rs)]) := by
 refine ctr_of_tri Tryd.func21 rfl (by intro X hX; simp only [List.mem_cons, List.not_mem_nil, or_false] at hX; rcases hX with rfl | rfl; exact plain_agg (plain_sy _ rs); exact .v _) (n := 82) rfl (by simp) (fun w0 => ?_)
 refine kW 82 [] [(0, .agg (cSy n rs)), (1, iv v)] ?_
 refine tri_seq ?_
 refine tri_region ?_
 refine oA (sp_boxR (X := .agg (cSy n rs)) (.tmp 0) rfl rfl rfl) I0 ?_
 refine t_op rfl (sp_alloc (z := .agg #[.int .i64 0, .slice none 0 0]) (k := 1) rfl (by kernel_rfl)) T0 T0 rfl ?_
 refine oA (sp_assign (.const (.int .i64 0)) (iv 0) rfl) I0 ?_
 refine kN 82 [(1, .box 24 [iv 0, .v (.slice none 0 0)])] [(1, iv v), (2, .el (cSy n rs) 0), (4, .box 1 0), (5, iv 0)] ?_
 refine t_then ?_
 refine tri_seq ?_
 refine tri_seq ?_
 refine tri_region ?_
 refine oA (sp_loadElS (z := 2) (.tmp 2) rfl Tryd.underlying24 rfl (by kernel_rfl) rfl rfl) I0 ?_
 refine oC (sp_call (c := .func 32) (xs := #[.tmp 16]) [] (lValidate_c H) rfl (by kernel_rfl) rfl (Xs := [.agg (cSy n rs)]) rfl rfl rfl) I0 I0 ?_
 refine oA (sp_assign (.tmp 17) (iv (valS n rs)) rfl) I0 ?_
 refine kN 82 [(1, .box 24 [iv 0, .v (.slice none 0 0)])] [(1, iv v), (2, .el (cSy n rs) 0), (4, .box 1 0), (5, iv 0), (6, iv (valS n rs))] ?_
 refine t_then ?_
 refine tri_seq ?_
 refine tri_region ?_
 refine oA (sp_move (.tmp 6) (iv (valS n rs)) rfl) I0 ?_
 refine oC (sp_neq rfl (dF' hv)) I0 I0 ?_
 refine kN 82 [(1, .box 24 [iv 0, .v (.slice none 0 0)])] [(1, iv v), (2, .el (cSy n rs) 0), (4, .box 1 0), (5, iv 0), (6, iv (valS n rs)), (19, bv true)] ?_
 refine t_then ?_
 refine t_condT rfl ?_
 refine tri_seq ?_
 refine tri_region ?_
 refine t_op rfl (sp_bld [] #[.int .i64 0, .slice none 0 0] rfl rfl (by kernel_rfl) rfl) T0 T0 T0 ?_
 refine oA (sp_move (.tmp 6) (iv (valS n rs)) rfl) I0 ?_
 refine t_op rfl (sp_storeBox (T0 := 24) (X := .agg [iv 0, .v (.slice none 0 0)]) (cs := [iv 0, .v (.slice none 0 0)]) (ds := [iv 0, .v (.slice none 0 0)]) (z := 2) (.tmp 4) (.tmp 20) rfl (by kernel_rfl) (by kernel_rfl) (by kernel_rfl) (of_decide_eq_true (by kernel_rfl)) (by kernel_rfl)) ⟨I0, I0, T0⟩ ⟨rfl, T0⟩ rfl ?_
 refine oA (sp_assign (.tmp 21) (iv (valS n rs)) rfl) I0 ?_
 refine kN 82 [(1, .box 24 [iv 0, .v (.slice none 0 0)])] [(1, iv v), (2, .el (cSy n rs) 0), (4, .box 1 0), (5, iv (valS n rs))] ?_
 refine t_then ?_
 refine tri_ret ?_
 refine t_then_ret ?_
 refine tri_wk (wk_adoptB 1 1 2 true 39 2 rfl rfl rfl rfl) ?_
 refine tri_end2 Tryd.results21 (.cellS rfl rfl Tryd.underlying24 rfl (z := 2) (by kernel_rfl) rfl (by decide)) (.tmp rfl) ?_
 exact Elm.el_inv hv
set_option linter.unusedSimpArgs false in
set_option linter.unusedVariables false in
set_option maxRecDepth 100000 in
set_option maxHeartbeats 6400000 in
theorem lEliminate_arg {n v : Int} {rs : List Rw} (H : SyOk rs) (hv : valS n rs = 0) (ha : v < 0 ∨ n ≤ v) : Ctr Tryd.prog J 21 [.agg (cSy n rs), iv v] (.tup [.agg (cSy (Elm.EN n v rs) (Elm.ER n v rs)), iv (Elm.EE n v rs)]) := by
 have hn := (valS_zero.1 hv).1
 refine ctr_of_tri Tryd.func21 rfl (by intro X hX; simp only [List.mem_cons, List.not_mem_nil, or_false] at hX; rcases hX with rfl | rfl; exact plain_agg (plain_sy _ rs); exact .v _) (n := 82) rfl (by simp) (fun w0 => ?_)
 refine kW 82 [] [(0, .agg (cSy n rs)), (1, iv v)] ?_
 refine tri_seq ?_
 refine tri_region ?_
 refine oA (sp_boxR (X := .agg (cSy n rs)) (.tmp 0) rfl rfl rfl) I0 ?_
 refine t_op rfl (sp_alloc (z := .agg #[.int .i64 0, .slice none 0 0]) (k := 1) rfl (by kernel_rfl)) T0 T0 rfl ?_
 refine oA (sp_assign (.const (.int .i64 0)) (iv 0) rfl) I0 ?_
 refine kN 82 [(1, .box 24 [iv 0, .v (.slice none 0 0)])] [(1, iv v), (2, .el (cSy n rs) 0), (4, .box 1 0), (5, iv 0)] ?_
 refine t_then ?_
 refine tri_seq ?_
 refine tri_seq ?_
 refine tri_region ?_
 refine oA (sp_loadElS (z := 2) (.tmp 2) rfl Tryd.underlying24 rfl (by kernel_rfl) rfl rfl) I0 ?_
 refine oC (sp_call (c := .func 32) (xs := #[.tmp 16]) [] (lValidate_c H) rfl (by kernel_rfl) rfl (Xs := [.agg (cSy n rs)]) rfl rfl rfl) I0 I0 ?_
 refine oA (sp_assign (.tmp 17) (iv (valS n rs)) rfl) I0 ?_
 refine kN 82 [(1, .box 24 [iv 0, .v (.slice none 0 0)])] [(1, iv v), (2, .el (cSy n rs) 0), (4, .box 1 0), (5, iv 0), (6, iv (valS n rs))] ?_
 refine t_then ?_
 refine tri_seq ?_
 refine tri_region ?_
 refine oA (sp_move (.tmp 6) (iv (valS n rs)) rfl) I0 ?_
 refine oC (sp_neq rfl (dT' hv)) I0 I0 ?_
 refine kN 82 [(1, .box 24 [iv 0, .v (.slice none 0 0)])] [(1, iv v), (2, .el (cSy n rs) 0), (4, .box 1 0), (5, iv 0), (6, iv (valS n rs)), (19, bv false)] ?_
 refine t_then ?_
 refine t_condF rfl ?_
 refine tri_skip ?_
 refine t_then ?_
 refine tri_seq ?_
 refine tri_seq ?_
 by_cases hs1 : v < 0
 refine tri_region ?_
 refine oA (sp_move (.tmp 1) (iv v) rfl) I0 ?_
 refine oC (sp_lss rfl (dT hs1)) I0 I0 ?_
 refine oA (sp_move (.tmp 23) (bv true) rfl) I0 ?_
 refine t_skip rfl ?_
 refine t_skip rfl ?_
 refine t_skip rfl ?_
 refine t_skip rfl ?_
 refine oD (sp_pick (.tmp 24) (.const (.bool true)) (.tmp 28) true (bv true) (.v (.tuple #[])) rfl) I0 I0 I0 ?_
 refine kN 82 [(1, .box 24 [iv 0, .v (.slice none 0 0)])] [(1, iv v), (2, .el (cSy n rs) 0), (4, .box 1 0), (5, iv 0), (29, bv true)] ?_
 refine t_then ?_
 refine t_condT rfl ?_
 refine tri_seq ?_
 refine tri_region ?_
 refine t_op rfl (sp_bld [] #[.int .i64 0, .slice none 0 0] rfl rfl (by kernel_rfl) rfl) T0 T0 T0 ?_
 refine t_op rfl (sp_storeBox (T0 := 24) (X := .agg [iv 0, .v (.slice none 0 0)]) (cs := [iv 0, .v (.slice none 0 0)]) (ds := [iv 0, .v (.slice none 0 0)]) (z := 2) (.tmp 4) (.tmp 30) rfl (by kernel_rfl) (by kernel_rfl) (by kernel_rfl) (of_decide_eq_true (by kernel_rfl)) (by kernel_rfl)) ⟨I0, I0, T0⟩ ⟨rfl, T0⟩ rfl ?_
 refine oA (sp_assign (.const (.int .i64 1)) (iv 1) rfl) I0 ?_
 refine kN 82 [(1, .box 24 [iv 0, .v (.slice none 0 0)])] [(1, iv v), (2, .el (cSy n rs) 0), (4, .box 1 0), (5, iv 1)] ?_
 refine t_then ?_
 refine tri_ret ?_
 refine t_then_ret ?_
 refine tri_wk (wk_adoptB 1 1 2 true 39 2 rfl rfl rfl rfl) ?_
 refine tri_end2 Tryd.results21 (.cellS rfl rfl Tryd.underlying24 rfl (z := 2) (by kernel_rfl) rfl (by decide)) (.tmp rfl) ?_
 exact Elm.el_arg hv ha
 refine tri_region ?_
 refine oA (sp_move (.tmp 1) (iv v) rfl) I0 ?_
 refine oC (sp_lss rfl (dF hs1)) I0 I0 ?_
 refine oA (sp_move (.tmp 23) (bv false) rfl) I0 ?_
 refine gA (sp_move (.tmp 1) (iv v) rfl) I0 ?_
 refine gA (sp_fieldEl (off' := 0) (.tmp 2) rfl Tryd.underlying24 rfl (z := 1) (by kernel_rfl) (by decide) rfl) I0 ?_
 refine gA (sp_loadEl1 (X := iv n) (.tmp 26) rfl Tryd.underlying3 rfl rfl) I0 ?_
 refine gC (sp_geq rfl (dT (by omega))) I0 I0 ?_
 refine oD (sp_pick (.tmp 24) (.const (.bool true)) (.tmp 28) false (bv true) (bv true) rfl) I0 I0 I0 ?_
 refine kN 82 [(1, .box 24 [iv 0, .v (.slice none 0 0)])] [(1, iv v), (2, .el (cSy n rs) 0), (4, .box 1 0), (5, iv 0), (29, bv true)] ?_
 refine t_then ?_
 refine t_condT rfl ?_
 refine tri_seq ?_
 refine tri_region ?_
 refine t_op rfl (sp_bld [] #[.int .i64 0, .slice none 0 0] rfl rfl (by kernel_rfl) rfl) T0 T0 T0 ?_
 refine t_op rfl (sp_storeBox (T0 := 24) (X := .agg [iv 0, .v (.slice none 0 0)]) (cs := [iv 0, .v (.slice none 0 0)]) (ds := [iv 0, .v (.slice none 0 0)]) (z := 2) (.tmp 4) (.tmp 30) rfl (by kernel_rfl) (by kernel_rfl) (by kernel_rfl) (of_decide_eq_true (by kernel_rfl)) (by kernel_rfl)) ⟨I0, I0, T0⟩ ⟨rfl, T0⟩ rfl ?_
 refine oA (sp_assign (.const (.int .i64 1)) (iv 1) rfl) I0 ?_
 refine kN 82 [(1, .box 24 [iv 0, .v (.slice none 0 0)])] [(1, iv v), (2, .el (cSy n rs) 0), (4, .box 1 0), (5, iv 1)] ?_
 refine t_then ?_
 refine tri_ret ?_
 refine t_then_ret ?_
 refine tri_wk (wk_adoptB 1 1 2 true 39 2 rfl rfl rfl rfl) ?_
 refine tri_end2 Tryd.results21 (.cellS rfl rfl Tryd.underlying24 rfl (z := 2) (by kernel_rfl) rfl (by decide)) (.tmp rfl) ?_
 exact Elm.el_arg hv ha
theorem lEliminate_c {n v : Int} {rs : List Rw} (H : SyOk rs) : Ctr Tryd.prog J 21 [.agg (cSy n rs), iv v] (.tup [.agg (cSy (Elm.EN n v rs) (Elm.ER n v rs)), iv (Elm.EE n v rs)]) := by
  by_cases hv : valS n rs = 0
  · by_cases ha : v < 0 ∨ n ≤ v
    · exact lEliminate_arg H hv ha
    · obtain ⟨p, rfl⟩ := Int.eq_ofNat_of_zero_le (show 0 ≤ n by omega)
      obtain ⟨m, rfl⟩ := Int.eq_ofNat_of_zero_le (show 0 ≤ v by omega)
      exact lEliminate_in H hv (by omega)
  · exact lEliminate_inv H hv
end Go.Proofs.YtbbglendddepfaaDoor
