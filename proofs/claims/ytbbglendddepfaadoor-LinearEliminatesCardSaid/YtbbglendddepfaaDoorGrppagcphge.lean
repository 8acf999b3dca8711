import Derived.Test.YtbbglendddepfaaDoorGrpaienlphb
import Derived.Test.YtbbglendddepfaaDoorGrpigfeloij
import Derived.Test.YtbbglendddepfaaDoorGrpeokkmchn
set_option linter.all false
namespace Go.Proofs.YtbbglendddepfaaDoor
open Go.RowKit Go.Deep
variable {J : World → Prop}
set_option linter.unusedSimpArgs false in
set_option linter.unusedVariables false in
set_option maxRecDepth 100000 in
set_option maxHeartbeats 6400000 in
theorem rEliminate_in {p m : Nat} {rs : List Rw} (H : SyOk rs) (hv : valS ((p : Nat) : Int) rs = 0) (hm : m < p) : Ctr Tryd.prog J 22 [.agg (cSy ((p : Nat) : Int) rs), iv m] (.tup [.agg (cSy (Elm.EN ((p : Nat) : Int) ((m : Nat) : Int) rs) (Elm.ER ((p : Nat) : Int) ((m : Nat) : Int) rs)), iv (Elm.EE ((p : Nat) : Int) ((m : Nat) : Int) rs)]) := by
 have F := Elm.fit_of hv hm
 have hl : rs.length ≤ 250 := Nat.le_trans F.n (by decide)
 have ol := Elm.oth_len (m := m) (rs := rs)
 have ll := Elm.low_len (p := p) (m := m) (rs := rs)
 have ul := Elm.upp_len (m := m) (rs := rs)
 have hp96 := F.p96
 refine ctr_of_tri Tryd.func22 rfl (by intro X hX; simp only [List.mem_cons, List.not_mem_nil, or_false] at hX; rcases hX with rfl | rfl; exact plain_agg (plain_sy _ rs); exact .v _) (n := 166) rfl (by simp) (fun w0 => ?_)
 refine kW 166 [] [(0, .agg (cSy ((p : Nat) : Int) rs)), (1, iv m)] ?_
 refine tri_seq ?_
 refine tri_region ?_
 refine oA (sp_boxR (X := .agg (cSy ((p : Nat) : Int) rs)) (.tmp 0) rfl rfl rfl) I0 ?_
 refine t_op rfl (sp_alloc (z := .agg #[.int .i64 0, .slice none 0 0]) (k := 1) rfl (by kernel_rfl)) T0 T0 rfl ?_
 refine oA (sp_assign (.const (.int .i64 0)) (iv 0) rfl) I0 ?_
 refine kN 166 [(1, .box 24 [iv 0, .v (.slice none 0 0)])] [(1, iv m), (2, .el (cSy ((p : Nat) : Int) rs) 0), (4, .box 1 0), (5, iv 0)] ?_
 refine t_then ?_
 refine tri_seq ?_
 refine tri_region ?_
 refine oA (sp_loadElS (z := 2) (.tmp 2) rfl Tryd.underlying24 rfl (by kernel_rfl) rfl rfl) I0 ?_
 refine oC (sp_call (c := .func 40) (xs := #[.tmp 19]) [] (rrValidate_c H) rfl (by kernel_rfl) rfl (Xs := [.agg (cSy ((p : Nat) : Int) rs)]) rfl rfl rfl) I0 I0 ?_
 refine oA (sp_assign (.tmp 20) (iv (valS ((p : Nat) : Int) rs)) rfl) I0 ?_
 refine kN 166 [(1, .box 24 [iv 0, .v (.slice none 0 0)])] [(1, iv m), (2, .el (cSy ((p : Nat) : Int) rs) 0), (4, .box 1 0), (5, iv 0), (6, iv (valS ((p : Nat) : Int) rs))] ?_
 refine t_then ?_
 refine tri_seq ?_
 refine tri_seq ?_
 refine tri_region ?_
 refine oA (sp_move (.tmp 6) (iv (valS ((p : Nat) : Int) rs)) rfl) I0 ?_
 refine oC (sp_neq rfl (dT' hv)) I0 I0 ?_
 refine kN 166 [(1, .box 24 [iv 0, .v (.slice none 0 0)])] [(1, iv m), (2, .el (cSy ((p : Nat) : Int) rs) 0), (4, .box 1 0), (5, iv 0), (6, iv (valS ((p : Nat) : Int) rs)), (22, bv false)] ?_
 refine t_then ?_
 refine t_condF rfl ?_
 refine tri_skip ?_
 refine t_then ?_
 refine tri_seq ?_
 refine tri_seq ?_
 refine tri_region ?_
 refine oA (sp_move (.tmp 1) (iv m) rfl) I0 ?_
 refine oA (sp_fieldEl (off' := 0) (.tmp 2) rfl Tryd.underlying24 rfl (z := 1) (by kernel_rfl) (by decide) rfl) I0 ?_
 refine oA (sp_loadEl1 (X := iv p) (.tmp 26) rfl Tryd.underlying3 rfl rfl) I0 ?_
 refine oC (sp_sub (c := ((p : Nat) : Int) - 1) rfl (w64 (by omega) (by omega) (by omega))) I0 I0 ?_
 refine t_op rfl (sp_call (c := .func 41) (xs := #[.tmp 25, .const (.int .i64 0), .tmp 28]) [] (Elm.within_in hm) rfl (by kernel_rfl) rfl (Xs := [iv m, iv 0, iv (((p : Nat) : Int) - 1)]) rfl rfl rfl) ⟨I0, I0, I0, I0, T0⟩ T0 T0 ?_
 refine oA (sp_not rfl rfl) I0 ?_
 refine kN 166 [(1, .box 24 [iv 0, .v (.slice none 0 0)])] [(1, iv m), (2, .el (cSy ((p : Nat) : Int) rs) 0), (4, .box 1 0), (5, iv 0), (30, bv false)] ?_
 refine t_then ?_
 refine t_condF rfl ?_
 refine tri_skip ?_
 refine t_then ?_
 refine tri_seq ?_
 refine tri_region ?_
 refine oA (sp_fieldEl (off' := 0) (.tmp 2) rfl Tryd.underlying24 rfl (z := 1) (by kernel_rfl) (by decide) rfl) I0 ?_
 refine oA (sp_loadEl1 (X := iv p) (.tmp 32) rfl Tryd.underlying3 rfl rfl) I0 ?_
 refine t_op rfl (sp_make (k := 2) (n := p) (zv := .int .i64 0) true rfl Tryd.underlying25 (by kernel_rfl) rfl (by first | (show 8 * p ≤ _; omega) | omega) (by first | (show 8 * p ≤ _; omega) | omega) (cs := ((List.replicate p (0 : Int)).map iv)) (Elm.axR_zero p)) ⟨I0, I0, T0⟩ T0 rfl ?_
 refine oA (sp_bldN [0] [.tmp 34] [.own 2] [.inr 0, .inl (.int .i64 0)] rfl rfl rfl rfl rfl (fun _ => by kernel_rfl) rfl (ds := [.own 2, iv 0]) rfl) I0 ?_
 refine t_op rfl (sp_alloc (z := .agg #[.slice none 0 0, .int .i64 0]) (k := 3) rfl (by kernel_rfl)) T0 T0 rfl ?_
 refine t_op rfl (sp_storeBox (T0 := 39) (X := .agg [.own 2, iv 0]) (cs := [.v (.slice none 0 0), iv 0]) (ds := [.own 2, iv 0]) (z := 2) (.tmp 7) (.tmp 35) rfl (by kernel_rfl) (by kernel_rfl) (by kernel_rfl) (of_decide_eq_true (by kernel_rfl)) (by kernel_rfl)) ⟨I0, I0, T0⟩ ⟨rfl, T0⟩ rfl ?_
 refine kN 166 [(1, .box 24 [iv 0, .v (.slice none 0 0)]), (2, .row true 3 1 p ((List.replicate p (0 : Int)).map iv)), (3, .box 39 [.own 2, iv 0])] [(1, iv m), (2, .el (cSy ((p : Nat) : Int) rs) 0), (4, .box 1 0), (5, iv 0), (7, .box 3 0)] ?_
 refine t_then ?_
 refine tri_seq ?_
 refine tri_region ?_
 refine oA (fB 0 (.tmp 7) rfl Tryd.underlying39 rfl 1 rfl) I0 ?_
 refine oB (lB (.box 39 [.own 2, iv 0]) (.own 2) (.tmp 36) rfl Tryd.underlying25 rfl rfl) I0 rfl ?_
 refine oA (sp_move (.tmp 1) (iv m) rfl) I0 ?_
 refine t_op rfl (sp_indexOwn (off := m * 1) (.tmp 37) (.tmp 38) rfl Tryd.underlying25 (by kernel_rfl) (by omega) (by omega) rfl) ⟨I0, I0, T0⟩ ⟨rfl, T0⟩ T0 ?_
 refine t_op rfl (sp_storeRow (X := iv 1) (off := m * 1) (cs := ((List.replicate p (0 : Int)).map iv)) (ds := ((Elm.axR p m 1).map iv)) (zz := 1) (.tmp 39) (.const (.int .i64 1)) rfl (by kernel_rfl) (by kernel_rfl) (fun _ d hd => by simp only [AV.cellsOf, List.mem_cons, List.not_mem_nil, or_false] at hd; subst hd; rfl) (by kernel_rfl) (by simp; omega) (by rw [Nat.mul_one]; exact Elm.axR_step)) ⟨I0, I0, T0⟩ ⟨rfl, T0⟩ rfl ?_
 refine kN 166 [(1, .box 24 [iv 0, .v (.slice none 0 0)]), (2, .row true 3 1 p ((Elm.axR p m 1).map iv)), (3, .box 39 [.own 2, iv 0])] [(1, iv m), (2, .el (cSy ((p : Nat) : Int) rs) 0), (4, .box 1 0), (5, iv 0), (7, .box 3 0)] ?_
 refine t_then ?_
 refine tri_seq ?_
 refine kW 166 [(1, .box 24 [iv 0, .v (.slice none 0 0)]), (3, .box 39 [.fr (.sl 1 p ((Elm.axR p m 1).map iv)), iv 0])] [(1, iv m), (2, .el (cSy ((p : Nat) : Int) rs) 0), (4, .box 1 0), (5, iv 0), (7, .box 3 0)] ?_
 refine tri_wk (wk_stripB 3 rfl (ds := [.sl 1 p ((Elm.axR p m 1).map iv), iv 0]) rfl) ?_
 refine kW 166 [(1, .box 24 [iv 0, .v (.slice none 0 0)]), (3, .box 39 [.sl 1 p ((Elm.axR p m 1).map iv), iv 0])] [(1, iv m), (2, .el (cSy ((p : Nat) : Int) rs) 0), (4, .box 1 0), (5, iv 0), (7, .box 3 0)] ?_
 refine kW 166 [(1, .box 24 [iv 0, .v (.slice none 0 0)]), (3, .box 39 [.sl 1 p ((Elm.axR p m 1).map iv), iv 0])] [(1, iv m), (2, .el (cSy ((p : Nat) : Int) rs) 0), (4, .box 1 0), (5, iv 0), (7, .box 3 0)] ?_
 rw [Elm.axR_sl p m 1]
 refine tri_region ?_
 refine oB (sp_loadBoxS (Y := .box 39 [intsA (Elm.axR p m 1), iv 0]) (ds := [intsA (Elm.axR p m 1), iv 0]) (z := 2) (.tmp 7) rfl Tryd.underlying39 rfl (by kernel_rfl) (by decide) (by kernel_rfl) (by kernel_rfl)) I0 rfl ?_
 refine t_op rfl (sp_build (z := 2) (k := 4) (fr := false) (cs := [intsA (Elm.axR p m 1), iv 0]) [.tmp 40] [.agg [intsA (Elm.axR p m 1), iv 0]] rfl Tryd.underlying22 (by kernel_rfl) (by decide) (by decide) rfl rfl rfl (by kernel_rfl) (by decide) (fun h => Bool.noConfusion h) (by kernel_rfl)) ⟨I0, T0⟩ T0 rfl ?_
 refine oA (sp_assign (.tmp 41) (.own 4) rfl) I0 ?_
 refine kN 166 [(1, .box 24 [iv 0, .v (.slice none 0 0)]), (4, .row false 39 2 1 ([intsA (Elm.axR p m 1), iv 0]))] [(1, iv m), (2, .el (cSy ((p : Nat) : Int) rs) 0), (4, .box 1 0), (5, iv 0), (8, .own 4)] ?_
 refine t_then ?_
 refine tri_seq ?_
 refine tri_region ?_
 refine oA (sp_assign (.const (.slice none 0 0)) (.v (.slice none 0 0)) rfl) I0 ?_
 refine oA (sp_assign (.const (.slice none 0 0)) (.v (.slice none 0 0)) rfl) I0 ?_
 refine kN 166 [(1, .box 24 [iv 0, .v (.slice none 0 0)]), (4, .row false 39 2 1 ([intsA (Elm.axR p m 1), iv 0]))] [(1, iv m), (2, .el (cSy ((p : Nat) : Int) rs) 0), (4, .box 1 0), (5, iv 0), (8, .own 4), (9, .v (.slice none 0 0)), (10, .v (.slice none 0 0))] ?_
 refine t_then ?_
 refine tri_seq ?_
 refine tri_seq ?_
 refine tri_region ?_
 refine oA (sp_assign (.const (.int .i64 0)) (iv 0) rfl) I0 ?_
 refine kN 166 [(1, .box 24 [iv 0, .v (.slice none 0 0)]), (4, .row false 39 2 1 ([intsA (Elm.axR p m 1), iv 0]))] [(1, iv m), (2, .el (cSy ((p : Nat) : Int) rs) 0), (4, .box 1 0), (5, iv 0), (8, .own 4), (9, .v (.slice none 0 0)), (10, .v (.slice none 0 0)), (11, iv 0)] ?_
 refine t_then ?_
 refine tri_block ?_
 refine tri_wk (wk_adopt 10 5 false 39 2 rfl rfl rfl) ?_
 refine tri_wk (wk_adopt 9 6 false 39 2 rfl rfl rfl) ?_
 refine tri_loop (σ := {j : Nat // j ≤ rs.length}) (fun s => (ofL [(1, .box 24 [iv 0, .v (.slice none 0 0)]), (4, .row false 39 2 ((Elm.low p m (rs.take s.1)).length) ((Elm.low p m (rs.take s.1)).flatMap cRo)), (5, .row false 39 2 ((Elm.oth m (rs.take s.1)).length) ((Elm.oth m (rs.take s.1)).flatMap cRo)), (6, .row false 39 2 ((Elm.upp m (rs.take s.1)).length) ((Elm.upp m (rs.take s.1)).flatMap cRo))], ofT 166 [(1, iv m), (2, .el (cSy ((p : Nat) : Int) rs) 0), (4, .box 1 0), (5, iv 0), (8, .own 4), (9, .own 6), (10, .own 5), (11, iv s.1)])) (fun s => rs.length - s.1) ⟨0, Nat.zero_le _⟩ (wk_keep _ _ rfl (by kernel_rfl) (by kernel_rfl)) (fun s => ?_)
 obtain ⟨j, hj0⟩ := s
 show ETri J w0 (ofL [(1, .box 24 [iv 0, .v (.slice none 0 0)]), (4, .row false 39 2 ((Elm.low p m (rs.take j)).length) ((Elm.low p m (rs.take j)).flatMap cRo)), (5, .row false 39 2 ((Elm.oth m (rs.take j)).length) ((Elm.oth m (rs.take j)).flatMap cRo)), (6, .row false 39 2 ((Elm.upp m (rs.take j)).length) ((Elm.upp m (rs.take j)).flatMap cRo))]) (ofT 166 [(1, iv m), (2, .el (cSy ((p : Nat) : Int) rs) 0), (4, .box 1 0), (5, iv 0), (8, .own 4), (9, .own 6), (10, .own 5), (11, iv j)]) _
 have l1 := Elm.oth_len (m := m) (rs := rs.take j)
 have l2 := Elm.low_len (p := p) (m := m) (rs := rs.take j)
 have l3 := Elm.upp_len (m := m) (rs := rs.take j)
 have l4 : (rs.take j).length ≤ j := List.length_take_le _ _
 refine tri_seq ?_
 refine tri_seq ?_
 by_cases hs1 : ((j : Nat) : Int) < ((rs.length : Nat) : Int)
 have hj1 : j < rs.length := by omega
 have hmj : m < rs[j].1.length := by rw [F.len _ (List.getElem_mem hj1)]; exact hm
 refine tri_region ?_
 refine oA (sp_move (.tmp 11) (iv j) rfl) I0 ?_
 refine oA (sp_fieldEl (off' := 1) (.tmp 2) rfl Tryd.underlying24 rfl (z := 1) (by kernel_rfl) (by decide) rfl) I0 ?_
 refine oA (sp_loadEl1 (X := slA 2 cRo rs) (.tmp 43) rfl Tryd.underlying22 rfl rfl) I0 ?_
 refine oA (sp_lenSl (.tmp 44) rfl Tryd.underlying22) I0 ?_
 refine oC (sp_lss rfl (dT hs1)) I0 I0 ?_
 refine kN 166 [(1, .box 24 [iv 0, .v (.slice none 0 0)]), (4, .row false 39 2 ((Elm.low p m (rs.take j)).length) ((Elm.low p m (rs.take j)).flatMap cRo)), (5, .row false 39 2 ((Elm.oth m (rs.take j)).length) ((Elm.oth m (rs.take j)).flatMap cRo)), (6, .row false 39 2 ((Elm.upp m (rs.take j)).length) ((Elm.upp m (rs.take j)).flatMap cRo))] [(1, iv m), (2, .el (cSy ((p : Nat) : Int) rs) 0), (4, .box 1 0), (5, iv 0), (8, .own 4), (9, .own 6), (10, .own 5), (11, iv j), (46, bv true)] ?_
 refine t_then ?_
 refine t_condT rfl ?_
 refine tri_skip ?_
 refine t_then ?_
 refine tri_seq ?_
 refine tri_block ?_
 refine tri_seq ?_
 refine tri_region ?_
 refine oA (sp_fieldEl (off' := 1) (.tmp 2) rfl Tryd.underlying24 rfl (z := 1) (by kernel_rfl) (by decide) rfl) I0 ?_
 refine oA (sp_loadEl1 (X := slA 2 cRo rs) (.tmp 49) rfl Tryd.underlying22 rfl rfl) I0 ?_
 refine oA (sp_move (.tmp 11) (iv j) rfl) I0 ?_
 refine oC (sp_indexSl (off := j * 2) (.tmp 50) (.tmp 51) rfl Tryd.underlying22 (by kernel_rfl) (by omega) (by omega) rfl) I0 I0 ?_
 refine oA (sp_fieldEl (off' := j * 2) (.tmp 52) rfl Tryd.underlying39 rfl (z := 1) (by kernel_rfl) (by decide) rfl) I0 ?_
 refine oA (sp_loadEl1 (X := intsA rs[j].1) (.tmp 53) rfl Tryd.underlying25 rfl ((eflat_get lenRo rs j 0 (by omega) (by decide)).trans rfl)) I0 ?_
 refine oA (sp_move (.tmp 1) (iv m) rfl) I0 ?_
 refine oC (sp_indexSl (off := m * 1) (.tmp 54) (.tmp 55) rfl Tryd.underlying25 (by kernel_rfl) (by omega) (by omega) rfl) I0 I0 ?_
 refine oA (sp_loadEl1 (X := iv rs[j].1[m]) (.tmp 56) rfl Tryd.underlying3 rfl (map_at1 rs[j].1 (by omega))) I0 ?_
 refine oA (sp_assign (.tmp 57) (iv rs[j].1[m]) rfl) I0 ?_
 refine kN 166 [(1, .box 24 [iv 0, .v (.slice none 0 0)]), (4, .row false 39 2 ((Elm.low p m (rs.take j)).length) ((Elm.low p m (rs.take j)).flatMap cRo)), (5, .row false 39 2 ((Elm.oth m (rs.take j)).length) ((Elm.oth m (rs.take j)).flatMap cRo)), (6, .row false 39 2 ((Elm.upp m (rs.take j)).length) ((Elm.upp m (rs.take j)).flatMap cRo))] [(1, iv m), (2, .el (cSy ((p : Nat) : Int) rs) 0), (4, .box 1 0), (5, iv 0), (8, .own 4), (9, .own 6), (10, .own 5), (11, iv j), (12, iv rs[j].1[m]), (46, bv true)] ?_
 refine t_then ?_
 refine tri_seq ?_
 by_cases hs2 : rs[j].1[m] = 0
 refine tri_region ?_
 refine oA (sp_move (.tmp 12) (iv rs[j].1[m]) rfl) I0 ?_
 refine oC (sp_eql rfl (dT hs2)) I0 I0 ?_
 refine kN 166 [(1, .box 24 [iv 0, .v (.slice none 0 0)]), (4, .row false 39 2 ((Elm.low p m (rs.take j)).length) ((Elm.low p m (rs.take j)).flatMap cRo)), (5, .row false 39 2 ((Elm.oth m (rs.take j)).length) ((Elm.oth m (rs.take j)).flatMap cRo)), (6, .row false 39 2 ((Elm.upp m (rs.take j)).length) ((Elm.upp m (rs.take j)).flatMap cRo))] [(1, iv m), (2, .el (cSy ((p : Nat) : Int) rs) 0), (4, .box 1 0), (5, iv 0), (8, .own 4), (9, .own 6), (10, .own 5), (11, iv j), (12, iv rs[j].1[m]), (46, bv true), (59, bv true)] ?_
 refine t_then ?_
 refine t_condT rfl ?_
 refine tri_region ?_
 refine oA (sp_move (.tmp 10) (.own 5) rfl) I0 ?_
 refine oA (sp_fieldEl (off' := 1) (.tmp 2) rfl Tryd.underlying24 rfl (z := 1) (by kernel_rfl) (by decide) rfl) I0 ?_
 refine oA (sp_loadEl1 (X := slA 2 cRo rs) (.tmp 61) rfl Tryd.underlying22 rfl rfl) I0 ?_
 refine oA (sp_move (.tmp 11) (iv j) rfl) I0 ?_
 refine oC (sp_indexSl (off := j * 2) (.tmp 62) (.tmp 63) rfl Tryd.underlying22 (by kernel_rfl) (by omega) (by omega) rfl) I0 I0 ?_
 refine oA (sp_loadElS (z := 2) (.tmp 64) rfl Tryd.underlying39 rfl (by kernel_rfl) (flat_take lenRo rs j (by omega)) rfl) I0 ?_
 refine t_op rfl (sp_build (z := 2) (k := 7) (fr := false) (cs := [intsA rs[j].1, iv rs[j].2]) [.tmp 65] [.agg (cRo rs[j])] rfl Tryd.underlying22 (by kernel_rfl) (by decide) (by decide) rfl rfl rfl (by kernel_rfl) (by decide) (fun h => Bool.noConfusion h) (by kernel_rfl)) ⟨I0, T0⟩ T0 rfl ?_
 refine t_op rfl (sp_appendOwn (n := (Elm.oth m (rs.take j)).length) (cs := ((Elm.oth m (rs.take j)).flatMap cRo)) (fr := false) (m := 1) (ds := [intsA rs[j].1, iv rs[j].2]) (⟨Tryd.underlying22, by kernel_rfl, by decide⟩ : Elt Tryd.prog 22 39 2 32) (.tmp 60) (.tmp 66) rfl (fun h => Bool.noConfusion h) (by unfold maxLen; omega) (by omega) (Elm.cellRp _) (es := (((Elm.oth m (rs.take j)) ++ [rs[j]]).flatMap cRo)) Elm.snocRp) ⟨I0, I0, T0⟩ ⟨rfl, rfl, T0⟩ rfl ?_
 refine oA (sp_assign (.tmp 67) (.own 5) rfl) I0 ?_
 refine kN 166 [(1, .box 24 [iv 0, .v (.slice none 0 0)]), (4, .row false 39 2 ((Elm.low p m (rs.take j)).length) ((Elm.low p m (rs.take j)).flatMap cRo)), (5, .row false 39 2 ((Elm.oth m (rs.take j)).length + 1) (((Elm.oth m (rs.take j)) ++ [rs[j]]).flatMap cRo)), (6, .row false 39 2 ((Elm.upp m (rs.take j)).length) ((Elm.upp m (rs.take j)).flatMap cRo))] [(1, iv m), (2, .el (cSy ((p : Nat) : Int) rs) 0), (4, .box 1 0), (5, iv 0), (8, .own 4), (9, .own 6), (10, .own 5), (11, iv j), (12, iv rs[j].1[m]), (46, bv true), (59, bv true)] ?_
 refine t_block ?_
 refine t_then ?_
 refine tri_region ?_
 refine oA (sp_move (.tmp 11) (iv j) rfl) I0 ?_
 refine oC (sp_add (c := ((j + 1 : Nat) : Int)) rfl (w64 (by omega) (by omega) (by omega))) I0 I0 ?_
 refine oA (sp_assign (.tmp 48) (iv (j + 1 : Nat)) rfl) I0 ?_
 refine kN 166 [(1, .box 24 [iv 0, .v (.slice none 0 0)]), (4, .row false 39 2 ((Elm.low p m (rs.take j)).length) ((Elm.low p m (rs.take j)).flatMap cRo)), (5, .row false 39 2 ((Elm.oth m (rs.take j)).length + 1) (((Elm.oth m (rs.take j)) ++ [rs[j]]).flatMap cRo)), (6, .row false 39 2 ((Elm.upp m (rs.take j)).length) ((Elm.upp m (rs.take j)).flatMap cRo))] [(1, iv m), (2, .el (cSy ((p : Nat) : Int) rs) 0), (4, .box 1 0), (5, iv 0), (8, .own 4), (9, .own 6), (10, .own 5), (11, iv (j + 1 : Nat)), (12, iv rs[j].1[m]), (46, bv true), (59, bv true)] ?_
 refine t_then ?_
 refine tri_again ⟨j + 1, by omega⟩ (show rs.length - (j + 1) < rs.length - j by omega) ?_
 show Wk _ _ (ofL [(1, .box 24 [iv 0, .v (.slice none 0 0)]), (4, .row false 39 2 ((Elm.low p m (rs.take (j + 1))).length) ((Elm.low p m (rs.take (j + 1))).flatMap cRo)), (5, .row false 39 2 ((Elm.oth m (rs.take (j + 1))).length) ((Elm.oth m (rs.take (j + 1))).flatMap cRo)), (6, .row false 39 2 ((Elm.upp m (rs.take (j + 1))).length) ((Elm.upp m (rs.take (j + 1))).flatMap cRo))]) (ofT 166 [(1, iv m), (2, .el (cSy ((p : Nat) : Int) rs) 0), (4, .box 1 0), (5, iv 0), (8, .own 4), (9, .own 6), (10, .own 5), (11, iv ((j + 1) : Nat))])
 rw [(Elm.st_z (p := p) hj1 hmj hs2).1, (Elm.st_z (p := p) hj1 hmj hs2).2.1, (Elm.st_z (p := p) hj1 hmj hs2).2.2]
 try rw [List.length_append]
 exact wk_keep _ _ rfl (by kernel_rfl) (by kernel_rfl)
 refine tri_region ?_
 refine oA (sp_move (.tmp 12) (iv rs[j].1[m]) rfl) I0 ?_
 refine oC (sp_eql rfl (dF hs2)) I0 I0 ?_
 refine kN 166 [(1, .box 24 [iv 0, .v (.slice none 0 0)]), (4, .row false 39 2 ((Elm.low p m (rs.take j)).length) ((Elm.low p m (rs.take j)).flatMap cRo)), (5, .row false 39 2 ((Elm.oth m (rs.take j)).length) ((Elm.oth m (rs.take j)).flatMap cRo)), (6, .row false 39 2 ((Elm.upp m (rs.take j)).length) ((Elm.upp m (rs.take j)).flatMap cRo))] [(1, iv m), (2, .el (cSy ((p : Nat) : Int) rs) 0), (4, .box 1 0), (5, iv 0), (8, .own 4), (9, .own 6), (10, .own 5), (11, iv j), (12, iv rs[j].1[m]), (46, bv true), (59, bv false)] ?_
 refine t_then ?_
 refine t_condF rfl ?_
 refine tri_seq ?_
 by_cases hs3 : 0 < rs[j].1[m]
 refine tri_region ?_
 refine oA (sp_move (.tmp 12) (iv rs[j].1[m]) rfl) I0 ?_
 refine oC (sp_gtr rfl (dT hs3)) I0 I0 ?_
 refine kN 166 [(1, .box 24 [iv 0, .v (.slice none 0 0)]), (4, .row false 39 2 ((Elm.low p m (rs.take j)).length) ((Elm.low p m (rs.take j)).flatMap cRo)), (5, .row false 39 2 ((Elm.oth m (rs.take j)).length) ((Elm.oth m (rs.take j)).flatMap cRo)), (6, .row false 39 2 ((Elm.upp m (rs.take j)).length) ((Elm.upp m (rs.take j)).flatMap cRo))] [(1, iv m), (2, .el (cSy ((p : Nat) : Int) rs) 0), (4, .box 1 0), (5, iv 0), (8, .own 4), (9, .own 6), (10, .own 5), (11, iv j), (12, iv rs[j].1[m]), (46, bv true), (59, bv false), (69, bv true)] ?_
 refine t_then ?_
 refine t_condT rfl ?_
 refine tri_region ?_
 refine oA (sp_move (.tmp 8) (.own 4) rfl) I0 ?_
 refine oA (sp_fieldEl (off' := 1) (.tmp 2) rfl Tryd.underlying24 rfl (z := 1) (by kernel_rfl) (by decide) rfl) I0 ?_
 refine oA (sp_loadEl1 (X := slA 2 cRo rs) (.tmp 71) rfl Tryd.underlying22 rfl rfl) I0 ?_
 refine oA (sp_move (.tmp 11) (iv j) rfl) I0 ?_
 refine oC (sp_indexSl (off := j * 2) (.tmp 72) (.tmp 73) rfl Tryd.underlying22 (by kernel_rfl) (by omega) (by omega) rfl) I0 I0 ?_
 refine oA (sp_loadElS (z := 2) (.tmp 74) rfl Tryd.underlying39 rfl (by kernel_rfl) (flat_take lenRo rs j (by omega)) rfl) I0 ?_
 refine t_op rfl (sp_build (z := 2) (k := 7) (fr := false) (cs := [intsA rs[j].1, iv rs[j].2]) [.tmp 75] [.agg (cRo rs[j])] rfl Tryd.underlying22 (by kernel_rfl) (by decide) (by decide) rfl rfl rfl (by kernel_rfl) (by decide) (fun h => Bool.noConfusion h) (by kernel_rfl)) ⟨I0, T0⟩ T0 rfl ?_
 refine t_op rfl (sp_appendOwn (n := (Elm.low p m (rs.take j)).length) (cs := ((Elm.low p m (rs.take j)).flatMap cRo)) (fr := false) (m := 1) (ds := [intsA rs[j].1, iv rs[j].2]) (⟨Tryd.underlying22, by kernel_rfl, by decide⟩ : Elt Tryd.prog 22 39 2 32) (.tmp 70) (.tmp 76) rfl (fun h => Bool.noConfusion h) (by unfold maxLen; omega) (by omega) (Elm.cellRp _) (es := (((Elm.low p m (rs.take j)) ++ [rs[j]]).flatMap cRo)) Elm.snocRp) ⟨I0, I0, T0⟩ ⟨rfl, rfl, T0⟩ rfl ?_
 refine oA (sp_assign (.tmp 77) (.own 4) rfl) I0 ?_
 refine kN 166 [(1, .box 24 [iv 0, .v (.slice none 0 0)]), (4, .row false 39 2 ((Elm.low p m (rs.take j)).length + 1) (((Elm.low p m (rs.take j)) ++ [rs[j]]).flatMap cRo)), (5, .row false 39 2 ((Elm.oth m (rs.take j)).length) ((Elm.oth m (rs.take j)).flatMap cRo)), (6, .row false 39 2 ((Elm.upp m (rs.take j)).length) ((Elm.upp m (rs.take j)).flatMap cRo))] [(1, iv m), (2, .el (cSy ((p : Nat) : Int) rs) 0), (4, .box 1 0), (5, iv 0), (8, .own 4), (9, .own 6), (10, .own 5), (11, iv j), (12, iv rs[j].1[m]), (46, bv true), (59, bv false), (69, bv true)] ?_
 refine t_block ?_
 refine t_then ?_
 refine tri_region ?_
 refine oA (sp_move (.tmp 11) (iv j) rfl) I0 ?_
 refine oC (sp_add (c := ((j + 1 : Nat) : Int)) rfl (w64 (by omega) (by omega) (by omega))) I0 I0 ?_
 refine oA (sp_assign (.tmp 48) (iv (j + 1 : Nat)) rfl) I0 ?_
 refine kN 166 [(1, .box 24 [iv 0, .v (.slice none 0 0)]), (4, .row false 39 2 ((Elm.low p m (rs.take j)).length + 1) (((Elm.low p m (rs.take j)) ++ [rs[j]]).flatMap cRo)), (5, .row false 39 2 ((Elm.oth m (rs.take j)).length) ((Elm.oth m (rs.take j)).flatMap cRo)), (6, .row false 39 2 ((Elm.upp m (rs.take j)).length) ((Elm.upp m (rs.take j)).flatMap cRo))] [(1, iv m), (2, .el (cSy ((p : Nat) : Int) rs) 0), (4, .box 1 0), (5, iv 0), (8, .own 4), (9, .own 6), (10, .own 5), (11, iv (j + 1 : Nat)), (12, iv rs[j].1[m]), (46, bv true), (59, bv false), (69, bv true)] ?_
 refine t_then ?_
 refine tri_again ⟨j + 1, by omega⟩ (show rs.length - (j + 1) < rs.length - j by omega) ?_
 show Wk _ _ (ofL [(1, .box 24 [iv 0, .v (.slice none 0 0)]), (4, .row false 39 2 ((Elm.low p m (rs.take (j + 1))).length) ((Elm.low p m (rs.take (j + 1))).flatMap cRo)), (5, .row false 39 2 ((Elm.oth m (rs.take (j + 1))).length) ((Elm.oth m (rs.take (j + 1))).flatMap cRo)), (6, .row false 39 2 ((Elm.upp m (rs.take (j + 1))).length) ((Elm.upp m (rs.take (j + 1))).flatMap cRo))]) (ofT 166 [(1, iv m), (2, .el (cSy ((p : Nat) : Int) rs) 0), (4, .box 1 0), (5, iv 0), (8, .own 4), (9, .own 6), (10, .own 5), (11, iv ((j + 1) : Nat))])
 rw [(Elm.st_p (p := p) hj1 hmj hs2 hs3).1, (Elm.st_p (p := p) hj1 hmj hs2 hs3).2.1, (Elm.st_p (p := p) hj1 hmj hs2 hs3).2.2]
 try rw [List.length_append]
 exact wk_keep _ _ rfl (by kernel_rfl) (by kernel_rfl)
 refine tri_region ?_
 refine oA (sp_move (.tmp 12) (iv rs[j].1[m]) rfl) I0 ?_
 refine oC (sp_gtr rfl (dF hs3)) I0 I0 ?_
 refine kN 166 [(1, .box 24 [iv 0, .v (.slice none 0 0)]), (4, .row false 39 2 ((Elm.low p m (rs.take j)).length) ((Elm.low p m (rs.take j)).flatMap cRo)), (5, .row false 39 2 ((Elm.oth m (rs.take j)).length) ((Elm.oth m (rs.take j)).flatMap cRo)), (6, .row false 39 2 ((Elm.upp m (rs.take j)).length) ((Elm.upp m (rs.take j)).flatMap cRo))] [(1, iv m), (2, .el (cSy ((p : Nat) : Int) rs) 0), (4, .box 1 0), (5, iv 0), (8, .own 4), (9, .own 6), (10, .own 5), (11, iv j), (12, iv rs[j].1[m]), (46, bv true), (59, bv false), (69, bv false)] ?_
 refine t_then ?_
 refine t_condF rfl ?_
 refine tri_region ?_
 refine oA (sp_move (.tmp 9) (.own 6) rfl) I0 ?_
 refine oA (sp_fieldEl (off' := 1) (.tmp 2) rfl Tryd.underlying24 rfl (z := 1) (by kernel_rfl) (by decide) rfl) I0 ?_
 refine oA (sp_loadEl1 (X := slA 2 cRo rs) (.tmp 79) rfl Tryd.underlying22 rfl rfl) I0 ?_
 refine oA (sp_move (.tmp 11) (iv j) rfl) I0 ?_
 refine oC (sp_indexSl (off := j * 2) (.tmp 80) (.tmp 81) rfl Tryd.underlying22 (by kernel_rfl) (by omega) (by omega) rfl) I0 I0 ?_
 refine oA (sp_loadElS (z := 2) (.tmp 82) rfl Tryd.underlying39 rfl (by kernel_rfl) (flat_take lenRo rs j (by omega)) rfl) I0 ?_
 refine t_op rfl (sp_build (z := 2) (k := 7) (fr := false) (cs := [intsA rs[j].1, iv rs[j].2]) [.tmp 83] [.agg (cRo rs[j])] rfl Tryd.underlying22 (by kernel_rfl) (by decide) (by decide) rfl rfl rfl (by kernel_rfl) (by decide) (fun h => Bool.noConfusion h) (by kernel_rfl)) ⟨I0, T0⟩ T0 rfl ?_
 refine t_op rfl (sp_appendOwn (n := (Elm.upp m (rs.take j)).length) (cs := ((Elm.upp m (rs.take j)).flatMap cRo)) (fr := false) (m := 1) (ds := [intsA rs[j].1, iv rs[j].2]) (⟨Tryd.underlying22, by kernel_rfl, by decide⟩ : Elt Tryd.prog 22 39 2 32) (.tmp 78) (.tmp 84) rfl (fun h => Bool.noConfusion h) (by unfold maxLen; omega) (by omega) (Elm.cellRp _) (es := (((Elm.upp m (rs.take j)) ++ [rs[j]]).flatMap cRo)) Elm.snocRp) ⟨I0, I0, T0⟩ ⟨rfl, rfl, T0⟩ rfl ?_
 refine oA (sp_assign (.tmp 85) (.own 6) rfl) I0 ?_
 refine kN 166 [(1, .box 24 [iv 0, .v (.slice none 0 0)]), (4, .row false 39 2 ((Elm.low p m (rs.take j)).length) ((Elm.low p m (rs.take j)).flatMap cRo)), (5, .row false 39 2 ((Elm.oth m (rs.take j)).length) ((Elm.oth m (rs.take j)).flatMap cRo)), (6, .row false 39 2 ((Elm.upp m (rs.take j)).length + 1) (((Elm.upp m (rs.take j)) ++ [rs[j]]).flatMap cRo))] [(1, iv m), (2, .el (cSy ((p : Nat) : Int) rs) 0), (4, .box 1 0), (5, iv 0), (8, .own 4), (9, .own 6), (10, .own 5), (11, iv j), (12, iv rs[j].1[m]), (46, bv true), (59, bv false), (69, bv false)] ?_
 refine t_block ?_
 refine t_then ?_
 refine tri_region ?_
 refine oA (sp_move (.tmp 11) (iv j) rfl) I0 ?_
 refine oC (sp_add (c := ((j + 1 : Nat) : Int)) rfl (w64 (by omega) (by omega) (by omega))) I0 I0 ?_
 refine oA (sp_assign (.tmp 48) (iv (j + 1 : Nat)) rfl) I0 ?_
 refine kN 166 [(1, .box 24 [iv 0, .v (.slice none 0 0)]), (4, .row false 39 2 ((Elm.low p m (rs.take j)).length) ((Elm.low p m (rs.take j)).flatMap cRo)), (5, .row false 39 2 ((Elm.oth m (rs.take j)).length) ((Elm.oth m (rs.take j)).flatMap cRo)), (6, .row false 39 2 ((Elm.upp m (rs.take j)).length + 1) (((Elm.upp m (rs.take j)) ++ [rs[j]]).flatMap cRo))] [(1, iv m), (2, .el (cSy ((p : Nat) : Int) rs) 0), (4, .box 1 0), (5, iv 0), (8, .own 4), (9, .own 6), (10, .own 5), (11, iv (j + 1 : Nat)), (12, iv rs[j].1[m]), (46, bv true), (59, bv false), (69, bv false)] ?_
 refine t_then ?_
 refine tri_again ⟨j + 1, by omega⟩ (show rs.length - (j + 1) < rs.length - j by omega) ?_
 show Wk _ _ (ofL [(1, .box 24 [iv 0, .v (.slice none 0 0)]), (4, .row false 39 2 ((Elm.low p m (rs.take (j + 1))).length) ((Elm.low p m (rs.take (j + 1))).flatMap cRo)), (5, .row false 39 2 ((Elm.oth m (rs.take (j + 1))).length) ((Elm.oth m (rs.take (j + 1))).flatMap cRo)), (6, .row false 39 2 ((Elm.upp m (rs.take (j + 1))).length) ((Elm.upp m (rs.take (j + 1))).flatMap cRo))]) (ofT 166 [(1, iv m), (2, .el (cSy ((p : Nat) : Int) rs) 0), (4, .box 1 0), (5, iv 0), (8, .own 4), (9, .own 6), (10, .own 5), (11, iv ((j + 1) : Nat))])
 rw [(Elm.st_n (p := p) hj1 hmj hs2 hs3).1, (Elm.st_n (p := p) hj1 hmj hs2 hs3).2.1, (Elm.st_n (p := p) hj1 hmj hs2 hs3).2.2]
 try rw [List.length_append]
 exact wk_keep _ _ rfl (by kernel_rfl) (by kernel_rfl)
 refine tri_region ?_
 refine oA (sp_move (.tmp 11) (iv j) rfl) I0 ?_
 refine oA (sp_fieldEl (off' := 1) (.tmp 2) rfl Tryd.underlying24 rfl (z := 1) (by kernel_rfl) (by decide) rfl) I0 ?_
 refine oA (sp_loadEl1 (X := slA 2 cRo rs) (.tmp 43) rfl Tryd.underlying22 rfl rfl) I0 ?_
 refine oA (sp_lenSl (.tmp 44) rfl Tryd.underlying22) I0 ?_
 refine oC (sp_lss rfl (dF hs1)) I0 I0 ?_
 refine kN 166 [(1, .box 24 [iv 0, .v (.slice none 0 0)]), (4, .row false 39 2 ((Elm.low p m (rs.take j)).length) ((Elm.low p m (rs.take j)).flatMap cRo)), (5, .row false 39 2 ((Elm.oth m (rs.take j)).length) ((Elm.oth m (rs.take j)).flatMap cRo)), (6, .row false 39 2 ((Elm.upp m (rs.take j)).length) ((Elm.upp m (rs.take j)).flatMap cRo))] [(1, iv m), (2, .el (cSy ((p : Nat) : Int) rs) 0), (4, .box 1 0), (5, iv 0), (8, .own 4), (9, .own 6), (10, .own 5), (11, iv j), (46, bv false)] ?_
 refine t_then ?_
 refine t_condF rfl ?_
 refine tri_exit ?_
 refine t_then_exit ?_
 refine t_then_exit ?_
 refine t_hit ?_
 refine t_then ?_
 refine tri_seq ?_
 refine tri_seq ?_
 refine kW 166 [(1, .box 24 [iv 0, .v (.slice none 0 0)]), (4, .row false 39 2 ((Elm.low p m (rs.take j)).length) ((Elm.low p m (rs.take j)).flatMap cRo)), (5, .row false 39 2 ((Elm.oth m (rs.take j)).length) ((Elm.oth m (rs.take j)).flatMap cRo)), (6, .row false 39 2 ((Elm.upp m (rs.take j)).length) ((Elm.upp m (rs.take j)).flatMap cRo))] [(1, iv m), (2, .el (cSy ((p : Nat) : Int) rs) 0), (4, .box 1 0), (5, iv 0), (8, .own 4), (9, .own 6), (10, .own 5)] ?_
 have hj2 : j = rs.length := by omega
 rw [show rs.take j = rs by rw [hj2, List.take_length]]
 by_cases hs4 : 192 < (Elm.szE p m rs)
 refine tri_region ?_
 refine oA (sp_move (.tmp 10) (.own 5) rfl) I0 ?_
 refine oB (sp_lenOwn (.tmp 86) rfl Tryd.underlying22) I0 rfl ?_
 refine oA (sp_move (.tmp 8) (.own 4) rfl) I0 ?_
 refine oB (sp_lenOwn (.tmp 88) rfl Tryd.underlying22) I0 rfl ?_
 refine oA (sp_move (.tmp 9) (.own 6) rfl) I0 ?_
 refine oB (sp_lenOwn (.tmp 90) rfl Tryd.underlying22) I0 rfl ?_
 refine oC (sp_mul (c := (Elm.mulE p m rs)) rfl (Elm.wrap_mul hl)) I0 I0 ?_
 refine oC (sp_add (c := (Elm.szE p m rs)) rfl (Elm.wrap_sz hl)) I0 I0 ?_
 refine oC (sp_gtr rfl (dT hs4)) I0 I0 ?_
 refine kN 166 [(1, .box 24 [iv 0, .v (.slice none 0 0)]), (4, .row false 39 2 ((Elm.low p m rs).length) ((Elm.low p m rs).flatMap cRo)), (5, .row false 39 2 ((Elm.oth m rs).length) ((Elm.oth m rs).flatMap cRo)), (6, .row false 39 2 ((Elm.upp m rs).length) ((Elm.upp m rs).flatMap cRo))] [(1, iv m), (2, .el (cSy ((p : Nat) : Int) rs) 0), (4, .box 1 0), (5, iv 0), (8, .own 4), (9, .own 6), (10, .own 5), (94, bv true)] ?_
 refine t_then ?_
 refine t_condT rfl ?_
 refine tri_seq ?_
 refine tri_region ?_
 refine t_op rfl (sp_bld [] #[.int .i64 0, .slice none 0 0] rfl rfl (by kernel_rfl) rfl) T0 T0 T0 ?_
 refine t_op rfl (sp_storeBox (T0 := 24) (X := .agg [iv 0, .v (.slice none 0 0)]) (cs := [iv 0, .v (.slice none 0 0)]) (ds := [iv 0, .v (.slice none 0 0)]) (z := 2) (.tmp 4) (.tmp 95) rfl (by kernel_rfl) (by kernel_rfl) (by kernel_rfl) (of_decide_eq_true (by kernel_rfl)) (by kernel_rfl)) ⟨I0, I0, T0⟩ ⟨rfl, T0⟩ rfl ?_
 refine oA (sp_assign (.const (.int .i64 4)) (iv 4) rfl) I0 ?_
 refine kN 166 [(1, .box 24 [iv 0, .v (.slice none 0 0)]), (4, .row false 39 2 ((Elm.low p m rs).length) ((Elm.low p m rs).flatMap cRo)), (5, .row false 39 2 ((Elm.oth m rs).length) ((Elm.oth m rs).flatMap cRo)), (6, .row false 39 2 ((Elm.upp m rs).length) ((Elm.upp m rs).flatMap cRo))] [(1, iv m), (2, .el (cSy ((p : Nat) : Int) rs) 0), (4, .box 1 0), (5, iv 4), (8, .own 4), (9, .own 6), (10, .own 5)] ?_
 refine t_then ?_
 refine tri_ret ?_
 refine t_then_ret ?_
 refine tri_wk (wk_adoptB 1 1 7 true 39 2 rfl rfl rfl rfl) ?_
 refine tri_end2 Tryd.results22 (.cellS rfl rfl Tryd.underlying24 rfl (z := 2) (by kernel_rfl) rfl (by decide)) (.tmp rfl) ?_
 exact Elm.el_big hv hm hs4
 refine tri_region ?_
 refine oA (sp_move (.tmp 10) (.own 5) rfl) I0 ?_
 refine oB (sp_lenOwn (.tmp 86) rfl Tryd.underlying22) I0 rfl ?_
 refine oA (sp_move (.tmp 8) (.own 4) rfl) I0 ?_
 refine oB (sp_lenOwn (.tmp 88) rfl Tryd.underlying22) I0 rfl ?_
 refine oA (sp_move (.tmp 9) (.own 6) rfl) I0 ?_
 refine oB (sp_lenOwn (.tmp 90) rfl Tryd.underlying22) I0 rfl ?_
 refine oC (sp_mul (c := (Elm.mulE p m rs)) rfl (Elm.wrap_mul hl)) I0 I0 ?_
 refine oC (sp_add (c := (Elm.szE p m rs)) rfl (Elm.wrap_sz hl)) I0 I0 ?_
 refine oC (sp_gtr rfl (dF hs4)) I0 I0 ?_
 refine kN 166 [(1, .box 24 [iv 0, .v (.slice none 0 0)]), (4, .row false 39 2 ((Elm.low p m rs).length) ((Elm.low p m rs).flatMap cRo)), (5, .row false 39 2 ((Elm.oth m rs).length) ((Elm.oth m rs).flatMap cRo)), (6, .row false 39 2 ((Elm.upp m rs).length) ((Elm.upp m rs).flatMap cRo))] [(1, iv m), (2, .el (cSy ((p : Nat) : Int) rs) 0), (4, .box 1 0), (5, iv 0), (8, .own 4), (9, .own 6), (10, .own 5), (94, bv false)] ?_
 refine t_then ?_
 refine t_condF rfl ?_
 refine tri_skip ?_
 refine t_then ?_
 refine tri_seq ?_
 refine tri_seq ?_
 refine tri_region ?_
 refine oA (sp_assign (.const (.int .i64 0)) (iv 0) rfl) I0 ?_
 refine kN 166 [(1, .box 24 [iv 0, .v (.slice none 0 0)]), (4, .row false 39 2 ((Elm.low p m rs).length) ((Elm.low p m rs).flatMap cRo)), (5, .row false 39 2 ((Elm.oth m rs).length) ((Elm.oth m rs).flatMap cRo)), (6, .row false 39 2 ((Elm.upp m rs).length) ((Elm.upp m rs).flatMap cRo))] [(1, iv m), (2, .el (cSy ((p : Nat) : Int) rs) 0), (4, .box 1 0), (5, iv 0), (8, .own 4), (9, .own 6), (10, .own 5), (13, iv 0)] ?_
 refine t_then ?_
 refine tri_block ?_
 refine tri_loop (σ := {q : Nat × List Rw // q.1 ≤ (Elm.low p m rs).length ∧ q.2 = Elm.oth m rs ++ Elm.pairs m ((Elm.low p m rs).take q.1) (Elm.upp m rs) ∧ (∀ l ∈ (Elm.low p m rs).take q.1, ∀ u ∈ (Elm.upp m rs), Elm.okE m l u = true) ∧ q.2.length ≤ 250 + 250 * q.1}) (fun s => (ofL [(1, .box 24 [iv 0, .v (.slice none 0 0)]), (4, .row false 39 2 ((Elm.low p m rs).length) ((Elm.low p m rs).flatMap cRo)), (5, .row false 39 2 s.1.2.length (s.1.2.flatMap cRo)), (6, .row false 39 2 ((Elm.upp m rs).length) ((Elm.upp m rs).flatMap cRo))], ofT 166 [(1, iv m), (2, .el (cSy ((p : Nat) : Int) rs) 0), (4, .box 1 0), (8, .own 4), (9, .own 6), (10, .own 5), (13, iv s.1.1)])) (fun s => (Elm.low p m rs).length - s.1.1) ⟨(0, Elm.oth m rs), Nat.zero_le _, by simp [Elm.pairs], by simp, by dsimp only; omega⟩ (wk_keep _ _ rfl (by kernel_rfl) (by kernel_rfl)) (fun s => ?_)
 obtain ⟨⟨i, L⟩, hi0, hL, hLo, hLb⟩ := s
 show ETri J w0 (ofL [(1, .box 24 [iv 0, .v (.slice none 0 0)]), (4, .row false 39 2 ((Elm.low p m rs).length) ((Elm.low p m rs).flatMap cRo)), (5, .row false 39 2 L.length (L.flatMap cRo)), (6, .row false 39 2 ((Elm.upp m rs).length) ((Elm.upp m rs).flatMap cRo))]) (ofT 166 [(1, iv m), (2, .el (cSy ((p : Nat) : Int) rs) 0), (4, .box 1 0), (8, .own 4), (9, .own 6), (10, .own 5), (13, iv i)]) _
 dsimp only at hi0 hL hLo hLb
 refine tri_seq ?_
 refine tri_seq ?_
 by_cases hs5 : ((i : Nat) : Int) < (((Elm.low p m rs).length : Nat) : Int)
 have hi1 : i < (Elm.low p m rs).length := by omega
 refine tri_region ?_
 refine oA (sp_move (.tmp 13) (iv i) rfl) I0 ?_
 refine oA (sp_move (.tmp 8) (.own 4) rfl) I0 ?_
 refine oB (sp_lenOwn (.tmp 97) rfl Tryd.underlying22) I0 rfl ?_
 refine oC (sp_lss rfl (dT hs5)) I0 I0 ?_
 refine kN 166 [(1, .box 24 [iv 0, .v (.slice none 0 0)]), (4, .row false 39 2 ((Elm.low p m rs).length) ((Elm.low p m rs).flatMap cRo)), (5, .row false 39 2 L.length (L.flatMap cRo)), (6, .row false 39 2 ((Elm.upp m rs).length) ((Elm.upp m rs).flatMap cRo))] [(1, iv m), (2, .el (cSy ((p : Nat) : Int) rs) 0), (4, .box 1 0), (8, .own 4), (9, .own 6), (10, .own 5), (13, iv i), (99, bv true)] ?_
 refine t_then ?_
 refine t_condT rfl ?_
 refine tri_skip ?_
 refine t_then ?_
 refine tri_seq ?_
 refine tri_block ?_
 refine tri_seq ?_
 refine tri_region ?_
 refine oA (sp_assign (.const (.int .i64 0)) (iv 0) rfl) I0 ?_
 refine kN 166 [(1, .box 24 [iv 0, .v (.slice none 0 0)]), (4, .row false 39 2 ((Elm.low p m rs).length) ((Elm.low p m rs).flatMap cRo)), (5, .row false 39 2 L.length (L.flatMap cRo)), (6, .row false 39 2 ((Elm.upp m rs).length) ((Elm.upp m rs).flatMap cRo))] [(1, iv m), (2, .el (cSy ((p : Nat) : Int) rs) 0), (4, .box 1 0), (8, .own 4), (9, .own 6), (10, .own 5), (13, iv i), (14, iv 0), (99, bv true)] ?_
 refine t_then ?_
 refine tri_block ?_
 refine tri_loop (σ := {q : Nat × List Rw // q.1 ≤ (Elm.upp m rs).length ∧ q.2 = L ++ ((Elm.upp m rs).take q.1).map (Elm.mixR m (Elm.low p m rs)[i]) ∧ (∀ u ∈ (Elm.upp m rs).take q.1, Elm.okE m (Elm.low p m rs)[i] u = true) ∧ q.2.length ≤ 250 + 250 * i + q.1}) (fun s => (ofL [(1, .box 24 [iv 0, .v (.slice none 0 0)]), (4, .row false 39 2 ((Elm.low p m rs).length) ((Elm.low p m rs).flatMap cRo)), (5, .row false 39 2 s.1.2.length (s.1.2.flatMap cRo)), (6, .row false 39 2 ((Elm.upp m rs).length) ((Elm.upp m rs).flatMap cRo))], ofT 166 [(1, iv m), (2, .el (cSy ((p : Nat) : Int) rs) 0), (4, .box 1 0), (8, .own 4), (9, .own 6), (10, .own 5), (13, iv i), (14, iv s.1.1), (99, bv true)])) (fun s => (Elm.upp m rs).length - s.1.1) ⟨(0, L), Nat.zero_le _, by simp, by simp, by dsimp only; omega⟩ (wk_keep _ _ rfl (by kernel_rfl) (by kernel_rfl)) (fun s => ?_)
 obtain ⟨⟨j, L2⟩, hj0, hL2, hL2o, hL2b⟩ := s
 show ETri J w0 (ofL [(1, .box 24 [iv 0, .v (.slice none 0 0)]), (4, .row false 39 2 ((Elm.low p m rs).length) ((Elm.low p m rs).flatMap cRo)), (5, .row false 39 2 L2.length (L2.flatMap cRo)), (6, .row false 39 2 ((Elm.upp m rs).length) ((Elm.upp m rs).flatMap cRo))]) (ofT 166 [(1, iv m), (2, .el (cSy ((p : Nat) : Int) rs) 0), (4, .box 1 0), (8, .own 4), (9, .own 6), (10, .own 5), (13, iv i), (14, iv j), (99, bv true)]) _
 dsimp only at hj0 hL2 hL2o hL2b
 refine tri_seq ?_
 refine tri_seq ?_
 by_cases hs6 : ((j : Nat) : Int) < (((Elm.upp m rs).length : Nat) : Int)
 have hj1 : j < (Elm.upp m rs).length := by omega
 have P := F.pair (List.getElem_mem hi1) (List.getElem_mem hj1)
 have lm := P.lm
 have um := P.um
 have g1 := P.g1
 have sb := smB_true.1 P.sb
 refine tri_region ?_
 refine oA (sp_move (.tmp 14) (iv j) rfl) I0 ?_
 refine oA (sp_move (.tmp 9) (.own 6) rfl) I0 ?_
 refine oB (sp_lenOwn (.tmp 103) rfl Tryd.underlying22) I0 rfl ?_
 refine oC (sp_lss rfl (dT hs6)) I0 I0 ?_
 refine kN 166 [(1, .box 24 [iv 0, .v (.slice none 0 0)]), (4, .row false 39 2 ((Elm.low p m rs).length) ((Elm.low p m rs).flatMap cRo)), (5, .row false 39 2 L2.length (L2.flatMap cRo)), (6, .row false 39 2 ((Elm.upp m rs).length) ((Elm.upp m rs).flatMap cRo))] [(1, iv m), (2, .el (cSy ((p : Nat) : Int) rs) 0), (4, .box 1 0), (8, .own 4), (9, .own 6), (10, .own 5), (13, iv i), (14, iv j), (99, bv true), (105, bv true)] ?_
 refine t_then ?_
 refine t_condT rfl ?_
 refine tri_skip ?_
 refine t_then ?_
 refine tri_seq ?_
 refine tri_block ?_
 refine tri_seq ?_
 refine tri_draw [⟨[(.tmp 8, .own 4)], [], .own 4, .no⟩, ⟨[(.tmp 13, iv i)], [], iv i, .no⟩, ⟨[(.tmp 108, .own 4), (.tmp 109, iv i)], [(4, .row false 39 2 ((Elm.low p m rs).length) ((Elm.low p m rs).flatMap cRo))], .box 4 (i * 2), .no⟩, ⟨[(.tmp 110, .box 4 (i * 2))], [], .box 4 (i * 2), .no⟩, ⟨[(.tmp 111, .box 4 (i * 2))], [(4, .row false 39 2 ((Elm.low p m rs).length) ((Elm.low p m rs).flatMap cRo))], intsA ((Elm.low p m rs)[i].1), .no⟩, ⟨[(.tmp 1, iv m)], [], iv m, .no⟩, ⟨[(.tmp 112, intsA ((Elm.low p m rs)[i].1)), (.tmp 113, iv m)], [], .el (((Elm.low p m rs)[i].1).map iv) (m * 1), .no⟩, ⟨[(.tmp 114, .el (((Elm.low p m rs)[i].1).map iv) (m * 1))], [], iv (Elm.cf m (Elm.low p m rs)[i]), .no⟩, ⟨[(.tmp 9, .own 6)], [], .own 6, .no⟩, ⟨[(.tmp 14, iv j)], [], iv j, .no⟩, ⟨[(.tmp 116, .own 6), (.tmp 117, iv j)], [(6, .row false 39 2 ((Elm.upp m rs).length) ((Elm.upp m rs).flatMap cRo))], .box 6 (j * 2), .no⟩, ⟨[(.tmp 118, .box 6 (j * 2))], [], .box 6 (j * 2), .no⟩, ⟨[(.tmp 119, .box 6 (j * 2))], [(6, .row false 39 2 ((Elm.upp m rs).length) ((Elm.upp m rs).flatMap cRo))], intsA ((Elm.upp m rs)[j].1), .no⟩, ⟨[(.tmp 1, iv m)], [], iv m, .no⟩, ⟨[(.tmp 120, intsA ((Elm.upp m rs)[j].1)), (.tmp 121, iv m)], [], .el (((Elm.upp m rs)[j].1).map iv) (m * 1), .no⟩, ⟨[(.tmp 122, .el (((Elm.upp m rs)[j].1).map iv) (m * 1))], [], iv (Elm.cf m (Elm.upp m rs)[j]), .no⟩, ⟨[(.tmp 123, iv (Elm.cf m (Elm.upp m rs)[j]))], [], iv (-(Elm.cf m (Elm.upp m rs)[j])), .no⟩, ⟨[(.tmp 115, iv (Elm.cf m (Elm.low p m rs)[i]))], [], iv (Elm.cf m (Elm.low p m rs)[i]), .no⟩, ⟨[(.tmp 124, iv (-(Elm.cf m (Elm.upp m rs)[j])))], [], iv (-(Elm.cf m (Elm.upp m rs)[j])), .no⟩] (by kernel_rfl) (by kernel_rfl) ?_
 refine ⟨app_yes rfl (sp_move (.tmp 8) (.own 4) rfl) ⟨I0, T0⟩ T0 T0, ?_⟩
 refine ⟨app_yes rfl (sp_move (.tmp 13) (iv i) rfl) ⟨I0, T0⟩ T0 T0, ?_⟩
 refine ⟨app_yes rfl (sp_indexOwn (off := i * 2) (.tmp 108) (.tmp 109) rfl Tryd.underlying22 (by kernel_rfl) (by omega) (by omega) rfl) ⟨I0, I0, T0⟩ ⟨rfl, T0⟩ T0, ?_⟩
 refine ⟨app_yes rfl (sp_fieldBox (off' := i * 2) (.tmp 110) rfl Tryd.underlying39 rfl (z := 1) (by kernel_rfl) (by decide) rfl) ⟨I0, T0⟩ T0 T0, ?_⟩
 refine ⟨app_yes rfl (sp_loadBox1  (Y := .row false 39 2 ((Elm.low p m rs).length) ((Elm.low p m rs).flatMap cRo)) (.tmp 111) rfl Tryd.underlying25 rfl ((eflat_get lenRo (Elm.low p m rs) i 0 (by omega) (by decide)).trans rfl)) ⟨I0, T0⟩ ⟨rfl, T0⟩ T0, ?_⟩
 refine ⟨app_yes rfl (sp_move (.tmp 1) (iv m) rfl) ⟨I0, T0⟩ T0 T0, ?_⟩
 refine ⟨app_yes rfl (sp_indexSl (off := m * 1) (.tmp 112) (.tmp 113) rfl Tryd.underlying25 (by kernel_rfl) (by omega) (by omega) rfl) ⟨I0, I0, T0⟩ T0 T0, ?_⟩
 refine ⟨app_yes rfl (sp_loadEl1 (X := iv (Elm.cf m (Elm.low p m rs)[i])) (.tmp 114) rfl Tryd.underlying3 rfl ((map_at1 ((Elm.low p m rs)[i].1) (by omega)).trans (congrArg (fun x => some (iv x)) (Elm.cf_at (by omega))))) ⟨I0, T0⟩ T0 T0, ?_⟩
 refine ⟨app_yes rfl (sp_move (.tmp 9) (.own 6) rfl) ⟨I0, T0⟩ T0 T0, ?_⟩
 refine ⟨app_yes rfl (sp_move (.tmp 14) (iv j) rfl) ⟨I0, T0⟩ T0 T0, ?_⟩
 refine ⟨app_yes rfl (sp_indexOwn (off := j * 2) (.tmp 116) (.tmp 117) rfl Tryd.underlying22 (by kernel_rfl) (by omega) (by omega) rfl) ⟨I0, I0, T0⟩ ⟨rfl, T0⟩ T0, ?_⟩
 refine ⟨app_yes rfl (sp_fieldBox (off' := j * 2) (.tmp 118) rfl Tryd.underlying39 rfl (z := 1) (by kernel_rfl) (by decide) rfl) ⟨I0, T0⟩ T0 T0, ?_⟩
 refine ⟨app_yes rfl (sp_loadBox1  (Y := .row false 39 2 ((Elm.upp m rs).length) ((Elm.upp m rs).flatMap cRo)) (.tmp 119) rfl Tryd.underlying25 rfl ((eflat_get lenRo (Elm.upp m rs) j 0 (by omega) (by decide)).trans rfl)) ⟨I0, T0⟩ ⟨rfl, T0⟩ T0, ?_⟩
 refine ⟨app_yes rfl (sp_move (.tmp 1) (iv m) rfl) ⟨I0, T0⟩ T0 T0, ?_⟩
 refine ⟨app_yes rfl (sp_indexSl (off := m * 1) (.tmp 120) (.tmp 121) rfl Tryd.underlying25 (by kernel_rfl) (by omega) (by omega) rfl) ⟨I0, I0, T0⟩ T0 T0, ?_⟩
 refine ⟨app_yes rfl (sp_loadEl1 (X := iv (Elm.cf m (Elm.upp m rs)[j])) (.tmp 122) rfl Tryd.underlying3 rfl ((map_at1 ((Elm.upp m rs)[j].1) (by omega)).trans (congrArg (fun x => some (iv x)) (Elm.cf_at (by omega))))) ⟨I0, T0⟩ T0 T0, ?_⟩
 refine ⟨app_yes rfl (sp_neg (c := -(Elm.cf m (Elm.upp m rs)[j])) rfl (w64 (by omega) (by omega) (by omega))) ⟨I0, T0⟩ T0 T0, ?_⟩
 refine ⟨app_yes rfl (sp_assign (.tmp 115) (iv (Elm.cf m (Elm.low p m rs)[i])) rfl) ⟨I0, T0⟩ T0 T0, ?_⟩
 refine ⟨app_yes rfl (sp_assign (.tmp 124) (iv (-(Elm.cf m (Elm.upp m rs)[j]))) rfl) ⟨I0, T0⟩ T0 T0, ?_⟩
 show ETri J w0 _ _ _
 refine kW 166 [(1, .box 24 [iv 0, .v (.slice none 0 0)]), (4, .row false 39 2 ((Elm.low p m rs).length) ((Elm.low p m rs).flatMap cRo)), (5, .row false 39 2 L2.length (L2.flatMap cRo)), (6, .row false 39 2 ((Elm.upp m rs).length) ((Elm.upp m rs).flatMap cRo))] [(1, iv m), (2, .el (cSy ((p : Nat) : Int) rs) 0), (4, .box 1 0), (8, .own 4), (9, .own 6), (10, .own 5), (13, iv i), (14, iv j), (15, iv (Elm.cf m (Elm.low p m rs)[i])), (16, iv (-(Elm.cf m (Elm.upp m rs)[j]))), (99, bv true), (105, bv true)] ?_
 refine t_then ?_
 refine tri_seq ?_
 refine tri_region ?_
 refine oA (sp_move (.tmp 15) (iv (Elm.cf m (Elm.low p m rs)[i])) rfl) I0 ?_
 refine oA (sp_move (.tmp 16) (iv (-(Elm.cf m (Elm.upp m rs)[j]))) rfl) I0 ?_
 refine oD (sp_call (c := .func 44) (xs := #[.tmp 125, .tmp 126]) [] (Elm.rgcd_c P) rfl (by kernel_rfl) rfl (Xs := [iv (Elm.cf m (Elm.low p m rs)[i]), iv (-(Elm.cf m (Elm.upp m rs)[j]))]) rfl rfl rfl) I0 I0 I0 ?_
 refine oA (sp_assign (.tmp 127) (iv (Elm.gE m (Elm.low p m rs)[i] (Elm.upp m rs)[j])) rfl) I0 ?_
 refine kN 166 [(1, .box 24 [iv 0, .v (.slice none 0 0)]), (4, .row false 39 2 ((Elm.low p m rs).length) ((Elm.low p m rs).flatMap cRo)), (5, .row false 39 2 L2.length (L2.flatMap cRo)), (6, .row false 39 2 ((Elm.upp m rs).length) ((Elm.upp m rs).flatMap cRo))] [(1, iv m), (2, .el (cSy ((p : Nat) : Int) rs) 0), (4, .box 1 0), (8, .own 4), (9, .own 6), (10, .own 5), (13, iv i), (14, iv j), (15, iv (Elm.cf m (Elm.low p m rs)[i])), (16, iv (-(Elm.cf m (Elm.upp m rs)[j]))), (17, iv (Elm.gE m (Elm.low p m rs)[i] (Elm.upp m rs)[j])), (99, bv true), (105, bv true)] ?_
 refine t_then ?_
 refine tri_seq ?_
 refine tri_seq ?_
 by_cases hs7 : 65536 < (Elm.kB m (Elm.low p m rs)[i] (Elm.upp m rs)[j])
 refine tri_region ?_
 refine oA (sp_move (.tmp 16) (iv (-(Elm.cf m (Elm.upp m rs)[j]))) rfl) I0 ?_
 refine oA (sp_move (.tmp 17) (iv (Elm.gE m (Elm.low p m rs)[i] (Elm.upp m rs)[j])) rfl) I0 ?_
 refine oC (sp_quo (c := (Elm.kB m (Elm.low p m rs)[i] (Elm.upp m rs)[j])) rfl (by omega) P.wb) I0 I0 ?_
 refine oC (sp_gtr rfl (dT hs7)) I0 I0 ?_
 refine oA (sp_move (.tmp 131) (bv true) rfl) I0 ?_
 refine t_skip rfl ?_
 refine t_skip rfl ?_
 refine t_skip rfl ?_
 refine t_skip rfl ?_
 refine oD (sp_pick (.tmp 132) (.const (.bool true)) (.tmp 136) true (bv true) (.v (.tuple #[])) rfl) I0 I0 I0 ?_
 refine kN 166 [(1, .box 24 [iv 0, .v (.slice none 0 0)]), (4, .row false 39 2 ((Elm.low p m rs).length) ((Elm.low p m rs).flatMap cRo)), (5, .row false 39 2 L2.length (L2.flatMap cRo)), (6, .row false 39 2 ((Elm.upp m rs).length) ((Elm.upp m rs).flatMap cRo))] [(1, iv m), (2, .el (cSy ((p : Nat) : Int) rs) 0), (4, .box 1 0), (8, .own 4), (9, .own 6), (10, .own 5), (13, iv i), (14, iv j), (15, iv (Elm.cf m (Elm.low p m rs)[i])), (16, iv (-(Elm.cf m (Elm.upp m rs)[j]))), (17, iv (Elm.gE m (Elm.low p m rs)[i] (Elm.upp m rs)[j])), (99, bv true), (105, bv true), (137, bv true)] ?_
 refine t_then ?_
 refine t_condT rfl ?_
 refine tri_seq ?_
 refine tri_region ?_
 refine t_op rfl (sp_bld [] #[.int .i64 0, .slice none 0 0] rfl rfl (by kernel_rfl) rfl) T0 T0 T0 ?_
 refine t_op rfl (sp_storeBox (T0 := 24) (X := .agg [iv 0, .v (.slice none 0 0)]) (cs := [iv 0, .v (.slice none 0 0)]) (ds := [iv 0, .v (.slice none 0 0)]) (z := 2) (.tmp 4) (.tmp 138) rfl (by kernel_rfl) (by kernel_rfl) (by kernel_rfl) (of_decide_eq_true (by kernel_rfl)) (by kernel_rfl)) ⟨I0, I0, T0⟩ ⟨rfl, T0⟩ rfl ?_
 refine oA (sp_assign (.const (.int .i64 4)) (iv 4) rfl) I0 ?_
 refine kN 166 [(1, .box 24 [iv 0, .v (.slice none 0 0)]), (4, .row false 39 2 ((Elm.low p m rs).length) ((Elm.low p m rs).flatMap cRo)), (5, .row false 39 2 L2.length (L2.flatMap cRo)), (6, .row false 39 2 ((Elm.upp m rs).length) ((Elm.upp m rs).flatMap cRo))] [(1, iv m), (2, .el (cSy ((p : Nat) : Int) rs) 0), (4, .box 1 0), (5, iv 4), (8, .own 4), (9, .own 6), (10, .own 5), (13, iv i), (14, iv j), (15, iv (Elm.cf m (Elm.low p m rs)[i])), (16, iv (-(Elm.cf m (Elm.upp m rs)[j]))), (17, iv (Elm.gE m (Elm.low p m rs)[i] (Elm.upp m rs)[j])), (99, bv true), (105, bv true), (137, bv true)] ?_
 refine t_then ?_
 refine tri_ret ?_
 refine t_then_ret ?_
 refine t_block_ret ?_
 refine t_then_ret ?_
 refine t_then_ret ?_
 refine t_block_ret ?_
 refine t_block_ret ?_
 refine t_then_ret ?_
 refine t_then_ret ?_
 refine t_block_ret ?_
 refine t_then_ret ?_
 refine tri_wk (wk_adoptB 1 1 7 true 39 2 rfl rfl rfl rfl) ?_
 refine tri_end2 Tryd.results22 (.cellS rfl rfl Tryd.underlying24 rfl (z := 2) (by kernel_rfl) rfl (by decide)) (.tmp rfl) ?_
 exact Elm.el_no hv hm hs4 (Elm.elOk_no (List.getElem_mem hi1) (List.getElem_mem hj1) (Elm.ok_big (.inr hs7))) rfl
 by_cases hs8 : 65536 < (Elm.kA m (Elm.low p m rs)[i] (Elm.upp m rs)[j])
 refine tri_region ?_
 refine oA (sp_move (.tmp 16) (iv (-(Elm.cf m (Elm.upp m rs)[j]))) rfl) I0 ?_
 refine oA (sp_move (.tmp 17) (iv (Elm.gE m (Elm.low p m rs)[i] (Elm.upp m rs)[j])) rfl) I0 ?_
 refine oC (sp_quo (c := (Elm.kB m (Elm.low p m rs)[i] (Elm.upp m rs)[j])) rfl (by omega) P.wb) I0 I0 ?_
 refine oC (sp_gtr rfl (dF hs7)) I0 I0 ?_
 refine oA (sp_move (.tmp 131) (bv false) rfl) I0 ?_
 refine gA (sp_move (.tmp 15) (iv (Elm.cf m (Elm.low p m rs)[i])) rfl) I0 ?_
 refine gA (sp_move (.tmp 17) (iv (Elm.gE m (Elm.low p m rs)[i] (Elm.upp m rs)[j])) rfl) I0 ?_
 refine gC (sp_quo (c := (Elm.kA m (Elm.low p m rs)[i] (Elm.upp m rs)[j])) rfl (by omega) P.wa) I0 I0 ?_
 refine gC (sp_gtr rfl (dT hs8)) I0 I0 ?_
 refine oD (sp_pick (.tmp 132) (.const (.bool true)) (.tmp 136) false (bv true) (bv true) rfl) I0 I0 I0 ?_
 refine kN 166 [(1, .box 24 [iv 0, .v (.slice none 0 0)]), (4, .row false 39 2 ((Elm.low p m rs).length) ((Elm.low p m rs).flatMap cRo)), (5, .row false 39 2 L2.length (L2.flatMap cRo)), (6, .row false 39 2 ((Elm.upp m rs).length) ((Elm.upp m rs).flatMap cRo))] [(1, iv m), (2, .el (cSy ((p : Nat) : Int) rs) 0), (4, .box 1 0), (8, .own 4), (9, .own 6), (10, .own 5), (13, iv i), (14, iv j), (15, iv (Elm.cf m (Elm.low p m rs)[i])), (16, iv (-(Elm.cf m (Elm.upp m rs)[j]))), (17, iv (Elm.gE m (Elm.low p m rs)[i] (Elm.upp m rs)[j])), (99, bv true), (105, bv true), (137, bv true)] ?_
 refine t_then ?_
 refine t_condT rfl ?_
 refine tri_seq ?_
 refine tri_region ?_
 refine t_op rfl (sp_bld [] #[.int .i64 0, .slice none 0 0] rfl rfl (by kernel_rfl) rfl) T0 T0 T0 ?_
 refine t_op rfl (sp_storeBox (T0 := 24) (X := .agg [iv 0, .v (.slice none 0 0)]) (cs := [iv 0, .v (.slice none 0 0)]) (ds := [iv 0, .v (.slice none 0 0)]) (z := 2) (.tmp 4) (.tmp 138) rfl (by kernel_rfl) (by kernel_rfl) (by kernel_rfl) (of_decide_eq_true (by kernel_rfl)) (by kernel_rfl)) ⟨I0, I0, T0⟩ ⟨rfl, T0⟩ rfl ?_
 refine oA (sp_assign (.const (.int .i64 4)) (iv 4) rfl) I0 ?_
 refine kN 166 [(1, .box 24 [iv 0, .v (.slice none 0 0)]), (4, .row false 39 2 ((Elm.low p m rs).length) ((Elm.low p m rs).flatMap cRo)), (5, .row false 39 2 L2.length (L2.flatMap cRo)), (6, .row false 39 2 ((Elm.upp m rs).length) ((Elm.upp m rs).flatMap cRo))] [(1, iv m), (2, .el (cSy ((p : Nat) : Int) rs) 0), (4, .box 1 0), (5, iv 4), (8, .own 4), (9, .own 6), (10, .own 5), (13, iv i), (14, iv j), (15, iv (Elm.cf m (Elm.low p m rs)[i])), (16, iv (-(Elm.cf m (Elm.upp m rs)[j]))), (17, iv (Elm.gE m (Elm.low p m rs)[i] (Elm.upp m rs)[j])), (99, bv true), (105, bv true), (137, bv true)] ?_
 refine t_then ?_
 refine tri_ret ?_
 refine t_then_ret ?_
 refine t_block_ret ?_
 refine t_then_ret ?_
 refine t_then_ret ?_
 refine t_block_ret ?_
 refine t_block_ret ?_
 refine t_then_ret ?_
 refine t_then_ret ?_
 refine t_block_ret ?_
 refine t_then_ret ?_
 refine tri_wk (wk_adoptB 1 1 7 true 39 2 rfl rfl rfl rfl) ?_
 refine tri_end2 Tryd.results22 (.cellS rfl rfl Tryd.underlying24 rfl (z := 2) (by kernel_rfl) rfl (by decide)) (.tmp rfl) ?_
 exact Elm.el_no hv hm hs4 (Elm.elOk_no (List.getElem_mem hi1) (List.getElem_mem hj1) (Elm.ok_big (.inl hs8))) rfl
 refine tri_region ?_
 refine oA (sp_move (.tmp 16) (iv (-(Elm.cf m (Elm.upp m rs)[j]))) rfl) I0 ?_
 refine oA (sp_move (.tmp 17) (iv (Elm.gE m (Elm.low p m rs)[i] (Elm.upp m rs)[j])) rfl) I0 ?_
 refine oC (sp_quo (c := (Elm.kB m (Elm.low p m rs)[i] (Elm.upp m rs)[j])) rfl (by omega) P.wb) I0 I0 ?_
 refine oC (sp_gtr rfl (dF hs7)) I0 I0 ?_
 refine oA (sp_move (.tmp 131) (bv false) rfl) I0 ?_
 refine gA (sp_move (.tmp 15) (iv (Elm.cf m (Elm.low p m rs)[i])) rfl) I0 ?_
 refine gA (sp_move (.tmp 17) (iv (Elm.gE m (Elm.low p m rs)[i] (Elm.upp m rs)[j])) rfl) I0 ?_
 refine gC (sp_quo (c := (Elm.kA m (Elm.low p m rs)[i] (Elm.upp m rs)[j])) rfl (by omega) P.wa) I0 I0 ?_
 refine gC (sp_gtr rfl (dF hs8)) I0 I0 ?_
 refine oD (sp_pick (.tmp 132) (.const (.bool true)) (.tmp 136) false (bv true) (bv false) rfl) I0 I0 I0 ?_
 refine kN 166 [(1, .box 24 [iv 0, .v (.slice none 0 0)]), (4, .row false 39 2 ((Elm.low p m rs).length) ((Elm.low p m rs).flatMap cRo)), (5, .row false 39 2 L2.length (L2.flatMap cRo)), (6, .row false 39 2 ((Elm.upp m rs).length) ((Elm.upp m rs).flatMap cRo))] [(1, iv m), (2, .el (cSy ((p : Nat) : Int) rs) 0), (4, .box 1 0), (8, .own 4), (9, .own 6), (10, .own 5), (13, iv i), (14, iv j), (15, iv (Elm.cf m (Elm.low p m rs)[i])), (16, iv (-(Elm.cf m (Elm.upp m rs)[j]))), (17, iv (Elm.gE m (Elm.low p m rs)[i] (Elm.upp m rs)[j])), (99, bv true), (105, bv true), (137, bv false)] ?_
 refine t_then ?_
 refine t_condF rfl ?_
 refine tri_skip ?_
 refine t_then ?_
 refine tri_seq ?_
 refine tri_draw [⟨[(.tmp 8, .own 4)], [], .own 4, .no⟩, ⟨[(.tmp 13, iv i)], [], iv i, .no⟩, ⟨[(.tmp 139, .own 4), (.tmp 140, iv i)], [(4, .row false 39 2 ((Elm.low p m rs).length) ((Elm.low p m rs).flatMap cRo))], .box 4 (i * 2), .no⟩, ⟨[(.tmp 141, .box 4 (i * 2))], [(4, .row false 39 2 ((Elm.low p m rs).length) ((Elm.low p m rs).flatMap cRo))], .agg (cRo (Elm.low p m rs)[i]), .no⟩, ⟨[(.tmp 16, iv (-(Elm.cf m (Elm.upp m rs)[j])))], [], iv (-(Elm.cf m (Elm.upp m rs)[j])), .no⟩, ⟨[(.tmp 17, iv (Elm.gE m (Elm.low p m rs)[i] (Elm.upp m rs)[j]))], [], iv (Elm.gE m (Elm.low p m rs)[i] (Elm.upp m rs)[j]), .no⟩, ⟨[(.tmp 143, iv (-(Elm.cf m (Elm.upp m rs)[j]))), (.tmp 144, iv (Elm.gE m (Elm.low p m rs)[i] (Elm.upp m rs)[j]))], [], iv (Elm.kB m (Elm.low p m rs)[i] (Elm.upp m rs)[j]), .no⟩, ⟨[(.tmp 9, .own 6)], [], .own 6, .no⟩, ⟨[(.tmp 14, iv j)], [], iv j, .no⟩, ⟨[(.tmp 146, .own 6), (.tmp 147, iv j)], [(6, .row false 39 2 ((Elm.upp m rs).length) ((Elm.upp m rs).flatMap cRo))], .box 6 (j * 2), .no⟩, ⟨[(.tmp 148, .box 6 (j * 2))], [(6, .row false 39 2 ((Elm.upp m rs).length) ((Elm.upp m rs).flatMap cRo))], .agg (cRo (Elm.upp m rs)[j]), .no⟩, ⟨[(.tmp 15, iv (Elm.cf m (Elm.low p m rs)[i]))], [], iv (Elm.cf m (Elm.low p m rs)[i]), .no⟩, ⟨[(.tmp 17, iv (Elm.gE m (Elm.low p m rs)[i] (Elm.upp m rs)[j]))], [], iv (Elm.gE m (Elm.low p m rs)[i] (Elm.upp m rs)[j]), .no⟩, ⟨[(.tmp 150, iv (Elm.cf m (Elm.low p m rs)[i])), (.tmp 151, iv (Elm.gE m (Elm.low p m rs)[i] (Elm.upp m rs)[j]))], [], iv (Elm.kA m (Elm.low p m rs)[i] (Elm.upp m rs)[j]), .no⟩, ⟨[(.func 45, .v (.func (.func 45) #[] #[])), (.tmp 142, .agg (cRo (Elm.low p m rs)[i])), (.tmp 145, iv (Elm.kB m (Elm.low p m rs)[i] (Elm.upp m rs)[j])), (.tmp 149, .agg (cRo (Elm.upp m rs)[j])), (.tmp 152, iv (Elm.kA m (Elm.low p m rs)[i] (Elm.upp m rs)[j]))], [], .fr (.agg (cRo (Elm.mixR m (Elm.low p m rs)[i] (Elm.upp m rs)[j]))), .no⟩, ⟨[], [], .box 7 0, .new 7 (.box 39 [.v (.slice none 0 0), iv 0])⟩, ⟨[(.tmp 18, .box 7 0), (.tmp 153, .agg [.fr (intsA ((Elm.mixR m (Elm.low p m rs)[i] (Elm.upp m rs)[j]).1)), iv ((Elm.mixR m (Elm.low p m rs)[i] (Elm.upp m rs)[j]).2)])], [(7, .box 39 [.v (.slice none 0 0), iv 0])], .v undef, .st 7 (.box 39 [.fr (intsA ((Elm.mixR m (Elm.low p m rs)[i] (Elm.upp m rs)[j]).1)), iv ((Elm.mixR m (Elm.low p m rs)[i] (Elm.upp m rs)[j]).2)])⟩] (by kernel_rfl) (by kernel_rfl) ?_
 refine ⟨app_yes rfl (sp_move (.tmp 8) (.own 4) rfl) ⟨I0, T0⟩ T0 T0, ?_⟩
 refine ⟨app_yes rfl (sp_move (.tmp 13) (iv i) rfl) ⟨I0, T0⟩ T0 T0, ?_⟩
 refine ⟨app_yes rfl (sp_indexOwn (off := i * 2) (.tmp 139) (.tmp 140) rfl Tryd.underlying22 (by kernel_rfl) (by omega) (by omega) rfl) ⟨I0, I0, T0⟩ ⟨rfl, T0⟩ T0, ?_⟩
 refine ⟨app_yes rfl (sp_loadBoxS (Y := .row false 39 2 ((Elm.low p m rs).length) ((Elm.low p m rs).flatMap cRo)) (z := 2) (.tmp 141) rfl Tryd.underlying39 rfl (by kernel_rfl) (by decide) (flat_take lenRo (Elm.low p m rs) i (by omega)) rfl) ⟨I0, T0⟩ ⟨rfl, T0⟩ T0, ?_⟩
 refine ⟨app_yes rfl (sp_move (.tmp 16) (iv (-(Elm.cf m (Elm.upp m rs)[j]))) rfl) ⟨I0, T0⟩ T0 T0, ?_⟩
 refine ⟨app_yes rfl (sp_move (.tmp 17) (iv (Elm.gE m (Elm.low p m rs)[i] (Elm.upp m rs)[j])) rfl) ⟨I0, T0⟩ T0 T0, ?_⟩
 refine ⟨app_yes rfl (sp_quo (c := (Elm.kB m (Elm.low p m rs)[i] (Elm.upp m rs)[j])) rfl (by omega) P.wb) ⟨I0, I0, T0⟩ T0 T0, ?_⟩
 refine ⟨app_yes rfl (sp_move (.tmp 9) (.own 6) rfl) ⟨I0, T0⟩ T0 T0, ?_⟩
 refine ⟨app_yes rfl (sp_move (.tmp 14) (iv j) rfl) ⟨I0, T0⟩ T0 T0, ?_⟩
 refine ⟨app_yes rfl (sp_indexOwn (off := j * 2) (.tmp 146) (.tmp 147) rfl Tryd.underlying22 (by kernel_rfl) (by omega) (by omega) rfl) ⟨I0, I0, T0⟩ ⟨rfl, T0⟩ T0, ?_⟩
 refine ⟨app_yes rfl (sp_loadBoxS (Y := .row false 39 2 ((Elm.upp m rs).length) ((Elm.upp m rs).flatMap cRo)) (z := 2) (.tmp 148) rfl Tryd.underlying39 rfl (by kernel_rfl) (by decide) (flat_take lenRo (Elm.upp m rs) j (by omega)) rfl) ⟨I0, T0⟩ ⟨rfl, T0⟩ T0, ?_⟩
 refine ⟨app_yes rfl (sp_move (.tmp 15) (iv (Elm.cf m (Elm.low p m rs)[i])) rfl) ⟨I0, T0⟩ T0 T0, ?_⟩
 refine ⟨app_yes rfl (sp_move (.tmp 17) (iv (Elm.gE m (Elm.low p m rs)[i] (Elm.upp m rs)[j])) rfl) ⟨I0, T0⟩ T0 T0, ?_⟩
 refine ⟨app_yes rfl (sp_quo (c := (Elm.kA m (Elm.low p m rs)[i] (Elm.upp m rs)[j])) rfl (by omega) P.wa) ⟨I0, I0, T0⟩ T0 T0, ?_⟩
 refine ⟨app_yes rfl (sp_call (c := .func 45) (xs := #[.tmp 142, .tmp 145, .tmp 149, .tmp 152]) [] (Elm.mix_c P hs8 hs7) rfl (by kernel_rfl) rfl (Xs := [.agg (cRo (Elm.low p m rs)[i]), iv (Elm.kB m (Elm.low p m rs)[i] (Elm.upp m rs)[j]), .agg (cRo (Elm.upp m rs)[j]), iv (Elm.kA m (Elm.low p m rs)[i] (Elm.upp m rs)[j])]) rfl rfl rfl) ⟨I0, I0, I0, I0, I0, T0⟩ T0 T0, ?_⟩
 refine ⟨app_yes rfl (sp_alloc (z := .agg #[.slice none 0 0, .int .i64 0]) (k := 7) rfl (by kernel_rfl)) T0 T0 rfl, ?_⟩
 refine ⟨app_yes rfl (sp_storeBox (T0 := 39) (X := .agg [.fr (intsA ((Elm.mixR m (Elm.low p m rs)[i] (Elm.upp m rs)[j]).1)), iv ((Elm.mixR m (Elm.low p m rs)[i] (Elm.upp m rs)[j]).2)]) (cs := [.v (.slice none 0 0), iv 0]) (ds := [.fr (intsA ((Elm.mixR m (Elm.low p m rs)[i] (Elm.upp m rs)[j]).1)), iv ((Elm.mixR m (Elm.low p m rs)[i] (Elm.upp m rs)[j]).2)]) (z := 2) (.tmp 18) (.tmp 153) rfl (by kernel_rfl) (by kernel_rfl) (by kernel_rfl) (of_decide_eq_true (by kernel_rfl)) (by kernel_rfl)) ⟨I0, .inr (.inr (.inl ⟨_, rfl, rfl⟩)), T0⟩ ⟨rfl, T0⟩ rfl, ?_⟩
 show ETri J w0 _ _ _
 refine kW 166 [(1, .box 24 [iv 0, .v (.slice none 0 0)]), (4, .row false 39 2 ((Elm.low p m rs).length) ((Elm.low p m rs).flatMap cRo)), (5, .row false 39 2 L2.length (L2.flatMap cRo)), (6, .row false 39 2 ((Elm.upp m rs).length) ((Elm.upp m rs).flatMap cRo)), (7, .box 39 [.fr (intsA ((Elm.mixR m (Elm.low p m rs)[i] (Elm.upp m rs)[j]).1)), iv ((Elm.mixR m (Elm.low p m rs)[i] (Elm.upp m rs)[j]).2)])] [(1, iv m), (2, .el (cSy ((p : Nat) : Int) rs) 0), (4, .box 1 0), (8, .own 4), (9, .own 6), (10, .own 5), (13, iv i), (14, iv j), (15, iv (Elm.cf m (Elm.low p m rs)[i])), (16, iv (-(Elm.cf m (Elm.upp m rs)[j]))), (17, iv (Elm.gE m (Elm.low p m rs)[i] (Elm.upp m rs)[j])), (18, .box 7 0), (99, bv true), (105, bv true), (137, bv false)] ?_
 refine t_then ?_
 refine tri_seq ?_
 refine tri_seq ?_
 by_cases hs9 : (smR (Elm.mixR m (Elm.low p m rs)[i] (Elm.upp m rs)[j])) = true
 refine tri_region ?_
 refine oB (sp_loadBoxS (Y := .box 39 [.fr (intsA ((Elm.mixR m (Elm.low p m rs)[i] (Elm.upp m rs)[j]).1)), iv ((Elm.mixR m (Elm.low p m rs)[i] (Elm.upp m rs)[j]).2)]) (ds := [.fr (intsA ((Elm.mixR m (Elm.low p m rs)[i] (Elm.upp m rs)[j]).1)), iv ((Elm.mixR m (Elm.low p m rs)[i] (Elm.upp m rs)[j]).2)]) (z := 2) (.tmp 18) rfl Tryd.underlying39 rfl (by kernel_rfl) (by decide) (by kernel_rfl) (by kernel_rfl)) I0 rfl ?_
 refine oC (sp_call (c := .func 46) (xs := #[.tmp 154]) [] (ctr_b (Elm.rSmall_c (Elm.mixI P hs8 hs7)) hs9) rfl (by kernel_rfl) rfl (Xs := [.agg [.fr (intsA ((Elm.mixR m (Elm.low p m rs)[i] (Elm.upp m rs)[j]).1)), iv ((Elm.mixR m (Elm.low p m rs)[i] (Elm.upp m rs)[j]).2)]]) rfl rfl rfl) I0 I0 ?_
 refine oA (sp_not rfl rfl) I0 ?_
 refine kN 166 [(1, .box 24 [iv 0, .v (.slice none 0 0)]), (4, .row false 39 2 ((Elm.low p m rs).length) ((Elm.low p m rs).flatMap cRo)), (5, .row false 39 2 L2.length (L2.flatMap cRo)), (6, .row false 39 2 ((Elm.upp m rs).length) ((Elm.upp m rs).flatMap cRo)), (7, .box 39 [.fr (intsA ((Elm.mixR m (Elm.low p m rs)[i] (Elm.upp m rs)[j]).1)), iv ((Elm.mixR m (Elm.low p m rs)[i] (Elm.upp m rs)[j]).2)])] [(1, iv m), (2, .el (cSy ((p : Nat) : Int) rs) 0), (4, .box 1 0), (8, .own 4), (9, .own 6), (10, .own 5), (13, iv i), (14, iv j), (15, iv (Elm.cf m (Elm.low p m rs)[i])), (16, iv (-(Elm.cf m (Elm.upp m rs)[j]))), (17, iv (Elm.gE m (Elm.low p m rs)[i] (Elm.upp m rs)[j])), (18, .box 7 0), (99, bv true), (105, bv true), (137, bv false), (156, bv false)] ?_
 refine t_then ?_
 refine t_condF rfl ?_
 refine tri_skip ?_
 refine t_then ?_
 refine tri_wk (wk_stripB 7 rfl (ds := [intsA ((Elm.mixR m (Elm.low p m rs)[i] (Elm.upp m rs)[j]).1), iv ((Elm.mixR m (Elm.low p m rs)[i] (Elm.upp m rs)[j]).2)]) rfl) ?_
 refine kW 166 [(1, .box 24 [iv 0, .v (.slice none 0 0)]), (4, .row false 39 2 ((Elm.low p m rs).length) ((Elm.low p m rs).flatMap cRo)), (5, .row false 39 2 L2.length (L2.flatMap cRo)), (6, .row false 39 2 ((Elm.upp m rs).length) ((Elm.upp m rs).flatMap cRo)), (7, .box 39 [intsA ((Elm.mixR m (Elm.low p m rs)[i] (Elm.upp m rs)[j]).1), iv ((Elm.mixR m (Elm.low p m rs)[i] (Elm.upp m rs)[j]).2)])] [(1, iv m), (2, .el (cSy ((p : Nat) : Int) rs) 0), (4, .box 1 0), (8, .own 4), (9, .own 6), (10, .own 5), (13, iv i), (14, iv j), (15, iv (Elm.cf m (Elm.low p m rs)[i])), (16, iv (-(Elm.cf m (Elm.upp m rs)[j]))), (17, iv (Elm.gE m (Elm.low p m rs)[i] (Elm.upp m rs)[j])), (18, .box 7 0), (99, bv true), (105, bv true), (137, bv false), (156, bv false)] ?_
 refine tri_region ?_
 refine oA (sp_move (.tmp 10) (.own 5) rfl) I0 ?_
 refine oB (sp_loadBoxS (Y := .box 39 [intsA ((Elm.mixR m (Elm.low p m rs)[i] (Elm.upp m rs)[j]).1), iv ((Elm.mixR m (Elm.low p m rs)[i] (Elm.upp m rs)[j]).2)]) (ds := [intsA ((Elm.mixR m (Elm.low p m rs)[i] (Elm.upp m rs)[j]).1), iv ((Elm.mixR m (Elm.low p m rs)[i] (Elm.upp m rs)[j]).2)]) (z := 2) (.tmp 18) rfl Tryd.underlying39 rfl (by kernel_rfl) (by decide) (by kernel_rfl) (by kernel_rfl)) I0 rfl ?_
 refine t_op rfl (sp_build (z := 2) (k := 8) (fr := false) (cs := [intsA ((Elm.mixR m (Elm.low p m rs)[i] (Elm.upp m rs)[j]).1), iv ((Elm.mixR m (Elm.low p m rs)[i] (Elm.upp m rs)[j]).2)]) [.tmp 159] [.agg [intsA ((Elm.mixR m (Elm.low p m rs)[i] (Elm.upp m rs)[j]).1), iv ((Elm.mixR m (Elm.low p m rs)[i] (Elm.upp m rs)[j]).2)]] rfl Tryd.underlying22 (by kernel_rfl) (by decide) (by decide) rfl rfl rfl (by kernel_rfl) (by decide) (fun h => Bool.noConfusion h) (by kernel_rfl)) ⟨I0, T0⟩ T0 rfl ?_
 refine t_op rfl (sp_appendOwn (n := L2.length) (cs := (L2.flatMap cRo)) (fr := false) (m := 1) (ds := [intsA ((Elm.mixR m (Elm.low p m rs)[i] (Elm.upp m rs)[j]).1), iv ((Elm.mixR m (Elm.low p m rs)[i] (Elm.upp m rs)[j]).2)]) (⟨Tryd.underlying22, by kernel_rfl, by decide⟩ : Elt Tryd.prog 22 39 2 32) (.tmp 158) (.tmp 160) rfl (fun h => Bool.noConfusion h) (by unfold maxLen; omega) (by omega) (Elm.cellRp _) (es := ((L2 ++ [(Elm.mixR m (Elm.low p m rs)[i] (Elm.upp m rs)[j])]).flatMap cRo)) Elm.snocRp) ⟨I0, I0, T0⟩ ⟨rfl, rfl, T0⟩ rfl ?_
 refine oA (sp_assign (.tmp 161) (.own 5) rfl) I0 ?_
 refine kN 166 [(1, .box 24 [iv 0, .v (.slice none 0 0)]), (4, .row false 39 2 ((Elm.low p m rs).length) ((Elm.low p m rs).flatMap cRo)), (5, .row false 39 2 (L2.length + 1) ((L2 ++ [(Elm.mixR m (Elm.low p m rs)[i] (Elm.upp m rs)[j])]).flatMap cRo)), (6, .row false 39 2 ((Elm.upp m rs).length) ((Elm.upp m rs).flatMap cRo)), (7, .box 39 [intsA ((Elm.mixR m (Elm.low p m rs)[i] (Elm.upp m rs)[j]).1), iv ((Elm.mixR m (Elm.low p m rs)[i] (Elm.upp m rs)[j]).2)])] [(1, iv m), (2, .el (cSy ((p : Nat) : Int) rs) 0), (4, .box 1 0), (8, .own 4), (9, .own 6), (10, .own 5), (13, iv i), (14, iv j), (15, iv (Elm.cf m (Elm.low p m rs)[i])), (16, iv (-(Elm.cf m (Elm.upp m rs)[j]))), (17, iv (Elm.gE m (Elm.low p m rs)[i] (Elm.upp m rs)[j])), (18, .box 7 0), (99, bv true), (105, bv true), (137, bv false), (156, bv false)] ?_
 refine t_block ?_
 refine t_then ?_
 refine tri_region ?_
 refine oA (sp_move (.tmp 14) (iv j) rfl) I0 ?_
 refine oC (sp_add (c := ((j + 1 : Nat) : Int)) rfl (w64 (by omega) (by omega) (by omega))) I0 I0 ?_
 refine oA (sp_assign (.tmp 107) (iv (j + 1 : Nat)) rfl) I0 ?_
 refine kN 166 [(1, .box 24 [iv 0, .v (.slice none 0 0)]), (4, .row false 39 2 ((Elm.low p m rs).length) ((Elm.low p m rs).flatMap cRo)), (5, .row false 39 2 (L2.length + 1) ((L2 ++ [(Elm.mixR m (Elm.low p m rs)[i] (Elm.upp m rs)[j])]).flatMap cRo)), (6, .row false 39 2 ((Elm.upp m rs).length) ((Elm.upp m rs).flatMap cRo)), (7, .box 39 [intsA ((Elm.mixR m (Elm.low p m rs)[i] (Elm.upp m rs)[j]).1), iv ((Elm.mixR m (Elm.low p m rs)[i] (Elm.upp m rs)[j]).2)])] [(1, iv m), (2, .el (cSy ((p : Nat) : Int) rs) 0), (4, .box 1 0), (8, .own 4), (9, .own 6), (10, .own 5), (13, iv i), (14, iv (j + 1 : Nat)), (15, iv (Elm.cf m (Elm.low p m rs)[i])), (16, iv (-(Elm.cf m (Elm.upp m rs)[j]))), (17, iv (Elm.gE m (Elm.low p m rs)[i] (Elm.upp m rs)[j])), (18, .box 7 0), (99, bv true), (105, bv true), (137, bv false), (156, bv false)] ?_
 refine t_then ?_
 refine tri_again ⟨(j + 1, L2 ++ [Elm.mixR m (Elm.low p m rs)[i] (Elm.upp m rs)[j]]), by dsimp only; omega, (Elm.in_next hj1 hL2 hL2o ((Elm.ok_eq hs8 hs7).trans hs9)).1, (Elm.in_next hj1 hL2 hL2o ((Elm.ok_eq hs8 hs7).trans hs9)).2, by rw [List.length_append]; dsimp only [List.length]; omega⟩ (show (Elm.upp m rs).length - (j + 1) < (Elm.upp m rs).length - j by omega) ?_
 show Wk _ _ (ofL [(1, .box 24 [iv 0, .v (.slice none 0 0)]), (4, .row false 39 2 ((Elm.low p m rs).length) ((Elm.low p m rs).flatMap cRo)), (5, .row false 39 2 ((L2 ++ [Elm.mixR m (Elm.low p m rs)[i] (Elm.upp m rs)[j]]).length) ((L2 ++ [Elm.mixR m (Elm.low p m rs)[i] (Elm.upp m rs)[j]]).flatMap cRo)), (6, .row false 39 2 ((Elm.upp m rs).length) ((Elm.upp m rs).flatMap cRo))]) (ofT 166 [(1, iv m), (2, .el (cSy ((p : Nat) : Int) rs) 0), (4, .box 1 0), (8, .own 4), (9, .own 6), (10, .own 5), (13, iv i), (14, iv ((j + 1) : Nat)), (99, bv true)])
 rw [List.length_append]
 exact wk_keep _ _ rfl (by kernel_rfl) (by kernel_rfl)
 have hs9f : (smR (Elm.mixR m (Elm.low p m rs)[i] (Elm.upp m rs)[j])) = false := by simpa using hs9
 refine tri_region ?_
 refine oB (sp_loadBoxS (Y := .box 39 [.fr (intsA ((Elm.mixR m (Elm.low p m rs)[i] (Elm.upp m rs)[j]).1)), iv ((Elm.mixR m (Elm.low p m rs)[i] (Elm.upp m rs)[j]).2)]) (ds := [.fr (intsA ((Elm.mixR m (Elm.low p m rs)[i] (Elm.upp m rs)[j]).1)), iv ((Elm.mixR m (Elm.low p m rs)[i] (Elm.upp m rs)[j]).2)]) (z := 2) (.tmp 18) rfl Tryd.underlying39 rfl (by kernel_rfl) (by decide) (by kernel_rfl) (by kernel_rfl)) I0 rfl ?_
 refine oC (sp_call (c := .func 46) (xs := #[.tmp 154]) [] (ctr_b (Elm.rSmall_c (Elm.mixI P hs8 hs7)) hs9f) rfl (by kernel_rfl) rfl (Xs := [.agg [.fr (intsA ((Elm.mixR m (Elm.low p m rs)[i] (Elm.upp m rs)[j]).1)), iv ((Elm.mixR m (Elm.low p m rs)[i] (Elm.upp m rs)[j]).2)]]) rfl rfl rfl) I0 I0 ?_
 refine oA (sp_not rfl rfl) I0 ?_
 refine kN 166 [(1, .box 24 [iv 0, .v (.slice none 0 0)]), (4, .row false 39 2 ((Elm.low p m rs).length) ((Elm.low p m rs).flatMap cRo)), (5, .row false 39 2 L2.length (L2.flatMap cRo)), (6, .row false 39 2 ((Elm.upp m rs).length) ((Elm.upp m rs).flatMap cRo)), (7, .box 39 [.fr (intsA ((Elm.mixR m (Elm.low p m rs)[i] (Elm.upp m rs)[j]).1)), iv ((Elm.mixR m (Elm.low p m rs)[i] (Elm.upp m rs)[j]).2)])] [(1, iv m), (2, .el (cSy ((p : Nat) : Int) rs) 0), (4, .box 1 0), (8, .own 4), (9, .own 6), (10, .own 5), (13, iv i), (14, iv j), (15, iv (Elm.cf m (Elm.low p m rs)[i])), (16, iv (-(Elm.cf m (Elm.upp m rs)[j]))), (17, iv (Elm.gE m (Elm.low p m rs)[i] (Elm.upp m rs)[j])), (18, .box 7 0), (99, bv true), (105, bv true), (137, bv false), (156, bv true)] ?_
 refine t_then ?_
 refine t_condT rfl ?_
 refine tri_seq ?_
 refine tri_region ?_
 refine t_op rfl (sp_bld [] #[.int .i64 0, .slice none 0 0] rfl rfl (by kernel_rfl) rfl) T0 T0 T0 ?_
 refine t_op rfl (sp_storeBox (T0 := 24) (X := .agg [iv 0, .v (.slice none 0 0)]) (cs := [iv 0, .v (.slice none 0 0)]) (ds := [iv 0, .v (.slice none 0 0)]) (z := 2) (.tmp 4) (.tmp 157) rfl (by kernel_rfl) (by kernel_rfl) (by kernel_rfl) (of_decide_eq_true (by kernel_rfl)) (by kernel_rfl)) ⟨I0, I0, T0⟩ ⟨rfl, T0⟩ rfl ?_
 refine oA (sp_assign (.const (.int .i64 4)) (iv 4) rfl) I0 ?_
 refine kN 166 [(1, .box 24 [iv 0, .v (.slice none 0 0)]), (4, .row false 39 2 ((Elm.low p m rs).length) ((Elm.low p m rs).flatMap cRo)), (5, .row false 39 2 L2.length (L2.flatMap cRo)), (6, .row false 39 2 ((Elm.upp m rs).length) ((Elm.upp m rs).flatMap cRo)), (7, .box 39 [.fr (intsA ((Elm.mixR m (Elm.low p m rs)[i] (Elm.upp m rs)[j]).1)), iv ((Elm.mixR m (Elm.low p m rs)[i] (Elm.upp m rs)[j]).2)])] [(1, iv m), (2, .el (cSy ((p : Nat) : Int) rs) 0), (4, .box 1 0), (5, iv 4), (8, .own 4), (9, .own 6), (10, .own 5), (13, iv i), (14, iv j), (15, iv (Elm.cf m (Elm.low p m rs)[i])), (16, iv (-(Elm.cf m (Elm.upp m rs)[j]))), (17, iv (Elm.gE m (Elm.low p m rs)[i] (Elm.upp m rs)[j])), (18, .box 7 0), (99, bv true), (105, bv true), (137, bv false), (156, bv true)] ?_
 refine t_then ?_
 refine tri_ret ?_
 refine t_then_ret ?_
 refine t_block_ret ?_
 refine t_then_ret ?_
 refine t_then_ret ?_
 refine t_block_ret ?_
 refine t_block_ret ?_
 refine t_then_ret ?_
 refine t_then_ret ?_
 refine t_block_ret ?_
 refine t_then_ret ?_
 refine tri_wk (wk_adoptB 1 1 8 true 39 2 rfl rfl rfl rfl) ?_
 refine tri_end2 Tryd.results22 (.cellS rfl rfl Tryd.underlying24 rfl (z := 2) (by kernel_rfl) rfl (by decide)) (.tmp rfl) ?_
 exact Elm.el_no hv hm hs4 (Elm.elOk_no (List.getElem_mem hi1) (List.getElem_mem hj1) ((Elm.ok_eq hs8 hs7).trans hs9f)) rfl
 refine tri_region ?_
 refine oA (sp_move (.tmp 14) (iv j) rfl) I0 ?_
 refine oA (sp_move (.tmp 9) (.own 6) rfl) I0 ?_
 refine oB (sp_lenOwn (.tmp 103) rfl Tryd.underlying22) I0 rfl ?_
 refine oC (sp_lss rfl (dF hs6)) I0 I0 ?_
 refine kN 166 [(1, .box 24 [iv 0, .v (.slice none 0 0)]), (4, .row false 39 2 ((Elm.low p m rs).length) ((Elm.low p m rs).flatMap cRo)), (5, .row false 39 2 L2.length (L2.flatMap cRo)), (6, .row false 39 2 ((Elm.upp m rs).length) ((Elm.upp m rs).flatMap cRo))] [(1, iv m), (2, .el (cSy ((p : Nat) : Int) rs) 0), (4, .box 1 0), (8, .own 4), (9, .own 6), (10, .own 5), (13, iv i), (14, iv j), (99, bv true), (105, bv false)] ?_
 refine t_then ?_
 refine t_condF rfl ?_
 refine tri_exit ?_
 refine t_then_exit ?_
 refine t_then_exit ?_
 refine t_hit ?_
 refine t_block ?_
 refine t_then ?_
 refine tri_region ?_
 refine oA (sp_move (.tmp 13) (iv i) rfl) I0 ?_
 refine oC (sp_add (c := ((i + 1 : Nat) : Int)) rfl (w64 (by omega) (by omega) (by omega))) I0 I0 ?_
 refine oA (sp_assign (.tmp 101) (iv (i + 1 : Nat)) rfl) I0 ?_
 refine kN 166 [(1, .box 24 [iv 0, .v (.slice none 0 0)]), (4, .row false 39 2 ((Elm.low p m rs).length) ((Elm.low p m rs).flatMap cRo)), (5, .row false 39 2 L2.length (L2.flatMap cRo)), (6, .row false 39 2 ((Elm.upp m rs).length) ((Elm.upp m rs).flatMap cRo))] [(1, iv m), (2, .el (cSy ((p : Nat) : Int) rs) 0), (4, .box 1 0), (8, .own 4), (9, .own 6), (10, .own 5), (13, iv (i + 1 : Nat)), (14, iv j), (99, bv true), (105, bv false)] ?_
 refine t_then ?_
 refine tri_again ⟨(i + 1, L2), by dsimp only; omega, (Elm.out_next hi1 (by omega) hL hLo hL2 hL2o).1, (Elm.out_next hi1 (by omega) hL hLo hL2 hL2o).2, by dsimp only; omega⟩ (show (Elm.low p m rs).length - (i + 1) < (Elm.low p m rs).length - i by omega) ?_
 show Wk _ _ (ofL [(1, .box 24 [iv 0, .v (.slice none 0 0)]), (4, .row false 39 2 ((Elm.low p m rs).length) ((Elm.low p m rs).flatMap cRo)), (5, .row false 39 2 L2.length (L2.flatMap cRo)), (6, .row false 39 2 ((Elm.upp m rs).length) ((Elm.upp m rs).flatMap cRo))]) (ofT 166 [(1, iv m), (2, .el (cSy ((p : Nat) : Int) rs) 0), (4, .box 1 0), (8, .own 4), (9, .own 6), (10, .own 5), (13, iv ((i + 1) : Nat))])
 exact wk_keep _ _ rfl (by kernel_rfl) (by kernel_rfl)
 have hi2 : i = (Elm.low p m rs).length := by omega
 rw [hi2, List.take_length] at hLo hL
 have hok2 := Elm.elOk_yes hLo
 have hL3 : L = Elm.elL p m rs := hL
 refine tri_region ?_
 refine oA (sp_move (.tmp 13) (iv i) rfl) I0 ?_
 refine oA (sp_move (.tmp 8) (.own 4) rfl) I0 ?_
 refine oB (sp_lenOwn (.tmp 97) rfl Tryd.underlying22) I0 rfl ?_
 refine oC (sp_lss rfl (dF hs5)) I0 I0 ?_
 refine kN 166 [(1, .box 24 [iv 0, .v (.slice none 0 0)]), (4, .row false 39 2 ((Elm.low p m rs).length) ((Elm.low p m rs).flatMap cRo)), (5, .row false 39 2 L.length (L.flatMap cRo)), (6, .row false 39 2 ((Elm.upp m rs).length) ((Elm.upp m rs).flatMap cRo))] [(1, iv m), (2, .el (cSy ((p : Nat) : Int) rs) 0), (4, .box 1 0), (8, .own 4), (9, .own 6), (10, .own 5), (13, iv i), (99, bv false)] ?_
 refine t_then ?_
 refine t_condF rfl ?_
 refine tri_exit ?_
 refine t_then_exit ?_
 refine t_then_exit ?_
 refine t_hit ?_
 refine t_then ?_
 refine tri_seq ?_
 refine tri_region ?_
 refine oA (sp_fieldEl (off' := 0) (.tmp 2) rfl Tryd.underlying24 rfl (z := 1) (by kernel_rfl) (by decide) rfl) I0 ?_
 refine oA (sp_loadEl1 (X := iv p) (.tmp 162) rfl Tryd.underlying3 rfl rfl) I0 ?_
 refine oA (sp_move (.tmp 10) (.own 5) rfl) I0 ?_
 refine t_op rfl (sp_callO (c := .func 47) (xs := #[.tmp 163, .tmp 164]) [(5, .row false 39 2 L.length (L.flatMap cRo))] (Elm.norm_T F hok2 hs4 hL3 7) rfl (by kernel_rfl) rfl (Xs := [iv p, .own 5]) rfl rfl rfl) ⟨I0, I0, I0, T0⟩ ⟨rfl, T0⟩ rfl ?_
 refine t_op rfl (sp_storeBox (T0 := 24) (X := .agg [iv p, .own 7]) (cs := [iv 0, .v (.slice none 0 0)]) (ds := [iv p, .own 7]) (z := 2) (.tmp 4) (.tmp 165) rfl (by kernel_rfl) (by kernel_rfl) (by kernel_rfl) (of_decide_eq_true (by kernel_rfl)) (by kernel_rfl)) ⟨I0, I0, T0⟩ ⟨rfl, T0⟩ rfl ?_
 refine oA (sp_assign (.const (.int .i64 0)) (iv 0) rfl) I0 ?_
 refine kN 166 [(1, .box 24 [iv p, .own 7]), (7, .row true 39 2 ((nrm (Elm.elL p m rs)).length) ((nrm (Elm.elL p m rs)).flatMap cRo))] [(4, .box 1 0), (5, iv 0)] ?_
 refine t_then ?_
 refine tri_ret ?_
 refine tri_end2 Tryd.results22 (.cellS rfl rfl Tryd.underlying24 rfl (z := 2) (by kernel_rfl) rfl (by decide)) (.tmp rfl) ?_
 exact Elm.el_ok hv hm hs4 hok2
end Go.Proofs.YtbbglendddepfaaDoor

namespace Go.Proofs.YtbbglendddepfaaDoor
open Go.RowKit Go.Deep
variable {J : World → Prop}
set_option linter.unusedSimpArgs false in
set_option linter.unusedVariables false in
set_option maxRecDepth 100000 in
set_option maxHeartbeats 6400000 in
theorem rEliminate_inv {n v : Int} {rs : List Rw} (H : SyOk rs) (hv : ¬ valS n rs = 0) : Ctr Tryd.prog J 22 [.agg (cSy n rs), iv v] (.tup [.agg (cSy (Elm.EN n v rs) (Elm.ER n v rs)), iv (Elm.EE n v rs)]) := by
 refine ctr_of_tri Tryd.func22 rfl (by intro X hX; simp only [List.mem_cons, List.not_mem_nil, or_false] at hX; rcases hX with rfl | rfl; exact plain_agg (plain_sy _ rs); exact .v _) (n := 166) rfl (by simp) (fun w0 => ?_)
 refine kW 166 [] [(0, .agg (cSy n rs)), (1, iv v)] ?_
 refine tri_seq ?_
 refine tri_region ?_
 refine oA (sp_boxR (X := .agg (cSy n rs)) (.tmp 0) rfl rfl rfl) I0 ?_
 refine t_op rfl (sp_alloc (z := .agg #[.int .i64 0, .slice none 0 0]) (k := 1) rfl (by kernel_rfl)) T0 T0 rfl ?_
 refine oA (sp_assign (.const (.int .i64 0)) (iv 0) rfl) I0 ?_
 refine kN 166 [(1, .box 24 [iv 0, .v (.slice none 0 0)])] [(1, iv v), (2, .el (cSy n rs) 0), (4, .box 1 0), (5, iv 0)] ?_
 refine t_then ?_
 refine tri_seq ?_
 refine tri_region ?_
 refine oA (sp_loadElS (z := 2) (.tmp 2) rfl Tryd.underlying24 rfl (by kernel_rfl) rfl rfl) I0 ?_
 refine oC (sp_call (c := .func 40) (xs := #[.tmp 19]) [] (rrValidate_c H) rfl (by kernel_rfl) rfl (Xs := [.agg (cSy n rs)]) rfl rfl rfl) I0 I0 ?_
 refine oA (sp_assign (.tmp 20) (iv (valS n rs)) rfl) I0 ?_
 refine kN 166 [(1, .box 24 [iv 0, .v (.slice none 0 0)])] [(1, iv v), (2, .el (cSy n rs) 0), (4, .box 1 0), (5, iv 0), (6, iv (valS n rs))] ?_
 refine t_then ?_
 refine tri_seq ?_
 refine tri_seq ?_
 refine tri_region ?_
 refine oA (sp_move (.tmp 6) (iv (valS n rs)) rfl) I0 ?_
 refine oC (sp_neq rfl (dF' hv)) I0 I0 ?_
 refine kN 166 [(1, .box 24 [iv 0, .v (.slice none 0 0)])] [(1, iv v), (2, .el (cSy n rs) 0), (4, .box 1 0), (5, iv 0), (6, iv (valS n rs)), (22, bv true)] ?_
 refine t_then ?_
 refine t_condT rfl ?_
 refine tri_seq ?_
 refine tri_region ?_
 refine t_op rfl (sp_bld [] #[.int .i64 0, .slice none 0 0] rfl rfl (by kernel_rfl) rfl) T0 T0 T0 ?_
 refine oA (sp_move (.tmp 6) (iv (valS n rs)) rfl) I0 ?_
 refine t_op rfl (sp_storeBox (T0 := 24) (X := .agg [iv 0, .v (.slice none 0 0)]) (cs := [iv 0, .v (.slice none 0 0)]) (ds := [iv 0, .v (.slice none 0 0)]) (z := 2) (.tmp 4) (.tmp 23) rfl (by kernel_rfl) (by kernel_rfl) (by kernel_rfl) (of_decide_eq_true (by kernel_rfl)) (by kernel_rfl)) ⟨I0, I0, T0⟩ ⟨rfl, T0⟩ rfl ?_
 refine oA (sp_assign (.tmp 24) (iv (valS n rs)) rfl) I0 ?_
 refine kN 166 [(1, .box 24 [iv 0, .v (.slice none 0 0)])] [(1, iv v), (2, .el (cSy n rs) 0), (4, .box 1 0), (5, iv (valS n rs))] ?_
 refine t_then ?_
 refine tri_ret ?_
 refine t_then_ret ?_
 refine tri_wk (wk_adoptB 1 1 2 true 39 2 rfl rfl rfl rfl) ?_
 refine tri_end2 Tryd.results22 (.cellS rfl rfl Tryd.underlying24 rfl (z := 2) (by kernel_rfl) rfl (by decide)) (.tmp rfl) ?_
 exact Elm.el_inv hv
set_option linter.unusedSimpArgs false in
set_option linter.unusedVariables false in
set_option maxRecDepth 100000 in
set_option maxHeartbeats 6400000 in
theorem rEliminate_arg {n v : Int} {rs : List Rw} (H : SyOk rs) (hv : valS n rs = 0) (ha : v < 0 ∨ n ≤ v) : Ctr Tryd.prog J 22 [.agg (cSy n rs), iv v] (.tup [.agg (cSy (Elm.EN n v rs) (Elm.ER n v rs)), iv (Elm.EE n v rs)]) := by
 have hn := (valS_zero.1 hv).1
 refine ctr_of_tri Tryd.func22 rfl (by intro X hX; simp only [List.mem_cons, List.not_mem_nil, or_false] at hX; rcases hX with rfl | rfl; exact plain_agg (plain_sy _ rs); exact .v _) (n := 166) rfl (by simp) (fun w0 => ?_)
 refine kW 166 [] [(0, .agg (cSy n rs)), (1, iv v)] ?_
 refine tri_seq ?_
 refine tri_region ?_
 refine oA (sp_boxR (X := .agg (cSy n rs)) (.tmp 0) rfl rfl rfl) I0 ?_
 refine t_op rfl (sp_alloc (z := .agg #[.int .i64 0, .slice none 0 0]) (k := 1) rfl (by kernel_rfl)) T0 T0 rfl ?_
 refine oA (sp_assign (.const (.int .i64 0)) (iv 0) rfl) I0 ?_
 refine kN 166 [(1, .box 24 [iv 0, .v (.slice none 0 0)])] [(1, iv v), (2, .el (cSy n rs) 0), (4, .box 1 0), (5, iv 0)] ?_
 refine t_then ?_
 refine tri_seq ?_
 refine tri_region ?_
 refine oA (sp_loadElS (z := 2) (.tmp 2) rfl Tryd.underlying24 rfl (by kernel_rfl) rfl rfl) I0 ?_
 refine oC (sp_call (c := .func 40) (xs := #[.tmp 19]) [] (rrValidate_c H) rfl (by kernel_rfl) rfl (Xs := [.agg (cSy n rs)]) rfl rfl rfl) I0 I0 ?_
 refine oA (sp_assign (.tmp 20) (iv (valS n rs)) rfl) I0 ?_
 refine kN 166 [(1, .box 24 [iv 0, .v (.slice none 0 0)])] [(1, iv v), (2, .el (cSy n rs) 0), (4, .box 1 0), (5, iv 0), (6, iv (valS n rs))] ?_
 refine t_then ?_
 refine tri_seq ?_
 refine tri_seq ?_
 refine tri_region ?_
 refine oA (sp_move (.tmp 6) (iv (valS n rs)) rfl) I0 ?_
 refine oC (sp_neq rfl (dT' hv)) I0 I0 ?_
 refine kN 166 [(1, .box 24 [iv 0, .v (.slice none 0 0)])] [(1, iv v), (2, .el (cSy n rs) 0), (4, .box 1 0), (5, iv 0), (6, iv (valS n rs)), (22, bv false)] ?_
 refine t_then ?_
 refine t_condF rfl ?_
 refine tri_skip ?_
 refine t_then ?_
 refine tri_seq ?_
 refine tri_seq ?_
 refine tri_region ?_
 refine oA (sp_move (.tmp 1) (iv v) rfl) I0 ?_
 refine oA (sp_fieldEl (off' := 0) (.tmp 2) rfl Tryd.underlying24 rfl (z := 1) (by kernel_rfl) (by decide) rfl) I0 ?_
 refine oA (sp_loadEl1 (X := iv n) (.tmp 26) rfl Tryd.underlying3 rfl rfl) I0 ?_
 refine oC (sp_sub (c := n - 1) rfl (w64 rfl (by omega) (by omega))) I0 I0 ?_
 refine t_op rfl (sp_call (c := .func 41) (xs := #[.tmp 25, .const (.int .i64 0), .tmp 28]) [] (Elm.within_out ha) rfl (by kernel_rfl) rfl (Xs := [iv v, iv 0, iv (n - 1)]) rfl rfl rfl) ⟨I0, I0, I0, I0, T0⟩ T0 T0 ?_
 refine oA (sp_not rfl rfl) I0 ?_
 refine kN 166 [(1, .box 24 [iv 0, .v (.slice none 0 0)])] [(1, iv v), (2, .el (cSy n rs) 0), (4, .box 1 0), (5, iv 0), (30, bv true)] ?_
 refine t_then ?_
 refine t_condT rfl ?_
 refine tri_seq ?_
 refine tri_region ?_
 refine t_op rfl (sp_bld [] #[.int .i64 0, .slice none 0 0] rfl rfl (by kernel_rfl) rfl) T0 T0 T0 ?_
 refine t_op rfl (sp_storeBox (T0 := 24) (X := .agg [iv 0, .v (.slice none 0 0)]) (cs := [iv 0, .v (.slice none 0 0)]) (ds := [iv 0, .v (.slice none 0 0)]) (z := 2) (.tmp 4) (.tmp 31) rfl (by kernel_rfl) (by kernel_rfl) (by kernel_rfl) (of_decide_eq_true (by kernel_rfl)) (by kernel_rfl)) ⟨I0, I0, T0⟩ ⟨rfl, T0⟩ rfl ?_
 refine oA (sp_assign (.const (.int .i64 1)) (iv 1) rfl) I0 ?_
 refine kN 166 [(1, .box 24 [iv 0, .v (.slice none 0 0)])] [(1, iv v), (2, .el (cSy n rs) 0), (4, .box 1 0), (5, iv 1)] ?_
 refine t_then ?_
 refine tri_ret ?_
 refine t_then_ret ?_
 refine tri_wk (wk_adoptB 1 1 2 true 39 2 rfl rfl rfl rfl) ?_
 refine tri_end2 Tryd.results22 (.cellS rfl rfl Tryd.underlying24 rfl (z := 2) (by kernel_rfl) rfl (by decide)) (.tmp rfl) ?_
 exact Elm.el_arg hv ha
theorem rEliminate_c {n v : Int} {rs : List Rw} (H : SyOk rs) : Ctr Tryd.prog J 22 [.agg (cSy n rs), iv v] (.tup [.agg (cSy (Elm.EN n v rs) (Elm.ER n v rs)), iv (Elm.EE n v rs)]) := by
  by_cases hv : valS n rs = 0
  · by_cases ha : v < 0 ∨ n ≤ v
    · exact rEliminate_arg H hv ha
    · obtain ⟨p, rfl⟩ := Int.eq_ofNat_of_zero_le (show 0 ≤ n by omega)
      obtain ⟨m, rfl⟩ := Int.eq_ofNat_of_zero_le (show 0 ≤ v by omega)
      exact rEliminate_in H hv (by omega)
  · exact rEliminate_inv H hv
end Go.Proofs.YtbbglendddepfaaDoor

namespace Go.Proofs.YtbbglendddepfaaDoor
open Go.RowKit Go.Deep
namespace Elm
variable {J : World → Prop}
theorem EE_zero {n v : Int} {rs : List Rw} (h : EE n v rs = 0) : valS n rs = 0 ∧ ∃ p m : Nat, n = p ∧ v = m ∧ m < p ∧ ¬ 192 < szE p m rs ∧ elOk p m rs = true := by
  unfold EE at h
  by_cases hv : valS n rs = 0
  · rw [if_pos hv] at h
    by_cases ha : v < 0 ∨ n ≤ v
    · rw [if_pos ha] at h; cases h
    · rw [if_neg ha] at h
      obtain ⟨p, rfl⟩ := Int.eq_ofNat_of_zero_le (show 0 ≤ n by omega)
      obtain ⟨m, rfl⟩ := Int.eq_ofNat_of_zero_le (show 0 ≤ v by omega)
      rw [Int.toNat_natCast, Int.toNat_natCast] at h
      unfold elE at h
      refine ⟨hv, p, m, rfl, rfl, by omega, fun e => ?_, ?_⟩
      · rw [if_pos e] at h; cases h
      · by_cases e : 192 < szE p m rs
        · rw [if_pos e] at h; cases h
        · rw [if_neg e] at h
          cases e2 : elOk p m rs with
          | true => rfl
          | false => rw [e2] at h; cases h
  · rw [if_neg hv] at h; exact absurd h hv
section
variable {n v : Int} {rs : List Rw}
theorem ER_ok : SyOk (ER n v rs) := by
  unfold ER
  split
  · rename_i h
    obtain ⟨hv, p, m, rfl, rfl, hm, hs, ho⟩ := EE_zero h
    have S := (fit_of hv hm).sy ho hs
    rw [Int.toNat_natCast, Int.toNat_natCast]
    exact ⟨nrm_ok S.1, Nat.le_trans nrm_len S.1.len⟩
  · exact ⟨fun x hx => by simp at hx, by simp⟩
theorem ER_len : (ER n v rs).length ≤ 251 := by
  unfold ER
  split
  · rename_i h
    obtain ⟨hv, p, m, rfl, rfl, hm, hs, ho⟩ := EE_zero h
    have S := (fit_of hv hm).sy ho hs
    rw [Int.toNat_natCast, Int.toNat_natCast]
    have := nrm_len (rs := elL p m rs)
    have := S.2.1
    omega
  · simp
theorem EN_eq (e : EE n v rs = 0) : EN n v rs = n := by unfold EN; rw [if_pos e]
end
theorem dot_sum (a b : Int) : ∀ (xs ys zs : List Int), xs.length = ys.length → dot (sumL a b xs ys) zs = a * dot xs zs + b * dot ys zs
  | [], [], zs, _ => by simp [sumL, dot]
  | x :: xs, y :: ys, [], _ => by simp [sumL, dot]
  | x :: xs, y :: ys, z :: zs, h => by
    have ih := dot_sum a b xs ys zs (by simpa using h)
    unfold sumL at ih ⊢
    simp only [List.zipWith_cons_cons, dot, ih, Int.mul_add, Int.add_mul, Int.mul_assoc]
    omega
section
variable {p m : Nat} {rs : List Rw}
theorem dot_ax (c : Int) : ∀ (p m : Nat) (ys : List Int), m < p → ys.length = p → dot (axR p m c) ys = c * ys.getD m 0
  | 0, m, ys, h, _ => by omega
  | p + 1, 0, [], _, h => by simp at h
  | p + 1, 0, y :: ys, _, h => by
    have : ∀ (q : Nat) (ys : List Int), dot (List.replicate q (0 : Int)) ys = 0 := by
      intro q
      induction q with
      | zero => intro ys; simp [dot]
      | succ q ih => intro ys; cases ys with
        | nil => simp [dot, List.replicate_succ]
        | cons y ys => simp [dot, List.replicate_succ, ih]
    simp [axR, List.replicate_succ, dot, this]
  | p + 1, m + 1, [], _, h => by simp at h
  | p + 1, m + 1, y :: ys, hm, h => by
    have ih := dot_ax c p m ys (by omega) (by simpa using h)
    unfold axR at ih ⊢
    simp only [List.replicate_succ, List.set_cons_succ, dot, ih]
    simp
theorem el_hold (F : Fit p m rs) {ys : List Int} (hl : ys.length = p) (hy : ys.all coB = true) (h : rs.all (holdB ys) = true) : (elL p m rs).all (holdB ys) = true := by
  have low_h : ∀ l ∈ low p m rs, 0 ≤ l.2 + dot l.1 ys := fun l hl' => by
    rcases List.mem_cons.1 hl' with rfl | hl'
    · dsimp only
      rw [dot_ax 1 p m ys F.mp hl]
      have hm : m < ys.length := by rw [hl]; exact F.mp
      have := (coB_true.1 (List.all_eq_true.1 hy _ (List.getElem_mem hm))).1
      rw [List.getD_eq_getElem?_getD, List.getElem?_eq_getElem hm, Option.getD_some]
      omega
    · exact of_decide_eq_true (List.all_eq_true.1 h _ (List.mem_filter.1 hl').1)
  have upp_h : ∀ u ∈ upp m rs, 0 ≤ u.2 + dot u.1 ys := fun u hu => of_decide_eq_true (List.all_eq_true.1 h _ (List.mem_filter.1 hu).1)
  refine List.all_eq_true.2 fun r hr => ?_
  rcases List.mem_append.1 hr with hr | hr
  · exact List.all_eq_true.1 h _ (List.mem_filter.1 hr).1
  · obtain ⟨l, hl', hr⟩ := List.mem_flatMap.1 hr
    obtain ⟨u, hu, rfl⟩ := List.mem_map.1 hr
    have P := F.pair hl' hu
    unfold holdB mixR
    dsimp only
    rw [dot_sum _ _ _ _ _ P.e]
    have h1 := Int.mul_nonneg P.kb.1 (low_h l hl')
    have h2 := Int.mul_nonneg P.ka.1 (upp_h u hu)
    rw [Int.mul_add] at h1 h2
    exact decide_eq_true (by omega)
theorem el_val (F : Fit p m rs) (ho : elOk p m rs = true) (hs : ¬ 192 < szE p m rs) : valS ((p : Nat) : Int) (elL p m rs) = 0 := by
  have h3 := elL_len (p := p) (m := m) (rs := rs)
  have := F.p96
  refine valS_zero.2 ⟨by omega, List.all_eq_true.2 fun r hr => ?_, List.all_eq_true.2 fun r hr => (F.el_mem ho r hr).2, by omega⟩
  unfold lenB
  rw [(F.el_mem ho r hr).1]
  exact decide_eq_true rfl
end
section
variable {n v : Int} {rs : List Rw} {ys : List Int}
theorem stays (e : EE n v rs = 0) (h : satS n rs ys = true) : satS (EN n v rs) (ER n v rs) ys = true := by
  rw [EN_eq e]
  unfold ER
  rw [if_pos e]
  obtain ⟨hv, p, m, rfl, rfl, hm, hs, ho⟩ := EE_zero e
  rw [Int.toNat_natCast, Int.toNat_natCast]
  have F := fit_of hv hm
  rw [Nk.nrm_sat (el_val F ho hs)]
  unfold satS at h ⊢
  simp only [Bool.and_eq_true, decide_eq_true_eq] at h ⊢
  exact ⟨⟨⟨el_val F ho hs, h.1.1.2⟩, h.1.2⟩, el_hold F (by have := h.1.1.2; omega) h.1.2 h.2⟩
end
end Elm
end Go.Proofs.YtbbglendddepfaaDoor

namespace Go.Proofs.YtbbglendddepfaaDoor
open Go.RowKit Go.Deep
/-- Numbers may have turned, but not in the blocks of K. -/
structure Ichg (K : Nat → Prop) (w w' : World) : Prop where
  os : w'.os = w.os
  tape : w'.tape = w.tape
  output : w'.output = w.output
  size : w.heap.size ≤ w'.heap.size
  keep : ∀ b, b < w.heap.size → K b → w'.heap[b]? = w.heap[b]?
  soft : ∀ b, soft w b → soft w' b
  cell : ∀ c j x, w.cell? ⟨c, j, none⟩ = some x → w'.cell? ⟨c, j, none⟩ = some x ∨ ∃ k i i', x = .int k i ∧ w'.cell? ⟨c, j, none⟩ = some (.int k i')
theorem Ichg.refl (K : Nat → Prop) (w : World) : Ichg K w w := ⟨rfl, rfl, rfl, Nat.le_refl _, fun _ _ _ => rfl, fun _ h => h, fun _ _ _ h => .inl h⟩
theorem Ichg.set {K : Nat → Prop} {w w' : World} (h : Ichg K w w') {b o : Nat} {i i' : Int} (hb : ¬ K b) (hs : Go.Proofs.YtbbglendddepfaaDoor.soft w' b) (hc : w'.cell? ⟨b, o, none⟩ = some (.int .i64 i)) : Ichg K w (w'.setCells b o [.int .i64 i']) := by
  obtain ⟨cur, T, hg⟩ := hs
  have ho : o < cur.size := by
    simp only [World.cell?, hg] at hc
    exact (Array.getElem?_eq_some_iff.1 (by simpa using hc)).1
  obtain ⟨q1, q2, q3⟩ := setCells_os b [.int .i64 i'] o w'
  refine ⟨q1.trans h.os, q2.trans h.tape, q3.trans h.output, by rw [setCells_size]; exact h.size, fun c hc1 hK => (setCells_other (fun e => by subst e; exact hb hK) _ _ _).trans (h.keep c hc1 hK), fun c hc1 => soft_set1 hg ho (h.soft c hc1), fun c j x hx => ?_⟩
  rw [cell_set1 hg ho]
  split
  · rename_i e
    obtain ⟨rfl, rfl⟩ := e
    rcases h.cell _ _ _ hx with h1 | ⟨k, p, p', rfl, h1⟩
    · rw [hc] at h1
      cases h1
      exact .inr ⟨.i64, i, i', rfl, rfl⟩
    · rw [hc] at h1
      cases h1
      exact .inr ⟨.i64, p, i', rfl, rfl⟩
  · exact h.cell _ _ _ hx
theorem setCell_eq (w : World) (b o : Nat) (v : Value) : w.setCells b o [v] = w.setCell ⟨b, o, none⟩ v := rfl
set_option maxHeartbeats 800000 in
theorem spoil_w {K : Nat → Prop} (g off n cap : Nat) (w : World) (hn : n ≤ 9223372036854775807) (hK : ¬ K g) (hs : soft w g) (hc : ∀ j, j < n → ∃ i, w.cell? ⟨g, off + j, none⟩ = some (.int .i64 i)) :
    Calls Tryd.prog 19 #[.slice (some ⟨g, off, none⟩) n cap] w fun e w' => e = .returned (.tuple #[]) ∧ Ichg K w w' := by
  have Hs := hid0 hs
  have Hc := hid0 hc
  have HK := hid0 hK
  clear hs hc hK
  go_enter Tryd.func19, Tryd.ntmps19
  go_wp2_with fail
  go_loopw [2] (fun v wr => ∃ (k : Nat), k ≤ n ∧ v = .int .i64 k ∧ Ichg K w wr ∧ soft wr g ∧ ∀ j, j < n → ∃ i, wr.cell? ⟨g, off + j, none⟩ = some (.int .i64 i)) (fun v _ => n - (intOf v).toNat)
  case atStart => exact ⟨0, Nat.zero_le _, rfl, Ichg.refl _ _, Hs.out, Hc.out⟩
  case round =>
    obtain ⟨k, hk, rfl, hI, hS, hC⟩ := hrel
    have HI := hid0 hI
    have HS := hid0 hS
    have HC := hid0 hC
    by_cases h1 : k < n
    · obtain ⟨i0, g1⟩ := hC k h1
      have G1 := hid0 g1
      have g2 : wr.frozen? ⟨g, off + k, none⟩ = false := by obtain ⟨cur, T, hg⟩ := hS; exact frozenB hg _
      clear hI hS hC
      go_wp2_with fail
      go_roundw
      case rel =>
        refine ⟨k + 1, by omega, by go_num, HI.out.set HK.out HS.out G1.out, ?_, fun j hj => ?_⟩
        · obtain ⟨cur, T, hg⟩ := HS.out
          have ho : off + k < cur.size := by
            have := G1.out
            simp only [World.cell?, hg] at this
            exact (Array.getElem?_eq_some_iff.1 (by simpa using this)).1
          exact soft_set1 hg ho HS.out
        · obtain ⟨cur, T, hg⟩ := HS.out
          have ho : off + k < cur.size := by
            have := G1.out
            simp only [World.cell?, hg] at this
            exact (Array.getElem?_eq_some_iff.1 (by simpa using this)).1
          have := cell_set1 (v := .int .i64 (-77)) hg ho g (off + j)
          rw [setCell_eq] at this
          rw [this]
          split
          · exact ⟨_, rfl⟩
          · exact HC.out j hj
      case measure => simp [intOf]; omega
    · clear hI hS hC
      go_wp2_with fail
      go_end0
      exact ⟨rfl, HI.out⟩
theorem spoil_z (w : World) (a : Option Addr) (cap : Nat) : Calls Tryd.prog 19 #[.slice a 0 cap] w fun e w' => e = .returned (.tuple #[]) ∧ w = w' := by
  go_enter Tryd.func19, Tryd.ntmps19
  go_wp2_with fail
  refine wp_loop_rounds 1 ?_
  rw [rounds_succ]
  go_wp2_with fail
  go_end0
  exact ⟨rfl, rfl⟩
end Go.Proofs.YtbbglendddepfaaDoor
