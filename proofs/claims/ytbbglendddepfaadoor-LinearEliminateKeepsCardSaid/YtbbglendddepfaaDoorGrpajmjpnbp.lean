import Derived.Test.YtbbglendddepfaaDoorGrpojeimnak
import Derived.Test.YtbbglendddepfaaDoorGrpahmkmnmo
set_option linter.all false
namespace Go.Proofs.YtbbglendddepfaaDoor
open Go.RowKit Go.Deep
variable {J : World → Prop}
set_option linter.unusedSimpArgs false in
set_option linter.unusedVariables false in
set_option maxRecDepth 100000 in
set_option maxHeartbeats 6400000 in
theorem axisRow_c {p m : Nat} {c d : Int} (hp : p ≤ 96) (hm : m < p) : Ctr Tryd.prog J 69 [iv p, iv m, iv c, iv d] (.agg (cRo (Elm.axR p m c, d))) := by
 refine ctr_of_tri Tryd.func69 rfl (by intro X hX; simp only [List.mem_cons, List.not_mem_nil, or_false] at hX; rcases hX with rfl | rfl | rfl | rfl; exact .v _; exact .v _; exact .v _; exact .v _) (n := 20) rfl (by simp) (fun w0 => ?_)
 refine kW 20 [] [(0, iv p), (1, iv m), (2, iv c), (3, iv d)] ?_
 refine tri_seq ?_
 refine tri_region ?_
 refine t_op rfl (sp_alloc (z := .agg #[.slice none 0 0, .int .i64 0]) (k := 1) rfl (by kernel_rfl)) T0 T0 rfl ?_
 refine kN 20 [(1, .box 39 [.v (.slice none 0 0), iv 0])] [(0, iv p), (1, iv m), (2, iv c), (3, iv d), (8, .box 1 0)] ?_
 refine t_then ?_
 refine tri_seq ?_
 refine tri_region ?_
 refine oA (sp_move (.tmp 0) (iv p) rfl) I0 ?_
 refine t_op rfl (sp_make (k := 2) (n := p) (zv := .int .i64 0) true rfl Tryd.underlying25 (by kernel_rfl) rfl (by first | (show 8 * p ≤ _; omega) | omega) (by first | (show 8 * p ≤ _; omega) | omega) (cs := ((List.replicate p (0 : Int)).map iv)) (Elm.axR_zero p)) ⟨I0, I0, T0⟩ T0 rfl ?_
 refine oA (sp_move (.tmp 3) (iv d) rfl) I0 ?_
 refine oC (sp_bldN [0, 1] [.tmp 11, .tmp 12] [.own 2, iv d] [.inr 0, .inr 1] rfl rfl rfl rfl rfl (fun _ => by kernel_rfl) rfl (ds := [.own 2, iv d]) rfl) I0 I0 ?_
 refine t_op rfl (sp_alloc (z := .agg #[.slice none 0 0, .int .i64 0]) (k := 3) rfl (by kernel_rfl)) T0 T0 rfl ?_
 refine t_op rfl (sp_storeBox (T0 := 39) (X := .agg [.own 2, iv d]) (cs := [.v (.slice none 0 0), iv 0]) (ds := [.own 2, iv d]) (z := 2) (.tmp 9) (.tmp 13) rfl (by kernel_rfl) (by kernel_rfl) (by kernel_rfl) (of_decide_eq_true (by kernel_rfl)) (by kernel_rfl)) ⟨I0, I0, T0⟩ ⟨rfl, T0⟩ rfl ?_
 refine kN 20 [(1, .box 39 [.v (.slice none 0 0), iv 0]), (2, .row true 3 1 p ((List.replicate p (0 : Int)).map iv)), (3, .box 39 [.own 2, iv d])] [(1, iv m), (2, iv c), (8, .box 1 0), (9, .box 3 0)] ?_
 refine t_then ?_
 refine tri_seq ?_
 refine tri_region ?_
 refine oA (fB 0 (.tmp 9) rfl Tryd.underlying39 rfl 1 rfl) I0 ?_
 refine oB (lB (.box 39 [.own 2, iv d]) (.own 2) (.tmp 14) rfl Tryd.underlying25 rfl rfl) I0 rfl ?_
 refine oA (sp_move (.tmp 1) (iv m) rfl) I0 ?_
 refine oA (sp_move (.tmp 2) (iv c) rfl) I0 ?_
 refine t_op rfl (sp_indexOwn (off := m * 1) (.tmp 15) (.tmp 16) rfl Tryd.underlying25 (by kernel_rfl) (by omega) (by omega) rfl) ⟨I0, I0, T0⟩ ⟨rfl, T0⟩ T0 ?_
 refine t_op rfl (sp_storeRow (X := iv c) (off := m * 1) (cs := ((List.replicate p (0 : Int)).map iv)) (ds := ((Elm.axR p m c).map iv)) (zz := 1) (.tmp 18) (.tmp 17) rfl (by kernel_rfl) (by kernel_rfl) (fun _ d hd => by simp only [AV.cellsOf, List.mem_cons, List.not_mem_nil, or_false] at hd; subst hd; rfl) (by kernel_rfl) (by simp; omega) (by rw [Nat.mul_one]; exact Elm.axR_step)) ⟨I0, I0, T0⟩ ⟨rfl, T0⟩ rfl ?_
 refine kN 20 [(1, .box 39 [.v (.slice none 0 0), iv 0]), (2, .row true 3 1 p ((Elm.axR p m c).map iv)), (3, .box 39 [.own 2, iv d])] [(8, .box 1 0), (9, .box 3 0)] ?_
 refine t_then ?_
 refine tri_seq ?_
 refine tri_region ?_
 refine oB (sp_loadBoxS (Y := .box 39 [.own 2, iv d]) (ds := [.own 2, iv d]) (z := 2) (.tmp 9) rfl Tryd.underlying39 rfl (by kernel_rfl) (by decide) (by kernel_rfl) (by kernel_rfl)) I0 rfl ?_
 refine t_op rfl (sp_storeBox (T0 := 39) (X := .agg [.own 2, iv d]) (cs := [.v (.slice none 0 0), iv 0]) (ds := [.own 2, iv d]) (z := 2) (.tmp 8) (.tmp 19) rfl (by kernel_rfl) (by kernel_rfl) (by kernel_rfl) (of_decide_eq_true (by kernel_rfl)) (by kernel_rfl)) ⟨I0, I0, T0⟩ ⟨rfl, T0⟩ rfl ?_
 refine kN 20 [(1, .box 39 [.own 2, iv d]), (2, .row true 3 1 p ((Elm.axR p m c).map iv))] [(8, .box 1 0)] ?_
 refine t_then ?_
 refine tri_ret ?_
 refine tri_end1 Tryd.results69 (.cellS rfl rfl Tryd.underlying39 rfl (z := 2) (by kernel_rfl) rfl (by decide)) ?_
 exact congrArg (fun q => AV.agg [.sl 1 q ((Elm.axR p m c).map iv), iv d]) (Elm.axR_len p m c).symm
set_option linter.unusedSimpArgs false in
set_option linter.unusedVariables false in
set_option maxRecDepth 100000 in
set_option maxHeartbeats 6400000 in
theorem bounds_L {p m : Nat} {rs : List Rw} (hp : p ≤ 96) (hm : m < p) (hm2 : ∀ r ∈ rs, m < r.1.length) (hl : rs.length ≤ 250) (k : Nat) : CtrL Tryd.prog 42 [.agg (cSy ((p : Nat) : Int) rs), iv m] 24 [.int .i64 0, .slice none 0 0] k (.row false 39 2 ((Elm.oth m rs).length) ((Elm.oth m rs).flatMap cRo)) (.tup [.own k, .sl 2 (Elm.low p m rs).length ((Elm.low p m rs).flatMap cRo), .sl 2 (Elm.upp m rs).length ((Elm.upp m rs).flatMap cRo)]) := by
 refine ctrL_of_tri Tryd.func42 rfl (by intro X hX; simp only [List.mem_cons, List.not_mem_nil, or_false] at hX; rcases hX with rfl | rfl; exact plain_agg (plain_sy _ rs); exact .v _) (n := 51) rfl (by simp) (fun w0 g hg => ?_)
 refine kW 51 [(1000000, .box 24 [iv 0, .v (.slice none 0 0)])] [(0, .agg (cSy ((p : Nat) : Int) rs)), (1, iv m)] ?_
 refine tri_seq ?_
 refine tri_region ?_
 refine oA (sp_boxR (X := .agg (cSy ((p : Nat) : Int) rs)) (.tmp 0) rfl rfl rfl) I0 ?_
 refine oA (sp_assign (.const (.slice none 0 0)) (.v (.slice none 0 0)) rfl) I0 ?_
 refine oA (sp_assign (.const (.slice none 0 0)) (.v (.slice none 0 0)) rfl) I0 ?_
 refine oA (sp_assign (.const (.slice none 0 0)) (.v (.slice none 0 0)) rfl) I0 ?_
 refine kN 51 [(1000000, .box 24 [iv 0, .v (.slice none 0 0)])] [(1, iv m), (2, .el (cSy ((p : Nat) : Int) rs) 0), (4, .v (.slice none 0 0)), (5, .v (.slice none 0 0)), (6, .v (.slice none 0 0))] ?_
 refine t_then ?_
 refine tri_seq ?_
 refine tri_region ?_
 refine oA (sp_move (.tmp 5) (.v (.slice none 0 0)) rfl) I0 ?_
 refine oA (sp_fieldEl (off' := 0) (.tmp 2) rfl Tryd.underlying24 rfl (z := 1) (by kernel_rfl) (by decide) rfl) I0 ?_
 refine oA (sp_loadEl1 (X := iv p) (.tmp 11) rfl Tryd.underlying3 rfl rfl) I0 ?_
 refine oA (sp_move (.tmp 1) (iv m) rfl) I0 ?_
 refine t_op rfl (sp_call (c := .func 69) (xs := #[.tmp 12, .tmp 13, .const (.int .i64 1), .const (.int .i64 0)]) [] (axisRow_c hp hm) rfl (by kernel_rfl) rfl (Xs := [iv p, iv m, iv 1, iv 0]) rfl rfl rfl) ⟨I0, I0, I0, I0, I0, T0⟩ T0 T0 ?_
 refine t_op rfl (sp_build (z := 2) (k := 1) (fr := false) (cs := [intsA ((Elm.axR p m 1, (0 : Int)).1), iv ((Elm.axR p m 1, (0 : Int)).2)]) [.tmp 14] [.agg (cRo (Elm.axR p m 1, (0 : Int)))] rfl Tryd.underlying22 (by kernel_rfl) (by decide) (by decide) rfl rfl rfl (by kernel_rfl) (by decide) (fun h => Bool.noConfusion h) (by kernel_rfl)) ⟨.inr (.inl rfl), T0⟩ T0 rfl ?_
 refine t_op rfl (sp_appendNilOwn (m := 1) (ds := [intsA ((Elm.axR p m 1, (0 : Int)).1), iv ((Elm.axR p m 1, (0 : Int)).2)]) (⟨Tryd.underlying22, by kernel_rfl, by decide⟩ : Elt Tryd.prog 22 39 2 32) (k := 2) false (.tmp 10) (.tmp 15) rfl (fun h => Bool.noConfusion h) (by unfold maxLen; omega) (by omega) (Elm.cellRp _) (es := (([] : List AV) ++ cRo (Elm.axR p m 1, (0 : Int)))) rfl) ⟨I0, I0, T0⟩ ⟨rfl, T0⟩ rfl ?_
 refine oA (sp_assign (.tmp 16) (.own 2) rfl) I0 ?_
 refine kN 51 [(2, .row false 39 2 (0 + 1) (([] : List AV) ++ cRo (Elm.axR p m 1, (0 : Int)))), (1000000, .box 24 [iv 0, .v (.slice none 0 0)])] [(1, iv m), (2, .el (cSy ((p : Nat) : Int) rs) 0), (4, .v (.slice none 0 0)), (5, .own 2), (6, .v (.slice none 0 0))] ?_
 refine t_then ?_
 refine tri_seq ?_
 refine tri_seq ?_
 refine tri_region ?_
 refine oA (sp_fieldEl (off' := 1) (.tmp 2) rfl Tryd.underlying24 rfl (z := 1) (by kernel_rfl) (by decide) rfl) I0 ?_
 refine oA (sp_loadEl1 (X := slA 2 cRo rs) (.tmp 17) rfl Tryd.underlying22 rfl rfl) I0 ?_
 refine oA (sp_lenSl (.tmp 18) rfl Tryd.underlying22) I0 ?_
 refine oA (sp_move (.const (.int .i64 0)) (iv 0) rfl) I0 ?_
 refine kN 51 [(2, .row false 39 2 (0 + 1) (([] : List AV) ++ cRo (Elm.axR p m 1, (0 : Int)))), (1000000, .box 24 [iv 0, .v (.slice none 0 0)])] [(1, iv m), (4, .v (.slice none 0 0)), (5, .own 2), (6, .v (.slice none 0 0)), (18, slA 2 cRo rs), (19, iv rs.length), (20, iv 0)] ?_
 refine t_then ?_
 refine tri_block ?_
 refine tri_wk (wk_adopt 4 3 false 39 2 rfl rfl rfl) ?_
 refine tri_wk (wk_adopt 6 4 false 39 2 rfl rfl rfl) ?_
 refine tri_loop (σ := {j : Nat // j ≤ rs.length}) (fun s => (ofL [(2, .row false 39 2 ((Elm.low p m (rs.take s.1)).length) ((Elm.low p m (rs.take s.1)).flatMap cRo)), (3, .row false 39 2 ((Elm.oth m (rs.take s.1)).length) ((Elm.oth m (rs.take s.1)).flatMap cRo)), (4, .row false 39 2 ((Elm.upp m (rs.take s.1)).length) ((Elm.upp m (rs.take s.1)).flatMap cRo)), (1000000, .box 24 [iv 0, .v (.slice none 0 0)])], ofT 51 [(1, iv m), (4, .own 3), (5, .own 2), (6, .own 4), (18, slA 2 cRo rs), (19, iv rs.length), (20, iv s.1)])) (fun s => rs.length - s.1) ⟨0, Nat.zero_le _⟩ (wk_keep _ _ rfl (by kernel_rfl) (by kernel_rfl)) (fun s => ?_)
 obtain ⟨j, hj0⟩ := s
 show ETri (fun _ => True) w0 (ofL [(2, .row false 39 2 ((Elm.low p m (rs.take j)).length) ((Elm.low p m (rs.take j)).flatMap cRo)), (3, .row false 39 2 ((Elm.oth m (rs.take j)).length) ((Elm.oth m (rs.take j)).flatMap cRo)), (4, .row false 39 2 ((Elm.upp m (rs.take j)).length) ((Elm.upp m (rs.take j)).flatMap cRo)), (1000000, .box 24 [iv 0, .v (.slice none 0 0)])]) (ofT 51 [(1, iv m), (4, .own 3), (5, .own 2), (6, .own 4), (18, slA 2 cRo rs), (19, iv rs.length), (20, iv j)]) _
 have l1 := Elm.oth_len (m := m) (rs := rs.take j)
 have l2 := Elm.low_len (p := p) (m := m) (rs := rs.take j)
 have l3 := Elm.upp_len (m := m) (rs := rs.take j)
 have l4 : (rs.take j).length ≤ j := List.length_take_le _ _
 refine tri_seq ?_
 by_cases hs1 : ((j : Nat) : Int) < ((rs.length : Nat) : Int)
 have hj1 : j < rs.length := by omega
 have hmj : m < rs[j].1.length := hm2 _ (List.getElem_mem hj1)
 refine tri_region ?_
 refine oC (sp_lss rfl (dT hs1)) I0 I0 ?_
 refine kN 51 [(2, .row false 39 2 ((Elm.low p m (rs.take j)).length) ((Elm.low p m (rs.take j)).flatMap cRo)), (3, .row false 39 2 ((Elm.oth m (rs.take j)).length) ((Elm.oth m (rs.take j)).flatMap cRo)), (4, .row false 39 2 ((Elm.upp m (rs.take j)).length) ((Elm.upp m (rs.take j)).flatMap cRo)), (1000000, .box 24 [iv 0, .v (.slice none 0 0)])] [(1, iv m), (4, .own 3), (5, .own 2), (6, .own 4), (18, slA 2 cRo rs), (19, iv rs.length), (20, iv j), (21, bv true)] ?_
 refine t_then ?_
 refine tri_seq ?_
 refine t_condT rfl ?_
 refine tri_skip ?_
 refine t_then ?_
 refine tri_seq ?_
 refine tri_block ?_
 refine tri_seq ?_
 refine tri_region ?_
 refine oC (sp_indexSl (off := j * 2) (.tmp 18) (.tmp 20) rfl Tryd.underlying22 (by kernel_rfl) (by omega) (by omega) rfl) I0 I0 ?_
 refine oA (sp_loadElS (z := 2) (.tmp 22) rfl Tryd.underlying39 rfl (by kernel_rfl) (flat_take lenRo rs j (by omega)) rfl) I0 ?_
 refine t_op rfl (sp_alloc (z := .agg #[.slice none 0 0, .int .i64 0]) (k := 5) rfl (by kernel_rfl)) T0 T0 rfl ?_
 refine t_op rfl (sp_storeBox (T0 := 39) (X := .agg (cRo rs[j])) (cs := [.v (.slice none 0 0), iv 0]) (ds := cRo rs[j]) (z := 2) (.tmp 8) (.tmp 23) rfl (by kernel_rfl) (by kernel_rfl) (by kernel_rfl) (of_decide_eq_true (by kernel_rfl)) (by kernel_rfl)) ⟨I0, I0, T0⟩ ⟨rfl, T0⟩ rfl ?_
 refine kN 51 [(2, .row false 39 2 ((Elm.low p m (rs.take j)).length) ((Elm.low p m (rs.take j)).flatMap cRo)), (3, .row false 39 2 ((Elm.oth m (rs.take j)).length) ((Elm.oth m (rs.take j)).flatMap cRo)), (4, .row false 39 2 ((Elm.upp m (rs.take j)).length) ((Elm.upp m (rs.take j)).flatMap cRo)), (5, .box 39 (cRo rs[j])), (1000000, .box 24 [iv 0, .v (.slice none 0 0)])] [(1, iv m), (4, .own 3), (5, .own 2), (6, .own 4), (8, .box 5 0), (18, slA 2 cRo rs), (19, iv rs.length), (20, iv j), (21, bv true)] ?_
 refine t_then ?_
 refine tri_seq ?_
 refine tri_region ?_
 refine oA (fB 0 (.tmp 8) rfl Tryd.underlying39 rfl 1 rfl) I0 ?_
 refine oB (lB (.box 39 (cRo rs[j])) (intsA rs[j].1) (.tmp 24) rfl Tryd.underlying25 rfl rfl) I0 rfl ?_
 refine oA (sp_move (.tmp 1) (iv m) rfl) I0 ?_
 refine oC (sp_indexSl (off := m * 1) (.tmp 25) (.tmp 26) rfl Tryd.underlying25 (by kernel_rfl) (by omega) (by omega) rfl) I0 I0 ?_
 refine oA (sp_loadEl1 (X := iv rs[j].1[m]) (.tmp 27) rfl Tryd.underlying3 rfl (map_at1 rs[j].1 (by omega))) I0 ?_
 refine oA (sp_assign (.tmp 28) (iv rs[j].1[m]) rfl) I0 ?_
 refine kN 51 [(2, .row false 39 2 ((Elm.low p m (rs.take j)).length) ((Elm.low p m (rs.take j)).flatMap cRo)), (3, .row false 39 2 ((Elm.oth m (rs.take j)).length) ((Elm.oth m (rs.take j)).flatMap cRo)), (4, .row false 39 2 ((Elm.upp m (rs.take j)).length) ((Elm.upp m (rs.take j)).flatMap cRo)), (5, .box 39 (cRo rs[j])), (1000000, .box 24 [iv 0, .v (.slice none 0 0)])] [(1, iv m), (4, .own 3), (5, .own 2), (6, .own 4), (8, .box 5 0), (9, iv rs[j].1[m]), (18, slA 2 cRo rs), (19, iv rs.length), (20, iv j), (21, bv true)] ?_
 refine t_then ?_
 refine tri_block ?_
 refine tri_seq ?_
 by_cases hs2 : rs[j].1[m] = 0
 refine tri_region ?_
 refine oA (sp_move (.tmp 9) (iv rs[j].1[m]) rfl) I0 ?_
 refine oC (sp_eql rfl (dT hs2)) I0 I0 ?_
 refine oA (sp_assign (.tmp 35) (bv true) rfl) I0 ?_
 refine kN 51 [(2, .row false 39 2 ((Elm.low p m (rs.take j)).length) ((Elm.low p m (rs.take j)).flatMap cRo)), (3, .row false 39 2 ((Elm.oth m (rs.take j)).length) ((Elm.oth m (rs.take j)).flatMap cRo)), (4, .row false 39 2 ((Elm.upp m (rs.take j)).length) ((Elm.upp m (rs.take j)).flatMap cRo)), (5, .box 39 (cRo rs[j])), (1000000, .box 24 [iv 0, .v (.slice none 0 0)])] [(1, iv m), (4, .own 3), (5, .own 2), (6, .own 4), (8, .box 5 0), (9, iv rs[j].1[m]), (18, slA 2 cRo rs), (19, iv rs.length), (20, iv j), (21, bv true), (33, bv true)] ?_
 refine t_then ?_
 refine t_condT rfl ?_
 refine tri_region ?_
 refine oA (sp_move (.tmp 4) (.own 3) rfl) I0 ?_
 refine oB (sp_loadBoxS (Y := .box 39 (cRo rs[j])) (ds := cRo rs[j]) (z := 2) (.tmp 8) rfl Tryd.underlying39 rfl (by kernel_rfl) (by decide) (by kernel_rfl) (by kernel_rfl)) I0 rfl ?_
 refine t_op rfl (sp_build (z := 2) (k := 6) (fr := false) (cs := [intsA rs[j].1, iv rs[j].2]) [.tmp 37] [.agg (cRo rs[j])] rfl Tryd.underlying22 (by kernel_rfl) (by decide) (by decide) rfl rfl rfl (by kernel_rfl) (by decide) (fun h => Bool.noConfusion h) (by kernel_rfl)) ⟨I0, T0⟩ T0 rfl ?_
 refine t_op rfl (sp_appendOwn (n := (Elm.oth m (rs.take j)).length) (cs := ((Elm.oth m (rs.take j)).flatMap cRo)) (fr := false) (m := 1) (ds := [intsA rs[j].1, iv rs[j].2]) (⟨Tryd.underlying22, by kernel_rfl, by decide⟩ : Elt Tryd.prog 22 39 2 32) (.tmp 36) (.tmp 38) rfl (fun h => Bool.noConfusion h) (by unfold maxLen; omega) (by omega) (Elm.cellRp _) (es := (((Elm.oth m (rs.take j)) ++ [rs[j]]).flatMap cRo)) Elm.snocRp) ⟨I0, I0, T0⟩ ⟨rfl, rfl, T0⟩ rfl ?_
 refine oA (sp_assign (.tmp 39) (.own 3) rfl) I0 ?_
 refine kN 51 [(2, .row false 39 2 ((Elm.low p m (rs.take j)).length) ((Elm.low p m (rs.take j)).flatMap cRo)), (3, .row false 39 2 ((Elm.oth m (rs.take j)).length + 1) (((Elm.oth m (rs.take j)) ++ [rs[j]]).flatMap cRo)), (4, .row false 39 2 ((Elm.upp m (rs.take j)).length) ((Elm.upp m (rs.take j)).flatMap cRo)), (5, .box 39 (cRo rs[j])), (1000000, .box 24 [iv 0, .v (.slice none 0 0)])] [(1, iv m), (4, .own 3), (5, .own 2), (6, .own 4), (8, .box 5 0), (9, iv rs[j].1[m]), (18, slA 2 cRo rs), (19, iv rs.length), (20, iv j), (21, bv true), (33, bv true)] ?_
 refine t_block ?_
 refine t_block ?_
 refine t_then ?_
 refine tri_region ?_
 refine oC (sp_add (c := ((j + 1 : Nat) : Int)) rfl (w64 (by omega) (by omega) (by omega))) I0 I0 ?_
 refine oA (sp_move (.tmp 47) (iv (j + 1 : Nat)) rfl) I0 ?_
 refine kN 51 [(2, .row false 39 2 ((Elm.low p m (rs.take j)).length) ((Elm.low p m (rs.take j)).flatMap cRo)), (3, .row false 39 2 ((Elm.oth m (rs.take j)).length + 1) (((Elm.oth m (rs.take j)) ++ [rs[j]]).flatMap cRo)), (4, .row false 39 2 ((Elm.upp m (rs.take j)).length) ((Elm.upp m (rs.take j)).flatMap cRo)), (5, .box 39 (cRo rs[j])), (1000000, .box 24 [iv 0, .v (.slice none 0 0)])] [(1, iv m), (4, .own 3), (5, .own 2), (6, .own 4), (8, .box 5 0), (9, iv rs[j].1[m]), (18, slA 2 cRo rs), (19, iv rs.length), (20, iv (j + 1 : Nat)), (21, bv true), (33, bv true)] ?_
 refine t_then ?_
 refine tri_again ⟨j + 1, by omega⟩ (show rs.length - (j + 1) < rs.length - j by omega) ?_
 show Wk _ _ (ofL [(2, .row false 39 2 ((Elm.low p m (rs.take (j + 1))).length) ((Elm.low p m (rs.take (j + 1))).flatMap cRo)), (3, .row false 39 2 ((Elm.oth m (rs.take (j + 1))).length) ((Elm.oth m (rs.take (j + 1))).flatMap cRo)), (4, .row false 39 2 ((Elm.upp m (rs.take (j + 1))).length) ((Elm.upp m (rs.take (j + 1))).flatMap cRo)), (1000000, .box 24 [iv 0, .v (.slice none 0 0)])]) (ofT 51 [(1, iv m), (4, .own 3), (5, .own 2), (6, .own 4), (18, slA 2 cRo rs), (19, iv rs.length), (20, iv ((j + 1) : Nat))])
 rw [(Elm.st_z (p := p) hj1 hmj hs2).1, (Elm.st_z (p := p) hj1 hmj hs2).2.1, (Elm.st_z (p := p) hj1 hmj hs2).2.2]
 try rw [List.length_append]
 exact wk_keep _ _ rfl (by kernel_rfl) (by kernel_rfl)
 refine tri_region ?_
 refine oA (sp_move (.tmp 9) (iv rs[j].1[m]) rfl) I0 ?_
 refine oC (sp_eql rfl (dF hs2)) I0 I0 ?_
 refine oA (sp_assign (.tmp 35) (bv false) rfl) I0 ?_
 refine kN 51 [(2, .row false 39 2 ((Elm.low p m (rs.take j)).length) ((Elm.low p m (rs.take j)).flatMap cRo)), (3, .row false 39 2 ((Elm.oth m (rs.take j)).length) ((Elm.oth m (rs.take j)).flatMap cRo)), (4, .row false 39 2 ((Elm.upp m (rs.take j)).length) ((Elm.upp m (rs.take j)).flatMap cRo)), (5, .box 39 (cRo rs[j])), (1000000, .box 24 [iv 0, .v (.slice none 0 0)])] [(1, iv m), (4, .own 3), (5, .own 2), (6, .own 4), (8, .box 5 0), (9, iv rs[j].1[m]), (18, slA 2 cRo rs), (19, iv rs.length), (20, iv j), (21, bv true), (33, bv false)] ?_
 refine t_then ?_
 refine t_condF rfl ?_
 refine tri_seq ?_
 by_cases hs3 : 0 < rs[j].1[m]
 refine tri_region ?_
 refine oA (sp_move (.tmp 9) (iv rs[j].1[m]) rfl) I0 ?_
 refine oC (sp_gtr rfl (dT hs3)) I0 I0 ?_
 refine oA (sp_assign (.tmp 42) (bv true) rfl) I0 ?_
 refine kN 51 [(2, .row false 39 2 ((Elm.low p m (rs.take j)).length) ((Elm.low p m (rs.take j)).flatMap cRo)), (3, .row false 39 2 ((Elm.oth m (rs.take j)).length) ((Elm.oth m (rs.take j)).flatMap cRo)), (4, .row false 39 2 ((Elm.upp m (rs.take j)).length) ((Elm.upp m (rs.take j)).flatMap cRo)), (5, .box 39 (cRo rs[j])), (1000000, .box 24 [iv 0, .v (.slice none 0 0)])] [(1, iv m), (4, .own 3), (5, .own 2), (6, .own 4), (8, .box 5 0), (9, iv rs[j].1[m]), (18, slA 2 cRo rs), (19, iv rs.length), (20, iv j), (21, bv true), (33, bv false), (40, bv true)] ?_
 refine t_then ?_
 refine t_condT rfl ?_
 refine tri_region ?_
 refine oA (sp_move (.tmp 5) (.own 2) rfl) I0 ?_
 refine oB (sp_loadBoxS (Y := .box 39 (cRo rs[j])) (ds := cRo rs[j]) (z := 2) (.tmp 8) rfl Tryd.underlying39 rfl (by kernel_rfl) (by decide) (by kernel_rfl) (by kernel_rfl)) I0 rfl ?_
 refine t_op rfl (sp_build (z := 2) (k := 6) (fr := false) (cs := [intsA rs[j].1, iv rs[j].2]) [.tmp 44] [.agg (cRo rs[j])] rfl Tryd.underlying22 (by kernel_rfl) (by decide) (by decide) rfl rfl rfl (by kernel_rfl) (by decide) (fun h => Bool.noConfusion h) (by kernel_rfl)) ⟨I0, T0⟩ T0 rfl ?_
 refine t_op rfl (sp_appendOwn (n := (Elm.low p m (rs.take j)).length) (cs := ((Elm.low p m (rs.take j)).flatMap cRo)) (fr := false) (m := 1) (ds := [intsA rs[j].1, iv rs[j].2]) (⟨Tryd.underlying22, by kernel_rfl, by decide⟩ : Elt Tryd.prog 22 39 2 32) (.tmp 43) (.tmp 45) rfl (fun h => Bool.noConfusion h) (by unfold maxLen; omega) (by omega) (Elm.cellRp _) (es := (((Elm.low p m (rs.take j)) ++ [rs[j]]).flatMap cRo)) Elm.snocRp) ⟨I0, I0, T0⟩ ⟨rfl, rfl, T0⟩ rfl ?_
 refine oA (sp_assign (.tmp 46) (.own 2) rfl) I0 ?_
 refine kN 51 [(2, .row false 39 2 ((Elm.low p m (rs.take j)).length + 1) (((Elm.low p m (rs.take j)) ++ [rs[j]]).flatMap cRo)), (3, .row false 39 2 ((Elm.oth m (rs.take j)).length) ((Elm.oth m (rs.take j)).flatMap cRo)), (4, .row false 39 2 ((Elm.upp m (rs.take j)).length) ((Elm.upp m (rs.take j)).flatMap cRo)), (5, .box 39 (cRo rs[j])), (1000000, .box 24 [iv 0, .v (.slice none 0 0)])] [(1, iv m), (4, .own 3), (5, .own 2), (6, .own 4), (8, .box 5 0), (9, iv rs[j].1[m]), (18, slA 2 cRo rs), (19, iv rs.length), (20, iv j), (21, bv true), (33, bv false), (40, bv true)] ?_
 refine t_block ?_
 refine t_block ?_
 refine t_then ?_
 refine tri_region ?_
 refine oC (sp_add (c := ((j + 1 : Nat) : Int)) rfl (w64 (by omega) (by omega) (by omega))) I0 I0 ?_
 refine oA (sp_move (.tmp 47) (iv (j + 1 : Nat)) rfl) I0 ?_
 refine kN 51 [(2, .row false 39 2 ((Elm.low p m (rs.take j)).length + 1) (((Elm.low p m (rs.take j)) ++ [rs[j]]).flatMap cRo)), (3, .row false 39 2 ((Elm.oth m (rs.take j)).length) ((Elm.oth m (rs.take j)).flatMap cRo)), (4, .row false 39 2 ((Elm.upp m (rs.take j)).length) ((Elm.upp m (rs.take j)).flatMap cRo)), (5, .box 39 (cRo rs[j])), (1000000, .box 24 [iv 0, .v (.slice none 0 0)])] [(1, iv m), (4, .own 3), (5, .own 2), (6, .own 4), (8, .box 5 0), (9, iv rs[j].1[m]), (18, slA 2 cRo rs), (19, iv rs.length), (20, iv (j + 1 : Nat)), (21, bv true), (33, bv false), (40, bv true)] ?_
 refine t_then ?_
 refine tri_again ⟨j + 1, by omega⟩ (show rs.length - (j + 1) < rs.length - j by omega) ?_
 show Wk _ _ (ofL [(2, .row false 39 2 ((Elm.low p m (rs.take (j + 1))).length) ((Elm.low p m (rs.take (j + 1))).flatMap cRo)), (3, .row false 39 2 ((Elm.oth m (rs.take (j + 1))).length) ((Elm.oth m (rs.take (j + 1))).flatMap cRo)), (4, .row false 39 2 ((Elm.upp m (rs.take (j + 1))).length) ((Elm.upp m (rs.take (j + 1))).flatMap cRo)), (1000000, .box 24 [iv 0, .v (.slice none 0 0)])]) (ofT 51 [(1, iv m), (4, .own 3), (5, .own 2), (6, .own 4), (18, slA 2 cRo rs), (19, iv rs.length), (20, iv ((j + 1) : Nat))])
 rw [(Elm.st_p (p := p) hj1 hmj hs2 hs3).1, (Elm.st_p (p := p) hj1 hmj hs2 hs3).2.1, (Elm.st_p (p := p) hj1 hmj hs2 hs3).2.2]
 try rw [List.length_append]
 exact wk_keep _ _ rfl (by kernel_rfl) (by kernel_rfl)
 refine tri_region ?_
 refine oA (sp_move (.tmp 9) (iv rs[j].1[m]) rfl) I0 ?_
 refine oC (sp_gtr rfl (dF hs3)) I0 I0 ?_
 refine oA (sp_assign (.tmp 42) (bv false) rfl) I0 ?_
 refine kN 51 [(2, .row false 39 2 ((Elm.low p m (rs.take j)).length) ((Elm.low p m (rs.take j)).flatMap cRo)), (3, .row false 39 2 ((Elm.oth m (rs.take j)).length) ((Elm.oth m (rs.take j)).flatMap cRo)), (4, .row false 39 2 ((Elm.upp m (rs.take j)).length) ((Elm.upp m (rs.take j)).flatMap cRo)), (5, .box 39 (cRo rs[j])), (1000000, .box 24 [iv 0, .v (.slice none 0 0)])] [(1, iv m), (4, .own 3), (5, .own 2), (6, .own 4), (8, .box 5 0), (9, iv rs[j].1[m]), (18, slA 2 cRo rs), (19, iv rs.length), (20, iv j), (21, bv true), (33, bv false), (40, bv false)] ?_
 refine t_then ?_
 refine t_condF rfl ?_
 refine tri_region ?_
 refine oA (sp_move (.tmp 6) (.own 4) rfl) I0 ?_
 refine oB (sp_loadBoxS (Y := .box 39 (cRo rs[j])) (ds := cRo rs[j]) (z := 2) (.tmp 8) rfl Tryd.underlying39 rfl (by kernel_rfl) (by decide) (by kernel_rfl) (by kernel_rfl)) I0 rfl ?_
 refine t_op rfl (sp_build (z := 2) (k := 6) (fr := false) (cs := [intsA rs[j].1, iv rs[j].2]) [.tmp 30] [.agg (cRo rs[j])] rfl Tryd.underlying22 (by kernel_rfl) (by decide) (by decide) rfl rfl rfl (by kernel_rfl) (by decide) (fun h => Bool.noConfusion h) (by kernel_rfl)) ⟨I0, T0⟩ T0 rfl ?_
 refine t_op rfl (sp_appendOwn (n := (Elm.upp m (rs.take j)).length) (cs := ((Elm.upp m (rs.take j)).flatMap cRo)) (fr := false) (m := 1) (ds := [intsA rs[j].1, iv rs[j].2]) (⟨Tryd.underlying22, by kernel_rfl, by decide⟩ : Elt Tryd.prog 22 39 2 32) (.tmp 29) (.tmp 31) rfl (fun h => Bool.noConfusion h) (by unfold maxLen; omega) (by omega) (Elm.cellRp _) (es := (((Elm.upp m (rs.take j)) ++ [rs[j]]).flatMap cRo)) Elm.snocRp) ⟨I0, I0, T0⟩ ⟨rfl, rfl, T0⟩ rfl ?_
 refine oA (sp_assign (.tmp 32) (.own 4) rfl) I0 ?_
 refine kN 51 [(2, .row false 39 2 ((Elm.low p m (rs.take j)).length) ((Elm.low p m (rs.take j)).flatMap cRo)), (3, .row false 39 2 ((Elm.oth m (rs.take j)).length) ((Elm.oth m (rs.take j)).flatMap cRo)), (4, .row false 39 2 ((Elm.upp m (rs.take j)).length + 1) (((Elm.upp m (rs.take j)) ++ [rs[j]]).flatMap cRo)), (5, .box 39 (cRo rs[j])), (1000000, .box 24 [iv 0, .v (.slice none 0 0)])] [(1, iv m), (4, .own 3), (5, .own 2), (6, .own 4), (8, .box 5 0), (9, iv rs[j].1[m]), (18, slA 2 cRo rs), (19, iv rs.length), (20, iv j), (21, bv true), (33, bv false), (40, bv false)] ?_
 refine t_block ?_
 refine t_block ?_
 refine t_then ?_
 refine tri_region ?_
 refine oC (sp_add (c := ((j + 1 : Nat) : Int)) rfl (w64 (by omega) (by omega) (by omega))) I0 I0 ?_
 refine oA (sp_move (.tmp 47) (iv (j + 1 : Nat)) rfl) I0 ?_
 refine kN 51 [(2, .row false 39 2 ((Elm.low p m (rs.take j)).length) ((Elm.low p m (rs.take j)).flatMap cRo)), (3, .row false 39 2 ((Elm.oth m (rs.take j)).length) ((Elm.oth m (rs.take j)).flatMap cRo)), (4, .row false 39 2 ((Elm.upp m (rs.take j)).length + 1) (((Elm.upp m (rs.take j)) ++ [rs[j]]).flatMap cRo)), (5, .box 39 (cRo rs[j])), (1000000, .box 24 [iv 0, .v (.slice none 0 0)])] [(1, iv m), (4, .own 3), (5, .own 2), (6, .own 4), (8, .box 5 0), (9, iv rs[j].1[m]), (18, slA 2 cRo rs), (19, iv rs.length), (20, iv (j + 1 : Nat)), (21, bv true), (33, bv false), (40, bv false)] ?_
 refine t_then ?_
 refine tri_again ⟨j + 1, by omega⟩ (show rs.length - (j + 1) < rs.length - j by omega) ?_
 show Wk _ _ (ofL [(2, .row false 39 2 ((Elm.low p m (rs.take (j + 1))).length) ((Elm.low p m (rs.take (j + 1))).flatMap cRo)), (3, .row false 39 2 ((Elm.oth m (rs.take (j + 1))).length) ((Elm.oth m (rs.take (j + 1))).flatMap cRo)), (4, .row false 39 2 ((Elm.upp m (rs.take (j + 1))).length) ((Elm.upp m (rs.take (j + 1))).flatMap cRo)), (1000000, .box 24 [iv 0, .v (.slice none 0 0)])]) (ofT 51 [(1, iv m), (4, .own 3), (5, .own 2), (6, .own 4), (18, slA 2 cRo rs), (19, iv rs.length), (20, iv ((j + 1) : Nat))])
 rw [(Elm.st_n (p := p) hj1 hmj hs2 hs3).1, (Elm.st_n (p := p) hj1 hmj hs2 hs3).2.1, (Elm.st_n (p := p) hj1 hmj hs2 hs3).2.2]
 try rw [List.length_append]
 exact wk_keep _ _ rfl (by kernel_rfl) (by kernel_rfl)
 refine tri_region ?_
 refine oC (sp_lss rfl (dF hs1)) I0 I0 ?_
 refine kN 51 [(2, .row false 39 2 ((Elm.low p m (rs.take j)).length) ((Elm.low p m (rs.take j)).flatMap cRo)), (3, .row false 39 2 ((Elm.oth m (rs.take j)).length) ((Elm.oth m (rs.take j)).flatMap cRo)), (4, .row false 39 2 ((Elm.upp m (rs.take j)).length) ((Elm.upp m (rs.take j)).flatMap cRo)), (1000000, .box 24 [iv 0, .v (.slice none 0 0)])] [(1, iv m), (4, .own 3), (5, .own 2), (6, .own 4), (18, slA 2 cRo rs), (19, iv rs.length), (20, iv j), (21, bv false)] ?_
 refine t_then ?_
 refine tri_seq ?_
 refine t_condF rfl ?_
 refine tri_exit ?_
 refine t_then_exit ?_
 refine t_then_exit ?_
 refine t_hit ?_
 refine t_then ?_
 refine tri_seq ?_
 refine tri_region ?_
 refine oA (sp_move (.tmp 4) (.own 3) rfl) I0 ?_
 refine oA (sp_move (.tmp 5) (.own 2) rfl) I0 ?_
 refine oA (sp_move (.tmp 6) (.own 4) rfl) I0 ?_
 refine oA (sp_assign (.tmp 48) (.own 3) rfl) I0 ?_
 refine oA (sp_assign (.tmp 49) (.own 2) rfl) I0 ?_
 refine oA (sp_assign (.tmp 50) (.own 4) rfl) I0 ?_
 refine kN 51 [(2, .row false 39 2 ((Elm.low p m (rs.take j)).length) ((Elm.low p m (rs.take j)).flatMap cRo)), (3, .row false 39 2 ((Elm.oth m (rs.take j)).length) ((Elm.oth m (rs.take j)).flatMap cRo)), (4, .row false 39 2 ((Elm.upp m (rs.take j)).length) ((Elm.upp m (rs.take j)).flatMap cRo)), (1000000, .box 24 [iv 0, .v (.slice none 0 0)])] [(4, .own 3), (5, .own 2), (6, .own 4)] ?_
 refine t_then ?_
 refine tri_ret ?_
 have hj2 : j = rs.length := by omega
 rw [show rs.take j = rs by rw [hj2, List.take_length]]
 refine kW 51 [(3, .row false 39 2 ((Elm.oth m rs).length) ((Elm.oth m rs).flatMap cRo)), (1000000, .box 24 [iv 0, .v (.slice none 0 0)])] [(4, .own 3), (5, .sl 2 (Elm.low p m rs).length ((Elm.low p m rs).flatMap cRo)), (6, .sl 2 (Elm.upp m rs).length ((Elm.upp m rs).flatMap cRo))] ?_
 exact tri_giveL3 hg 3 Tryd.results42 (.tmp rfl) (.tmp rfl) (.tmp rfl) (by kernel_rfl) (by kernel_rfl) rfl rfl
end Go.Proofs.YtbbglendddepfaaDoor

namespace Go.Proofs.YtbbglendddepfaaDoor
open Go.RowKit Go.Deep
variable {J : World → Prop}
set_option linter.unusedSimpArgs false in
set_option linter.unusedVariables false in
set_option maxRecDepth 100000 in
set_option maxHeartbeats 6400000 in
theorem cancel_c {m : Nat} {l u : Rw} (P : Elm.Pair m l u) : Ctr Tryd.prog J 43 [.agg (cRo l), .agg (cRo u), iv m] (.tup [.agg (cRo (Elm.cnR m l u)), iv (Elm.cnE m l u)]) := by
 have lm := P.lm
 have um := P.um
 have g1 := P.g1
 have sb := smB_true.1 P.sb
 refine ctr_of_tri Tryd.func43 rfl (by intro X hX; simp only [List.mem_cons, List.not_mem_nil, or_false] at hX; rcases hX with rfl | rfl | rfl; exact plain_agg (plain_ro l); exact plain_agg (plain_ro u); exact .v _) (n := 47) rfl (by simp) (fun w0 => ?_)
 refine kW 47 [] [(0, .agg (cRo l)), (1, .agg (cRo u)), (2, iv m)] ?_
 refine tri_seq ?_
 refine tri_region ?_
 refine t_op rfl (sp_box (X := .agg (cRo l)) (k := 1) (.tmp 0) rfl rfl) ⟨I0, T0⟩ T0 rfl ?_
 refine t_op rfl (sp_box (X := .agg (cRo u)) (k := 2) (.tmp 1) rfl rfl) ⟨I0, T0⟩ T0 rfl ?_
 refine t_op rfl (sp_alloc (z := .agg #[.slice none 0 0, .int .i64 0]) (k := 3) rfl (by kernel_rfl)) T0 T0 rfl ?_
 refine oA (sp_assign (.const (.int .i64 0)) (iv 0) rfl) I0 ?_
 refine kN 47 [(1, .box 39 (cRo l)), (2, .box 39 (cRo u)), (3, .box 39 [.v (.slice none 0 0), iv 0])] [(2, iv m), (3, .box 1 0), (4, .box 2 0), (6, .box 3 0), (7, iv 0)] ?_
 refine t_then ?_
 refine tri_seq ?_
 refine tri_draw [⟨[(.tmp 3, .box 1 0)], [], .box 1 0, .no⟩, ⟨[(.tmp 11, .box 1 0)], [(1, .box 39 (cRo l))], intsA l.1, .no⟩, ⟨[(.tmp 2, iv m)], [], iv m, .no⟩, ⟨[(.tmp 12, intsA l.1), (.tmp 13, iv m)], [], .el (l.1.map iv) (m * 1), .no⟩, ⟨[(.tmp 14, .el (l.1.map iv) (m * 1))], [], iv (Elm.cf m l), .no⟩, ⟨[(.tmp 4, .box 2 0)], [], .box 2 0, .no⟩, ⟨[(.tmp 16, .box 2 0)], [(2, .box 39 (cRo u))], intsA u.1, .no⟩, ⟨[(.tmp 2, iv m)], [], iv m, .no⟩, ⟨[(.tmp 17, intsA u.1), (.tmp 18, iv m)], [], .el (u.1.map iv) (m * 1), .no⟩, ⟨[(.tmp 19, .el (u.1.map iv) (m * 1))], [], iv (Elm.cf m u), .no⟩, ⟨[(.tmp 20, iv (Elm.cf m u))], [], iv (-(Elm.cf m u)), .no⟩, ⟨[(.tmp 15, iv (Elm.cf m l))], [], iv (Elm.cf m l), .no⟩, ⟨[(.tmp 21, iv (-(Elm.cf m u)))], [], iv (-(Elm.cf m u)), .no⟩] (by kernel_rfl) (by kernel_rfl) ?_
 refine ⟨app_yes rfl (fB 0 (.tmp 3) rfl Tryd.underlying39 rfl 1 rfl) ⟨I0, T0⟩ T0 T0, ?_⟩
 refine ⟨app_yes rfl (lB (.box 39 (cRo l)) (intsA l.1) (.tmp 11) rfl Tryd.underlying25 rfl rfl) ⟨I0, T0⟩ ⟨rfl, T0⟩ T0, ?_⟩
 refine ⟨app_yes rfl (sp_move (.tmp 2) (iv m) rfl) ⟨I0, T0⟩ T0 T0, ?_⟩
 refine ⟨app_yes rfl (sp_indexSl (off := m * 1) (.tmp 12) (.tmp 13) rfl Tryd.underlying25 (by kernel_rfl) (by omega) (by omega) rfl) ⟨I0, I0, T0⟩ T0 T0, ?_⟩
 refine ⟨app_yes rfl (sp_loadEl1 (X := iv (Elm.cf m l)) (.tmp 14) rfl Tryd.underlying3 rfl ((map_at1 l.1 (by omega)).trans (congrArg (fun x => some (iv x)) (Elm.cf_at P.lm)))) ⟨I0, T0⟩ T0 T0, ?_⟩
 refine ⟨app_yes rfl (fB 0 (.tmp 4) rfl Tryd.underlying39 rfl 1 rfl) ⟨I0, T0⟩ T0 T0, ?_⟩
 refine ⟨app_yes rfl (lB (.box 39 (cRo u)) (intsA u.1) (.tmp 16) rfl Tryd.underlying25 rfl rfl) ⟨I0, T0⟩ ⟨rfl, T0⟩ T0, ?_⟩
 refine ⟨app_yes rfl (sp_move (.tmp 2) (iv m) rfl) ⟨I0, T0⟩ T0 T0, ?_⟩
 refine ⟨app_yes rfl (sp_indexSl (off := m * 1) (.tmp 17) (.tmp 18) rfl Tryd.underlying25 (by kernel_rfl) (by omega) (by omega) rfl) ⟨I0, I0, T0⟩ T0 T0, ?_⟩
 refine ⟨app_yes rfl (sp_loadEl1 (X := iv (Elm.cf m u)) (.tmp 19) rfl Tryd.underlying3 rfl ((map_at1 u.1 (by omega)).trans (congrArg (fun x => some (iv x)) (Elm.cf_at P.um)))) ⟨I0, T0⟩ T0 T0, ?_⟩
 refine ⟨app_yes rfl (sp_neg (c := -(Elm.cf m u)) rfl (w64 (by omega) (by omega) (by omega))) ⟨I0, T0⟩ T0 T0, ?_⟩
 refine ⟨app_yes rfl (sp_assign (.tmp 15) (iv (Elm.cf m l)) rfl) ⟨I0, T0⟩ T0 T0, ?_⟩
 refine ⟨app_yes rfl (sp_assign (.tmp 21) (iv (-(Elm.cf m u))) rfl) ⟨I0, T0⟩ T0 T0, ?_⟩
 show ETri J w0 _ _ _
 refine kW 47 [(1, .box 39 (cRo l)), (2, .box 39 (cRo u)), (3, .box 39 [.v (.slice none 0 0), iv 0])] [(3, .box 1 0), (4, .box 2 0), (6, .box 3 0), (7, iv 0), (8, iv (Elm.cf m l)), (9, iv (-(Elm.cf m u)))] ?_
 refine t_then ?_
 refine tri_seq ?_
 refine tri_region ?_
 refine oA (sp_move (.tmp 8) (iv (Elm.cf m l)) rfl) I0 ?_
 refine oA (sp_move (.tmp 9) (iv (-(Elm.cf m u))) rfl) I0 ?_
 refine oD (sp_call (c := .func 70) (xs := #[.tmp 22, .tmp 23]) [] (Elm.gcd_c P) rfl (by kernel_rfl) rfl (Xs := [iv (Elm.cf m l), iv (-(Elm.cf m u))]) rfl rfl rfl) I0 I0 I0 ?_
 refine oA (sp_assign (.tmp 24) (iv (Elm.gE m l u)) rfl) I0 ?_
 refine kN 47 [(1, .box 39 (cRo l)), (2, .box 39 (cRo u)), (3, .box 39 [.v (.slice none 0 0), iv 0])] [(3, .box 1 0), (4, .box 2 0), (6, .box 3 0), (7, iv 0), (8, iv (Elm.cf m l)), (9, iv (-(Elm.cf m u))), (10, iv (Elm.gE m l u))] ?_
 refine t_then ?_
 refine tri_seq ?_
 refine tri_seq ?_
 by_cases hs1 : 65536 < (Elm.kA m l u)
 refine tri_region ?_
 refine oA (sp_move (.tmp 8) (iv (Elm.cf m l)) rfl) I0 ?_
 refine oA (sp_move (.tmp 10) (iv (Elm.gE m l u)) rfl) I0 ?_
 refine oC (sp_quo (c := (Elm.kA m l u)) rfl (by omega) P.wa) I0 I0 ?_
 refine oC (sp_gtr rfl (dT hs1)) I0 I0 ?_
 refine oA (sp_move (.tmp 28) (bv true) rfl) I0 ?_
 refine t_skip rfl ?_
 refine t_skip rfl ?_
 refine t_skip rfl ?_
 refine t_skip rfl ?_
 refine oD (sp_pick (.tmp 29) (.const (.bool true)) (.tmp 33) true (bv true) (.v (.tuple #[])) rfl) I0 I0 I0 ?_
 refine kN 47 [(1, .box 39 (cRo l)), (2, .box 39 (cRo u)), (3, .box 39 [.v (.slice none 0 0), iv 0])] [(3, .box 1 0), (4, .box 2 0), (6, .box 3 0), (7, iv 0), (8, iv (Elm.cf m l)), (9, iv (-(Elm.cf m u))), (10, iv (Elm.gE m l u)), (34, bv true)] ?_
 refine t_then ?_
 refine t_condT rfl ?_
 refine tri_seq ?_
 refine tri_region ?_
 refine t_op rfl (sp_bld [] #[.slice none 0 0, .int .i64 0] rfl rfl (by kernel_rfl) rfl) T0 T0 T0 ?_
 refine t_op rfl (sp_storeBox (T0 := 39) (X := .agg [.v (.slice none 0 0), iv 0]) (cs := [.v (.slice none 0 0), iv 0]) (ds := [.v (.slice none 0 0), iv 0]) (z := 2) (.tmp 6) (.tmp 35) rfl (by kernel_rfl) (by kernel_rfl) (by kernel_rfl) (of_decide_eq_true (by kernel_rfl)) (by kernel_rfl)) ⟨I0, I0, T0⟩ ⟨rfl, T0⟩ rfl ?_
 refine oA (sp_assign (.const (.int .i64 4)) (iv 4) rfl) I0 ?_
 refine kN 47 [(1, .box 39 (cRo l)), (2, .box 39 (cRo u)), (3, .box 39 [.v (.slice none 0 0), iv 0])] [(3, .box 1 0), (4, .box 2 0), (6, .box 3 0), (7, iv 4), (8, iv (Elm.cf m l)), (9, iv (-(Elm.cf m u))), (10, iv (Elm.gE m l u))] ?_
 refine t_then ?_
 refine tri_ret ?_
 refine t_then_ret ?_
 refine tri_wk (wk_adoptB 3 0 4 true 3 1 rfl rfl rfl rfl) ?_
 refine tri_end2 Tryd.results43 (.cellS rfl rfl Tryd.underlying39 rfl (z := 2) (by kernel_rfl) rfl (by decide)) (.tmp rfl) ?_
 exact Elm.cn_err (.inl hs1)
 by_cases hs2 : 65536 < (Elm.kB m l u)
 refine tri_region ?_
 refine oA (sp_move (.tmp 8) (iv (Elm.cf m l)) rfl) I0 ?_
 refine oA (sp_move (.tmp 10) (iv (Elm.gE m l u)) rfl) I0 ?_
 refine oC (sp_quo (c := (Elm.kA m l u)) rfl (by omega) P.wa) I0 I0 ?_
 refine oC (sp_gtr rfl (dF hs1)) I0 I0 ?_
 refine oA (sp_move (.tmp 28) (bv false) rfl) I0 ?_
 refine gA (sp_move (.tmp 9) (iv (-(Elm.cf m u))) rfl) I0 ?_
 refine gA (sp_move (.tmp 10) (iv (Elm.gE m l u)) rfl) I0 ?_
 refine gC (sp_quo (c := (Elm.kB m l u)) rfl (by omega) P.wb) I0 I0 ?_
 refine gC (sp_gtr rfl (dT hs2)) I0 I0 ?_
 refine oD (sp_pick (.tmp 29) (.const (.bool true)) (.tmp 33) false (bv true) (bv true) rfl) I0 I0 I0 ?_
 refine kN 47 [(1, .box 39 (cRo l)), (2, .box 39 (cRo u)), (3, .box 39 [.v (.slice none 0 0), iv 0])] [(3, .box 1 0), (4, .box 2 0), (6, .box 3 0), (7, iv 0), (8, iv (Elm.cf m l)), (9, iv (-(Elm.cf m u))), (10, iv (Elm.gE m l u)), (34, bv true)] ?_
 refine t_then ?_
 refine t_condT rfl ?_
 refine tri_seq ?_
 refine tri_region ?_
 refine t_op rfl (sp_bld [] #[.slice none 0 0, .int .i64 0] rfl rfl (by kernel_rfl) rfl) T0 T0 T0 ?_
 refine t_op rfl (sp_storeBox (T0 := 39) (X := .agg [.v (.slice none 0 0), iv 0]) (cs := [.v (.slice none 0 0), iv 0]) (ds := [.v (.slice none 0 0), iv 0]) (z := 2) (.tmp 6) (.tmp 35) rfl (by kernel_rfl) (by kernel_rfl) (by kernel_rfl) (of_decide_eq_true (by kernel_rfl)) (by kernel_rfl)) ⟨I0, I0, T0⟩ ⟨rfl, T0⟩ rfl ?_
 refine oA (sp_assign (.const (.int .i64 4)) (iv 4) rfl) I0 ?_
 refine kN 47 [(1, .box 39 (cRo l)), (2, .box 39 (cRo u)), (3, .box 39 [.v (.slice none 0 0), iv 0])] [(3, .box 1 0), (4, .box 2 0), (6, .box 3 0), (7, iv 4), (8, iv (Elm.cf m l)), (9, iv (-(Elm.cf m u))), (10, iv (Elm.gE m l u))] ?_
 refine t_then ?_
 refine tri_ret ?_
 refine t_then_ret ?_
 refine tri_wk (wk_adoptB 3 0 4 true 3 1 rfl rfl rfl rfl) ?_
 refine tri_end2 Tryd.results43 (.cellS rfl rfl Tryd.underlying39 rfl (z := 2) (by kernel_rfl) rfl (by decide)) (.tmp rfl) ?_
 exact Elm.cn_err (.inr hs2)
 refine tri_region ?_
 refine oA (sp_move (.tmp 8) (iv (Elm.cf m l)) rfl) I0 ?_
 refine oA (sp_move (.tmp 10) (iv (Elm.gE m l u)) rfl) I0 ?_
 refine oC (sp_quo (c := (Elm.kA m l u)) rfl (by omega) P.wa) I0 I0 ?_
 refine oC (sp_gtr rfl (dF hs1)) I0 I0 ?_
 refine oA (sp_move (.tmp 28) (bv false) rfl) I0 ?_
 refine gA (sp_move (.tmp 9) (iv (-(Elm.cf m u))) rfl) I0 ?_
 refine gA (sp_move (.tmp 10) (iv (Elm.gE m l u)) rfl) I0 ?_
 refine gC (sp_quo (c := (Elm.kB m l u)) rfl (by omega) P.wb) I0 I0 ?_
 refine gC (sp_gtr rfl (dF hs2)) I0 I0 ?_
 refine oD (sp_pick (.tmp 29) (.const (.bool true)) (.tmp 33) false (bv true) (bv false) rfl) I0 I0 I0 ?_
 refine kN 47 [(1, .box 39 (cRo l)), (2, .box 39 (cRo u)), (3, .box 39 [.v (.slice none 0 0), iv 0])] [(3, .box 1 0), (4, .box 2 0), (6, .box 3 0), (7, iv 0), (8, iv (Elm.cf m l)), (9, iv (-(Elm.cf m u))), (10, iv (Elm.gE m l u)), (34, bv false)] ?_
 refine t_then ?_
 refine t_condF rfl ?_
 refine tri_skip ?_
 refine t_then ?_
 refine tri_seq ?_
 refine tri_draw [⟨[(.tmp 3, .box 1 0)], [(1, .box 39 (cRo l))], .agg (cRo l), .no⟩, ⟨[(.tmp 9, iv (-(Elm.cf m u)))], [], iv (-(Elm.cf m u)), .no⟩, ⟨[(.tmp 10, iv (Elm.gE m l u))], [], iv (Elm.gE m l u), .no⟩, ⟨[(.tmp 37, iv (-(Elm.cf m u))), (.tmp 38, iv (Elm.gE m l u))], [], iv (Elm.kB m l u), .no⟩, ⟨[(.tmp 4, .box 2 0)], [(2, .box 39 (cRo u))], .agg (cRo u), .no⟩, ⟨[(.tmp 8, iv (Elm.cf m l))], [], iv (Elm.cf m l), .no⟩, ⟨[(.tmp 10, iv (Elm.gE m l u))], [], iv (Elm.gE m l u), .no⟩, ⟨[(.tmp 41, iv (Elm.cf m l)), (.tmp 42, iv (Elm.gE m l u))], [], iv (Elm.kA m l u), .no⟩, ⟨[(.func 71, .v (.func (.func 71) #[] #[])), (.tmp 36, .agg (cRo l)), (.tmp 39, iv (Elm.kB m l u)), (.tmp 40, .agg (cRo u)), (.tmp 43, iv (Elm.kA m l u))], [], .tup [.fr (.agg (cRo (Elm.cnR m l u))), iv (Elm.cnE m l u)], .no⟩, ⟨[(.tmp 44, .tup [.fr (.agg (cRo (Elm.cnR m l u))), iv (Elm.cnE m l u)])], [], .fr (.agg (cRo (Elm.cnR m l u))), .no⟩, ⟨[(.tmp 44, .tup [.fr (.agg (cRo (Elm.cnR m l u))), iv (Elm.cnE m l u)])], [], iv (Elm.cnE m l u), .no⟩, ⟨[(.tmp 6, .box 3 0), (.tmp 45, .agg [.fr (intsA ((Elm.cnR m l u).1)), iv ((Elm.cnR m l u).2)])], [(3, .box 39 [.v (.slice none 0 0), iv 0])], .v undef, .st 3 (.box 39 [.fr (intsA ((Elm.cnR m l u).1)), iv ((Elm.cnR m l u).2)])⟩, ⟨[(.tmp 46, iv (Elm.cnE m l u))], [], iv (Elm.cnE m l u), .no⟩] (by kernel_rfl) (by kernel_rfl) ?_
 refine ⟨app_yes rfl (sp_loadBoxS (Y := .box 39 (cRo l)) (ds := cRo l) (z := 2) (.tmp 3) rfl Tryd.underlying39 rfl (by kernel_rfl) (by decide) (by kernel_rfl) (by kernel_rfl)) ⟨I0, T0⟩ ⟨rfl, T0⟩ T0, ?_⟩
 refine ⟨app_yes rfl (sp_move (.tmp 9) (iv (-(Elm.cf m u))) rfl) ⟨I0, T0⟩ T0 T0, ?_⟩
 refine ⟨app_yes rfl (sp_move (.tmp 10) (iv (Elm.gE m l u)) rfl) ⟨I0, T0⟩ T0 T0, ?_⟩
 refine ⟨app_yes rfl (sp_quo (c := (Elm.kB m l u)) rfl (by omega) P.wb) ⟨I0, I0, T0⟩ T0 T0, ?_⟩
 refine ⟨app_yes rfl (sp_loadBoxS (Y := .box 39 (cRo u)) (ds := cRo u) (z := 2) (.tmp 4) rfl Tryd.underlying39 rfl (by kernel_rfl) (by decide) (by kernel_rfl) (by kernel_rfl)) ⟨I0, T0⟩ ⟨rfl, T0⟩ T0, ?_⟩
 refine ⟨app_yes rfl (sp_move (.tmp 8) (iv (Elm.cf m l)) rfl) ⟨I0, T0⟩ T0 T0, ?_⟩
 refine ⟨app_yes rfl (sp_move (.tmp 10) (iv (Elm.gE m l u)) rfl) ⟨I0, T0⟩ T0 T0, ?_⟩
 refine ⟨app_yes rfl (sp_quo (c := (Elm.kA m l u)) rfl (by omega) P.wa) ⟨I0, I0, T0⟩ T0 T0, ?_⟩
 refine ⟨app_yes rfl (sp_call (c := .func 71) (xs := #[.tmp 36, .tmp 39, .tmp 40, .tmp 43]) [] (Elm.Combine_c P hs1 hs2) rfl (by kernel_rfl) rfl (Xs := [.agg (cRo l), iv (Elm.kB m l u), .agg (cRo u), iv (Elm.kA m l u)]) rfl rfl rfl) ⟨I0, I0, I0, I0, I0, T0⟩ T0 T0, ?_⟩
 refine ⟨app_yes rfl (sp_extract (X := .fr (.agg (cRo (Elm.cnR m l u)))) (.tmp 44) rfl rfl) ⟨I0, T0⟩ T0 T0, ?_⟩
 refine ⟨app_yes rfl (sp_extract (X := iv (Elm.cnE m l u)) (.tmp 44) rfl rfl) ⟨I0, T0⟩ T0 T0, ?_⟩
 refine ⟨app_yes rfl (sp_storeBox (T0 := 39) (X := .agg [.fr (intsA ((Elm.cnR m l u).1)), iv ((Elm.cnR m l u).2)]) (cs := [.v (.slice none 0 0), iv 0]) (ds := [.fr (intsA ((Elm.cnR m l u).1)), iv ((Elm.cnR m l u).2)]) (z := 2) (.tmp 6) (.tmp 45) rfl (by kernel_rfl) (by kernel_rfl) (by kernel_rfl) (of_decide_eq_true (by kernel_rfl)) (by kernel_rfl)) ⟨I0, .inr (.inr (.inl ⟨_, rfl, rfl⟩)), T0⟩ ⟨rfl, T0⟩ rfl, ?_⟩
 refine ⟨app_yes rfl (sp_assign (.tmp 46) (iv (Elm.cnE m l u)) rfl) ⟨I0, T0⟩ T0 T0, ?_⟩
 show ETri J w0 _ _ _
 refine kW 47 [(3, .box 39 [.fr (intsA ((Elm.cnR m l u).1)), iv ((Elm.cnR m l u).2)])] [(6, .box 3 0), (7, iv (Elm.cnE m l u))] ?_
 refine t_then ?_
 refine tri_ret ?_
 refine tri_end2 Tryd.results43 (.cellS rfl rfl Tryd.underlying39 rfl (z := 2) (by kernel_rfl) rfl (by decide)) (.tmp rfl) ?_
 exact rfl
end Go.Proofs.YtbbglendddepfaaDoor

namespace Go.Proofs.YtbbglendddepfaaDoor
open Go.RowKit Go.Deep
namespace Nk
variable {J : World → Prop}
theorem gcdL_dvd : ∀ (xs : List Int) (g : Nat), (gcdL xs g ∣ g) ∧ ∀ x ∈ xs, ((gcdL xs g : Nat) : Int) ∣ x
  | [], g => ⟨Nat.dvd_refl _, fun _ h => by cases h⟩
  | x :: xs, g => by
    obtain ⟨h1, h2⟩ := gcdL_dvd xs (Int.gcd g x)
    have hg : Int.gcd g x ∣ g := by have := Nat.gcd_dvd_left g x.natAbs; simpa [Int.gcd] using this
    have hx : ((Int.gcd g x : Nat) : Int) ∣ x := Int.gcd_dvd_right ..
    refine ⟨Nat.dvd_trans h1 hg, fun y hy => ?_⟩
    rcases List.mem_cons.1 hy with rfl | hy
    · exact Int.dvd_trans (Int.natCast_dvd_natCast.2 h1) hx
    · exact h2 y hy
theorem dot_div (g : Int) (hg : g ≠ 0) : ∀ (xs ys : List Int), (∀ x ∈ xs, g ∣ x) → dot xs ys = g * dot (xs.map fun x => x.tdiv g) ys
  | [], ys, _ => by simp [dot]
  | x :: xs, [], _ => by simp [dot]
  | x :: xs, y :: ys, h => by
    have ih := dot_div g hg xs ys fun z hz => h z (List.mem_cons_of_mem _ hz)
    obtain ⟨k, rfl⟩ := h x (List.mem_cons_self ..)
    simp only [List.map_cons, dot, Int.mul_tdiv_cancel_left _ hg]
    rw [Int.mul_add, ← ih, Int.mul_assoc]
theorem tight_value {xs ys : List Int} {c : Int} : 0 ≤ c + dot xs ys ↔ 0 ≤ tC xs c + dot (tX xs c) ys := by
  unfold tX tC
  split
  · rename_i hh
    have hg0 : ((gcdL xs 0 : Nat) : Int) ≠ 0 := by have := hh.2; omega
    have hg : (0 : Int) < gcdL xs 0 := by omega
    have hd := dot_div _ hg0 xs ys (gcdL_dvd xs 0).2
    rw [hd]
    generalize dot (xs.map fun x => x.tdiv ((gcdL xs 0 : Nat) : Int)) ys = d
    generalize ((gcdL xs 0 : Nat) : Int) = g at *
    have h1 := Int.le_ediv_iff_mul_le (a := -d) (b := c) hg
    have h2 : -d * g = -(g * d) := by rw [Int.neg_mul, Int.mul_comm]
    rw [h2] at h1
    omega
  · exact Iff.rfl
theorem nrm_tdy (rs : List Rw) : nrm rs = tdy (tgs rs) := (tdy_cmpt (tgs rs)).symm
theorem nrm_mem {rs : List Rw} (r : Rw) (h : r ∈ nrm rs) : ∃ x ∈ rs, r = tR x ∧ triB r.1 r.2 = false := by
  rw [nrm_tdy] at h
  have h1 := ((tdy_inv (tgs rs)).2 r).1 h |>.1
  unfold tgs at h1
  obtain ⟨h2, h3⟩ := List.mem_filter.1 h1
  obtain ⟨x, hx, rfl⟩ := List.mem_map.1 h2
  exact ⟨x, hx, rfl, by simpa using h3⟩
theorem nrm_val {n : Int} {rs : List Rw} (h : valS n rs = 0) : valS n (nrm rs) = 0 := by
  obtain ⟨h0, h1, h2, h3⟩ := valS_zero.1 h
  refine valS_zero.2 ⟨h0, ?_, ?_, Nat.le_trans nrm_len h3⟩
  · refine List.all_eq_true.2 fun r hr => ?_
    obtain ⟨x, hx, rfl, _⟩ := nrm_mem r hr
    have := List.all_eq_true.1 h1 x hx
    unfold lenB at this ⊢
    rw [tR_len]
    exact this
  · refine List.all_eq_true.2 fun r hr => ?_
    obtain ⟨x, hx, rfl, _⟩ := nrm_mem r hr
    exact tR_small (List.all_eq_true.1 h2 x hx)
theorem dot_nonneg : ∀ (xs ys : List Int), (∀ x ∈ xs, 0 ≤ x) → (∀ y ∈ ys, 0 ≤ y) → 0 ≤ dot xs ys
  | [], _, _, _ => by simp [dot]
  | _ :: _, [], _, _ => by simp [dot]
  | x :: xs, y :: ys, h, h' => by
    have ih := dot_nonneg xs ys (fun z hz => h z (List.mem_cons_of_mem _ hz)) fun z hz => h' z (List.mem_cons_of_mem _ hz)
    have := Int.mul_nonneg (h x (List.mem_cons_self ..)) (h' y (List.mem_cons_self ..))
    simp only [dot]
    omega
theorem tri_holds {t : Rw} {ys : List Int} (h : triB t.1 t.2 = true) (hy : ys.all coB = true) : holdB ys t = true := by
  unfold triB at h
  simp only [Bool.and_eq_true, decide_eq_true_eq, Bool.not_eq_true'] at h
  obtain ⟨h1, h2⟩ := h
  have := dot_nonneg t.1 ys (fun x hx => by
    rcases Int.lt_or_le x 0 with hlt | hge
    · have : t.1.any negB = true := List.any_eq_true.2 ⟨x, hx, by unfold negB; exact decide_eq_true hlt⟩
      rw [this] at h2; cases h2
    · exact hge) (fun y hy' => (coB_true.1 (List.all_eq_true.1 hy y hy')).1)
  unfold holdB
  exact decide_eq_true (by omega)
theorem hold_tR {r : Rw} {ys : List Int} : holdB ys (tR r) = holdB ys r := by
  unfold holdB tR
  exact decide_eq_decide.2 tight_value.symm
theorem nrm_hold {rs : List Rw} {ys : List Int} (hy : ys.all coB = true) : rs.all (holdB ys) = (nrm rs).all (holdB ys) := by
  rw [Bool.eq_iff_iff, List.all_eq_true, List.all_eq_true]
  constructor
  · intro h r hr
    obtain ⟨x, hx, rfl, _⟩ := nrm_mem r hr
    rw [hold_tR]
    exact h x hx
  · intro h r hr
    rw [← hold_tR]
    cases ht : triB (tR r).1 (tR r).2 with
    | true => exact tri_holds ht hy
    | false =>
      have h1 : tR r ∈ tgs rs := by
        unfold tgs
        exact List.mem_filter.2 ⟨List.mem_map.2 ⟨r, hr, rfl⟩, by rw [ht]; rfl⟩
      obtain ⟨x, hx, e1, e2⟩ := has_least (tgs rs) (tR r) h1
      have h2 := h x (by rw [nrm_tdy]; exact ((tdy_inv _).2 x).2 hx)
      unfold holdB at h2 ⊢
      rw [e1] at h2
      have := of_decide_eq_true h2
      exact decide_eq_true (by omega)
theorem nrm_sat {n : Int} {rs : List Rw} {ys : List Int} (h : valS n rs = 0) : satS n (nrm rs) ys = satS n rs ys := by
  unfold satS
  rw [h, nrm_val h]
  cases hy : ys.all coB with
  | false => simp
  | true => rw [nrm_hold (rs := rs) hy]
theorem Satisfies_c {n : Int} {rs : List Rw} {ys : List Int} (H : SyOk rs) (Hy : InOk ys) : Ctr Tryd.prog J 15 [.agg (cSy n rs), intsA ys] (bv (satS n rs ys)) := ctr2 fun w v v' _ h h' => by
  obtain ⟨u, rfl, hu⟩ := sy_args h
  exact (Satisfies_any n (pu_rows H.rows lo00 hu) (pu_ints Hy lo00 h')).mono fun _ _ => ret_sc
theorem none_left {n : Int} {rs : List Rw} (e : ¬ nmE n rs = 0) : (((nmR n rs).length : Nat) : Int) = 0 := by
  have : nmR n rs = [] := by unfold nmR; rw [if_neg (show ¬ valS n rs = 0 from e)]
  rw [this]; rfl
end Nk
end Go.Proofs.YtbbglendddepfaaDoor

namespace Go.Proofs.YtbbglendddepfaaDoor
open Go.RowKit Go.Deep
namespace Elm
variable {J : World → Prop}
def pairs (m : Nat) (Lw Up : List Rw) : List Rw := Lw.flatMap fun l => Up.map (mixR m l)
def elOk (p m : Nat) (rs : List Rw) : Bool := (low p m rs).all fun l => (upp m rs).all fun u => okE m l u
def elL (p m : Nat) (rs : List Rw) : List Rw := oth m rs ++ pairs m (low p m rs) (upp m rs)
def elE (p m : Nat) (rs : List Rw) : Int := if 192 < szE p m rs then 4 else if elOk p m rs = true then 0 else 4
def EE (n v : Int) (rs : List Rw) : Int := if valS n rs = 0 then (if v < 0 ∨ n ≤ v then 1 else elE n.toNat v.toNat rs) else valS n rs
def ER (n v : Int) (rs : List Rw) : List Rw := if EE n v rs = 0 then nrm (elL n.toNat v.toNat rs) else []
def EN (n v : Int) (rs : List Rw) : Int := if EE n v rs = 0 then n else 0
section
variable {m i j : Nat} {L L2 Lw Up Ot : List Rw} {l : Rw}
theorem cnE_ok {u : Rw} (h : cnE m l u = 0) : okE m l u = true ∧ cnR m l u = mixR m l u := by
  unfold cnE at h
  unfold cnR
  by_cases e : okE m l u = true
  · rw [if_pos e]; exact ⟨e, rfl⟩
  · rw [if_neg e] at h; cases h
theorem cnE_no {u : Rw} (h : ¬ cnE m l u = 0) : okE m l u = false ∧ cnE m l u = 4 := by
  unfold cnE at h ⊢
  by_cases e : okE m l u = true
  · rw [if_pos e] at h; exact absurd rfl h
  · rw [if_neg e]; exact ⟨by simpa using e, rfl⟩
theorem in_next (hj : j < Up.length) (h1 : L2 = L ++ (Up.take j).map (mixR m l)) (h2 : ∀ u ∈ Up.take j, okE m l u = true) (h3 : okE m l Up[j] = true) :
    L2 ++ [mixR m l Up[j]] = L ++ (Up.take (j + 1)).map (mixR m l) ∧ ∀ u ∈ Up.take (j + 1), okE m l u = true := by
  rw [List.take_succ_eq_append_getElem hj, List.map_append, h1]
  refine ⟨by simp, fun u hu => ?_⟩
  rcases List.mem_append.1 hu with hu | hu
  · exact h2 u hu
  · rw [List.mem_singleton] at hu; rw [hu]; exact h3
theorem out_next (hi : i < Lw.length) (hj : j = Up.length) (h1 : L = Ot ++ pairs m (Lw.take i) Up) (h2 : ∀ l ∈ Lw.take i, ∀ u ∈ Up, okE m l u = true) (h3 : L2 = L ++ (Up.take j).map (mixR m Lw[i])) (h4 : ∀ u ∈ Up.take j, okE m Lw[i] u = true) :
    L2 = Ot ++ pairs m (Lw.take (i + 1)) Up ∧ ∀ l ∈ Lw.take (i + 1), ∀ u ∈ Up, okE m l u = true := by
  subst hj
  rw [List.take_length] at h3 h4
  rw [List.take_succ_eq_append_getElem hi]
  refine ⟨by rw [h3, h1, pairs, pairs, List.flatMap_append, List.append_assoc]; simp only [List.flatMap_cons, List.flatMap_nil, List.append_nil], fun l hl => ?_⟩
  rcases List.mem_append.1 hl with hl | hl
  · exact h2 l hl
  · rw [List.mem_singleton] at hl; rw [hl]; exact h4
end
section
variable {p m i j : Nat} {rs L : List Rw}
theorem elOk_yes (h : ∀ l ∈ low p m rs, ∀ u ∈ upp m rs, okE m l u = true) : elOk p m rs = true := List.all_eq_true.2 fun l hl => List.all_eq_true.2 (h l hl)
theorem elOk_no {l u : Rw} (hl : l ∈ low p m rs) (hu : u ∈ upp m rs) (h : okE m l u = false) : elOk p m rs = false := by
  cases e : elOk p m rs with
  | false => rfl
  | true => rw [List.all_eq_true.1 (List.all_eq_true.1 e l hl) u hu] at h; cases h
theorem EE_in (hv : valS ((p : Nat) : Int) rs = 0) (hm : m < p) : EE ((p : Nat) : Int) ((m : Nat) : Int) rs = elE p m rs := by
  unfold EE
  rw [if_pos hv, if_neg (by omega), Int.toNat_natCast, Int.toNat_natCast]
theorem el_big (hv : valS ((p : Nat) : Int) rs = 0) (hm : m < p) (h : 192 < szE p m rs) :
    AV.tup [.agg [iv 0, .sl 2 0 []], iv 4] = .tup [.agg (cSy (EN ((p : Nat) : Int) ((m : Nat) : Int) rs) (ER ((p : Nat) : Int) ((m : Nat) : Int) rs)), iv (EE ((p : Nat) : Int) ((m : Nat) : Int) rs)] := by
  have e : EE ((p : Nat) : Int) ((m : Nat) : Int) rs = 4 := by rw [EE_in hv hm]; unfold elE; rw [if_pos h]
  unfold ER EN; rw [e]; rfl
theorem el_no {x : Int} (hv : valS ((p : Nat) : Int) rs = 0) (hm : m < p) (h : ¬ 192 < szE p m rs) (h2 : elOk p m rs = false) (hx : x = 4) :
    AV.tup [.agg [iv 0, .sl 2 0 []], iv x] = .tup [.agg (cSy (EN ((p : Nat) : Int) ((m : Nat) : Int) rs) (ER ((p : Nat) : Int) ((m : Nat) : Int) rs)), iv (EE ((p : Nat) : Int) ((m : Nat) : Int) rs)] := by
  have e : EE ((p : Nat) : Int) ((m : Nat) : Int) rs = 4 := by rw [EE_in hv hm]; unfold elE; rw [if_neg h, if_neg (by rw [h2]; simp)]
  unfold ER EN; rw [e, hx]; rfl
theorem el_ok (hv : valS ((p : Nat) : Int) rs = 0) (hm : m < p) (h : ¬ 192 < szE p m rs) (h2 : elOk p m rs = true) :
    AV.tup [.agg [iv ((p : Nat) : Int), .sl 2 (nrm (elL p m rs)).length ((nrm (elL p m rs)).flatMap cRo)], iv 0] = .tup [.agg (cSy (EN ((p : Nat) : Int) ((m : Nat) : Int) rs) (ER ((p : Nat) : Int) ((m : Nat) : Int) rs)), iv (EE ((p : Nat) : Int) ((m : Nat) : Int) rs)] := by
  have e : EE ((p : Nat) : Int) ((m : Nat) : Int) rs = 0 := by rw [EE_in hv hm]; unfold elE; rw [if_neg h, if_pos h2]
  unfold ER EN; rw [e, if_pos rfl, if_pos rfl, Int.toNat_natCast, Int.toNat_natCast]; rfl
theorem el_inv {n v : Int} (h : ¬ valS n rs = 0) : AV.tup [.agg [iv 0, .sl 2 0 []], iv (valS n rs)] = .tup [.agg (cSy (EN n v rs) (ER n v rs)), iv (EE n v rs)] := by
  have e : EE n v rs = valS n rs := by unfold EE; rw [if_neg h]
  unfold ER EN; rw [e, if_neg h, if_neg h]; rfl
theorem el_arg {n v : Int} (h : valS n rs = 0) (h2 : v < 0 ∨ n ≤ v) : AV.tup [.agg [iv 0, .sl 2 0 []], iv 1] = .tup [.agg (cSy (EN n v rs) (ER n v rs)), iv (EE n v rs)] := by
  have e : EE n v rs = 1 := by unfold EE; rw [if_pos h, if_pos h2]
  unfold ER EN; rw [e]; rfl
/-- The rows of a valid system. -/
structure Fit (p m : Nat) (rs : List Rw) : Prop where
  p96 : p ≤ 96
  mp : m < p
  len : ∀ r ∈ rs, r.1.length = p
  sm : ∀ r ∈ rs, smR r = true
  n : rs.length ≤ 192
theorem fit_of (hv : valS ((p : Nat) : Int) rs = 0) (hm : m < p) : Fit p m rs := by
  obtain ⟨h0, h1, h2, h3⟩ := valS_zero.1 hv
  refine ⟨by omega, hm, fun r hr => ?_, fun r hr => List.all_eq_true.1 h2 r hr, h3⟩
  have := List.all_eq_true.1 h1 r hr
  unfold lenB at this
  have := of_decide_eq_true this
  omega
theorem axR_small (p m : Nat) : smR (axR p m 1, 0) = true := by
  refine smR_true.2 ⟨List.all_eq_true.2 fun x hx => ?_, by decide⟩
  unfold axR at hx
  rcases List.mem_or_eq_of_mem_set hx with h | h
  · rw [(List.mem_replicate.1 h).2]; decide
  · rw [h]; decide
theorem Fit.low_mem (F : Fit p m rs) {l : Rw} (h : l ∈ low p m rs) : l.1.length = p ∧ smR l = true ∧ 0 < cf m l := by
  rcases List.mem_cons.1 h with rfl | h
  · refine ⟨axR_len _ _ _, axR_small _ _, ?_⟩
    have : m < (axR p m 1).length := by rw [axR_len]; exact F.mp
    rw [← cf_at (r := (axR p m 1, 0)) this]
    simp [axR]
  · obtain ⟨h1, h2⟩ := List.mem_filter.1 h
    exact ⟨F.len _ h1, F.sm _ h1, of_decide_eq_true h2⟩
theorem Fit.upp_mem (F : Fit p m rs) {u : Rw} (h : u ∈ upp m rs) : u.1.length = p ∧ smR u = true ∧ cf m u < 0 := by
  obtain ⟨h1, h2⟩ := List.mem_filter.1 h
  exact ⟨F.len _ h1, F.sm _ h1, of_decide_eq_true h2⟩
theorem Fit.pair (F : Fit p m rs) {l u : Rw} (hl : l ∈ low p m rs) (hu : u ∈ upp m rs) : Pair m l u := by
  obtain ⟨a1, a2, a3⟩ := F.low_mem hl
  obtain ⟨b1, b2, b3⟩ := F.upp_mem hu
  exact ⟨by rw [a1]; exact F.mp, by rw [b1]; exact F.mp, by rw [a1, b1], by rw [a1]; exact F.p96, a2, b2, a3, b3⟩
theorem elL_len : (((elL p m rs).length : Nat) : Int) = szE p m rs := by
  have : (pairs m (low p m rs) (upp m rs)).length = (low p m rs).length * (upp m rs).length := by
    unfold pairs
    generalize low p m rs = Lw
    induction Lw with
    | nil => simp
    | cons l Lw ih => rw [List.flatMap_cons, List.length_append, ih, List.length_map, List.length_cons, Nat.succ_mul, Nat.add_comm]
  unfold elL szE mulE
  rw [List.length_append, this, Int.natCast_add, Int.natCast_mul]
theorem Fit.el_mem (F : Fit p m rs) (h : elOk p m rs = true) : ∀ r ∈ elL p m rs, r.1.length = p ∧ smR r = true := fun r hr => by
  rcases List.mem_append.1 hr with hr | hr
  · have := (List.mem_filter.1 hr).1
    exact ⟨F.len _ this, F.sm _ this⟩
  · obtain ⟨l, hl, hr⟩ := List.mem_flatMap.1 hr
    obtain ⟨u, hu, rfl⟩ := List.mem_map.1 hr
    have P := F.pair hl hu
    have hok := List.all_eq_true.1 (List.all_eq_true.1 h l hl) u hu
    unfold okE at hok
    simp only [Bool.and_eq_true] at hok
    exact ⟨by rw [mix_len P]; exact (F.low_mem hl).1, hok.2⟩
theorem Fit.sy (F : Fit p m rs) (h : elOk p m rs = true) (h2 : ¬ 192 < szE p m rs) : SyOk (elL p m rs) ∧ (elL p m rs).length ≤ 250 ∧ ∀ r ∈ elL p m rs, r.1.length ≤ 1000 := by
  have h3 := elL_len (p := p) (m := m) (rs := rs)
  refine ⟨⟨fun r hr => sm_ok (F.el_mem h r hr).2, by omega⟩, by omega, fun r hr => ?_⟩
  rw [(F.el_mem h r hr).1]
  have := F.p96
  omega
theorem norm_L {L : List Rw} (F : Fit p m rs) (h : elOk p m rs = true) (h2 : ¬ 192 < szE p m rs) (e : L = elL p m rs) (k : Nat) :
    CtrO Tryd.prog J 33 [.sl 2 L.length (L.flatMap cRo)] k (.row true 39 2 ((nrm (elL p m rs)).length) ((nrm (elL p m rs)).flatMap cRo)) (.own k) := by
  subst e
  have S := F.sy h h2
  exact normalRows_o S.1 S.2.1 S.2.2 k
end
end Elm
end Go.Proofs.YtbbglendddepfaaDoor

namespace Go.Proofs.YtbbglendddepfaaDoor
open Go.RowKit Go.Deep
variable {J : World → Prop}
set_option linter.unusedSimpArgs false in
set_option linter.unusedVariables false in
set_option maxRecDepth 100000 in
set_option maxHeartbeats 6400000 in
theorem lEliminate_in {p m : Nat} {rs : List Rw} (H : SyOk rs) (hv : valS ((p : Nat) : Int) rs = 0) (hm : m < p) : Ctr Tryd.prog J 21 [.agg (cSy ((p : Nat) : Int) rs), iv m] (.tup [.agg (cSy (Elm.EN ((p : Nat) : Int) ((m : Nat) : Int) rs) (Elm.ER ((p : Nat) : Int) ((m : Nat) : Int) rs)), iv (Elm.EE ((p : Nat) : Int) ((m : Nat) : Int) rs)]) := by
 have F := Elm.fit_of hv hm
 have hl : rs.length ≤ 250 := Nat.le_trans F.n (by decide)
 have ol := Elm.oth_len (m := m) (rs := rs)
 have ll := Elm.low_len (p := p) (m := m) (rs := rs)
 have ul := Elm.upp_len (m := m) (rs := rs)
 have hp96 := F.p96
 refine ctrB_of_tri Tryd.func21 rfl (by intro X hX; simp only [List.mem_cons, List.not_mem_nil, or_false] at hX; rcases hX with rfl | rfl; exact plain_agg (plain_sy _ rs); exact .v _) (n := 82) rfl (by simp) (fun w0 hb0 => ?_)
 refine kW 82 [] [(0, .agg (cSy ((p : Nat) : Int) rs)), (1, iv m)] ?_
 refine tri_seq ?_
 refine tri_region ?_
 refine oA (sp_boxR (X := .agg (cSy ((p : Nat) : Int) rs)) (.tmp 0) rfl rfl rfl) I0 ?_
 refine t_op rfl (sp_alloc (z := .agg #[.int .i64 0, .slice none 0 0]) (k := 1) rfl (by kernel_rfl)) T0 T0 rfl ?_
 refine oA (sp_assign (.const (.int .i64 0)) (iv 0) rfl) I0 ?_
 refine kN 82 [(1, .box 24 [iv 0, .v (.slice none 0 0)])] [(1, iv m), (2, .el (cSy ((p : Nat) : Int) rs) 0), (4, .box 1 0), (5, iv 0)] ?_
 refine t_then ?_
 refine tri_seq ?_
 refine tri_seq ?_
 refine tri_region ?_
 refine oA (sp_loadElS (z := 2) (.tmp 2) rfl Tryd.underlying24 rfl (by kernel_rfl) rfl rfl) I0 ?_
 refine oC (sp_call (c := .func 32) (xs := #[.tmp 16]) [] (lValidate_c H) rfl (by kernel_rfl) rfl (Xs := [.agg (cSy ((p : Nat) : Int) rs)]) rfl rfl rfl) I0 I0 ?_
 refine oA (sp_assign (.tmp 17) (iv (valS ((p : Nat) : Int) rs)) rfl) I0 ?_
 refine kN 82 [(1, .box 24 [iv 0, .v (.slice none 0 0)])] [(1, iv m), (2, .el (cSy ((p : Nat) : Int) rs) 0), (4, .box 1 0), (5, iv 0), (6, iv (valS ((p : Nat) : Int) rs))] ?_
 refine t_then ?_
 refine tri_seq ?_
 refine tri_region ?_
 refine oA (sp_move (.tmp 6) (iv (valS ((p : Nat) : Int) rs)) rfl) I0 ?_
 refine oC (sp_neq rfl (dT' hv)) I0 I0 ?_
 refine kN 82 [(1, .box 24 [iv 0, .v (.slice none 0 0)])] [(1, iv m), (2, .el (cSy ((p : Nat) : Int) rs) 0), (4, .box 1 0), (5, iv 0), (6, iv (valS ((p : Nat) : Int) rs)), (19, bv false)] ?_
 refine t_then ?_
 refine t_condF rfl ?_
 refine tri_skip ?_
 refine t_then ?_
 refine tri_seq ?_
 refine tri_seq ?_
 refine tri_region ?_
 refine oA (sp_move (.tmp 1) (iv m) rfl) I0 ?_
 refine oC (sp_lss rfl (dF (by omega))) I0 I0 ?_
 refine oA (sp_move (.tmp 23) (bv false) rfl) I0 ?_
 refine gA (sp_move (.tmp 1) (iv m) rfl) I0 ?_
 refine gA (sp_fieldEl (off' := 0) (.tmp 2) rfl Tryd.underlying24 rfl (z := 1) (by kernel_rfl) (by decide) rfl) I0 ?_
 refine gA (sp_loadEl1 (X := iv p) (.tmp 26) rfl Tryd.underlying3 rfl rfl) I0 ?_
 refine gC (sp_geq rfl (dF (by omega))) I0 I0 ?_
 refine oD (sp_pick (.tmp 24) (.const (.bool true)) (.tmp 28) false (bv true) (bv false) rfl) I0 I0 I0 ?_
 refine kN 82 [(1, .box 24 [iv 0, .v (.slice none 0 0)])] [(1, iv m), (2, .el (cSy ((p : Nat) : Int) rs) 0), (4, .box 1 0), (5, iv 0), (29, bv false)] ?_
 refine t_then ?_
 refine t_condF rfl ?_
 refine tri_skip ?_
 refine t_then ?_
 refine tri_seq ?_
 refine tri_region ?_
 refine oA (sp_loadElS (z := 2) (.tmp 2) rfl Tryd.underlying24 rfl (by kernel_rfl) rfl rfl) I0 ?_
 refine oA (sp_move (.tmp 1) (iv m) rfl) I0 ?_
 refine kW 82 [(1, .box 24 [iv 0, .v (.slice none 0 0)])] [(1, iv m), (2, .el (cSy ((p : Nat) : Int) rs) 0), (4, .box 1 0), (5, iv 0), (29, bv false), (32, .agg (cSy ((p : Nat) : Int) rs)), (33, iv m)] ?_
 refine tri_callL (c := .func 42) (xs := #[.tmp 32, .tmp 33]) (k := 2) [.int .i64 0, .slice none 0 0] [.agg (cSy ((p : Nat) : Int) rs), iv m] hb0 (bounds_L hp96 hm (fun r hr => by rw [F.len r hr]; exact hm) hl 2) rfl rfl rfl (by kernel_rfl) rfl rfl rfl rfl rfl rfl ?_
 refine oA (sp_move (.tmp 34) (.tup [.own 2, slA 2 cRo (Elm.low p m rs), slA 2 cRo (Elm.upp m rs)]) rfl) I0 ?_
 refine oA (sp_extract (X := .own 2) (.tmp 31) rfl rfl) I0 ?_
 refine oA (sp_extract (X := slA 2 cRo (Elm.low p m rs)) (.tmp 31) rfl rfl) I0 ?_
 refine oA (sp_extract (X := slA 2 cRo (Elm.upp m rs)) (.tmp 31) rfl rfl) I0 ?_
 refine oA (sp_assign (.tmp 35) (.own 2) rfl) I0 ?_
 refine oA (sp_assign (.tmp 36) (slA 2 cRo (Elm.low p m rs)) rfl) I0 ?_
 refine oA (sp_assign (.tmp 37) (slA 2 cRo (Elm.upp m rs)) rfl) I0 ?_
 refine kN 82 [(1, .box 24 [iv 0, .v (.slice none 0 0)]), (2, .row false 39 2 ((Elm.oth m rs).length) ((Elm.oth m rs).flatMap cRo))] [(1, iv m), (2, .el (cSy ((p : Nat) : Int) rs) 0), (4, .box 1 0), (5, iv 0), (7, .own 2), (8, slA 2 cRo (Elm.low p m rs)), (9, slA 2 cRo (Elm.upp m rs))] ?_
 refine t_then ?_
 refine tri_seq ?_
 refine tri_seq ?_
 by_cases hs1 : 192 < (Elm.szE p m rs)
 refine tri_region ?_
 refine oA (sp_move (.tmp 7) (.own 2) rfl) I0 ?_
 refine oB (sp_lenOwn (.tmp 38) rfl Tryd.underlying22) I0 rfl ?_
 refine oA (sp_move (.tmp 8) (slA 2 cRo (Elm.low p m rs)) rfl) I0 ?_
 refine oA (sp_lenSl (.tmp 40) rfl Tryd.underlying22) I0 ?_
 refine oA (sp_move (.tmp 9) (slA 2 cRo (Elm.upp m rs)) rfl) I0 ?_
 refine oA (sp_lenSl (.tmp 42) rfl Tryd.underlying22) I0 ?_
 refine oC (sp_mul (c := (Elm.mulE p m rs)) rfl (Elm.wrap_mul hl)) I0 I0 ?_
 refine oC (sp_add (c := (Elm.szE p m rs)) rfl (Elm.wrap_sz hl)) I0 I0 ?_
 refine oC (sp_gtr rfl (dT hs1)) I0 I0 ?_
 refine kN 82 [(1, .box 24 [iv 0, .v (.slice none 0 0)]), (2, .row false 39 2 ((Elm.oth m rs).length) ((Elm.oth m rs).flatMap cRo))] [(1, iv m), (2, .el (cSy ((p : Nat) : Int) rs) 0), (4, .box 1 0), (5, iv 0), (7, .own 2), (8, slA 2 cRo (Elm.low p m rs)), (9, slA 2 cRo (Elm.upp m rs)), (46, bv true)] ?_
 refine t_then ?_
 refine t_condT rfl ?_
 refine tri_seq ?_
 refine tri_region ?_
 refine t_op rfl (sp_bld [] #[.int .i64 0, .slice none 0 0] rfl rfl (by kernel_rfl) rfl) T0 T0 T0 ?_
 refine t_op rfl (sp_storeBox (T0 := 24) (X := .agg [iv 0, .v (.slice none 0 0)]) (cs := [iv 0, .v (.slice none 0 0)]) (ds := [iv 0, .v (.slice none 0 0)]) (z := 2) (.tmp 4) (.tmp 47) rfl (by kernel_rfl) (by kernel_rfl) (by kernel_rfl) (of_decide_eq_true (by kernel_rfl)) (by kernel_rfl)) ⟨I0, I0, T0⟩ ⟨rfl, T0⟩ rfl ?_
 refine oA (sp_assign (.const (.int .i64 4)) (iv 4) rfl) I0 ?_
 refine kN 82 [(1, .box 24 [iv 0, .v (.slice none 0 0)]), (2, .row false 39 2 ((Elm.oth m rs).length) ((Elm.oth m rs).flatMap cRo))] [(1, iv m), (2, .el (cSy ((p : Nat) : Int) rs) 0), (4, .box 1 0), (5, iv 4), (7, .own 2), (8, slA 2 cRo (Elm.low p m rs)), (9, slA 2 cRo (Elm.upp m rs))] ?_
 refine t_then ?_
 refine tri_ret ?_
 refine t_then_ret ?_
 refine tri_wk (wk_adoptB 1 1 3 true 39 2 rfl rfl rfl rfl) ?_
 refine tri_end2 Tryd.results21 (.cellS rfl rfl Tryd.underlying24 rfl (z := 2) (by kernel_rfl) rfl (by decide)) (.tmp rfl) ?_
 exact Elm.el_big hv hm hs1
 refine tri_region ?_
 refine oA (sp_move (.tmp 7) (.own 2) rfl) I0 ?_
 refine oB (sp_lenOwn (.tmp 38) rfl Tryd.underlying22) I0 rfl ?_
 refine oA (sp_move (.tmp 8) (slA 2 cRo (Elm.low p m rs)) rfl) I0 ?_
 refine oA (sp_lenSl (.tmp 40) rfl Tryd.underlying22) I0 ?_
 refine oA (sp_move (.tmp 9) (slA 2 cRo (Elm.upp m rs)) rfl) I0 ?_
 refine oA (sp_lenSl (.tmp 42) rfl Tryd.underlying22) I0 ?_
 refine oC (sp_mul (c := (Elm.mulE p m rs)) rfl (Elm.wrap_mul hl)) I0 I0 ?_
 refine oC (sp_add (c := (Elm.szE p m rs)) rfl (Elm.wrap_sz hl)) I0 I0 ?_
 refine oC (sp_gtr rfl (dF hs1)) I0 I0 ?_
 refine kN 82 [(1, .box 24 [iv 0, .v (.slice none 0 0)]), (2, .row false 39 2 ((Elm.oth m rs).length) ((Elm.oth m rs).flatMap cRo))] [(1, iv m), (2, .el (cSy ((p : Nat) : Int) rs) 0), (4, .box 1 0), (5, iv 0), (7, .own 2), (8, slA 2 cRo (Elm.low p m rs)), (9, slA 2 cRo (Elm.upp m rs)), (46, bv false)] ?_
 refine t_then ?_
 refine t_condF rfl ?_
 refine tri_skip ?_
 refine t_then ?_
 refine tri_seq ?_
 refine tri_seq ?_
 refine tri_region ?_
 refine oA (sp_move (.tmp 8) (slA 2 cRo (Elm.low p m rs)) rfl) I0 ?_
 refine oA (sp_lenSl (.tmp 48) rfl Tryd.underlying22) I0 ?_
 refine oA (sp_move (.const (.int .i64 0)) (iv 0) rfl) I0 ?_
 refine kN 82 [(1, .box 24 [iv 0, .v (.slice none 0 0)]), (2, .row false 39 2 ((Elm.oth m rs).length) ((Elm.oth m rs).flatMap cRo))] [(1, iv m), (2, .el (cSy ((p : Nat) : Int) rs) 0), (4, .box 1 0), (5, iv 0), (7, .own 2), (9, slA 2 cRo (Elm.upp m rs)), (48, slA 2 cRo (Elm.low p m rs)), (49, iv ((Elm.low p m rs).length : Nat)), (50, iv 0)] ?_
 refine t_then ?_
 refine tri_block ?_
 refine tri_loop (σ := {q : Nat × List Rw // q.1 ≤ (Elm.low p m rs).length ∧ q.2 = Elm.oth m rs ++ Elm.pairs m ((Elm.low p m rs).take q.1) (Elm.upp m rs) ∧ (∀ l ∈ (Elm.low p m rs).take q.1, ∀ u ∈ (Elm.upp m rs), Elm.okE m l u = true) ∧ q.2.length ≤ 250 + 250 * q.1}) (fun s => (ofL [(1, .box 24 [iv 0, .v (.slice none 0 0)]), (2, .row false 39 2 s.1.2.length (s.1.2.flatMap cRo))], ofT 82 [(1, iv m), (2, .el (cSy ((p : Nat) : Int) rs) 0), (4, .box 1 0), (7, .own 2), (9, slA 2 cRo (Elm.upp m rs)), (48, slA 2 cRo (Elm.low p m rs)), (49, iv ((Elm.low p m rs).length : Nat)), (50, iv s.1.1)])) (fun s => (Elm.low p m rs).length - s.1.1) ⟨(0, Elm.oth m rs), Nat.zero_le _, by simp [Elm.pairs], by simp, by dsimp only; omega⟩ (wk_keep _ _ rfl (by kernel_rfl) (by kernel_rfl)) (fun s => ?_)
 obtain ⟨⟨i, L⟩, hi0, hL, hLo, hLb⟩ := s
 show ETri J w0 (ofL [(1, .box 24 [iv 0, .v (.slice none 0 0)]), (2, .row false 39 2 L.length (L.flatMap cRo))]) (ofT 82 [(1, iv m), (2, .el (cSy ((p : Nat) : Int) rs) 0), (4, .box 1 0), (7, .own 2), (9, slA 2 cRo (Elm.upp m rs)), (48, slA 2 cRo (Elm.low p m rs)), (49, iv ((Elm.low p m rs).length : Nat)), (50, iv i)]) _
 dsimp only at hi0 hL hLo hLb
 refine tri_seq ?_
 by_cases hs2 : ((i : Nat) : Int) < (((Elm.low p m rs).length : Nat) : Int)
 have hi1 : i < (Elm.low p m rs).length := by omega
 refine tri_region ?_
 refine oC (sp_lss rfl (dT hs2)) I0 I0 ?_
 refine kN 82 [(1, .box 24 [iv 0, .v (.slice none 0 0)]), (2, .row false 39 2 L.length (L.flatMap cRo))] [(1, iv m), (2, .el (cSy ((p : Nat) : Int) rs) 0), (4, .box 1 0), (7, .own 2), (9, slA 2 cRo (Elm.upp m rs)), (48, slA 2 cRo (Elm.low p m rs)), (49, iv ((Elm.low p m rs).length : Nat)), (50, iv i), (51, bv true)] ?_
 refine t_then ?_
 refine tri_seq ?_
 refine t_condT rfl ?_
 refine tri_skip ?_
 refine t_then ?_
 refine tri_seq ?_
 refine tri_block ?_
 refine tri_seq ?_
 refine tri_region ?_
 refine oC (sp_indexSl (off := i * 2) (.tmp 48) (.tmp 50) rfl Tryd.underlying22 (by kernel_rfl) (by omega) (by omega) rfl) I0 I0 ?_
 refine oA (sp_loadElS (z := 2) (.tmp 52) rfl Tryd.underlying39 rfl (by kernel_rfl) (flat_take lenRo (Elm.low p m rs) i (by omega)) rfl) I0 ?_
 refine t_op rfl (sp_alloc (z := .agg #[.slice none 0 0, .int .i64 0]) (k := 3) rfl (by kernel_rfl)) T0 T0 rfl ?_
 refine t_op rfl (sp_storeBox (T0 := 39) (X := .agg (cRo (Elm.low p m rs)[i])) (cs := [.v (.slice none 0 0), iv 0]) (ds := cRo (Elm.low p m rs)[i]) (z := 2) (.tmp 11) (.tmp 53) rfl (by kernel_rfl) (by kernel_rfl) (by kernel_rfl) (of_decide_eq_true (by kernel_rfl)) (by kernel_rfl)) ⟨I0, I0, T0⟩ ⟨rfl, T0⟩ rfl ?_
 refine kN 82 [(1, .box 24 [iv 0, .v (.slice none 0 0)]), (2, .row false 39 2 L.length (L.flatMap cRo)), (3, .box 39 (cRo (Elm.low p m rs)[i]))] [(1, iv m), (2, .el (cSy ((p : Nat) : Int) rs) 0), (4, .box 1 0), (7, .own 2), (9, slA 2 cRo (Elm.upp m rs)), (11, .box 3 0), (48, slA 2 cRo (Elm.low p m rs)), (49, iv ((Elm.low p m rs).length : Nat)), (50, iv i), (51, bv true)] ?_
 refine t_then ?_
 refine tri_seq ?_
 refine tri_region ?_
 refine oA (sp_move (.tmp 9) (slA 2 cRo (Elm.upp m rs)) rfl) I0 ?_
 refine oA (sp_lenSl (.tmp 54) rfl Tryd.underlying22) I0 ?_
 refine oA (sp_move (.const (.int .i64 0)) (iv 0) rfl) I0 ?_
 refine kN 82 [(1, .box 24 [iv 0, .v (.slice none 0 0)]), (2, .row false 39 2 L.length (L.flatMap cRo)), (3, .box 39 (cRo (Elm.low p m rs)[i]))] [(1, iv m), (2, .el (cSy ((p : Nat) : Int) rs) 0), (4, .box 1 0), (7, .own 2), (9, slA 2 cRo (Elm.upp m rs)), (11, .box 3 0), (48, slA 2 cRo (Elm.low p m rs)), (49, iv ((Elm.low p m rs).length : Nat)), (50, iv i), (51, bv true), (54, slA 2 cRo (Elm.upp m rs)), (55, iv ((Elm.upp m rs).length : Nat)), (56, iv 0)] ?_
 refine t_then ?_
 refine tri_block ?_
 refine tri_loop (σ := {q : Nat × List Rw // q.1 ≤ (Elm.upp m rs).length ∧ q.2 = L ++ ((Elm.upp m rs).take q.1).map (Elm.mixR m (Elm.low p m rs)[i]) ∧ (∀ u ∈ (Elm.upp m rs).take q.1, Elm.okE m (Elm.low p m rs)[i] u = true) ∧ q.2.length ≤ 250 + 250 * i + q.1}) (fun s => (ofL [(1, .box 24 [iv 0, .v (.slice none 0 0)]), (2, .row false 39 2 s.1.2.length (s.1.2.flatMap cRo)), (3, .box 39 (cRo (Elm.low p m rs)[i]))], ofT 82 [(1, iv m), (2, .el (cSy ((p : Nat) : Int) rs) 0), (4, .box 1 0), (7, .own 2), (9, slA 2 cRo (Elm.upp m rs)), (11, .box 3 0), (48, slA 2 cRo (Elm.low p m rs)), (49, iv ((Elm.low p m rs).length : Nat)), (50, iv i), (51, bv true), (54, slA 2 cRo (Elm.upp m rs)), (55, iv ((Elm.upp m rs).length : Nat)), (56, iv s.1.1)])) (fun s => (Elm.upp m rs).length - s.1.1) ⟨(0, L), Nat.zero_le _, by simp, by simp, by dsimp only; omega⟩ (wk_keep _ _ rfl (by kernel_rfl) (by kernel_rfl)) (fun s => ?_)
 obtain ⟨⟨j, L2⟩, hj0, hL2, hL2o, hL2b⟩ := s
 show ETri J w0 (ofL [(1, .box 24 [iv 0, .v (.slice none 0 0)]), (2, .row false 39 2 L2.length (L2.flatMap cRo)), (3, .box 39 (cRo (Elm.low p m rs)[i]))]) (ofT 82 [(1, iv m), (2, .el (cSy ((p : Nat) : Int) rs) 0), (4, .box 1 0), (7, .own 2), (9, slA 2 cRo (Elm.upp m rs)), (11, .box 3 0), (48, slA 2 cRo (Elm.low p m rs)), (49, iv ((Elm.low p m rs).length : Nat)), (50, iv i), (51, bv true), (54, slA 2 cRo (Elm.upp m rs)), (55, iv ((Elm.upp m rs).length : Nat)), (56, iv j)]) _
 dsimp only at hj0 hL2 hL2o hL2b
 refine tri_seq ?_
 by_cases hs3 : ((j : Nat) : Int) < (((Elm.upp m rs).length : Nat) : Int)
 have hj1 : j < (Elm.upp m rs).length := by omega
 refine tri_region ?_
 refine oC (sp_lss rfl (dT hs3)) I0 I0 ?_
 refine kN 82 [(1, .box 24 [iv 0, .v (.slice none 0 0)]), (2, .row false 39 2 L2.length (L2.flatMap cRo)), (3, .box 39 (cRo (Elm.low p m rs)[i]))] [(1, iv m), (2, .el (cSy ((p : Nat) : Int) rs) 0), (4, .box 1 0), (7, .own 2), (9, slA 2 cRo (Elm.upp m rs)), (11, .box 3 0), (48, slA 2 cRo (Elm.low p m rs)), (49, iv ((Elm.low p m rs).length : Nat)), (50, iv i), (51, bv true), (54, slA 2 cRo (Elm.upp m rs)), (55, iv ((Elm.upp m rs).length : Nat)), (56, iv j), (57, bv true)] ?_
 refine t_then ?_
 refine tri_seq ?_
 refine t_condT rfl ?_
 refine tri_skip ?_
 refine t_then ?_
 refine tri_seq ?_
 refine tri_block ?_
 refine tri_seq ?_
 refine tri_region ?_
 refine oC (sp_indexSl (off := j * 2) (.tmp 54) (.tmp 56) rfl Tryd.underlying22 (by kernel_rfl) (by omega) (by omega) rfl) I0 I0 ?_
 refine oA (sp_loadElS (z := 2) (.tmp 58) rfl Tryd.underlying39 rfl (by kernel_rfl) (flat_take lenRo (Elm.upp m rs) j (by omega)) rfl) I0 ?_
 refine t_op rfl (sp_alloc (z := .agg #[.slice none 0 0, .int .i64 0]) (k := 4) rfl (by kernel_rfl)) T0 T0 rfl ?_
 refine t_op rfl (sp_storeBox (T0 := 39) (X := .agg (cRo (Elm.upp m rs)[j])) (cs := [.v (.slice none 0 0), iv 0]) (ds := cRo (Elm.upp m rs)[j]) (z := 2) (.tmp 13) (.tmp 59) rfl (by kernel_rfl) (by kernel_rfl) (by kernel_rfl) (of_decide_eq_true (by kernel_rfl)) (by kernel_rfl)) ⟨I0, I0, T0⟩ ⟨rfl, T0⟩ rfl ?_
 refine kN 82 [(1, .box 24 [iv 0, .v (.slice none 0 0)]), (2, .row false 39 2 L2.length (L2.flatMap cRo)), (3, .box 39 (cRo (Elm.low p m rs)[i])), (4, .box 39 (cRo (Elm.upp m rs)[j]))] [(1, iv m), (2, .el (cSy ((p : Nat) : Int) rs) 0), (4, .box 1 0), (7, .own 2), (9, slA 2 cRo (Elm.upp m rs)), (11, .box 3 0), (13, .box 4 0), (48, slA 2 cRo (Elm.low p m rs)), (49, iv ((Elm.low p m rs).length : Nat)), (50, iv i), (51, bv true), (54, slA 2 cRo (Elm.upp m rs)), (55, iv ((Elm.upp m rs).length : Nat)), (56, iv j), (57, bv true)] ?_
 refine t_then ?_
 refine tri_seq ?_
 refine tri_region ?_
 refine oB (sp_loadBoxS (Y := .box 39 (cRo (Elm.low p m rs)[i])) (ds := cRo (Elm.low p m rs)[i]) (z := 2) (.tmp 11) rfl Tryd.underlying39 rfl (by kernel_rfl) (by decide) (by kernel_rfl) (by kernel_rfl)) I0 rfl ?_
 refine oB (sp_loadBoxS (Y := .box 39 (cRo (Elm.upp m rs)[j])) (ds := cRo (Elm.upp m rs)[j]) (z := 2) (.tmp 13) rfl Tryd.underlying39 rfl (by kernel_rfl) (by decide) (by kernel_rfl) (by kernel_rfl)) I0 rfl ?_
 refine oA (sp_move (.tmp 1) (iv m) rfl) I0 ?_
 refine t_op rfl (sp_call (c := .func 43) (xs := #[.tmp 61, .tmp 62, .tmp 63]) [] (cancel_c (F.pair (List.getElem_mem hi1) (List.getElem_mem hj1))) rfl (by kernel_rfl) rfl (Xs := [.agg (cRo (Elm.low p m rs)[i]), .agg (cRo (Elm.upp m rs)[j]), iv m]) rfl rfl rfl) ⟨I0, I0, I0, I0, T0⟩ T0 T0 ?_
 refine oA (sp_move (.tmp 64) (.tup [.fr (.agg (cRo (Elm.cnR m (Elm.low p m rs)[i] (Elm.upp m rs)[j]))), iv (Elm.cnE m (Elm.low p m rs)[i] (Elm.upp m rs)[j])]) rfl) I0 ?_
 refine oA (sp_extract (X := .fr (.agg (cRo (Elm.cnR m (Elm.low p m rs)[i] (Elm.upp m rs)[j])))) (.tmp 60) rfl rfl) I0 ?_
 refine oA (sp_extract (X := iv (Elm.cnE m (Elm.low p m rs)[i] (Elm.upp m rs)[j])) (.tmp 60) rfl rfl) I0 ?_
 refine t_op rfl (sp_alloc (z := .agg #[.slice none 0 0, .int .i64 0]) (k := 5) rfl (by kernel_rfl)) T0 T0 rfl ?_
 refine t_op rfl (sp_storeBox (T0 := 39) (X := .agg [.fr (intsA ((Elm.cnR m (Elm.low p m rs)[i] (Elm.upp m rs)[j]).1)), iv ((Elm.cnR m (Elm.low p m rs)[i] (Elm.upp m rs)[j]).2)]) (cs := [.v (.slice none 0 0), iv 0]) (ds := [.fr (intsA ((Elm.cnR m (Elm.low p m rs)[i] (Elm.upp m rs)[j]).1)), iv ((Elm.cnR m (Elm.low p m rs)[i] (Elm.upp m rs)[j]).2)]) (z := 2) (.tmp 14) (.tmp 65) rfl (by kernel_rfl) (by kernel_rfl) (by kernel_rfl) (of_decide_eq_true (by kernel_rfl)) (by kernel_rfl)) ⟨I0, .inr (.inr (.inl ⟨_, rfl, rfl⟩)), T0⟩ ⟨rfl, T0⟩ rfl ?_
 refine oA (sp_assign (.tmp 66) (iv (Elm.cnE m (Elm.low p m rs)[i] (Elm.upp m rs)[j])) rfl) I0 ?_
 refine kN 82 [(1, .box 24 [iv 0, .v (.slice none 0 0)]), (2, .row false 39 2 L2.length (L2.flatMap cRo)), (3, .box 39 (cRo (Elm.low p m rs)[i])), (4, .box 39 (cRo (Elm.upp m rs)[j])), (5, .box 39 [.fr (intsA ((Elm.cnR m (Elm.low p m rs)[i] (Elm.upp m rs)[j]).1)), iv ((Elm.cnR m (Elm.low p m rs)[i] (Elm.upp m rs)[j]).2)])] [(1, iv m), (2, .el (cSy ((p : Nat) : Int) rs) 0), (4, .box 1 0), (7, .own 2), (9, slA 2 cRo (Elm.upp m rs)), (11, .box 3 0), (13, .box 4 0), (14, .box 5 0), (15, iv (Elm.cnE m (Elm.low p m rs)[i] (Elm.upp m rs)[j])), (48, slA 2 cRo (Elm.low p m rs)), (49, iv ((Elm.low p m rs).length : Nat)), (50, iv i), (51, bv true), (54, slA 2 cRo (Elm.upp m rs)), (55, iv ((Elm.upp m rs).length : Nat)), (56, iv j), (57, bv true)] ?_
 refine t_then ?_
 refine tri_seq ?_
 refine tri_seq ?_
 by_cases hs4 : (Elm.cnE m (Elm.low p m rs)[i] (Elm.upp m rs)[j]) = 0
 obtain ⟨hok1, hcn⟩ := Elm.cnE_ok hs4
 refine tri_region ?_
 refine oA (sp_move (.tmp 15) (iv (Elm.cnE m (Elm.low p m rs)[i] (Elm.upp m rs)[j])) rfl) I0 ?_
 refine oC (sp_neq rfl (dT' hs4)) I0 I0 ?_
 refine kN 82 [(1, .box 24 [iv 0, .v (.slice none 0 0)]), (2, .row false 39 2 L2.length (L2.flatMap cRo)), (3, .box 39 (cRo (Elm.low p m rs)[i])), (4, .box 39 (cRo (Elm.upp m rs)[j])), (5, .box 39 [.fr (intsA ((Elm.cnR m (Elm.low p m rs)[i] (Elm.upp m rs)[j]).1)), iv ((Elm.cnR m (Elm.low p m rs)[i] (Elm.upp m rs)[j]).2)])] [(1, iv m), (2, .el (cSy ((p : Nat) : Int) rs) 0), (4, .box 1 0), (7, .own 2), (9, slA 2 cRo (Elm.upp m rs)), (11, .box 3 0), (13, .box 4 0), (14, .box 5 0), (15, iv (Elm.cnE m (Elm.low p m rs)[i] (Elm.upp m rs)[j])), (48, slA 2 cRo (Elm.low p m rs)), (49, iv ((Elm.low p m rs).length : Nat)), (50, iv i), (51, bv true), (54, slA 2 cRo (Elm.upp m rs)), (55, iv ((Elm.upp m rs).length : Nat)), (56, iv j), (57, bv true), (68, bv false)] ?_
 refine t_then ?_
 refine t_condF rfl ?_
 refine tri_skip ?_
 refine t_then ?_
 refine tri_wk (wk_stripB 5 rfl (ds := [intsA ((Elm.cnR m (Elm.low p m rs)[i] (Elm.upp m rs)[j]).1), iv ((Elm.cnR m (Elm.low p m rs)[i] (Elm.upp m rs)[j]).2)]) rfl) ?_
 refine kW 82 [(1, .box 24 [iv 0, .v (.slice none 0 0)]), (2, .row false 39 2 L2.length (L2.flatMap cRo)), (3, .box 39 (cRo (Elm.low p m rs)[i])), (4, .box 39 (cRo (Elm.upp m rs)[j])), (5, .box 39 [intsA ((Elm.cnR m (Elm.low p m rs)[i] (Elm.upp m rs)[j]).1), iv ((Elm.cnR m (Elm.low p m rs)[i] (Elm.upp m rs)[j]).2)])] [(1, iv m), (2, .el (cSy ((p : Nat) : Int) rs) 0), (4, .box 1 0), (7, .own 2), (9, slA 2 cRo (Elm.upp m rs)), (11, .box 3 0), (13, .box 4 0), (14, .box 5 0), (15, iv (Elm.cnE m (Elm.low p m rs)[i] (Elm.upp m rs)[j])), (48, slA 2 cRo (Elm.low p m rs)), (49, iv ((Elm.low p m rs).length : Nat)), (50, iv i), (51, bv true), (54, slA 2 cRo (Elm.upp m rs)), (55, iv ((Elm.upp m rs).length : Nat)), (56, iv j), (57, bv true), (68, bv false)] ?_
 refine tri_region ?_
 refine oA (sp_move (.tmp 7) (.own 2) rfl) I0 ?_
 refine oB (sp_loadBoxS (Y := .box 39 [intsA ((Elm.cnR m (Elm.low p m rs)[i] (Elm.upp m rs)[j]).1), iv ((Elm.cnR m (Elm.low p m rs)[i] (Elm.upp m rs)[j]).2)]) (ds := [intsA ((Elm.cnR m (Elm.low p m rs)[i] (Elm.upp m rs)[j]).1), iv ((Elm.cnR m (Elm.low p m rs)[i] (Elm.upp m rs)[j]).2)]) (z := 2) (.tmp 14) rfl Tryd.underlying39 rfl (by kernel_rfl) (by decide) (by kernel_rfl) (by kernel_rfl)) I0 rfl ?_
 refine t_op rfl (sp_build (z := 2) (k := 6) (fr := false) (cs := [intsA ((Elm.cnR m (Elm.low p m rs)[i] (Elm.upp m rs)[j]).1), iv ((Elm.cnR m (Elm.low p m rs)[i] (Elm.upp m rs)[j]).2)]) [.tmp 72] [.agg [intsA ((Elm.cnR m (Elm.low p m rs)[i] (Elm.upp m rs)[j]).1), iv ((Elm.cnR m (Elm.low p m rs)[i] (Elm.upp m rs)[j]).2)]] rfl Tryd.underlying22 (by kernel_rfl) (by decide) (by decide) rfl rfl rfl (by kernel_rfl) (by decide) (fun h => Bool.noConfusion h) (by kernel_rfl)) ⟨I0, T0⟩ T0 rfl ?_
 refine t_op rfl (sp_appendOwn (n := L2.length) (cs := (L2.flatMap cRo)) (fr := false) (m := 1) (ds := [intsA ((Elm.cnR m (Elm.low p m rs)[i] (Elm.upp m rs)[j]).1), iv ((Elm.cnR m (Elm.low p m rs)[i] (Elm.upp m rs)[j]).2)]) (⟨Tryd.underlying22, by kernel_rfl, by decide⟩ : Elt Tryd.prog 22 39 2 32) (.tmp 71) (.tmp 73) rfl (fun h => Bool.noConfusion h) (by unfold maxLen; omega) (by omega) (Elm.cellRp _) (es := ((L2 ++ [(Elm.cnR m (Elm.low p m rs)[i] (Elm.upp m rs)[j])]).flatMap cRo)) Elm.snocRp) ⟨I0, I0, T0⟩ ⟨rfl, rfl, T0⟩ rfl ?_
 refine oA (sp_assign (.tmp 74) (.own 2) rfl) I0 ?_
 refine kN 82 [(1, .box 24 [iv 0, .v (.slice none 0 0)]), (2, .row false 39 2 (L2.length + 1) ((L2 ++ [(Elm.cnR m (Elm.low p m rs)[i] (Elm.upp m rs)[j])]).flatMap cRo)), (3, .box 39 (cRo (Elm.low p m rs)[i])), (4, .box 39 (cRo (Elm.upp m rs)[j])), (5, .box 39 [intsA ((Elm.cnR m (Elm.low p m rs)[i] (Elm.upp m rs)[j]).1), iv ((Elm.cnR m (Elm.low p m rs)[i] (Elm.upp m rs)[j]).2)])] [(1, iv m), (2, .el (cSy ((p : Nat) : Int) rs) 0), (4, .box 1 0), (7, .own 2), (9, slA 2 cRo (Elm.upp m rs)), (11, .box 3 0), (13, .box 4 0), (14, .box 5 0), (15, iv (Elm.cnE m (Elm.low p m rs)[i] (Elm.upp m rs)[j])), (48, slA 2 cRo (Elm.low p m rs)), (49, iv ((Elm.low p m rs).length : Nat)), (50, iv i), (51, bv true), (54, slA 2 cRo (Elm.upp m rs)), (55, iv ((Elm.upp m rs).length : Nat)), (56, iv j), (57, bv true), (68, bv false)] ?_
 refine t_block ?_
 refine t_then ?_
 refine tri_region ?_
 refine oC (sp_add (c := ((j + 1 : Nat) : Int)) rfl (w64 (by omega) (by omega) (by omega))) I0 I0 ?_
 refine oA (sp_move (.tmp 75) (iv (j + 1 : Nat)) rfl) I0 ?_
 refine kN 82 [(1, .box 24 [iv 0, .v (.slice none 0 0)]), (2, .row false 39 2 (L2.length + 1) ((L2 ++ [(Elm.cnR m (Elm.low p m rs)[i] (Elm.upp m rs)[j])]).flatMap cRo)), (3, .box 39 (cRo (Elm.low p m rs)[i])), (4, .box 39 (cRo (Elm.upp m rs)[j])), (5, .box 39 [intsA ((Elm.cnR m (Elm.low p m rs)[i] (Elm.upp m rs)[j]).1), iv ((Elm.cnR m (Elm.low p m rs)[i] (Elm.upp m rs)[j]).2)])] [(1, iv m), (2, .el (cSy ((p : Nat) : Int) rs) 0), (4, .box 1 0), (7, .own 2), (9, slA 2 cRo (Elm.upp m rs)), (11, .box 3 0), (13, .box 4 0), (14, .box 5 0), (15, iv (Elm.cnE m (Elm.low p m rs)[i] (Elm.upp m rs)[j])), (48, slA 2 cRo (Elm.low p m rs)), (49, iv ((Elm.low p m rs).length : Nat)), (50, iv i), (51, bv true), (54, slA 2 cRo (Elm.upp m rs)), (55, iv ((Elm.upp m rs).length : Nat)), (56, iv (j + 1 : Nat)), (57, bv true), (68, bv false)] ?_
 refine t_then ?_
 refine tri_again ⟨(j + 1, L2 ++ [Elm.mixR m (Elm.low p m rs)[i] (Elm.upp m rs)[j]]), by dsimp only; omega, (Elm.in_next hj1 hL2 hL2o hok1).1, (Elm.in_next hj1 hL2 hL2o hok1).2, by rw [List.length_append]; dsimp only [List.length]; omega⟩ (show (Elm.upp m rs).length - (j + 1) < (Elm.upp m rs).length - j by omega) ?_
 show Wk _ _ (ofL [(1, .box 24 [iv 0, .v (.slice none 0 0)]), (2, .row false 39 2 ((L2 ++ [Elm.mixR m (Elm.low p m rs)[i] (Elm.upp m rs)[j]]).length) ((L2 ++ [Elm.mixR m (Elm.low p m rs)[i] (Elm.upp m rs)[j]]).flatMap cRo)), (3, .box 39 (cRo (Elm.low p m rs)[i]))]) (ofT 82 [(1, iv m), (2, .el (cSy ((p : Nat) : Int) rs) 0), (4, .box 1 0), (7, .own 2), (9, slA 2 cRo (Elm.upp m rs)), (11, .box 3 0), (48, slA 2 cRo (Elm.low p m rs)), (49, iv ((Elm.low p m rs).length : Nat)), (50, iv i), (51, bv true), (54, slA 2 cRo (Elm.upp m rs)), (55, iv ((Elm.upp m rs).length : Nat)), (56, iv ((j + 1) : Nat))])
 rw [List.length_append, ← hcn]
 exact wk_keep _ _ rfl (by kernel_rfl) (by kernel_rfl)
 refine tri_region ?_
 refine oA (sp_move (.tmp 15) (iv (Elm.cnE m (Elm.low p m rs)[i] (Elm.upp m rs)[j])) rfl) I0 ?_
 refine oC (sp_neq rfl (dF' hs4)) I0 I0 ?_
 refine kN 82 [(1, .box 24 [iv 0, .v (.slice none 0 0)]), (2, .row false 39 2 L2.length (L2.flatMap cRo)), (3, .box 39 (cRo (Elm.low p m rs)[i])), (4, .box 39 (cRo (Elm.upp m rs)[j])), (5, .box 39 [.fr (intsA ((Elm.cnR m (Elm.low p m rs)[i] (Elm.upp m rs)[j]).1)), iv ((Elm.cnR m (Elm.low p m rs)[i] (Elm.upp m rs)[j]).2)])] [(1, iv m), (2, .el (cSy ((p : Nat) : Int) rs) 0), (4, .box 1 0), (7, .own 2), (9, slA 2 cRo (Elm.upp m rs)), (11, .box 3 0), (13, .box 4 0), (14, .box 5 0), (15, iv (Elm.cnE m (Elm.low p m rs)[i] (Elm.upp m rs)[j])), (48, slA 2 cRo (Elm.low p m rs)), (49, iv ((Elm.low p m rs).length : Nat)), (50, iv i), (51, bv true), (54, slA 2 cRo (Elm.upp m rs)), (55, iv ((Elm.upp m rs).length : Nat)), (56, iv j), (57, bv true), (68, bv true)] ?_
 refine t_then ?_
 refine t_condT rfl ?_
 refine tri_seq ?_
 refine tri_region ?_
 refine t_op rfl (sp_bld [] #[.int .i64 0, .slice none 0 0] rfl rfl (by kernel_rfl) rfl) T0 T0 T0 ?_
 refine oA (sp_move (.tmp 15) (iv (Elm.cnE m (Elm.low p m rs)[i] (Elm.upp m rs)[j])) rfl) I0 ?_
 refine t_op rfl (sp_storeBox (T0 := 24) (X := .agg [iv 0, .v (.slice none 0 0)]) (cs := [iv 0, .v (.slice none 0 0)]) (ds := [iv 0, .v (.slice none 0 0)]) (z := 2) (.tmp 4) (.tmp 69) rfl (by kernel_rfl) (by kernel_rfl) (by kernel_rfl) (of_decide_eq_true (by kernel_rfl)) (by kernel_rfl)) ⟨I0, I0, T0⟩ ⟨rfl, T0⟩ rfl ?_
 refine oA (sp_assign (.tmp 70) (iv (Elm.cnE m (Elm.low p m rs)[i] (Elm.upp m rs)[j])) rfl) I0 ?_
 refine kN 82 [(1, .box 24 [iv 0, .v (.slice none 0 0)]), (2, .row false 39 2 L2.length (L2.flatMap cRo)), (3, .box 39 (cRo (Elm.low p m rs)[i])), (4, .box 39 (cRo (Elm.upp m rs)[j])), (5, .box 39 [.fr (intsA ((Elm.cnR m (Elm.low p m rs)[i] (Elm.upp m rs)[j]).1)), iv ((Elm.cnR m (Elm.low p m rs)[i] (Elm.upp m rs)[j]).2)])] [(1, iv m), (2, .el (cSy ((p : Nat) : Int) rs) 0), (4, .box 1 0), (5, iv (Elm.cnE m (Elm.low p m rs)[i] (Elm.upp m rs)[j])), (7, .own 2), (9, slA 2 cRo (Elm.upp m rs)), (11, .box 3 0), (13, .box 4 0), (14, .box 5 0), (15, iv (Elm.cnE m (Elm.low p m rs)[i] (Elm.upp m rs)[j])), (48, slA 2 cRo (Elm.low p m rs)), (49, iv ((Elm.low p m rs).length : Nat)), (50, iv i), (51, bv true), (54, slA 2 cRo (Elm.upp m rs)), (55, iv ((Elm.upp m rs).length : Nat)), (56, iv j), (57, bv true), (68, bv true)] ?_
 refine t_then ?_
 refine tri_ret ?_
 refine t_then_ret ?_
 refine t_block_ret ?_
 refine t_then_ret ?_
 refine t_then_ret ?_
 refine t_block_ret ?_
 refine t_block_ret ?_
 refine t_then_ret ?_
 refine t_then_ret ?_
 refine t_block_ret ?_
 refine t_then_ret ?_
 refine tri_wk (wk_adoptB 1 1 6 true 39 2 rfl rfl rfl rfl) ?_
 refine tri_end2 Tryd.results21 (.cellS rfl rfl Tryd.underlying24 rfl (z := 2) (by kernel_rfl) rfl (by decide)) (.tmp rfl) ?_
 exact Elm.el_no hv hm hs1 (Elm.elOk_no (List.getElem_mem hi1) (List.getElem_mem hj1) (Elm.cnE_no hs4).1) (Elm.cnE_no hs4).2
 refine tri_region ?_
 refine oC (sp_lss rfl (dF hs3)) I0 I0 ?_
 refine kN 82 [(1, .box 24 [iv 0, .v (.slice none 0 0)]), (2, .row false 39 2 L2.length (L2.flatMap cRo)), (3, .box 39 (cRo (Elm.low p m rs)[i]))] [(1, iv m), (2, .el (cSy ((p : Nat) : Int) rs) 0), (4, .box 1 0), (7, .own 2), (9, slA 2 cRo (Elm.upp m rs)), (11, .box 3 0), (48, slA 2 cRo (Elm.low p m rs)), (49, iv ((Elm.low p m rs).length : Nat)), (50, iv i), (51, bv true), (54, slA 2 cRo (Elm.upp m rs)), (55, iv ((Elm.upp m rs).length : Nat)), (56, iv j), (57, bv false)] ?_
 refine t_then ?_
 refine tri_seq ?_
 refine t_condF rfl ?_
 refine tri_exit ?_
 refine t_then_exit ?_
 refine t_then_exit ?_
 refine t_hit ?_
 refine t_block ?_
 refine t_then ?_
 refine tri_region ?_
 refine oC (sp_add (c := ((i + 1 : Nat) : Int)) rfl (w64 (by omega) (by omega) (by omega))) I0 I0 ?_
 refine oA (sp_move (.tmp 76) (iv (i + 1 : Nat)) rfl) I0 ?_
 refine kN 82 [(1, .box 24 [iv 0, .v (.slice none 0 0)]), (2, .row false 39 2 L2.length (L2.flatMap cRo)), (3, .box 39 (cRo (Elm.low p m rs)[i]))] [(1, iv m), (2, .el (cSy ((p : Nat) : Int) rs) 0), (4, .box 1 0), (7, .own 2), (9, slA 2 cRo (Elm.upp m rs)), (11, .box 3 0), (48, slA 2 cRo (Elm.low p m rs)), (49, iv ((Elm.low p m rs).length : Nat)), (50, iv (i + 1 : Nat)), (51, bv true), (54, slA 2 cRo (Elm.upp m rs)), (55, iv ((Elm.upp m rs).length : Nat)), (56, iv j), (57, bv false)] ?_
 refine t_then ?_
 refine tri_again ⟨(i + 1, L2), by dsimp only; omega, (Elm.out_next hi1 (by omega) hL hLo hL2 hL2o).1, (Elm.out_next hi1 (by omega) hL hLo hL2 hL2o).2, by dsimp only; omega⟩ (show (Elm.low p m rs).length - (i + 1) < (Elm.low p m rs).length - i by omega) ?_
 show Wk _ _ (ofL [(1, .box 24 [iv 0, .v (.slice none 0 0)]), (2, .row false 39 2 L2.length (L2.flatMap cRo))]) (ofT 82 [(1, iv m), (2, .el (cSy ((p : Nat) : Int) rs) 0), (4, .box 1 0), (7, .own 2), (9, slA 2 cRo (Elm.upp m rs)), (48, slA 2 cRo (Elm.low p m rs)), (49, iv ((Elm.low p m rs).length : Nat)), (50, iv ((i + 1) : Nat))])
 exact wk_keep _ _ rfl (by kernel_rfl) (by kernel_rfl)
 have hi2 : i = (Elm.low p m rs).length := by omega
 rw [hi2, List.take_length] at hLo hL
 have hok2 := Elm.elOk_yes hLo
 have hL3 : L = Elm.elL p m rs := hL
 refine tri_region ?_
 refine oC (sp_lss rfl (dF hs2)) I0 I0 ?_
 refine kN 82 [(1, .box 24 [iv 0, .v (.slice none 0 0)]), (2, .row false 39 2 L.length (L.flatMap cRo))] [(1, iv m), (2, .el (cSy ((p : Nat) : Int) rs) 0), (4, .box 1 0), (7, .own 2), (9, slA 2 cRo (Elm.upp m rs)), (48, slA 2 cRo (Elm.low p m rs)), (49, iv ((Elm.low p m rs).length : Nat)), (50, iv i), (51, bv false)] ?_
 refine t_then ?_
 refine tri_seq ?_
 refine t_condF rfl ?_
 refine tri_exit ?_
 refine t_then_exit ?_
 refine t_then_exit ?_
 refine t_hit ?_
 refine t_then ?_
 refine tri_seq ?_
 refine tri_draw [⟨[(.tmp 2, .el (cSy ((p : Nat) : Int) rs) 0)], [], .el (cSy ((p : Nat) : Int) rs) 0, .no⟩, ⟨[(.tmp 77, .el (cSy ((p : Nat) : Int) rs) 0)], [], iv p, .no⟩, ⟨[(.tmp 7, .own 2)], [], .own 2, .no⟩, ⟨[(.func 33, .v (.func (.func 33) #[] #[])), (.tmp 79, .own 2)], [(2, .row false 39 2 L.length (L.flatMap cRo))], .own 3, .new 3 (.row true 39 2 ((nrm (Elm.elL p m rs)).length) ((nrm (Elm.elL p m rs)).flatMap cRo))⟩, ⟨[(.tmp 78, iv p), (.tmp 80, .own 3)], [], .agg [iv p, .own 3], .no⟩, ⟨[(.tmp 4, .box 1 0), (.tmp 81, .agg [iv p, .own 3])], [(1, .box 24 [iv 0, .v (.slice none 0 0)])], .v undef, .st 1 (.box 24 [iv p, .own 3])⟩, ⟨[(.const (.int .i64 0), iv 0)], [], iv 0, .no⟩] (by kernel_rfl) (by kernel_rfl) ?_
 refine ⟨app_yes rfl (sp_fieldEl (off' := 0) (.tmp 2) rfl Tryd.underlying24 rfl (z := 1) (by kernel_rfl) (by decide) rfl) ⟨I0, T0⟩ T0 T0, ?_⟩
 refine ⟨app_yes rfl (sp_loadEl1 (X := iv p) (.tmp 77) rfl Tryd.underlying3 rfl rfl) ⟨I0, T0⟩ T0 T0, ?_⟩
 refine ⟨app_yes rfl (sp_move (.tmp 7) (.own 2) rfl) ⟨I0, T0⟩ T0 T0, ?_⟩
 refine ⟨app_yes rfl (sp_callO (c := .func 33) (xs := #[.tmp 79]) [(2, .row false 39 2 L.length (L.flatMap cRo))] (Elm.norm_L F hok2 hs1 hL3 3) rfl (by kernel_rfl) rfl (Xs := [.own 2]) rfl rfl rfl) ⟨I0, I0, T0⟩ ⟨rfl, T0⟩ rfl, ?_⟩
 refine ⟨app_yes rfl (sp_bldN [0, 1] [.tmp 78, .tmp 80] [iv p, .own 3] [.inr 0, .inr 1] rfl rfl rfl rfl rfl (fun _ => by kernel_rfl) rfl (ds := [iv p, .own 3]) rfl) ⟨I0, I0, T0⟩ T0 T0, ?_⟩
 refine ⟨app_yes rfl (sp_storeBox (T0 := 24) (X := .agg [iv p, .own 3]) (cs := [iv 0, .v (.slice none 0 0)]) (ds := [iv p, .own 3]) (z := 2) (.tmp 4) (.tmp 81) rfl (by kernel_rfl) (by kernel_rfl) (by kernel_rfl) (of_decide_eq_true (by kernel_rfl)) (by kernel_rfl)) ⟨I0, I0, T0⟩ ⟨rfl, T0⟩ rfl, ?_⟩
 refine ⟨app_yes rfl (sp_assign (.const (.int .i64 0)) (iv 0) rfl) ⟨I0, T0⟩ T0 T0, ?_⟩
 show ETri J w0 _ _ _
 refine kW 82 [(1, .box 24 [iv p, .own 3]), (3, .row true 39 2 ((nrm (Elm.elL p m rs)).length) ((nrm (Elm.elL p m rs)).flatMap cRo))] [(4, .box 1 0), (5, iv 0)] ?_
 refine t_then ?_
 refine tri_ret ?_
 refine tri_end2 Tryd.results21 (.cellS rfl rfl Tryd.underlying24 rfl (z := 2) (by kernel_rfl) rfl (by decide)) (.tmp rfl) ?_
 exact Elm.el_ok hv hm hs1 hok2
end Go.Proofs.YtbbglendddepfaaDoor

namespace Go.Proofs.YtbbglendddepfaaDoor
open Go.RowKit Go.Deep
variable {J : World → Prop}
set_option linter.unusedSimpArgs false in
set_option linter.unusedVariables false in
set_option maxRecDepth 100000 in
set_option maxHeartbeats 6400000 in
theorem lEliminate_inv {n v : Int} {rs : List Rw} (H : SyOk rs) (hv : ¬ valS n rs = 0) : Ctr Tryd.prog J 21 [.agg (cSy n rs), iv v] (.tup [.agg (cSy (Elm.EN n v rs) (Elm.ER n v rs)), iv (Elm.EE n v rs)]) := by
 refine ctr_of_tri Tryd.func21 rfl (by intro X hX; simp only [List.mem_cons, List.not_mem_nil, or_false] at hX; rcases hX with rfl | rfl; exact plain_agg (plain_sy _ rs); exact .v _) (n := 82) rfl (by simp) (fun w0 => ?_)
 refine kW 82 [] [(0, .agg (cSy n rs)), (1, iv v)] ?_
 refine tri_seq ?_
 refine tri_region ?_
 refine oA (sp_boxR (X := .agg (cSy n rs)) (.tmp 0) rfl rfl rfl) I0 ?_
 refine t_op rfl (sp_alloc (z := .agg #[.int .i64 0, .slice none 0 0]) (k := 1) rfl (by kernel_rfl)) T0 T0 rfl ?_
 refine oA (sp_assign (.const (.int .i64 0)) (iv 0) rfl) I0 ?_
 refine kN 82 [(1, .box 24 [iv 0, .v (.slice none 0 0)])] [(1, iv v), (2, .el (cSy n rs) 0), (4, .box 1 0), (5, iv 0)] ?_
 refine t_then ?_
 refine tri_seq ?_
 refine tri_seq ?_
 refine tri_region ?_
 refine oA (sp_loadElS (z := 2) (.tmp 2) rfl Tryd.underlying24 rfl (by kernel_rfl) rfl rfl) I0 ?_
 refine oC (sp_call (c := .func 32) (xs := #[.tmp 16]) [] (lValidate_c H) rfl (by kernel_rfl) rfl (Xs := [.agg (cSy n rs)]) rfl rfl rfl) I0 I0 ?_
 refine oA (sp_assign (.tmp 17) (iv (valS n rs)) rfl) I0 ?_
 refine kN 82 [(1, .box 24 [iv 0, .v (.slice none 0 0)])] [(1, iv v), (2, .el (cSy n rs) 0), (4, .box 1 0), (5, iv 0), (6, iv (valS n rs))] ?_
 refine t_then ?_
 refine tri_seq ?_
 refine tri_region ?_
 refine oA (sp_move (.tmp 6) (iv (valS n rs)) rfl) I0 ?_
 refine oC (sp_neq rfl (dF' hv)) I0 I0 ?_
 refine kN 82 [(1, .box 24 [iv 0, .v (.slice none 0 0)])] [(1, iv v), (2, .el (cSy n rs) 0), (4, .box 1 0), (5, iv 0), (6, iv (valS n rs)), (19, bv true)] ?_
 refine t_then ?_
 refine t_condT rfl ?_
 refine tri_seq ?_
 refine tri_region ?_
 refine t_op rfl (sp_bld [] #[.int .i64 0, .slice none 0 0] rfl rfl (by kernel_rfl) rfl) T0 T0 T0 ?_
 refine oA (sp_move (.tmp 6) (iv (valS n rs)) rfl) I0 ?_
 refine t_op rfl (sp_storeBox (T0 := 24) (X := .agg [iv 0, .v (.slice none 0 0)]) (cs := [iv 0, .v (.slice none 0 0)]) (ds := [iv 0, .v (.slice none 0 0)]) (z := 2) (.tmp 4) (.tmp 20) rfl (by kernel_rfl) (by kernel_rfl) (by kernel_rfl) (of_decide_eq_true (by kernel_rfl)) (by kernel_rfl)) ⟨I0, I0, T0⟩ ⟨rfl, T0⟩ rfl ?_
 refine oA (sp_assign (.tmp 21) (iv (valS n rs)) rfl) I0 ?_
 refine kN 82 [(1, .box 24 [iv 0, .v (.slice none 0 0)])] [(1, iv v), (2, .el (cSy n rs) 0), (4, .box 1 0), (5, iv (valS n rs))] ?_
 refine t_then ?_
 refine tri_ret ?_
 refine t_then_ret ?_
 refine tri_wk (wk_adoptB 1 1 2 true 39 2 rfl rfl rfl rfl) ?_
 refine tri_end2 Tryd.results21 (.cellS rfl rfl Tryd.underlying24 rfl (z := 2) (by kernel_rfl) rfl (by decide)) (.tmp rfl) ?_
 exact Elm.el_inv hv
set_option linter.unusedSimpArgs false in
set_option linter.unusedVariables false in
set_option maxRecDepth 100000 in
set_option maxHeartbeats 6400000 in
theorem lEliminate_arg {n v : Int} {rs : List Rw} (H : SyOk rs) (hv : valS n rs = 0) (ha : v < 0 ∨ n ≤ v) : Ctr Tryd.prog J 21 [.agg (cSy n rs), iv v] (.tup [.agg (cSy (Elm.EN n v rs) (Elm.ER n v rs)), iv (Elm.EE n v rs)]) := by
 have hn := (valS_zero.1 hv).1
 refine ctr_of_tri Tryd.func21 rfl (by intro X hX; simp only [List.mem_cons, List.not_mem_nil, or_false] at hX; rcases hX with rfl | rfl; exact plain_agg (plain_sy _ rs); exact .v _) (n := 82) rfl (by simp) (fun w0 => ?_)
 refine kW 82 [] [(0, .agg (cSy n rs)), (1, iv v)] ?_
 refine tri_seq ?_
 refine tri_region ?_
 refine oA (sp_boxR (X := .agg (cSy n rs)) (.tmp 0) rfl rfl rfl) I0 ?_
 refine t_op rfl (sp_alloc (z := .agg #[.int .i64 0, .slice none 0 0]) (k := 1) rfl (by kernel_rfl)) T0 T0 rfl ?_
 refine oA (sp_assign (.const (.int .i64 0)) (iv 0) rfl) I0 ?_
 refine kN 82 [(1, .box 24 [iv 0, .v (.slice none 0 0)])] [(1, iv v), (2, .el (cSy n rs) 0), (4, .box 1 0), (5, iv 0)] ?_
 refine t_then ?_
 refine tri_seq ?_
 refine tri_seq ?_
 refine tri_region ?_
 refine oA (sp_loadElS (z := 2) (.tmp 2) rfl Tryd.underlying24 rfl (by kernel_rfl) rfl rfl) I0 ?_
 refine oC (sp_call (c := .func 32) (xs := #[.tmp 16]) [] (lValidate_c H) rfl (by kernel_rfl) rfl (Xs := [.agg (cSy n rs)]) rfl rfl rfl) I0 I0 ?_
 refine oA (sp_assign (.tmp 17) (iv (valS n rs)) rfl) I0 ?_
 refine kN 82 [(1, .box 24 [iv 0, .v (.slice none 0 0)])] [(1, iv v), (2, .el (cSy n rs) 0), (4, .box 1 0), (5, iv 0), (6, iv (valS n rs))] ?_
 refine t_then ?_
 refine tri_seq ?_
 refine tri_region ?_
 refine oA (sp_move (.tmp 6) (iv (valS n rs)) rfl) I0 ?_
 refine oC (sp_neq rfl (dT' hv)) I0 I0 ?_
 refine kN 82 [(1, .box 24 [iv 0, .v (.slice none 0 0)])] [(1, iv v), (2, .el (cSy n rs) 0), (4, .box 1 0), (5, iv 0), (6, iv (valS n rs)), (19, bv false)] ?_
 refine t_then ?_
 refine t_condF rfl ?_
 refine tri_skip ?_
 refine t_then ?_
 refine tri_seq ?_
 refine tri_seq ?_
 by_cases hs1 : v < 0
 refine tri_region ?_
 refine oA (sp_move (.tmp 1) (iv v) rfl) I0 ?_
 refine oC (sp_lss rfl (dT hs1)) I0 I0 ?_
 refine oA (sp_move (.tmp 23) (bv true) rfl) I0 ?_
 refine t_skip rfl ?_
 refine t_skip rfl ?_
 refine t_skip rfl ?_
 refine t_skip rfl ?_
 refine oD (sp_pick (.tmp 24) (.const (.bool true)) (.tmp 28) true (bv true) (.v (.tuple #[])) rfl) I0 I0 I0 ?_
 refine kN 82 [(1, .box 24 [iv 0, .v (.slice none 0 0)])] [(1, iv v), (2, .el (cSy n rs) 0), (4, .box 1 0), (5, iv 0), (29, bv true)] ?_
 refine t_then ?_
 refine t_condT rfl ?_
 refine tri_seq ?_
 refine tri_region ?_
 refine t_op rfl (sp_bld [] #[.int .i64 0, .slice none 0 0] rfl rfl (by kernel_rfl) rfl) T0 T0 T0 ?_
 refine t_op rfl (sp_storeBox (T0 := 24) (X := .agg [iv 0, .v (.slice none 0 0)]) (cs := [iv 0, .v (.slice none 0 0)]) (ds := [iv 0, .v (.slice none 0 0)]) (z := 2) (.tmp 4) (.tmp 30) rfl (by kernel_rfl) (by kernel_rfl) (by kernel_rfl) (of_decide_eq_true (by kernel_rfl)) (by kernel_rfl)) ⟨I0, I0, T0⟩ ⟨rfl, T0⟩ rfl ?_
 refine oA (sp_assign (.const (.int .i64 1)) (iv 1) rfl) I0 ?_
 refine kN 82 [(1, .box 24 [iv 0, .v (.slice none 0 0)])] [(1, iv v), (2, .el (cSy n rs) 0), (4, .box 1 0), (5, iv 1)] ?_
 refine t_then ?_
 refine tri_ret ?_
 refine t_then_ret ?_
 refine tri_wk (wk_adoptB 1 1 2 true 39 2 rfl rfl rfl rfl) ?_
 refine tri_end2 Tryd.results21 (.cellS rfl rfl Tryd.underlying24 rfl (z := 2) (by kernel_rfl) rfl (by decide)) (.tmp rfl) ?_
 exact Elm.el_arg hv ha
 refine tri_region ?_
 refine oA (sp_move (.tmp 1) (iv v) rfl) I0 ?_
 refine oC (sp_lss rfl (dF hs1)) I0 I0 ?_
 refine oA (sp_move (.tmp 23) (bv false) rfl) I0 ?_
 refine gA (sp_move (.tmp 1) (iv v) rfl) I0 ?_
 refine gA (sp_fieldEl (off' := 0) (.tmp 2) rfl Tryd.underlying24 rfl (z := 1) (by kernel_rfl) (by decide) rfl) I0 ?_
 refine gA (sp_loadEl1 (X := iv n) (.tmp 26) rfl Tryd.underlying3 rfl rfl) I0 ?_
 refine gC (sp_geq rfl (dT (by omega))) I0 I0 ?_
 refine oD (sp_pick (.tmp 24) (.const (.bool true)) (.tmp 28) false (bv true) (bv true) rfl) I0 I0 I0 ?_
 refine kN 82 [(1, .box 24 [iv 0, .v (.slice none 0 0)])] [(1, iv v), (2, .el (cSy n rs) 0), (4, .box 1 0), (5, iv 0), (29, bv true)] ?_
 refine t_then ?_
 refine t_condT rfl ?_
 refine tri_seq ?_
 refine tri_region ?_
 refine t_op rfl (sp_bld [] #[.int .i64 0, .slice none 0 0] rfl rfl (by kernel_rfl) rfl) T0 T0 T0 ?_
 refine t_op rfl (sp_storeBox (T0 := 24) (X := .agg [iv 0, .v (.slice none 0 0)]) (cs := [iv 0, .v (.slice none 0 0)]) (ds := [iv 0, .v (.slice none 0 0)]) (z := 2) (.tmp 4) (.tmp 30) rfl (by kernel_rfl) (by kernel_rfl) (by kernel_rfl) (of_decide_eq_true (by kernel_rfl)) (by kernel_rfl)) ⟨I0, I0, T0⟩ ⟨rfl, T0⟩ rfl ?_
 refine oA (sp_assign (.const (.int .i64 1)) (iv 1) rfl) I0 ?_
 refine kN 82 [(1, .box 24 [iv 0, .v (.slice none 0 0)])] [(1, iv v), (2, .el (cSy n rs) 0), (4, .box 1 0), (5, iv 1)] ?_
 refine t_then ?_
 refine tri_ret ?_
 refine t_then_ret ?_
 refine tri_wk (wk_adoptB 1 1 2 true 39 2 rfl rfl rfl rfl) ?_
 refine tri_end2 Tryd.results21 (.cellS rfl rfl Tryd.underlying24 rfl (z := 2) (by kernel_rfl) rfl (by decide)) (.tmp rfl) ?_
 exact Elm.el_arg hv ha
theorem lEliminate_c {n v : Int} {rs : List Rw} (H : SyOk rs) : Ctr Tryd.prog J 21 [.agg (cSy n rs), iv v] (.tup [.agg (cSy (Elm.EN n v rs) (Elm.ER n v rs)), iv (Elm.EE n v rs)]) := by
  by_cases hv : valS n rs = 0
  · by_cases ha : v < 0 ∨ n ≤ v
    · exact lEliminate_arg H hv ha
    · obtain ⟨p, rfl⟩ := Int.eq_ofNat_of_zero_le (show 0 ≤ n by omega)
      obtain ⟨m, rfl⟩ := Int.eq_ofNat_of_zero_le (show 0 ≤ v by omega)
      exact lEliminate_in H hv (by omega)
  · exact lEliminate_inv H hv
end Go.Proofs.YtbbglendddepfaaDoor

namespace Go.Proofs.YtbbglendddepfaaDoor
open Go.RowKit Go.Deep
variable {J : World → Prop}
end Go.Proofs.YtbbglendddepfaaDoor

namespace Go.Proofs.YtbbglendddepfaaDoor
open Go.RowKit Go.Deep
variable {J : World → Prop}
end Go.Proofs.YtbbglendddepfaaDoor
