import Derived.Test.YtgbgfkhkjlakbaaProg
import Derived.ChangeArms
import Derived.Test.YtgbgfkhkjlakbaaGrpdpekhkjl
import Derived.Test.YtgbgfkhkjlakbaaGrpmocoaepn
import Derived.Test.YtgbgfkhkjlakbaaGrpenoecfme
set_option linter.all false
namespace Go.Proofs.Ytgbgfkhkjlakbaa
open Go.RowKit Go.Deep
variable {J : World → Prop}
set_option linter.unusedSimpArgs false in
set_option linter.unusedVariables false in
set_option maxRecDepth 100000 in
set_option maxHeartbeats 6400000 in
theorem Modeled_err {p : Fm} (HP : FmOk p) {n t f : Int} (hs : ¬ Ns.sysE p n t f = 0) : Ctr Try.prog J 9 [.agg (cFm p), .agg (cSz n t f)] (iv (Ns.mdE p n t f)) := by
 refine ctr_of_tri Try.func9 rfl (by intro X hX; simp only [List.mem_cons, List.not_mem_nil, or_false] at hX; rcases hX with rfl | rfl; exact plain_agg (plain_fm p); exact plain_agg (plain_sz n t f)) (n := 19) rfl (by simp) (fun w0 => ?_)
 refine kW 19 [] [(0, .agg (cFm p)), (1, .agg (cSz n t f))] ?_
 refine tri_seq ?_
 refine tri_region ?_
 refine oA (sp_boxR (X := .agg (cFm p)) (.tmp 0) rfl rfl rfl) I0 ?_
 refine oA (sp_boxR (X := .agg (cSz n t f)) (.tmp 1) rfl rfl rfl) I0 ?_
 refine oA (sp_assign (.const (.int .i64 0)) (iv 0) rfl) I0 ?_
 refine kN 19 [] [(2, .el (cFm p) 0), (3, .el (cSz n t f) 0), (4, iv 0)] ?_
 refine t_then ?_
 refine tri_seq ?_
 refine tri_region ?_
 refine oA (sp_loadElS (z := 10) (.tmp 2) rfl Try.underlying27 rfl (by kernel_rfl) rfl rfl) I0 ?_
 refine oA (sp_loadElS (z := 3) (.tmp 3) rfl Try.underlying29 rfl (by kernel_rfl) rfl rfl) I0 ?_
 refine oD (sp_callA (c := .func 28) (xs := #[.tmp 8, .tmp 9]) (newSystem_err HP hs) rfl (by kernel_rfl) rfl (Xs := [.agg (cFm p), .agg (cSz n t f)]) rfl rfl) I0 I0 I0 ?_
 refine oA (sp_move (.tmp 10) (.tup [.v (.pointer none), iv (Ns.sysE p n t f)]) rfl) I0 ?_
 refine oA (sp_extract (X := .v (.pointer none)) (.tmp 7) rfl rfl) I0 ?_
 refine oA (sp_extract (X := iv (Ns.sysE p n t f)) (.tmp 7) rfl rfl) I0 ?_
 refine oA (sp_assign (.tmp 11) (.v (.pointer none)) rfl) I0 ?_
 refine oA (sp_assign (.tmp 12) (iv (Ns.sysE p n t f)) rfl) I0 ?_
 refine kN 19 [] [(4, iv 0), (5, .v (.pointer none)), (6, iv (Ns.sysE p n t f))] ?_
 refine t_then ?_
 refine tri_seq ?_
 refine tri_seq ?_
 refine tri_region ?_
 refine oA (sp_move (.tmp 6) (iv (Ns.sysE p n t f)) rfl) I0 ?_
 refine oC (sp_neq rfl (dF' hs)) I0 I0 ?_
 refine kN 19 [] [(4, iv 0), (5, .v (.pointer none)), (14, bv true)] ?_
 refine t_then ?_
 refine t_condT rfl ?_
 refine tri_seq ?_
 refine tri_region ?_
 refine oA (sp_assign (.const (.int .i64 0)) (iv 0) rfl) I0 ?_
 refine kN 19 [] [(4, iv 0), (5, .v (.pointer none))] ?_
 refine t_then ?_
 refine tri_ret ?_
 refine t_then_ret ?_
 refine tri_end1 Try.results9 (.tmp rfl) ?_
 unfold Ns.mdE; rw [if_neg hs]
 exact rfl
set_option linter.unusedSimpArgs false in
set_option linter.unusedVariables false in
set_option maxRecDepth 100000 in
set_option maxHeartbeats 6400000 in
theorem Modeled_ok {p : Fm} (HP : FmOk p) {n t f : Int} (hs : Ns.sysE p n t f = 0) : Ctr Try.prog J 9 [.agg (cFm p), .agg (cSz n t f)] (iv (Ns.mdE p n t f)) := by
 refine ctr_of_tri Try.func9 rfl (by intro X hX; simp only [List.mem_cons, List.not_mem_nil, or_false] at hX; rcases hX with rfl | rfl; exact plain_agg (plain_fm p); exact plain_agg (plain_sz n t f)) (n := 19) rfl (by simp) (fun w0 => ?_)
 refine kW 19 [] [(0, .agg (cFm p)), (1, .agg (cSz n t f))] ?_
 refine tri_seq ?_
 refine tri_region ?_
 refine oA (sp_boxR (X := .agg (cFm p)) (.tmp 0) rfl rfl rfl) I0 ?_
 refine oA (sp_boxR (X := .agg (cSz n t f)) (.tmp 1) rfl rfl rfl) I0 ?_
 refine oA (sp_assign (.const (.int .i64 0)) (iv 0) rfl) I0 ?_
 refine kN 19 [] [(2, .el (cFm p) 0), (3, .el (cSz n t f) 0), (4, iv 0)] ?_
 refine t_then ?_
 refine tri_seq ?_
 refine tri_region ?_
 refine oA (sp_loadElS (z := 10) (.tmp 2) rfl Try.underlying27 rfl (by kernel_rfl) rfl rfl) I0 ?_
 refine oA (sp_loadElS (z := 3) (.tmp 3) rfl Try.underlying29 rfl (by kernel_rfl) rfl rfl) I0 ?_
 refine oD (sp_callA (c := .func 28) (xs := #[.tmp 8, .tmp 9]) (newSystem_ok HP hs) rfl (by kernel_rfl) rfl (Xs := [.agg (cFm p), .agg (cSz n t f)]) rfl rfl) I0 I0 I0 ?_
 refine oA (sp_move (.tmp 10) (.tup [.el (Ns.sysC p n t f) 0, iv 0]) rfl) I0 ?_
 refine oA (sp_extract (X := .el (Ns.sysC p n t f) 0) (.tmp 7) rfl rfl) I0 ?_
 refine oA (sp_extract (X := iv 0) (.tmp 7) rfl rfl) I0 ?_
 refine oA (sp_assign (.tmp 11) (.el (Ns.sysC p n t f) 0) rfl) I0 ?_
 refine oA (sp_assign (.tmp 12) (iv 0) rfl) I0 ?_
 refine kN 19 [] [(4, iv 0), (5, .el (Ns.sysC p n t f) 0), (6, iv 0)] ?_
 refine t_then ?_
 refine tri_seq ?_
 refine tri_seq ?_
 refine tri_region ?_
 refine oA (sp_move (.tmp 6) (iv 0) rfl) I0 ?_
 refine oC (sp_neq (r := false) rfl (by decide)) I0 I0 ?_
 refine kN 19 [] [(4, iv 0), (5, .el (Ns.sysC p n t f) 0), (14, bv false)] ?_
 refine t_then ?_
 refine t_condF rfl ?_
 refine tri_skip ?_
 refine t_then ?_
 refine tri_seq ?_
 refine tri_region ?_
 refine oA (sp_move (.tmp 5) (.el (Ns.sysC p n t f) 0) rfl) I0 ?_
 refine oA (sp_nilEl (off := 0) (.tmp 15) rfl) I0 ?_
 refine oA (sp_fieldEl (off' := 13) (.tmp 16) rfl Try.underlying71 rfl (z := 1) (by kernel_rfl) (by decide) rfl) I0 ?_
 refine oA (sp_loadEl1 (X := iv (Ns.cntE p n f)) (.tmp 17) rfl Try.underlying3 rfl rfl) I0 ?_
 refine oA (sp_assign (.tmp 18) (iv (Ns.cntE p n f)) rfl) I0 ?_
 refine kN 19 [] [(4, iv (Ns.cntE p n f))] ?_
 refine t_then ?_
 refine tri_ret ?_
 refine tri_end1 Try.results9 (.tmp rfl) ?_
 unfold Ns.mdE; rw [if_pos hs]
 exact rfl
theorem Modeled_c {p : Fm} (HP : FmOk p) {n t f : Int} : Ctr Try.prog J 9 [.agg (cFm p), .agg (cSz n t f)] (iv (Ns.mdE p n t f)) := by
  by_cases hs : Ns.sysE p n t f = 0
  · exact Modeled_ok HP hs
  · exact Modeled_err HP hs
set_option linter.unusedSimpArgs false in
set_option linter.unusedVariables false in
set_option maxRecDepth 100000 in
set_option maxHeartbeats 6400000 in
theorem Sized_c {p : Fm} (HP : FmOk p) {n t f : Int} : Ctr Try.prog J 29 [.agg (cFm p), .agg (cSz n t f)] (iv (Ns.sysE p n t f)) := by
 refine ctr_of_tri Try.func29 rfl (by intro X hX; simp only [List.mem_cons, List.not_mem_nil, or_false] at hX; rcases hX with rfl | rfl; exact plain_agg (plain_fm p); exact plain_agg (plain_sz n t f)) (n := 18) rfl (by simp) (fun w0 => ?_)
 refine kW 18 [] [(0, .agg (cFm p)), (1, .agg (cSz n t f))] ?_
 refine tri_seq ?_
 refine tri_region ?_
 refine t_op rfl (sp_box (X := .agg (cFm p)) (k := 1) (.tmp 0) rfl rfl) ⟨I0, T0⟩ T0 rfl ?_
 refine t_op rfl (sp_box (X := .agg (cSz n t f)) (k := 2) (.tmp 1) rfl rfl) ⟨I0, T0⟩ T0 rfl ?_
 refine oA (sp_assign (.const (.int .i64 0)) (iv 0) rfl) I0 ?_
 refine kN 18 [(1, .box 27 (cFm p)), (2, .box 29 (cSz n t f))] [(2, .box 1 0), (3, .box 2 0), (4, iv 0)] ?_
 refine t_then ?_
 refine tri_seq ?_
 refine tri_seq ?_
 refine tri_region ?_
 refine oB (sp_loadBoxS (Y := .box 27 (cFm p)) (ds := cFm p) (z := 10) (.tmp 2) rfl Try.underlying27 rfl (by kernel_rfl) (by decide) (by kernel_rfl) (by kernel_rfl)) I0 rfl ?_
 refine oC (sp_call (c := .func 56) (xs := #[.tmp 6]) [] (rValidate_c HP) rfl (by kernel_rfl) rfl (Xs := [.agg (cFm p)]) rfl rfl rfl) I0 I0 ?_
 refine oA (sp_assign (.tmp 7) (iv (valE p)) rfl) I0 ?_
 refine kN 18 [(1, .box 27 (cFm p)), (2, .box 29 (cSz n t f))] [(2, .box 1 0), (3, .box 2 0), (4, iv 0), (5, iv (valE p))] ?_
 refine t_then ?_
 refine tri_seq ?_
 by_cases hs1 : valE p = 0
 refine tri_region ?_
 refine oA (sp_move (.tmp 5) (iv (valE p)) rfl) I0 ?_
 refine oC (sp_neq rfl (dT' hs1)) I0 I0 ?_
 refine kN 18 [(1, .box 27 (cFm p)), (2, .box 29 (cSz n t f))] [(2, .box 1 0), (3, .box 2 0), (4, iv 0), (5, iv (valE p)), (9, bv false)] ?_
 refine t_then ?_
 refine t_condF rfl ?_
 refine tri_skip ?_
 refine t_then ?_
 refine tri_seq ?_
 refine tri_seq ?_
 by_cases hs2 : (admB p n t f) = true
 refine tri_region ?_
 refine oB (sp_loadBoxS (Y := .box 27 (cFm p)) (ds := cFm p) (z := 10) (.tmp 2) rfl Try.underlying27 rfl (by kernel_rfl) (by decide) (by kernel_rfl) (by kernel_rfl)) I0 rfl ?_
 refine oB (sp_loadBoxS (Y := .box 29 (cSz n t f)) (ds := cSz n t f) (z := 3) (.tmp 3) rfl Try.underlying29 rfl (by kernel_rfl) (by decide) (by kernel_rfl) (by kernel_rfl)) I0 rfl ?_
 refine oD (sp_call (c := .func 57) (xs := #[.tmp 11, .tmp 12]) [] (ctr_b (radmissible_c HP n t f) hs2) rfl (by kernel_rfl) rfl (Xs := [.agg (cFm p), .agg (cSz n t f)]) rfl rfl rfl) I0 I0 I0 ?_
 refine oA (sp_not rfl rfl) I0 ?_
 refine kN 18 [(2, .box 29 (cSz n t f))] [(3, .box 2 0), (4, iv 0), (14, bv false)] ?_
 refine t_then ?_
 refine t_condF rfl ?_
 refine tri_skip ?_
 refine t_then ?_
 refine tri_seq ?_
 refine tri_seq ?_
 by_cases hs3 : 8 < n
 refine tri_region ?_
 refine oA (fB 0 (.tmp 3) rfl Try.underlying29 rfl 1 rfl) I0 ?_
 refine oB (lB (.box 29 (cSz n t f)) (iv n) (.tmp 15) rfl Try.underlying3 rfl rfl) I0 rfl ?_
 refine oC (sp_gtr rfl (dT hs3)) I0 I0 ?_
 refine kN 18 [] [(4, iv 0), (17, bv true)] ?_
 refine t_then ?_
 refine t_condT rfl ?_
 refine tri_seq ?_
 refine tri_region ?_
 refine oA (sp_assign (.const (.int .i64 4)) (iv 4) rfl) I0 ?_
 refine kN 18 [] [(4, iv 4)] ?_
 refine t_then ?_
 refine tri_ret ?_
 refine t_then_ret ?_
 refine tri_end1 Try.results29 (.tmp rfl) ?_
 rw [Ns.sys_e3 hs1 hs2 hs3]
 exact rfl
 refine tri_region ?_
 refine oA (fB 0 (.tmp 3) rfl Try.underlying29 rfl 1 rfl) I0 ?_
 refine oB (lB (.box 29 (cSz n t f)) (iv n) (.tmp 15) rfl Try.underlying3 rfl rfl) I0 rfl ?_
 refine oC (sp_gtr rfl (dF hs3)) I0 I0 ?_
 refine kN 18 [] [(4, iv 0), (17, bv false)] ?_
 refine t_then ?_
 refine t_condF rfl ?_
 refine tri_skip ?_
 refine t_then ?_
 refine tri_seq ?_
 refine tri_region ?_
 refine oA (sp_assign (.const (.int .i64 0)) (iv 0) rfl) I0 ?_
 refine kN 18 [] [(4, iv 0)] ?_
 refine t_then ?_
 refine tri_ret ?_
 refine tri_end1 Try.results29 (.tmp rfl) ?_
 rw [Ns.sys_e4 hs1 hs2 hs3]
 exact rfl
 have hs2f : (admB p n t f) = false := by simpa using hs2
 refine tri_region ?_
 refine oB (sp_loadBoxS (Y := .box 27 (cFm p)) (ds := cFm p) (z := 10) (.tmp 2) rfl Try.underlying27 rfl (by kernel_rfl) (by decide) (by kernel_rfl) (by kernel_rfl)) I0 rfl ?_
 refine oB (sp_loadBoxS (Y := .box 29 (cSz n t f)) (ds := cSz n t f) (z := 3) (.tmp 3) rfl Try.underlying29 rfl (by kernel_rfl) (by decide) (by kernel_rfl) (by kernel_rfl)) I0 rfl ?_
 refine oD (sp_call (c := .func 57) (xs := #[.tmp 11, .tmp 12]) [] (ctr_b (radmissible_c HP n t f) hs2f) rfl (by kernel_rfl) rfl (Xs := [.agg (cFm p), .agg (cSz n t f)]) rfl rfl rfl) I0 I0 I0 ?_
 refine oA (sp_not rfl rfl) I0 ?_
 refine kN 18 [(2, .box 29 (cSz n t f))] [(3, .box 2 0), (4, iv 0), (14, bv true)] ?_
 refine t_then ?_
 refine t_condT rfl ?_
 refine tri_seq ?_
 refine tri_region ?_
 refine oA (sp_assign (.const (.int .i64 8)) (iv 8) rfl) I0 ?_
 refine kN 18 [(2, .box 29 (cSz n t f))] [(3, .box 2 0), (4, iv 8)] ?_
 refine t_then ?_
 refine tri_ret ?_
 refine t_then_ret ?_
 refine tri_end1 Try.results29 (.tmp rfl) ?_
 rw [Ns.sys_e2 hs1 hs2f]
 exact rfl
 refine tri_region ?_
 refine oA (sp_move (.tmp 5) (iv (valE p)) rfl) I0 ?_
 refine oC (sp_neq rfl (dF' hs1)) I0 I0 ?_
 refine kN 18 [(1, .box 27 (cFm p)), (2, .box 29 (cSz n t f))] [(2, .box 1 0), (3, .box 2 0), (4, iv 0), (5, iv (valE p)), (9, bv true)] ?_
 refine t_then ?_
 refine t_condT rfl ?_
 refine tri_seq ?_
 refine tri_region ?_
 refine oA (sp_move (.tmp 5) (iv (valE p)) rfl) I0 ?_
 refine oA (sp_assign (.tmp 10) (iv (valE p)) rfl) I0 ?_
 refine kN 18 [(1, .box 27 (cFm p)), (2, .box 29 (cSz n t f))] [(2, .box 1 0), (3, .box 2 0), (4, iv (valE p))] ?_
 refine t_then ?_
 refine tri_ret ?_
 refine t_then_ret ?_
 refine tri_end1 Try.results29 (.tmp rfl) ?_
 rw [Ns.sys_e1 hs1]
 exact rfl
set_option linter.unusedSimpArgs false in
set_option linter.unusedVariables false in
set_option maxRecDepth 100000 in
set_option maxHeartbeats 6400000 in
theorem modeled_c {p : Fm} {n t f : Int} (hai : 1 ≤ n ∧ n ≤ 1048576 ∧ 0 ≤ f ∧ f ≤ n) : Ctr Try.prog J 30 [.agg (cFm p), .agg (cSz n t f)] (iv (Ns.cntE p n f)) := by
 refine ctr_of_tri Try.func30 rfl (by intro X hX; simp only [List.mem_cons, List.not_mem_nil, or_false] at hX; rcases hX with rfl | rfl; exact plain_agg (plain_fm p); exact plain_agg (plain_sz n t f)) (n := 15) rfl (by simp) (fun w0 => ?_)
 refine kW 15 [] [(0, .agg (cFm p)), (1, .agg (cSz n t f))] ?_
 refine tri_seq ?_
 refine tri_region ?_
 refine t_op rfl (sp_box (X := .agg (cFm p)) (k := 1) (.tmp 0) rfl rfl) ⟨I0, T0⟩ T0 rfl ?_
 refine t_op rfl (sp_box (X := .agg (cSz n t f)) (k := 2) (.tmp 1) rfl rfl) ⟨I0, T0⟩ T0 rfl ?_
 refine oA (sp_assign (.const (.int .i64 0)) (iv 0) rfl) I0 ?_
 refine kN 15 [(1, .box 27 (cFm p)), (2, .box 29 (cSz n t f))] [(2, .box 1 0), (3, .box 2 0), (4, iv 0)] ?_
 refine t_then ?_
 refine tri_seq ?_
 refine tri_seq ?_
 by_cases hs1 : p.fault = 3
 refine tri_region ?_
 refine oA (fB 5 (.tmp 2) rfl Try.underlying27 rfl 1 rfl) I0 ?_
 refine oB (lB (.box 27 (cFm p)) (iv p.fault) (.tmp 5) rfl Try.underlying3 rfl rfl) I0 rfl ?_
 refine oC (sp_eql rfl (dT hs1)) I0 I0 ?_
 refine kN 15 [(2, .box 29 (cSz n t f))] [(3, .box 2 0), (4, iv 0), (7, bv true)] ?_
 refine t_then ?_
 refine t_condT rfl ?_
 refine tri_seq ?_
 refine tri_region ?_
 refine oA (fB 0 (.tmp 3) rfl Try.underlying29 rfl 1 rfl) I0 ?_
 refine oB (lB (.box 29 (cSz n t f)) (iv n) (.tmp 8) rfl Try.underlying3 rfl rfl) I0 rfl ?_
 refine oA (fB 2 (.tmp 3) rfl Try.underlying29 rfl 1 rfl) I0 ?_
 refine oB (lB (.box 29 (cSz n t f)) (iv f) (.tmp 10) rfl Try.underlying3 rfl rfl) I0 rfl ?_
 refine oC (sp_sub (c := n - f) rfl (w64 (by omega) (by omega) (by omega))) I0 I0 ?_
 refine oA (sp_assign (.tmp 12) (iv (n - f)) rfl) I0 ?_
 refine kN 15 [(2, .box 29 (cSz n t f))] [(3, .box 2 0), (4, iv (n - f))] ?_
 refine t_then ?_
 refine tri_ret ?_
 refine t_then_ret ?_
 refine tri_end1 Try.results30 (.tmp rfl) ?_
 rw [show Ns.cntE p n f = n - f from if_pos hs1]
 exact rfl
 refine tri_region ?_
 refine oA (fB 5 (.tmp 2) rfl Try.underlying27 rfl 1 rfl) I0 ?_
 refine oB (lB (.box 27 (cFm p)) (iv p.fault) (.tmp 5) rfl Try.underlying3 rfl rfl) I0 rfl ?_
 refine oC (sp_eql rfl (dF hs1)) I0 I0 ?_
 refine kN 15 [(2, .box 29 (cSz n t f))] [(3, .box 2 0), (4, iv 0), (7, bv false)] ?_
 refine t_then ?_
 refine t_condF rfl ?_
 refine tri_skip ?_
 refine t_then ?_
 refine tri_seq ?_
 refine tri_region ?_
 refine oA (fB 0 (.tmp 3) rfl Try.underlying29 rfl 1 rfl) I0 ?_
 refine oB (lB (.box 29 (cSz n t f)) (iv n) (.tmp 13) rfl Try.underlying3 rfl rfl) I0 rfl ?_
 refine oA (sp_assign (.tmp 14) (iv n) rfl) I0 ?_
 refine kN 15 [] [(4, iv n)] ?_
 refine t_then ?_
 refine tri_ret ?_
 refine tri_end1 Try.results30 (.tmp rfl) ?_
 rw [show Ns.cntE p n f = n from if_neg hs1]
 exact rfl
set_option linter.unusedSimpArgs false in
set_option linter.unusedVariables false in
set_option maxRecDepth 100000 in
set_option maxHeartbeats 6400000 in
theorem rModeled_c {p : Fm} (HP : FmOk p) {n t f : Int} : Ctr Try.prog J 10 [.agg (cFm p), .agg (cSz n t f)] (iv (Ns.mdE p n t f)) := by
 refine ctr_of_tri Try.func10 rfl (by intro X hX; simp only [List.mem_cons, List.not_mem_nil, or_false] at hX; rcases hX with rfl | rfl; exact plain_agg (plain_fm p); exact plain_agg (plain_sz n t f)) (n := 12) rfl (by simp) (fun w0 => ?_)
 refine kW 12 [] [(0, .agg (cFm p)), (1, .agg (cSz n t f))] ?_
 refine tri_seq ?_
 refine tri_region ?_
 refine t_op rfl (sp_box (X := .agg (cFm p)) (k := 1) (.tmp 0) rfl rfl) ⟨I0, T0⟩ T0 rfl ?_
 refine t_op rfl (sp_box (X := .agg (cSz n t f)) (k := 2) (.tmp 1) rfl rfl) ⟨I0, T0⟩ T0 rfl ?_
 refine oA (sp_assign (.const (.int .i64 0)) (iv 0) rfl) I0 ?_
 refine kN 12 [(1, .box 27 (cFm p)), (2, .box 29 (cSz n t f))] [(2, .box 1 0), (3, .box 2 0), (4, iv 0)] ?_
 refine t_then ?_
 refine tri_seq ?_
 refine tri_seq ?_
 by_cases hs1 : (Ns.sysE p n t f) = 0
 refine tri_region ?_
 refine oB (sp_loadBoxS (Y := .box 27 (cFm p)) (ds := cFm p) (z := 10) (.tmp 2) rfl Try.underlying27 rfl (by kernel_rfl) (by decide) (by kernel_rfl) (by kernel_rfl)) I0 rfl ?_
 refine oB (sp_loadBoxS (Y := .box 29 (cSz n t f)) (ds := cSz n t f) (z := 3) (.tmp 3) rfl Try.underlying29 rfl (by kernel_rfl) (by decide) (by kernel_rfl) (by kernel_rfl)) I0 rfl ?_
 refine oD (sp_call (c := .func 29) (xs := #[.tmp 5, .tmp 6]) [] (Sized_c HP) rfl (by kernel_rfl) rfl (Xs := [.agg (cFm p), .agg (cSz n t f)]) rfl rfl rfl) I0 I0 I0 ?_
 refine oC (sp_neq rfl (dT' hs1)) I0 I0 ?_
 refine kN 12 [(1, .box 27 (cFm p)), (2, .box 29 (cSz n t f))] [(2, .box 1 0), (3, .box 2 0), (4, iv 0), (8, bv false)] ?_
 refine t_then ?_
 refine t_condF rfl ?_
 refine tri_skip ?_
 refine t_then ?_
 refine tri_seq ?_
 refine tri_region ?_
 refine oB (sp_loadBoxS (Y := .box 27 (cFm p)) (ds := cFm p) (z := 10) (.tmp 2) rfl Try.underlying27 rfl (by kernel_rfl) (by decide) (by kernel_rfl) (by kernel_rfl)) I0 rfl ?_
 refine oB (sp_loadBoxS (Y := .box 29 (cSz n t f)) (ds := cSz n t f) (z := 3) (.tmp 3) rfl Try.underlying29 rfl (by kernel_rfl) (by decide) (by kernel_rfl) (by kernel_rfl)) I0 rfl ?_
 refine oD (sp_call (c := .func 30) (xs := #[.tmp 9, .tmp 10]) [] (modeled_c (Ns.adm_in (Ns.sys_ok hs1).2.1)) rfl (by kernel_rfl) rfl (Xs := [.agg (cFm p), .agg (cSz n t f)]) rfl rfl rfl) I0 I0 I0 ?_
 refine oA (sp_assign (.tmp 11) (iv (Ns.cntE p n f)) rfl) I0 ?_
 refine kN 12 [] [(4, iv (Ns.cntE p n f))] ?_
 refine t_then ?_
 refine tri_ret ?_
 refine tri_end1 Try.results10 (.tmp rfl) ?_
 unfold Ns.mdE; rw [if_pos hs1]
 exact rfl
 refine tri_region ?_
 refine oB (sp_loadBoxS (Y := .box 27 (cFm p)) (ds := cFm p) (z := 10) (.tmp 2) rfl Try.underlying27 rfl (by kernel_rfl) (by decide) (by kernel_rfl) (by kernel_rfl)) I0 rfl ?_
 refine oB (sp_loadBoxS (Y := .box 29 (cSz n t f)) (ds := cSz n t f) (z := 3) (.tmp 3) rfl Try.underlying29 rfl (by kernel_rfl) (by decide) (by kernel_rfl) (by kernel_rfl)) I0 rfl ?_
 refine oD (sp_call (c := .func 29) (xs := #[.tmp 5, .tmp 6]) [] (Sized_c HP) rfl (by kernel_rfl) rfl (Xs := [.agg (cFm p), .agg (cSz n t f)]) rfl rfl rfl) I0 I0 I0 ?_
 refine oC (sp_neq rfl (dF' hs1)) I0 I0 ?_
 refine kN 12 [(1, .box 27 (cFm p)), (2, .box 29 (cSz n t f))] [(2, .box 1 0), (3, .box 2 0), (4, iv 0), (8, bv true)] ?_
 refine t_then ?_
 refine t_condT rfl ?_
 refine tri_seq ?_
 refine tri_region ?_
 refine oA (sp_assign (.const (.int .i64 0)) (iv 0) rfl) I0 ?_
 refine kN 12 [(1, .box 27 (cFm p)), (2, .box 29 (cSz n t f))] [(2, .box 1 0), (3, .box 2 0), (4, iv 0)] ?_
 refine t_then ?_
 refine tri_ret ?_
 refine t_then_ret ?_
 refine tri_end1 Try.results10 (.tmp rfl) ?_
 unfold Ns.mdE; rw [if_neg hs1]
 exact rfl
set_option linter.unusedSimpArgs false in
set_option linter.unusedVariables false in
set_option maxRecDepth 100000 in
set_option maxHeartbeats 6400000 in
theorem lawModels_c {p : Fm} (HP : FmOk p) {n t f : Int} : Ctr Try.prog J 3 [.agg (cFm p), .agg (cSz n t f)] (bv true) := by
 refine ctr_of_tri Try.func3 rfl (by intro X hX; simp only [List.mem_cons, List.not_mem_nil, or_false] at hX; rcases hX with rfl | rfl; exact plain_agg (plain_fm p); exact plain_agg (plain_sz n t f)) (n := 18) rfl (by simp) (fun w0 => ?_)
 refine kW 18 [] [(0, .agg (cFm p)), (1, .agg (cSz n t f))] ?_
 refine tri_seq ?_
 refine tri_region ?_
 refine t_op rfl (sp_box (X := .agg (cFm p)) (k := 1) (.tmp 0) rfl rfl) ⟨I0, T0⟩ T0 rfl ?_
 refine t_op rfl (sp_box (X := .agg (cSz n t f)) (k := 2) (.tmp 1) rfl rfl) ⟨I0, T0⟩ T0 rfl ?_
 refine oA (sp_assign (.const (.bool false)) (bv false) rfl) I0 ?_
 refine kN 18 [(1, .box 27 (cFm p)), (2, .box 29 (cSz n t f))] [(2, .box 1 0), (3, .box 2 0), (4, bv false)] ?_
 refine t_then ?_
 refine tri_seq ?_
 refine tri_seq ?_
 by_cases hs1 : (bigF p) = true
 refine tri_region ?_
 refine oB (sp_loadBoxS (Y := .box 27 (cFm p)) (ds := cFm p) (z := 10) (.tmp 2) rfl Try.underlying27 rfl (by kernel_rfl) (by decide) (by kernel_rfl) (by kernel_rfl)) I0 rfl ?_
 refine oC (sp_call (c := .func 7) (xs := #[.tmp 5]) [] (ctr_b (Big_c HP) hs1) rfl (by kernel_rfl) rfl (Xs := [.agg (cFm p)]) rfl rfl rfl) I0 I0 ?_
 refine kN 18 [(1, .box 27 (cFm p)), (2, .box 29 (cSz n t f))] [(2, .box 1 0), (3, .box 2 0), (4, bv false), (6, bv true)] ?_
 refine t_then ?_
 refine t_condT rfl ?_
 refine tri_seq ?_
 refine tri_region ?_
 refine oA (sp_call (c := .func 8) (xs := #[]) [] Sh.zknown_c rfl (by kernel_rfl) rfl (Xs := []) rfl rfl rfl) I0 ?_
 refine oA (sp_assign (.tmp 7) (bv true) rfl) I0 ?_
 refine kN 18 [(1, .box 27 (cFm p)), (2, .box 29 (cSz n t f))] [(2, .box 1 0), (3, .box 2 0), (4, bv true)] ?_
 refine t_then ?_
 refine tri_ret ?_
 refine t_then_ret ?_
 refine tri_end1 Try.results3 (.tmp rfl) ?_
 exact rfl
 have hs1f : (bigF p) = false := by simpa using hs1
 refine tri_region ?_
 refine oB (sp_loadBoxS (Y := .box 27 (cFm p)) (ds := cFm p) (z := 10) (.tmp 2) rfl Try.underlying27 rfl (by kernel_rfl) (by decide) (by kernel_rfl) (by kernel_rfl)) I0 rfl ?_
 refine oC (sp_call (c := .func 7) (xs := #[.tmp 5]) [] (ctr_b (Big_c HP) hs1f) rfl (by kernel_rfl) rfl (Xs := [.agg (cFm p)]) rfl rfl rfl) I0 I0 ?_
 refine kN 18 [(1, .box 27 (cFm p)), (2, .box 29 (cSz n t f))] [(2, .box 1 0), (3, .box 2 0), (4, bv false), (6, bv false)] ?_
 refine t_then ?_
 refine t_condF rfl ?_
 refine tri_skip ?_
 refine t_then ?_
 refine tri_seq ?_
 refine tri_draw [⟨[(.tmp 2, .box 1 0)], [(1, .box 27 (cFm p))], .agg (cFm p), .no⟩, ⟨[(.tmp 3, .box 2 0)], [(2, .box 29 (cSz n t f))], .agg (cSz n t f), .no⟩, ⟨[(.func 9, .v (.func (.func 9) #[] #[])), (.tmp 8, .agg (cFm p)), (.tmp 9, .agg (cSz n t f))], [], iv (Ns.mdE p n t f), .no⟩, ⟨[(.tmp 2, .box 1 0)], [(1, .box 27 (cFm p))], .agg (cFm p), .no⟩, ⟨[(.tmp 3, .box 2 0)], [(2, .box 29 (cSz n t f))], .agg (cSz n t f), .no⟩, ⟨[(.func 10, .v (.func (.func 10) #[] #[])), (.tmp 11, .agg (cFm p)), (.tmp 12, .agg (cSz n t f))], [], iv (Ns.mdE p n t f), .no⟩, ⟨[(.tmp 10, iv (Ns.mdE p n t f)), (.tmp 13, iv (Ns.mdE p n t f))], [], bv true, .no⟩, ⟨[(.tmp 14, bv true)], [], bv true, .no⟩, ⟨[(.func 8, .v (.func (.func 8) #[] #[]))], [], bv true, .no⟩, ⟨[(.tmp 15, bv true), (.tmp 16, bv true), (.const (.bool false), bv false)], [], bv true, .no⟩, ⟨[(.tmp 17, bv true)], [], bv true, .no⟩] (by kernel_rfl) (by kernel_rfl) ?_
 refine ⟨app_yes rfl (sp_loadBoxS (Y := .box 27 (cFm p)) (ds := cFm p) (z := 10) (.tmp 2) rfl Try.underlying27 rfl (by kernel_rfl) (by decide) (by kernel_rfl) (by kernel_rfl)) ⟨I0, T0⟩ ⟨rfl, T0⟩ T0, ?_⟩
 refine ⟨app_yes rfl (sp_loadBoxS (Y := .box 29 (cSz n t f)) (ds := cSz n t f) (z := 3) (.tmp 3) rfl Try.underlying29 rfl (by kernel_rfl) (by decide) (by kernel_rfl) (by kernel_rfl)) ⟨I0, T0⟩ ⟨rfl, T0⟩ T0, ?_⟩
 refine ⟨app_yes rfl (sp_call (c := .func 9) (xs := #[.tmp 8, .tmp 9]) [] (Modeled_c HP) rfl (by kernel_rfl) rfl (Xs := [.agg (cFm p), .agg (cSz n t f)]) rfl rfl rfl) ⟨I0, I0, I0, T0⟩ T0 T0, ?_⟩
 refine ⟨app_yes rfl (sp_loadBoxS (Y := .box 27 (cFm p)) (ds := cFm p) (z := 10) (.tmp 2) rfl Try.underlying27 rfl (by kernel_rfl) (by decide) (by kernel_rfl) (by kernel_rfl)) ⟨I0, T0⟩ ⟨rfl, T0⟩ T0, ?_⟩
 refine ⟨app_yes rfl (sp_loadBoxS (Y := .box 29 (cSz n t f)) (ds := cSz n t f) (z := 3) (.tmp 3) rfl Try.underlying29 rfl (by kernel_rfl) (by decide) (by kernel_rfl) (by kernel_rfl)) ⟨I0, T0⟩ ⟨rfl, T0⟩ T0, ?_⟩
 refine ⟨app_yes rfl (sp_call (c := .func 10) (xs := #[.tmp 11, .tmp 12]) [] (rModeled_c HP) rfl (by kernel_rfl) rfl (Xs := [.agg (cFm p), .agg (cSz n t f)]) rfl rfl rfl) ⟨I0, I0, I0, T0⟩ T0 T0, ?_⟩
 refine ⟨app_yes rfl (sp_eql rfl (dT rfl)) ⟨I0, I0, T0⟩ T0 T0, ?_⟩
 refine ⟨app_yes rfl (sp_move (.tmp 14) (bv true) rfl) ⟨I0, T0⟩ T0 T0, ?_⟩
 refine ⟨app_yes rfl (sp_call (c := .func 8) (xs := #[]) [] Sh.zknown_c rfl (by kernel_rfl) rfl (Xs := []) rfl rfl rfl) ⟨I0, T0⟩ T0 T0, ?_⟩
 refine ⟨app_yes rfl (sp_pick (.tmp 15) (.tmp 16) (.const (.bool false)) true (bv true) (bv false) rfl) ⟨I0, I0, I0, T0⟩ T0 T0, ?_⟩
 refine ⟨app_yes rfl (sp_assign (.tmp 17) (bv true) rfl) ⟨I0, T0⟩ T0 T0, ?_⟩
 show ETri J w0 _ _ _
 refine kW 18 [] [(4, bv true)] ?_
 refine t_then ?_
 refine tri_ret ?_
 refine tri_end1 Try.results3 (.tmp rfl) ?_
 exact rfl
theorem walk_Models {v : Value} {p : Fm} {n t f : Int} (w : World) (h : IsFam 0 w v p) (_ : I64 n) (_ : I64 t) (_ : I64 f) :
    Calls Try.prog 3 #[v, .agg #[.int .i64 n, .int .i64 t, .int .i64 f]] w fun e w' => e = .returned (.bool true) ∧ Below w.heap.size w w' :=
  (lawModels_c (J := fun _ => True) h.ok w #[v, .agg #[.int .i64 n, .int .i64 t, .int .i64 f]] (fun _ _ => T0) rfl fun j hj => (match j, hj with
    | 0, _ => famw h
    | 1, _ => .agg rfl fun j hj => (match j, hj with | 0, _ => .v _ | 1, _ => .v _ | 2, _ => .v _))).mono fun _ _ ⟨_, he, hp, hb⟩ => ⟨by rw [he, hp.v_inv], hb⟩
end Go.Proofs.Ytgbgfkhkjlakbaa

namespace Go.Proofs.Ytgbgfkhkjlakbaa
open Go.RowKit Go.Deep Go.ChangeShapes Go.WideShapes Go.ChangeAt Go.Joins
end Go.Proofs.Ytgbgfkhkjlakbaa
