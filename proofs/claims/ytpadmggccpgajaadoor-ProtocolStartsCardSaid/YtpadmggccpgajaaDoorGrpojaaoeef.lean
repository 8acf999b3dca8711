import Derived.Test.YtpadmggccpgajaaDoorGrpcjoinjol
import Derived.Test.YtpadmggccpgajaaDoorGrpcmcmgfkg
import Derived.Test.YtpadmggccpgajaaDoorGrpcamloabo
import Derived.Test.YtpadmggccpgajaaDoorGrpmhappimk
set_option linter.all false
namespace Go.Proofs.YtpadmggccpgajaaDoor
open Go.RowKit Go.Deep
variable {J : World → Prop}
set_option linter.unusedSimpArgs false in
set_option linter.unusedVariables false in
set_option maxRecDepth 100000 in
set_option maxHeartbeats 6400000 in
theorem qStarts_c {p : Fm} (HP : FmOk p) (LP : FamLen p) {q : Pq} (HQ : PqOk q) (LQ : PqLen q) : Ctr Tryd.prog J 17 [.agg (cFm p), .agg (cPq q)] (.tup [intsA (stL p q), iv (vpE p q)]) := by
 have l1 := LQ.start
 refine ctr_of_tri Tryd.func17 rfl (by intro X hX; simp only [List.mem_cons, List.not_mem_nil, or_false] at hX; rcases hX with rfl | rfl; exact plain_agg (plain_fm p); exact plain_agg (plain_pq q)) (n := 23) rfl (by simp) (fun w0 => ?_)
 refine kW 23 [] [(0, .agg (cFm p)), (1, .agg (cPq q))] ?_
 refine tri_seq ?_
 refine tri_region ?_
 refine t_op rfl (sp_box (X := .agg (cFm p)) (k := 1) (.tmp 0) rfl rfl) ⟨I0, T0⟩ T0 rfl ?_
 refine t_op rfl (sp_box (X := .agg (cPq q)) (k := 2) (.tmp 1) rfl rfl) ⟨I0, T0⟩ T0 rfl ?_
 refine oA (sp_assign (.const (.slice none 0 0)) (.v (.slice none 0 0)) rfl) I0 ?_
 refine oA (sp_assign (.const (.int .i64 0)) (iv 0) rfl) I0 ?_
 refine kN 23 [(1, .box 27 (cFm p)), (2, .box 30 (cPq q))] [(2, .box 1 0), (3, .box 2 0), (4, .v (.slice none 0 0)), (5, iv 0)] ?_
 refine t_then ?_
 refine tri_seq ?_
 refine tri_seq ?_
 refine tri_region ?_
 refine oB (sp_loadBoxS (Y := .box 27 (cFm p)) (ds := cFm p) (z := 10) (.tmp 2) rfl Tryd.underlying27 rfl (by kernel_rfl) (by decide) (by kernel_rfl) (by kernel_rfl)) I0 rfl ?_
 refine oB (sp_loadBoxS (Y := .box 30 (cPq q)) (ds := cPq q) (z := 6) (.tmp 3) rfl Tryd.underlying30 rfl (by kernel_rfl) (by decide) (by kernel_rfl) (by kernel_rfl)) I0 rfl ?_
 refine oD (sp_call (c := .func 49) (xs := #[.tmp 7, .tmp 8]) [] (qValidateProperty_c HP HQ) rfl (by kernel_rfl) rfl (Xs := [.agg (cFm p), .agg (cPq q)]) rfl rfl rfl) I0 I0 I0 ?_
 refine oA (sp_assign (.tmp 9) (iv (vpE p q)) rfl) I0 ?_
 refine kN 23 [(1, .box 27 (cFm p)), (2, .box 30 (cPq q))] [(2, .box 1 0), (3, .box 2 0), (4, .v (.slice none 0 0)), (5, iv 0), (6, iv (vpE p q))] ?_
 refine t_then ?_
 refine tri_seq ?_
 by_cases hs1 : vpE p q = 0
 refine tri_region ?_
 refine oA (sp_move (.tmp 6) (iv (vpE p q)) rfl) I0 ?_
 refine oC (sp_neq rfl (dT' hs1)) I0 I0 ?_
 refine kN 23 [(1, .box 27 (cFm p)), (2, .box 30 (cPq q))] [(2, .box 1 0), (3, .box 2 0), (4, .v (.slice none 0 0)), (5, iv 0), (6, iv (vpE p q)), (11, bv false)] ?_
 refine t_then ?_
 refine t_condF rfl ?_
 refine tri_skip ?_
 refine t_then ?_
 refine tri_seq ?_
 refine tri_seq ?_
 by_cases hs2 : 0 < ((q.start.length : Nat) : Int)
 refine tri_region ?_
 refine oA (fB 2 (.tmp 3) rfl Tryd.underlying30 rfl 1 rfl) I0 ?_
 refine oB (lB (.box 30 (cPq q)) (intsA q.start) (.tmp 13) rfl Tryd.underlying24 rfl rfl) I0 rfl ?_
 refine oA (sp_lenSl (.tmp 14) rfl Tryd.underlying24) I0 ?_
 refine oC (sp_gtr rfl (dT hs2)) I0 I0 ?_
 refine kN 23 [(1, .box 27 (cFm p)), (2, .box 30 (cPq q))] [(2, .box 1 0), (3, .box 2 0), (4, .v (.slice none 0 0)), (5, iv 0), (16, bv true)] ?_
 refine t_then ?_
 refine t_condT rfl ?_
 refine tri_seq ?_
 refine tri_region ?_
 refine oA (fB 2 (.tmp 3) rfl Tryd.underlying30 rfl 1 rfl) I0 ?_
 refine oB (lB (.box 30 (cPq q)) (intsA q.start) (.tmp 17) rfl Tryd.underlying24 rfl rfl) I0 rfl ?_
 refine oC (sp_call (c := .func 50) (xs := #[.tmp 18]) [] (Clone_c q.start HQ.start (Nat.le_trans LQ.start (by decide))) rfl (by kernel_rfl) rfl (Xs := [intsA q.start]) rfl rfl rfl) I0 I0 ?_
 refine oA (sp_assign (.tmp 19) (.fr (intsA q.start)) rfl) I0 ?_
 refine oA (sp_assign (.const (.int .i64 0)) (iv 0) rfl) I0 ?_
 refine kN 23 [(1, .box 27 (cFm p))] [(2, .box 1 0), (4, .fr (intsA q.start)), (5, iv 0)] ?_
 refine t_then ?_
 refine tri_ret ?_
 refine t_then_ret ?_
 refine tri_end2 Tryd.results17 (.tmp rfl) (.tmp rfl) ?_
 exact st_s hs1 hs2
 refine tri_region ?_
 refine oA (fB 2 (.tmp 3) rfl Tryd.underlying30 rfl 1 rfl) I0 ?_
 refine oB (lB (.box 30 (cPq q)) (intsA q.start) (.tmp 13) rfl Tryd.underlying24 rfl rfl) I0 rfl ?_
 refine oA (sp_lenSl (.tmp 14) rfl Tryd.underlying24) I0 ?_
 refine oC (sp_gtr rfl (dF hs2)) I0 I0 ?_
 refine kN 23 [(1, .box 27 (cFm p)), (2, .box 30 (cPq q))] [(2, .box 1 0), (3, .box 2 0), (4, .v (.slice none 0 0)), (5, iv 0), (16, bv false)] ?_
 refine t_then ?_
 refine t_condF rfl ?_
 refine tri_skip ?_
 refine t_then ?_
 refine tri_seq ?_
 refine tri_region ?_
 refine oA (fB 7 (.tmp 2) rfl Tryd.underlying27 rfl 1 rfl) I0 ?_
 refine oB (lB (.box 27 (cFm p)) (intsA p.init) (.tmp 20) rfl Tryd.underlying24 rfl rfl) I0 rfl ?_
 refine oC (sp_call (c := .func 50) (xs := #[.tmp 21]) [] (Clone_c p.init HP.init (Nat.le_trans LP.init (by decide))) rfl (by kernel_rfl) rfl (Xs := [intsA p.init]) rfl rfl rfl) I0 I0 ?_
 refine oA (sp_assign (.tmp 22) (.fr (intsA p.init)) rfl) I0 ?_
 refine oA (sp_assign (.const (.int .i64 0)) (iv 0) rfl) I0 ?_
 refine kN 23 [] [(4, .fr (intsA p.init)), (5, iv 0)] ?_
 refine t_then ?_
 refine tri_ret ?_
 refine tri_end2 Tryd.results17 (.tmp rfl) (.tmp rfl) ?_
 exact st_i hs1 hs2
 refine tri_region ?_
 refine oA (sp_move (.tmp 6) (iv (vpE p q)) rfl) I0 ?_
 refine oC (sp_neq rfl (dF' hs1)) I0 I0 ?_
 refine kN 23 [(1, .box 27 (cFm p)), (2, .box 30 (cPq q))] [(2, .box 1 0), (3, .box 2 0), (4, .v (.slice none 0 0)), (5, iv 0), (6, iv (vpE p q)), (11, bv true)] ?_
 refine t_then ?_
 refine t_condT rfl ?_
 refine tri_seq ?_
 refine tri_region ?_
 refine oA (sp_move (.tmp 6) (iv (vpE p q)) rfl) I0 ?_
 refine oA (sp_assign (.const (.slice none 0 0)) (.v (.slice none 0 0)) rfl) I0 ?_
 refine oA (sp_assign (.tmp 12) (iv (vpE p q)) rfl) I0 ?_
 refine kN 23 [(1, .box 27 (cFm p)), (2, .box 30 (cPq q))] [(2, .box 1 0), (3, .box 2 0), (4, .v (.slice none 0 0)), (5, iv (vpE p q))] ?_
 refine t_then ?_
 refine tri_ret ?_
 refine t_then_ret ?_
 refine tri_wk (wk_adopt 4 3 true 3 1 rfl rfl rfl) ?_
 refine tri_end2 Tryd.results17 (.tmp rfl) (.tmp rfl) ?_
 exact st_err hs1
set_option linter.unusedSimpArgs false in
set_option linter.unusedVariables false in
set_option maxRecDepth 100000 in
set_option maxHeartbeats 6400000 in
theorem rStartStates_c {p : Fm} (HP : FmOk p) (LP : FamLen p) {q : Pq} (HQ : PqOk q) (LQ : PqLen q) : Ctr Tryd.prog J 52 [.agg (cFm p), .agg (cPq q)] (intsA (if q.start = [] then p.init else q.start)) := by
 have l1 := LQ.start
 refine ctr_of_tri Tryd.func52 rfl (by intro X hX; simp only [List.mem_cons, List.not_mem_nil, or_false] at hX; rcases hX with rfl | rfl; exact plain_agg (plain_fm p); exact plain_agg (plain_pq q)) (n := 15) rfl (by simp) (fun w0 => ?_)
 refine kW 15 [] [(0, .agg (cFm p)), (1, .agg (cPq q))] ?_
 refine tri_seq ?_
 refine tri_region ?_
 refine t_op rfl (sp_box (X := .agg (cFm p)) (k := 1) (.tmp 0) rfl rfl) ⟨I0, T0⟩ T0 rfl ?_
 refine t_op rfl (sp_box (X := .agg (cPq q)) (k := 2) (.tmp 1) rfl rfl) ⟨I0, T0⟩ T0 rfl ?_
 refine oA (sp_assign (.const (.slice none 0 0)) (.v (.slice none 0 0)) rfl) I0 ?_
 refine kN 15 [(1, .box 27 (cFm p)), (2, .box 30 (cPq q))] [(2, .box 1 0), (3, .box 2 0), (4, .v (.slice none 0 0))] ?_
 refine t_then ?_
 refine tri_seq ?_
 refine tri_seq ?_
 by_cases hs1 : 0 < ((q.start.length : Nat) : Int)
 refine tri_region ?_
 refine oA (fB 2 (.tmp 3) rfl Tryd.underlying30 rfl 1 rfl) I0 ?_
 refine oB (lB (.box 30 (cPq q)) (intsA q.start) (.tmp 5) rfl Tryd.underlying24 rfl rfl) I0 rfl ?_
 refine oA (sp_lenSl (.tmp 6) rfl Tryd.underlying24) I0 ?_
 refine oC (sp_gtr rfl (dT hs1)) I0 I0 ?_
 refine kN 15 [(1, .box 27 (cFm p)), (2, .box 30 (cPq q))] [(2, .box 1 0), (3, .box 2 0), (4, .v (.slice none 0 0)), (8, bv true)] ?_
 refine t_then ?_
 refine t_condT rfl ?_
 refine tri_seq ?_
 refine tri_region ?_
 refine oA (fB 2 (.tmp 3) rfl Tryd.underlying30 rfl 1 rfl) I0 ?_
 refine oB (lB (.box 30 (cPq q)) (intsA q.start) (.tmp 9) rfl Tryd.underlying24 rfl rfl) I0 rfl ?_
 refine oC (sp_call (c := .func 39) (xs := #[.tmp 10]) [] (CopyInts_c q.start (Nat.le_trans LQ.start (by decide))) rfl (by kernel_rfl) rfl (Xs := [intsA q.start]) rfl rfl rfl) I0 I0 ?_
 refine oA (sp_assign (.tmp 11) (.fr (intsA q.start)) rfl) I0 ?_
 refine kN 15 [(1, .box 27 (cFm p))] [(2, .box 1 0), (4, .fr (intsA q.start))] ?_
 refine t_then ?_
 refine tri_ret ?_
 refine t_then_ret ?_
 refine tri_end1 Tryd.results52 (.tmp rfl) ?_
 exact congrArg (fun x : List Int => AV.sl 1 x.length (x.map iv)) (if_neg (by rintro e; have := hs1; rw [e] at this; simp at this)).symm
 refine tri_region ?_
 refine oA (fB 2 (.tmp 3) rfl Tryd.underlying30 rfl 1 rfl) I0 ?_
 refine oB (lB (.box 30 (cPq q)) (intsA q.start) (.tmp 5) rfl Tryd.underlying24 rfl rfl) I0 rfl ?_
 refine oA (sp_lenSl (.tmp 6) rfl Tryd.underlying24) I0 ?_
 refine oC (sp_gtr rfl (dF hs1)) I0 I0 ?_
 refine kN 15 [(1, .box 27 (cFm p)), (2, .box 30 (cPq q))] [(2, .box 1 0), (3, .box 2 0), (4, .v (.slice none 0 0)), (8, bv false)] ?_
 refine t_then ?_
 refine t_condF rfl ?_
 refine tri_skip ?_
 refine t_then ?_
 refine tri_seq ?_
 refine tri_region ?_
 refine oA (fB 7 (.tmp 2) rfl Tryd.underlying27 rfl 1 rfl) I0 ?_
 refine oB (lB (.box 27 (cFm p)) (intsA p.init) (.tmp 12) rfl Tryd.underlying24 rfl rfl) I0 rfl ?_
 refine oC (sp_call (c := .func 39) (xs := #[.tmp 13]) [] (CopyInts_c p.init (Nat.le_trans LP.init (by decide))) rfl (by kernel_rfl) rfl (Xs := [intsA p.init]) rfl rfl rfl) I0 I0 ?_
 refine oA (sp_assign (.tmp 14) (.fr (intsA p.init)) rfl) I0 ?_
 refine kN 15 [] [(4, .fr (intsA p.init))] ?_
 refine t_then ?_
 refine tri_ret ?_
 refine tri_end1 Tryd.results52 (.tmp rfl) ?_
 exact congrArg (fun x : List Int => AV.sl 1 x.length (x.map iv)) (if_pos (List.eq_nil_of_length_eq_zero (by have := hs1; omega))).symm
set_option linter.unusedSimpArgs false in
set_option linter.unusedVariables false in
set_option maxRecDepth 100000 in
set_option maxHeartbeats 6400000 in
theorem rStarts_c {p : Fm} (HP : FmOk p) (LP : FamLen p) {q : Pq} (HQ : PqOk q) (LQ : PqLen q) : Ctr Tryd.prog J 18 [.agg (cFm p), .agg (cPq q)] (.tup [intsA (stL p q), iv (vpE p q)]) := by
 refine ctr_of_tri Tryd.func18 rfl (by intro X hX; simp only [List.mem_cons, List.not_mem_nil, or_false] at hX; rcases hX with rfl | rfl; exact plain_agg (plain_fm p); exact plain_agg (plain_pq q)) (n := 16) rfl (by simp) (fun w0 => ?_)
 refine kW 16 [] [(0, .agg (cFm p)), (1, .agg (cPq q))] ?_
 refine tri_seq ?_
 refine tri_region ?_
 refine t_op rfl (sp_box (X := .agg (cFm p)) (k := 1) (.tmp 0) rfl rfl) ⟨I0, T0⟩ T0 rfl ?_
 refine t_op rfl (sp_box (X := .agg (cPq q)) (k := 2) (.tmp 1) rfl rfl) ⟨I0, T0⟩ T0 rfl ?_
 refine oA (sp_assign (.const (.slice none 0 0)) (.v (.slice none 0 0)) rfl) I0 ?_
 refine oA (sp_assign (.const (.int .i64 0)) (iv 0) rfl) I0 ?_
 refine kN 16 [(1, .box 27 (cFm p)), (2, .box 30 (cPq q))] [(2, .box 1 0), (3, .box 2 0), (4, .v (.slice none 0 0)), (5, iv 0)] ?_
 refine t_then ?_
 refine tri_seq ?_
 refine tri_seq ?_
 refine tri_region ?_
 refine oB (sp_loadBoxS (Y := .box 27 (cFm p)) (ds := cFm p) (z := 10) (.tmp 2) rfl Tryd.underlying27 rfl (by kernel_rfl) (by decide) (by kernel_rfl) (by kernel_rfl)) I0 rfl ?_
 refine oB (sp_loadBoxS (Y := .box 30 (cPq q)) (ds := cPq q) (z := 6) (.tmp 3) rfl Tryd.underlying30 rfl (by kernel_rfl) (by decide) (by kernel_rfl) (by kernel_rfl)) I0 rfl ?_
 refine oD (sp_call (c := .func 51) (xs := #[.tmp 7, .tmp 8]) [] (rValidateProperty_c HP HQ) rfl (by kernel_rfl) rfl (Xs := [.agg (cFm p), .agg (cPq q)]) rfl rfl rfl) I0 I0 I0 ?_
 refine oA (sp_assign (.tmp 9) (iv (vpE p q)) rfl) I0 ?_
 refine kN 16 [(1, .box 27 (cFm p)), (2, .box 30 (cPq q))] [(2, .box 1 0), (3, .box 2 0), (4, .v (.slice none 0 0)), (5, iv 0), (6, iv (vpE p q))] ?_
 refine t_then ?_
 refine tri_seq ?_
 by_cases hs1 : vpE p q = 0
 refine tri_region ?_
 refine oA (sp_move (.tmp 6) (iv (vpE p q)) rfl) I0 ?_
 refine oC (sp_neq rfl (dT' hs1)) I0 I0 ?_
 refine kN 16 [(1, .box 27 (cFm p)), (2, .box 30 (cPq q))] [(2, .box 1 0), (3, .box 2 0), (4, .v (.slice none 0 0)), (5, iv 0), (6, iv (vpE p q)), (11, bv false)] ?_
 refine t_then ?_
 refine t_condF rfl ?_
 refine tri_skip ?_
 refine t_then ?_
 refine tri_seq ?_
 refine tri_region ?_
 refine oB (sp_loadBoxS (Y := .box 27 (cFm p)) (ds := cFm p) (z := 10) (.tmp 2) rfl Tryd.underlying27 rfl (by kernel_rfl) (by decide) (by kernel_rfl) (by kernel_rfl)) I0 rfl ?_
 refine oB (sp_loadBoxS (Y := .box 30 (cPq q)) (ds := cPq q) (z := 6) (.tmp 3) rfl Tryd.underlying30 rfl (by kernel_rfl) (by decide) (by kernel_rfl) (by kernel_rfl)) I0 rfl ?_
 refine oD (sp_call (c := .func 52) (xs := #[.tmp 13, .tmp 14]) [] (rStartStates_c HP LP HQ LQ) rfl (by kernel_rfl) rfl (Xs := [.agg (cFm p), .agg (cPq q)]) rfl rfl rfl) I0 I0 I0 ?_
 refine oA (sp_assign (.tmp 15) (.fr (intsA (if q.start = [] then p.init else q.start))) rfl) I0 ?_
 refine oA (sp_assign (.const (.int .i64 0)) (iv 0) rfl) I0 ?_
 refine kN 16 [] [(4, .fr (intsA (if q.start = [] then p.init else q.start))), (5, iv 0)] ?_
 refine t_then ?_
 refine tri_ret ?_
 refine tri_end2 Tryd.results18 (.tmp rfl) (.tmp rfl) ?_
 show AV.tup [intsA (if q.start = [] then p.init else q.start), iv 0] = .tup [intsA (stL p q), iv (vpE p q)]
 unfold stL; rw [if_pos hs1, hs1]
 refine tri_region ?_
 refine oA (sp_move (.tmp 6) (iv (vpE p q)) rfl) I0 ?_
 refine oC (sp_neq rfl (dF' hs1)) I0 I0 ?_
 refine kN 16 [(1, .box 27 (cFm p)), (2, .box 30 (cPq q))] [(2, .box 1 0), (3, .box 2 0), (4, .v (.slice none 0 0)), (5, iv 0), (6, iv (vpE p q)), (11, bv true)] ?_
 refine t_then ?_
 refine t_condT rfl ?_
 refine tri_seq ?_
 refine tri_region ?_
 refine oA (sp_move (.tmp 6) (iv (vpE p q)) rfl) I0 ?_
 refine oA (sp_assign (.const (.slice none 0 0)) (.v (.slice none 0 0)) rfl) I0 ?_
 refine oA (sp_assign (.tmp 12) (iv (vpE p q)) rfl) I0 ?_
 refine kN 16 [(1, .box 27 (cFm p)), (2, .box 30 (cPq q))] [(2, .box 1 0), (3, .box 2 0), (4, .v (.slice none 0 0)), (5, iv (vpE p q))] ?_
 refine t_then ?_
 refine tri_ret ?_
 refine t_then_ret ?_
 refine tri_wk (wk_adopt 4 3 true 3 1 rfl rfl rfl) ?_
 refine tri_end2 Tryd.results18 (.tmp rfl) (.tmp rfl) ?_
 exact st_err hs1
end Go.Proofs.YtpadmggccpgajaaDoor

namespace Go.Proofs.YtpadmggccpgajaaDoor
open Go.RowKit Go.Deep
variable {J : World → Prop}
set_option linter.unusedSimpArgs false in
set_option linter.unusedVariables false in
set_option maxRecDepth 100000 in
set_option maxHeartbeats 6400000 in
theorem rCopy_c {q : Fm} (H : FamLen q) : Ctr Tryd.prog J 15 [.agg (cFm q)] (.agg (cFm q)) := by
 have l1 := H.states
 have l2 := H.msgs
 have l3 := H.vals
 have l4 := H.res
 have l5 := H.lrules
 refine ctr_of_tri Tryd.func15 rfl (by intro X hX; simp only [List.mem_cons, List.not_mem_nil, or_false] at hX; rcases hX with rfl; exact plain_agg (plain_fm q)) (n := 54) rfl (by simp) (fun w0 => ?_)
 refine kW 54 [] [(0, .agg (cFm q))] ?_
 refine tri_seq ?_
 refine tri_region ?_
 refine t_op rfl (sp_box (X := .agg (cFm q)) (k := 1) (.tmp 0) rfl rfl) ⟨I0, T0⟩ T0 rfl ?_
 refine t_op rfl (sp_alloc (z := .agg #[.string (⟨#[]⟩), .int .i64 0, .slice none 0 0, .slice none 0 0, .slice none 0 0, .int .i64 0, .slice none 0 0, .slice none 0 0, .slice none 0 0, .slice none 0 0]) (k := 2) rfl (by kernel_rfl)) T0 T0 rfl ?_
 refine kN 54 [(1, .box 27 (cFm q)), (2, .box 27 [sv (⟨#[]⟩), iv 0, .v (.slice none 0 0), .v (.slice none 0 0), .v (.slice none 0 0), iv 0, .v (.slice none 0 0), .v (.slice none 0 0), .v (.slice none 0 0), .v (.slice none 0 0)])] [(1, .box 1 0), (2, .box 2 0)] ?_
 refine t_then ?_
 refine tri_seq ?_
 refine tri_region ?_
 refine oB (sp_loadBoxS (Y := .box 27 (cFm q)) (ds := cFm q) (z := 10) (.tmp 1) rfl Tryd.underlying27 rfl (by kernel_rfl) (by decide) (by kernel_rfl) (by kernel_rfl)) I0 rfl ?_
 refine t_op rfl (sp_alloc (z := .agg #[.string (⟨#[]⟩), .int .i64 0, .slice none 0 0, .slice none 0 0, .slice none 0 0, .int .i64 0, .slice none 0 0, .slice none 0 0, .slice none 0 0, .slice none 0 0]) (k := 3) rfl (by kernel_rfl)) T0 T0 rfl ?_
 refine t_op rfl (sp_storeBox (T0 := 27) (X := .agg (cFm q)) (cs := [sv (⟨#[]⟩), iv 0, .v (.slice none 0 0), .v (.slice none 0 0), .v (.slice none 0 0), iv 0, .v (.slice none 0 0), .v (.slice none 0 0), .v (.slice none 0 0), .v (.slice none 0 0)]) (ds := cFm q) (z := 10) (.tmp 3) (.tmp 5) rfl (by kernel_rfl) (by kernel_rfl) (by kernel_rfl) (of_decide_eq_true (by kernel_rfl)) (by kernel_rfl)) ⟨I0, I0, T0⟩ ⟨rfl, T0⟩ rfl ?_
 refine kN 54 [(1, .box 27 (cFm q)), (2, .box 27 [sv (⟨#[]⟩), iv 0, .v (.slice none 0 0), .v (.slice none 0 0), .v (.slice none 0 0), iv 0, .v (.slice none 0 0), .v (.slice none 0 0), .v (.slice none 0 0), .v (.slice none 0 0)]), (3, .box 27 (cFm q))] [(1, .box 1 0), (2, .box 2 0), (3, .box 3 0)] ?_
 refine t_then ?_
 refine tri_seq ?_
 refine tri_region ?_
 refine t_op rfl (sp_build0 (z := 1) (k := 4) true rfl Tryd.underlying22 (by kernel_rfl)) T0 T0 rfl ?_
 refine oA (fB 2 (.tmp 1) rfl Tryd.underlying27 rfl 1 rfl) I0 ?_
 refine oB (lB (.box 27 (cFm q)) (strsA q.states) (.tmp 7) rfl Tryd.underlying22 rfl rfl) I0 rfl ?_
 refine t_op rfl (sp_append (n := 0) (cs := []) (fr := true) (m := q.states.length) (ds := (q.states.map sv)) (⟨Tryd.underlying22, by kernel_rfl, by decide⟩ : Elt Tryd.prog 22 9 1 16) (.tmp 6) (.tmp 8) rfl (fun _ d hd => by obtain ⟨x, _, rfl⟩ := List.mem_map.1 hd; rfl) (by unfold maxLen; omega) (by omega) (fun d hd => by obtain ⟨x, _, rfl⟩ := List.mem_map.1 hd; rfl) (es := (q.states.map sv)) (by rw [unfr_strs]; rfl)) ⟨I0, I0, T0⟩ ⟨rfl, T0⟩ rfl ?_
 refine oA (fB 2 (.tmp 3) rfl Tryd.underlying27 rfl 1 rfl) I0 ?_
 refine t_op rfl (sp_storeBox (T0 := 27) (X := .own 4) (cs := cFm q) (ds := [sv q.nm, iv q.top, .own 4, strsA q.msgs, strsA q.vals, iv q.fault, slA 4 cLn q.res, intsA q.init, intsA q.leader, slA 18 cRu q.rules]) (z := 1) (.tmp 10) (.tmp 9) rfl (by kernel_rfl) (by kernel_rfl) (by kernel_rfl) (of_decide_eq_true (by kernel_rfl)) (by kernel_rfl)) ⟨I0, I0, T0⟩ ⟨rfl, T0⟩ rfl ?_
 refine kN 54 [(1, .box 27 (cFm q)), (2, .box 27 [sv (⟨#[]⟩), iv 0, .v (.slice none 0 0), .v (.slice none 0 0), .v (.slice none 0 0), iv 0, .v (.slice none 0 0), .v (.slice none 0 0), .v (.slice none 0 0), .v (.slice none 0 0)]), (3, .box 27 [sv q.nm, iv q.top, .own 4, strsA q.msgs, strsA q.vals, iv q.fault, slA 4 cLn q.res, intsA q.init, intsA q.leader, slA 18 cRu q.rules]), (4, .row true 9 1 (0 + q.states.length) (q.states.map sv))] [(1, .box 1 0), (2, .box 2 0), (3, .box 3 0)] ?_
 refine t_then ?_
 refine tri_seq ?_
 refine tri_region ?_
 refine t_op rfl (sp_build0 (z := 1) (k := 5) true rfl Tryd.underlying22 (by kernel_rfl)) T0 T0 rfl ?_
 refine oA (fB 3 (.tmp 1) rfl Tryd.underlying27 rfl 1 rfl) I0 ?_
 refine oB (lB (.box 27 (cFm q)) (strsA q.msgs) (.tmp 12) rfl Tryd.underlying22 rfl rfl) I0 rfl ?_
 refine t_op rfl (sp_append (n := 0) (cs := []) (fr := true) (m := q.msgs.length) (ds := (q.msgs.map sv)) (⟨Tryd.underlying22, by kernel_rfl, by decide⟩ : Elt Tryd.prog 22 9 1 16) (.tmp 11) (.tmp 13) rfl (fun _ d hd => by obtain ⟨x, _, rfl⟩ := List.mem_map.1 hd; rfl) (by unfold maxLen; omega) (by omega) (fun d hd => by obtain ⟨x, _, rfl⟩ := List.mem_map.1 hd; rfl) (es := (q.msgs.map sv)) (by rw [unfr_strs]; rfl)) ⟨I0, I0, T0⟩ ⟨rfl, T0⟩ rfl ?_
 refine oA (fB 3 (.tmp 3) rfl Tryd.underlying27 rfl 1 rfl) I0 ?_
 refine t_op rfl (sp_storeBox (T0 := 27) (X := .own 5) (cs := [sv q.nm, iv q.top, .own 4, strsA q.msgs, strsA q.vals, iv q.fault, slA 4 cLn q.res, intsA q.init, intsA q.leader, slA 18 cRu q.rules]) (ds := [sv q.nm, iv q.top, .own 4, .own 5, strsA q.vals, iv q.fault, slA 4 cLn q.res, intsA q.init, intsA q.leader, slA 18 cRu q.rules]) (z := 1) (.tmp 15) (.tmp 14) rfl (by kernel_rfl) (by kernel_rfl) (by kernel_rfl) (of_decide_eq_true (by kernel_rfl)) (by kernel_rfl)) ⟨I0, I0, T0⟩ ⟨rfl, T0⟩ rfl ?_
 refine kN 54 [(1, .box 27 (cFm q)), (2, .box 27 [sv (⟨#[]⟩), iv 0, .v (.slice none 0 0), .v (.slice none 0 0), .v (.slice none 0 0), iv 0, .v (.slice none 0 0), .v (.slice none 0 0), .v (.slice none 0 0), .v (.slice none 0 0)]), (3, .box 27 [sv q.nm, iv q.top, .own 4, .own 5, strsA q.vals, iv q.fault, slA 4 cLn q.res, intsA q.init, intsA q.leader, slA 18 cRu q.rules]), (4, .row true 9 1 (0 + q.states.length) (q.states.map sv)), (5, .row true 9 1 (0 + q.msgs.length) (q.msgs.map sv))] [(1, .box 1 0), (2, .box 2 0), (3, .box 3 0)] ?_
 refine t_then ?_
 refine tri_seq ?_
 refine tri_region ?_
 refine t_op rfl (sp_build0 (z := 1) (k := 6) true rfl Tryd.underlying22 (by kernel_rfl)) T0 T0 rfl ?_
 refine oA (fB 4 (.tmp 1) rfl Tryd.underlying27 rfl 1 rfl) I0 ?_
 refine oB (lB (.box 27 (cFm q)) (strsA q.vals) (.tmp 17) rfl Tryd.underlying22 rfl rfl) I0 rfl ?_
 refine t_op rfl (sp_append (n := 0) (cs := []) (fr := true) (m := q.vals.length) (ds := (q.vals.map sv)) (⟨Tryd.underlying22, by kernel_rfl, by decide⟩ : Elt Tryd.prog 22 9 1 16) (.tmp 16) (.tmp 18) rfl (fun _ d hd => by obtain ⟨x, _, rfl⟩ := List.mem_map.1 hd; rfl) (by unfold maxLen; omega) (by omega) (fun d hd => by obtain ⟨x, _, rfl⟩ := List.mem_map.1 hd; rfl) (es := (q.vals.map sv)) (by rw [unfr_strs]; rfl)) ⟨I0, I0, T0⟩ ⟨rfl, T0⟩ rfl ?_
 refine oA (fB 4 (.tmp 3) rfl Tryd.underlying27 rfl 1 rfl) I0 ?_
 refine t_op rfl (sp_storeBox (T0 := 27) (X := .own 6) (cs := [sv q.nm, iv q.top, .own 4, .own 5, strsA q.vals, iv q.fault, slA 4 cLn q.res, intsA q.init, intsA q.leader, slA 18 cRu q.rules]) (ds := [sv q.nm, iv q.top, .own 4, .own 5, .own 6, iv q.fault, slA 4 cLn q.res, intsA q.init, intsA q.leader, slA 18 cRu q.rules]) (z := 1) (.tmp 20) (.tmp 19) rfl (by kernel_rfl) (by kernel_rfl) (by kernel_rfl) (of_decide_eq_true (by kernel_rfl)) (by kernel_rfl)) ⟨I0, I0, T0⟩ ⟨rfl, T0⟩ rfl ?_
 refine kN 54 [(1, .box 27 (cFm q)), (2, .box 27 [sv (⟨#[]⟩), iv 0, .v (.slice none 0 0), .v (.slice none 0 0), .v (.slice none 0 0), iv 0, .v (.slice none 0 0), .v (.slice none 0 0), .v (.slice none 0 0), .v (.slice none 0 0)]), (3, .box 27 [sv q.nm, iv q.top, .own 4, .own 5, .own 6, iv q.fault, slA 4 cLn q.res, intsA q.init, intsA q.leader, slA 18 cRu q.rules]), (4, .row true 9 1 (0 + q.states.length) (q.states.map sv)), (5, .row true 9 1 (0 + q.msgs.length) (q.msgs.map sv)), (6, .row true 9 1 (0 + q.vals.length) (q.vals.map sv))] [(1, .box 1 0), (2, .box 2 0), (3, .box 3 0)] ?_
 refine t_then ?_
 refine tri_seq ?_
 refine tri_region ?_
 refine t_op rfl (sp_build0 (z := 4) (k := 7) true rfl Tryd.underlying23 (by kernel_rfl)) T0 T0 rfl ?_
 refine oA (fB 6 (.tmp 1) rfl Tryd.underlying27 rfl 1 rfl) I0 ?_
 refine oB (lB (.box 27 (cFm q)) (slA 4 cLn q.res) (.tmp 22) rfl Tryd.underlying23 rfl rfl) I0 rfl ?_
 refine t_op rfl (sp_append (n := 0) (cs := []) (fr := true) (m := q.res.length) (ds := (q.res.flatMap cLn)) (⟨Tryd.underlying23, by kernel_rfl, by decide⟩ : Elt Tryd.prog 23 87 4 32) (.tmp 21) (.tmp 23) rfl (fun _ => new_cLn _) (by unfold maxLen; omega) (by omega) (cell_cLn _) (es := (q.res.flatMap cLn)) (by rw [unfr_cLn]; rfl)) ⟨I0, I0, T0⟩ ⟨rfl, T0⟩ rfl ?_
 refine oA (fB 6 (.tmp 3) rfl Tryd.underlying27 rfl 1 rfl) I0 ?_
 refine t_op rfl (sp_storeBox (T0 := 27) (X := .own 7) (cs := [sv q.nm, iv q.top, .own 4, .own 5, .own 6, iv q.fault, slA 4 cLn q.res, intsA q.init, intsA q.leader, slA 18 cRu q.rules]) (ds := [sv q.nm, iv q.top, .own 4, .own 5, .own 6, iv q.fault, .own 7, intsA q.init, intsA q.leader, slA 18 cRu q.rules]) (z := 1) (.tmp 25) (.tmp 24) rfl (by kernel_rfl) (by kernel_rfl) (by kernel_rfl) (of_decide_eq_true (by kernel_rfl)) (by kernel_rfl)) ⟨I0, I0, T0⟩ ⟨rfl, T0⟩ rfl ?_
 refine kN 54 [(1, .box 27 (cFm q)), (2, .box 27 [sv (⟨#[]⟩), iv 0, .v (.slice none 0 0), .v (.slice none 0 0), .v (.slice none 0 0), iv 0, .v (.slice none 0 0), .v (.slice none 0 0), .v (.slice none 0 0), .v (.slice none 0 0)]), (3, .box 27 [sv q.nm, iv q.top, .own 4, .own 5, .own 6, iv q.fault, .own 7, intsA q.init, intsA q.leader, slA 18 cRu q.rules]), (4, .row true 9 1 (0 + q.states.length) (q.states.map sv)), (5, .row true 9 1 (0 + q.msgs.length) (q.msgs.map sv)), (6, .row true 9 1 (0 + q.vals.length) (q.vals.map sv)), (7, .row true 87 4 (0 + q.res.length) (q.res.flatMap cLn))] [(1, .box 1 0), (2, .box 2 0), (3, .box 3 0)] ?_
 refine t_then ?_
 refine tri_seq ?_
 refine tri_region ?_
 refine oA (fB 7 (.tmp 1) rfl Tryd.underlying27 rfl 1 rfl) I0 ?_
 refine oB (lB (.box 27 (cFm q)) (intsA q.init) (.tmp 26) rfl Tryd.underlying24 rfl rfl) I0 rfl ?_
 refine oC (sp_call (c := .func 39) (xs := #[.tmp 27]) [] (CopyInts_c q.init (Nat.le_trans H.init (by decide))) rfl (by kernel_rfl) rfl (Xs := [intsA q.init]) rfl rfl rfl) I0 I0 ?_
 refine oA (fB 7 (.tmp 3) rfl Tryd.underlying27 rfl 1 rfl) I0 ?_
 refine t_op rfl (sp_storeBox (T0 := 27) (X := .fr (intsA q.init)) (cs := [sv q.nm, iv q.top, .own 4, .own 5, .own 6, iv q.fault, .own 7, intsA q.init, intsA q.leader, slA 18 cRu q.rules]) (ds := [sv q.nm, iv q.top, .own 4, .own 5, .own 6, iv q.fault, .own 7, .fr (intsA q.init), intsA q.leader, slA 18 cRu q.rules]) (z := 1) (.tmp 29) (.tmp 28) rfl (by kernel_rfl) (by kernel_rfl) (by kernel_rfl) (of_decide_eq_true (by kernel_rfl)) (by kernel_rfl)) ⟨I0, I0, T0⟩ ⟨rfl, T0⟩ rfl ?_
 refine kN 54 [(1, .box 27 (cFm q)), (2, .box 27 [sv (⟨#[]⟩), iv 0, .v (.slice none 0 0), .v (.slice none 0 0), .v (.slice none 0 0), iv 0, .v (.slice none 0 0), .v (.slice none 0 0), .v (.slice none 0 0), .v (.slice none 0 0)]), (3, .box 27 [sv q.nm, iv q.top, .own 4, .own 5, .own 6, iv q.fault, .own 7, .fr (intsA q.init), intsA q.leader, slA 18 cRu q.rules]), (4, .row true 9 1 (0 + q.states.length) (q.states.map sv)), (5, .row true 9 1 (0 + q.msgs.length) (q.msgs.map sv)), (6, .row true 9 1 (0 + q.vals.length) (q.vals.map sv)), (7, .row true 87 4 (0 + q.res.length) (q.res.flatMap cLn))] [(1, .box 1 0), (2, .box 2 0), (3, .box 3 0)] ?_
 refine t_then ?_
 refine tri_seq ?_
 refine tri_region ?_
 refine oA (fB 8 (.tmp 1) rfl Tryd.underlying27 rfl 1 rfl) I0 ?_
 refine oB (lB (.box 27 (cFm q)) (intsA q.leader) (.tmp 30) rfl Tryd.underlying24 rfl rfl) I0 rfl ?_
 refine oC (sp_call (c := .func 39) (xs := #[.tmp 31]) [] (CopyInts_c q.leader (Nat.le_trans H.leader (by decide))) rfl (by kernel_rfl) rfl (Xs := [intsA q.leader]) rfl rfl rfl) I0 I0 ?_
 refine oA (fB 8 (.tmp 3) rfl Tryd.underlying27 rfl 1 rfl) I0 ?_
 refine t_op rfl (sp_storeBox (T0 := 27) (X := .fr (intsA q.leader)) (cs := [sv q.nm, iv q.top, .own 4, .own 5, .own 6, iv q.fault, .own 7, .fr (intsA q.init), intsA q.leader, slA 18 cRu q.rules]) (ds := [sv q.nm, iv q.top, .own 4, .own 5, .own 6, iv q.fault, .own 7, .fr (intsA q.init), .fr (intsA q.leader), slA 18 cRu q.rules]) (z := 1) (.tmp 33) (.tmp 32) rfl (by kernel_rfl) (by kernel_rfl) (by kernel_rfl) (of_decide_eq_true (by kernel_rfl)) (by kernel_rfl)) ⟨I0, I0, T0⟩ ⟨rfl, T0⟩ rfl ?_
 refine kN 54 [(1, .box 27 (cFm q)), (2, .box 27 [sv (⟨#[]⟩), iv 0, .v (.slice none 0 0), .v (.slice none 0 0), .v (.slice none 0 0), iv 0, .v (.slice none 0 0), .v (.slice none 0 0), .v (.slice none 0 0), .v (.slice none 0 0)]), (3, .box 27 [sv q.nm, iv q.top, .own 4, .own 5, .own 6, iv q.fault, .own 7, .fr (intsA q.init), .fr (intsA q.leader), slA 18 cRu q.rules]), (4, .row true 9 1 (0 + q.states.length) (q.states.map sv)), (5, .row true 9 1 (0 + q.msgs.length) (q.msgs.map sv)), (6, .row true 9 1 (0 + q.vals.length) (q.vals.map sv)), (7, .row true 87 4 (0 + q.res.length) (q.res.flatMap cLn))] [(1, .box 1 0), (2, .box 2 0), (3, .box 3 0)] ?_
 refine t_then ?_
 refine tri_seq ?_
 refine tri_region ?_
 refine oA (fB 9 (.tmp 3) rfl Tryd.underlying27 rfl 1 rfl) I0 ?_
 refine t_op rfl (sp_storeBox (T0 := 27) (X := .v (.slice none 0 0)) (cs := [sv q.nm, iv q.top, .own 4, .own 5, .own 6, iv q.fault, .own 7, .fr (intsA q.init), .fr (intsA q.leader), slA 18 cRu q.rules]) (ds := [sv q.nm, iv q.top, .own 4, .own 5, .own 6, iv q.fault, .own 7, .fr (intsA q.init), .fr (intsA q.leader), .v (.slice none 0 0)]) (z := 1) (.tmp 34) (.const (.slice none 0 0)) rfl (by kernel_rfl) (by kernel_rfl) (by kernel_rfl) (of_decide_eq_true (by kernel_rfl)) (by kernel_rfl)) ⟨I0, I0, T0⟩ ⟨rfl, T0⟩ rfl ?_
 refine kN 54 [(1, .box 27 (cFm q)), (2, .box 27 [sv (⟨#[]⟩), iv 0, .v (.slice none 0 0), .v (.slice none 0 0), .v (.slice none 0 0), iv 0, .v (.slice none 0 0), .v (.slice none 0 0), .v (.slice none 0 0), .v (.slice none 0 0)]), (3, .box 27 [sv q.nm, iv q.top, .own 4, .own 5, .own 6, iv q.fault, .own 7, .fr (intsA q.init), .fr (intsA q.leader), .v (.slice none 0 0)]), (4, .row true 9 1 (0 + q.states.length) (q.states.map sv)), (5, .row true 9 1 (0 + q.msgs.length) (q.msgs.map sv)), (6, .row true 9 1 (0 + q.vals.length) (q.vals.map sv)), (7, .row true 87 4 (0 + q.res.length) (q.res.flatMap cLn))] [(1, .box 1 0), (2, .box 2 0), (3, .box 3 0)] ?_
 refine t_then ?_
 refine tri_seq ?_
 refine tri_seq ?_
 refine tri_region ?_
 refine oA (sp_assign (.const (.int .i64 0)) (iv 0) rfl) I0 ?_
 refine kN 54 [(1, .box 27 (cFm q)), (2, .box 27 [sv (⟨#[]⟩), iv 0, .v (.slice none 0 0), .v (.slice none 0 0), .v (.slice none 0 0), iv 0, .v (.slice none 0 0), .v (.slice none 0 0), .v (.slice none 0 0), .v (.slice none 0 0)]), (3, .box 27 [sv q.nm, iv q.top, .own 4, .own 5, .own 6, iv q.fault, .own 7, .fr (intsA q.init), .fr (intsA q.leader), .v (.slice none 0 0)]), (4, .row true 9 1 (0 + q.states.length) (q.states.map sv)), (5, .row true 9 1 (0 + q.msgs.length) (q.msgs.map sv)), (6, .row true 9 1 (0 + q.vals.length) (q.vals.map sv)), (7, .row true 87 4 (0 + q.res.length) (q.res.flatMap cLn))] [(1, .box 1 0), (2, .box 2 0), (3, .box 3 0), (4, iv 0)] ?_
 refine t_then ?_
 refine tri_block ?_
 refine tri_wk (wk_adoptB 3 9 8 true 81 18 rfl rfl rfl rfl) ?_
 refine tri_loop (σ := {k : Nat // k ≤ q.rules.length}) (fun s => (ofL [(1, .box 27 (cFm q)), (2, .box 27 [sv (⟨#[]⟩), iv 0, .v (.slice none 0 0), .v (.slice none 0 0), .v (.slice none 0 0), iv 0, .v (.slice none 0 0), .v (.slice none 0 0), .v (.slice none 0 0), .v (.slice none 0 0)]), (3, .box 27 [sv q.nm, iv q.top, .own 4, .own 5, .own 6, iv q.fault, .own 7, .fr (intsA q.init), .fr (intsA q.leader), .own 8]), (4, .row true 9 1 (0 + q.states.length) (q.states.map sv)), (5, .row true 9 1 (0 + q.msgs.length) (q.msgs.map sv)), (6, .row true 9 1 (0 + q.vals.length) (q.vals.map sv)), (7, .row true 87 4 (0 + q.res.length) (q.res.flatMap cLn)), (8, .row true 81 18 s.1 ((q.rules.take s.1).flatMap cRu))], ofT 54 [(1, .box 1 0), (2, .box 2 0), (3, .box 3 0), (4, iv s.1)])) (fun s => q.rules.length - s.1) ⟨0, Nat.zero_le _⟩ (wk_keep _ _ rfl (by kernel_rfl) (by kernel_rfl)) (fun s => ?_)
 obtain ⟨k, hk0⟩ := s
 show ETri J w0 (ofL [(1, .box 27 (cFm q)), (2, .box 27 [sv (⟨#[]⟩), iv 0, .v (.slice none 0 0), .v (.slice none 0 0), .v (.slice none 0 0), iv 0, .v (.slice none 0 0), .v (.slice none 0 0), .v (.slice none 0 0), .v (.slice none 0 0)]), (3, .box 27 [sv q.nm, iv q.top, .own 4, .own 5, .own 6, iv q.fault, .own 7, .fr (intsA q.init), .fr (intsA q.leader), .own 8]), (4, .row true 9 1 (0 + q.states.length) (q.states.map sv)), (5, .row true 9 1 (0 + q.msgs.length) (q.msgs.map sv)), (6, .row true 9 1 (0 + q.vals.length) (q.vals.map sv)), (7, .row true 87 4 (0 + q.res.length) (q.res.flatMap cLn)), (8, .row true 81 18 k ((q.rules.take k).flatMap cRu))]) (ofT 54 [(1, .box 1 0), (2, .box 2 0), (3, .box 3 0), (4, iv k)]) _
 refine tri_seq ?_
 refine tri_seq ?_
 by_cases hs1 : ((k : Nat) : Int) < ((q.rules.length : Nat) : Int)
 refine tri_region ?_
 refine oA (sp_move (.tmp 4) (iv k) rfl) I0 ?_
 refine oA (fB 9 (.tmp 1) rfl Tryd.underlying27 rfl 1 rfl) I0 ?_
 refine oB (lB (.box 27 (cFm q)) (slA 18 cRu q.rules) (.tmp 36) rfl Tryd.underlying25 rfl rfl) I0 rfl ?_
 refine oA (sp_lenSl (.tmp 37) rfl Tryd.underlying25) I0 ?_
 refine oC (sp_lss rfl (dT hs1)) I0 I0 ?_
 refine kN 54 [(1, .box 27 (cFm q)), (2, .box 27 [sv (⟨#[]⟩), iv 0, .v (.slice none 0 0), .v (.slice none 0 0), .v (.slice none 0 0), iv 0, .v (.slice none 0 0), .v (.slice none 0 0), .v (.slice none 0 0), .v (.slice none 0 0)]), (3, .box 27 [sv q.nm, iv q.top, .own 4, .own 5, .own 6, iv q.fault, .own 7, .fr (intsA q.init), .fr (intsA q.leader), .own 8]), (4, .row true 9 1 (0 + q.states.length) (q.states.map sv)), (5, .row true 9 1 (0 + q.msgs.length) (q.msgs.map sv)), (6, .row true 9 1 (0 + q.vals.length) (q.vals.map sv)), (7, .row true 87 4 (0 + q.res.length) (q.res.flatMap cLn)), (8, .row true 81 18 k ((q.rules.take k).flatMap cRu))] [(1, .box 1 0), (2, .box 2 0), (3, .box 3 0), (4, iv k), (39, bv true)] ?_
 refine t_then ?_
 refine t_condT rfl ?_
 refine tri_skip ?_
 refine t_then ?_
 refine tri_seq ?_
 refine tri_block ?_
 refine tri_draw [⟨[(.tmp 3, .box 3 0)], [], .box 3 9, .no⟩, ⟨[(.tmp 42, .box 3 9)], [(3, .box 27 [sv q.nm, iv q.top, .own 4, .own 5, .own 6, iv q.fault, .own 7, .fr (intsA q.init), .fr (intsA q.leader), .own 8])], .own 8, .no⟩, ⟨[(.tmp 1, .box 1 0)], [], .box 1 9, .no⟩, ⟨[(.tmp 44, .box 1 9)], [(1, .box 27 (cFm q))], slA 18 cRu q.rules, .no⟩, ⟨[(.tmp 4, iv k)], [], iv k, .no⟩, ⟨[(.tmp 45, slA 18 cRu q.rules), (.tmp 46, iv k)], [], .el (q.rules.flatMap cRu) (k * 18), .no⟩, ⟨[(.tmp 47, .el (q.rules.flatMap cRu) (k * 18))], [], .agg (cRu q.rules[k]), .no⟩, ⟨[(.func 48, .v (.func (.func 48) #[] #[])), (.tmp 48, .agg (cRu q.rules[k]))], [], .fr (.agg (cRu q.rules[k])), .no⟩, ⟨[(.tmp 49, .agg [sv q.rules[k].nm, iv q.rules[k].kind, iv q.rules[k].frm, iv q.rules[k].to, iv q.rules[k].pf, iv q.rules[k].pt, .fr (intsA q.rules[k].resp), .fr (slA 6 cTh q.rules[k].guards), .fr (intsA q.rules[k].ex), .fr (intsA q.rules[k].fa), iv q.rules[k].rd, iv q.rules[k].wr, .fr (intsA q.rules[k].send), iv q.rules[k].pos, .fr (intsA q.rules[k].left), .fr (intsA q.rules[k].right), .fr (intsA q.rules[k].parent), iv q.rules[k].dir])], [], .own 9, .new 9 (.row false 81 18 1 ([sv q.rules[k].nm, iv q.rules[k].kind, iv q.rules[k].frm, iv q.rules[k].to, iv q.rules[k].pf, iv q.rules[k].pt, .fr (intsA q.rules[k].resp), .fr (slA 6 cTh q.rules[k].guards), .fr (intsA q.rules[k].ex), .fr (intsA q.rules[k].fa), iv q.rules[k].rd, iv q.rules[k].wr, .fr (intsA q.rules[k].send), iv q.rules[k].pos, .fr (intsA q.rules[k].left), .fr (intsA q.rules[k].right), .fr (intsA q.rules[k].parent), iv q.rules[k].dir]))⟩, ⟨[(.tmp 43, .own 8), (.tmp 50, .own 9)], [(8, .row true 81 18 k ((q.rules.take k).flatMap cRu)), (9, .row false 81 18 1 ([sv q.rules[k].nm, iv q.rules[k].kind, iv q.rules[k].frm, iv q.rules[k].to, iv q.rules[k].pf, iv q.rules[k].pt, .fr (intsA q.rules[k].resp), .fr (slA 6 cTh q.rules[k].guards), .fr (intsA q.rules[k].ex), .fr (intsA q.rules[k].fa), iv q.rules[k].rd, iv q.rules[k].wr, .fr (intsA q.rules[k].send), iv q.rules[k].pos, .fr (intsA q.rules[k].left), .fr (intsA q.rules[k].right), .fr (intsA q.rules[k].parent), iv q.rules[k].dir]))], .own 8, .ap 8 (.row true 81 18 (k + 1) ((q.rules.take (k + 1)).flatMap cRu))⟩, ⟨[(.tmp 3, .box 3 0)], [], .box 3 9, .no⟩, ⟨[(.tmp 52, .box 3 9), (.tmp 51, .own 8)], [(3, .box 27 [sv q.nm, iv q.top, .own 4, .own 5, .own 6, iv q.fault, .own 7, .fr (intsA q.init), .fr (intsA q.leader), .any])], .v undef, .st 3 (.box 27 [sv q.nm, iv q.top, .own 4, .own 5, .own 6, iv q.fault, .own 7, .fr (intsA q.init), .fr (intsA q.leader), .own 8])⟩] (by kernel_rfl) (by kernel_rfl) ?_
 refine ⟨app_yes rfl (fB 9 (.tmp 3) rfl Tryd.underlying27 rfl 1 rfl) ⟨I0, T0⟩ T0 T0, ?_⟩
 refine ⟨app_yes rfl (lB (.box 27 [sv q.nm, iv q.top, .own 4, .own 5, .own 6, iv q.fault, .own 7, .fr (intsA q.init), .fr (intsA q.leader), .own 8]) (.own 8) (.tmp 42) rfl Tryd.underlying25 rfl rfl) ⟨I0, T0⟩ ⟨rfl, T0⟩ T0, ?_⟩
 refine ⟨app_yes rfl (fB 9 (.tmp 1) rfl Tryd.underlying27 rfl 1 rfl) ⟨I0, T0⟩ T0 T0, ?_⟩
 refine ⟨app_yes rfl (lB (.box 27 (cFm q)) (slA 18 cRu q.rules) (.tmp 44) rfl Tryd.underlying25 rfl rfl) ⟨I0, T0⟩ ⟨rfl, T0⟩ T0, ?_⟩
 refine ⟨app_yes rfl (sp_move (.tmp 4) (iv k) rfl) ⟨I0, T0⟩ T0 T0, ?_⟩
 refine ⟨app_yes rfl (sp_indexSl (off := k * 18) (.tmp 45) (.tmp 46) rfl Tryd.underlying25 (by kernel_rfl) (by omega) (by omega) rfl) ⟨I0, I0, T0⟩ T0 T0, ?_⟩
 refine ⟨app_yes rfl (sp_loadElS (z := 18) (.tmp 47) rfl Tryd.underlying81 rfl (by kernel_rfl) (flat_take lenRu q.rules k (by omega)) rfl) ⟨I0, T0⟩ T0 T0, ?_⟩
 refine ⟨app_yes rfl (sp_call (c := .func 48) (xs := #[.tmp 48]) [] (CopyRule_c q.rules[k] (H.rules _ (List.getElem_mem (by omega)))) rfl (by kernel_rfl) rfl (Xs := [.agg (cRu q.rules[k])]) rfl rfl rfl) ⟨I0, I0, T0⟩ T0 T0, ?_⟩
 refine ⟨app_yes rfl (sp_build (z := 18) (k := 9) (fr := false) (cs := [sv q.rules[k].nm, iv q.rules[k].kind, iv q.rules[k].frm, iv q.rules[k].to, iv q.rules[k].pf, iv q.rules[k].pt, .fr (intsA q.rules[k].resp), .fr (slA 6 cTh q.rules[k].guards), .fr (intsA q.rules[k].ex), .fr (intsA q.rules[k].fa), iv q.rules[k].rd, iv q.rules[k].wr, .fr (intsA q.rules[k].send), iv q.rules[k].pos, .fr (intsA q.rules[k].left), .fr (intsA q.rules[k].right), .fr (intsA q.rules[k].parent), iv q.rules[k].dir]) [.tmp 49] [.agg [sv q.rules[k].nm, iv q.rules[k].kind, iv q.rules[k].frm, iv q.rules[k].to, iv q.rules[k].pf, iv q.rules[k].pt, .fr (intsA q.rules[k].resp), .fr (slA 6 cTh q.rules[k].guards), .fr (intsA q.rules[k].ex), .fr (intsA q.rules[k].fa), iv q.rules[k].rd, iv q.rules[k].wr, .fr (intsA q.rules[k].send), iv q.rules[k].pos, .fr (intsA q.rules[k].left), .fr (intsA q.rules[k].right), .fr (intsA q.rules[k].parent), iv q.rules[k].dir]] rfl Tryd.underlying25 (by kernel_rfl) (by decide) (by decide) rfl rfl rfl (by kernel_rfl) (by decide) (fun h => Bool.noConfusion h) (by kernel_rfl)) ⟨.inr (.inr (.inl ⟨_, rfl, rfl⟩)), T0⟩ T0 rfl, ?_⟩
 refine ⟨app_yes rfl (sp_appendOwn (n := k) (cs := ((q.rules.take k).flatMap cRu)) (fr := true) (m := 1) (ds := [sv q.rules[k].nm, iv q.rules[k].kind, iv q.rules[k].frm, iv q.rules[k].to, iv q.rules[k].pf, iv q.rules[k].pt, .fr (intsA q.rules[k].resp), .fr (slA 6 cTh q.rules[k].guards), .fr (intsA q.rules[k].ex), .fr (intsA q.rules[k].fa), iv q.rules[k].rd, iv q.rules[k].wr, .fr (intsA q.rules[k].send), iv q.rules[k].pos, .fr (intsA q.rules[k].left), .fr (intsA q.rules[k].right), .fr (intsA q.rules[k].parent), iv q.rules[k].dir]) (⟨Tryd.underlying25, by kernel_rfl, by decide⟩ : Elt Tryd.prog 25 81 18 280) (.tmp 43) (.tmp 50) rfl (fun _ => newRu q.rules[k]) (by unfold maxLen; omega) (by omega) (cellRu q.rules[k]) (es := ((q.rules.take (k + 1)).flatMap cRu)) (snocRu (by omega))) ⟨I0, I0, T0⟩ ⟨rfl, rfl, T0⟩ rfl, ?_⟩
 refine ⟨app_yes rfl (fB 9 (.tmp 3) rfl Tryd.underlying27 rfl 1 rfl) ⟨I0, T0⟩ T0 T0, ?_⟩
 refine ⟨app_yes rfl (sp_storeBox (T0 := 27) (X := .own 8) (cs := [sv q.nm, iv q.top, .own 4, .own 5, .own 6, iv q.fault, .own 7, .fr (intsA q.init), .fr (intsA q.leader), .any]) (ds := [sv q.nm, iv q.top, .own 4, .own 5, .own 6, iv q.fault, .own 7, .fr (intsA q.init), .fr (intsA q.leader), .own 8]) (z := 1) (.tmp 52) (.tmp 51) rfl (by kernel_rfl) (by kernel_rfl) (by kernel_rfl) (of_decide_eq_true (by kernel_rfl)) (by kernel_rfl)) ⟨I0, I0, T0⟩ ⟨rfl, T0⟩ rfl, ?_⟩
 show ETri J w0 _ _ _
 refine kW 54 [(1, .box 27 (cFm q)), (2, .box 27 [sv (⟨#[]⟩), iv 0, .v (.slice none 0 0), .v (.slice none 0 0), .v (.slice none 0 0), iv 0, .v (.slice none 0 0), .v (.slice none 0 0), .v (.slice none 0 0), .v (.slice none 0 0)]), (3, .box 27 [sv q.nm, iv q.top, .own 4, .own 5, .own 6, iv q.fault, .own 7, .fr (intsA q.init), .fr (intsA q.leader), .own 8]), (4, .row true 9 1 (0 + q.states.length) (q.states.map sv)), (5, .row true 9 1 (0 + q.msgs.length) (q.msgs.map sv)), (6, .row true 9 1 (0 + q.vals.length) (q.vals.map sv)), (7, .row true 87 4 (0 + q.res.length) (q.res.flatMap cLn)), (8, .row true 81 18 (k + 1) ((q.rules.take (k + 1)).flatMap cRu))] [(1, .box 1 0), (2, .box 2 0), (3, .box 3 0), (4, iv k), (39, bv true)] ?_
 refine t_block ?_
 refine t_then ?_
 refine tri_region ?_
 refine oA (sp_move (.tmp 4) (iv k) rfl) I0 ?_
 refine oC (sp_add (c := ((k + 1 : Nat) : Int)) rfl (w64 (by omega) (by omega) (by omega))) I0 I0 ?_
 refine oA (sp_assign (.tmp 41) (iv (k + 1 : Nat)) rfl) I0 ?_
 refine kN 54 [(1, .box 27 (cFm q)), (2, .box 27 [sv (⟨#[]⟩), iv 0, .v (.slice none 0 0), .v (.slice none 0 0), .v (.slice none 0 0), iv 0, .v (.slice none 0 0), .v (.slice none 0 0), .v (.slice none 0 0), .v (.slice none 0 0)]), (3, .box 27 [sv q.nm, iv q.top, .own 4, .own 5, .own 6, iv q.fault, .own 7, .fr (intsA q.init), .fr (intsA q.leader), .own 8]), (4, .row true 9 1 (0 + q.states.length) (q.states.map sv)), (5, .row true 9 1 (0 + q.msgs.length) (q.msgs.map sv)), (6, .row true 9 1 (0 + q.vals.length) (q.vals.map sv)), (7, .row true 87 4 (0 + q.res.length) (q.res.flatMap cLn)), (8, .row true 81 18 (k + 1) ((q.rules.take (k + 1)).flatMap cRu))] [(1, .box 1 0), (2, .box 2 0), (3, .box 3 0), (4, iv (k + 1 : Nat)), (39, bv true)] ?_
 refine t_then ?_
 refine tri_again ⟨k + 1, by omega⟩ (show q.rules.length - (k + 1) < q.rules.length - k by omega) ?_
 exact wk_keep _ _ rfl (by kernel_rfl) (by kernel_rfl)
 refine tri_region ?_
 refine oA (sp_move (.tmp 4) (iv k) rfl) I0 ?_
 refine oA (fB 9 (.tmp 1) rfl Tryd.underlying27 rfl 1 rfl) I0 ?_
 refine oB (lB (.box 27 (cFm q)) (slA 18 cRu q.rules) (.tmp 36) rfl Tryd.underlying25 rfl rfl) I0 rfl ?_
 refine oA (sp_lenSl (.tmp 37) rfl Tryd.underlying25) I0 ?_
 refine oC (sp_lss rfl (dF hs1)) I0 I0 ?_
 refine kN 54 [(1, .box 27 (cFm q)), (2, .box 27 [sv (⟨#[]⟩), iv 0, .v (.slice none 0 0), .v (.slice none 0 0), .v (.slice none 0 0), iv 0, .v (.slice none 0 0), .v (.slice none 0 0), .v (.slice none 0 0), .v (.slice none 0 0)]), (3, .box 27 [sv q.nm, iv q.top, .own 4, .own 5, .own 6, iv q.fault, .own 7, .fr (intsA q.init), .fr (intsA q.leader), .own 8]), (4, .row true 9 1 (0 + q.states.length) (q.states.map sv)), (5, .row true 9 1 (0 + q.msgs.length) (q.msgs.map sv)), (6, .row true 9 1 (0 + q.vals.length) (q.vals.map sv)), (7, .row true 87 4 (0 + q.res.length) (q.res.flatMap cLn)), (8, .row true 81 18 k ((q.rules.take k).flatMap cRu))] [(1, .box 1 0), (2, .box 2 0), (3, .box 3 0), (4, iv k), (39, bv false)] ?_
 refine t_then ?_
 refine t_condF rfl ?_
 refine tri_exit ?_
 refine t_then_exit ?_
 refine t_then_exit ?_
 refine t_hit ?_
 refine t_then ?_
 refine tri_seq ?_
 refine tri_region ?_
 refine oB (sp_loadBoxS (Y := .box 27 [sv q.nm, iv q.top, .own 4, .own 5, .own 6, iv q.fault, .own 7, .fr (intsA q.init), .fr (intsA q.leader), .own 8]) (ds := [sv q.nm, iv q.top, .own 4, .own 5, .own 6, iv q.fault, .own 7, .fr (intsA q.init), .fr (intsA q.leader), .own 8]) (z := 10) (.tmp 3) rfl Tryd.underlying27 rfl (by kernel_rfl) (by decide) (by kernel_rfl) (by kernel_rfl)) I0 rfl ?_
 refine t_op rfl (sp_storeBox (T0 := 27) (X := .agg [sv q.nm, iv q.top, .own 4, .own 5, .own 6, iv q.fault, .own 7, .fr (intsA q.init), .fr (intsA q.leader), .own 8]) (cs := [sv (⟨#[]⟩), iv 0, .v (.slice none 0 0), .v (.slice none 0 0), .v (.slice none 0 0), iv 0, .v (.slice none 0 0), .v (.slice none 0 0), .v (.slice none 0 0), .v (.slice none 0 0)]) (ds := [sv q.nm, iv q.top, .own 4, .own 5, .own 6, iv q.fault, .own 7, .fr (intsA q.init), .fr (intsA q.leader), .own 8]) (z := 10) (.tmp 2) (.tmp 53) rfl (by kernel_rfl) (by kernel_rfl) (by kernel_rfl) (of_decide_eq_true (by kernel_rfl)) (by kernel_rfl)) ⟨I0, I0, T0⟩ ⟨rfl, T0⟩ rfl ?_
 refine kN 54 [(2, .box 27 [sv q.nm, iv q.top, .own 4, .own 5, .own 6, iv q.fault, .own 7, .fr (intsA q.init), .fr (intsA q.leader), .own 8]), (4, .row true 9 1 (0 + q.states.length) (q.states.map sv)), (5, .row true 9 1 (0 + q.msgs.length) (q.msgs.map sv)), (6, .row true 9 1 (0 + q.vals.length) (q.vals.map sv)), (7, .row true 87 4 (0 + q.res.length) (q.res.flatMap cLn)), (8, .row true 81 18 k ((q.rules.take k).flatMap cRu))] [(2, .box 2 0)] ?_
 refine t_then ?_
 refine tri_ret ?_
 refine tri_end1 Tryd.results15 (.cellS rfl rfl Tryd.underlying27 rfl (z := 10) (by kernel_rfl) rfl (by decide)) ?_
 have hk : k = q.rules.length := by omega
 subst hk
 show AV.agg [sv q.nm, iv q.top, .sl 1 (0 + q.states.length) (q.states.map sv), .sl 1 (0 + q.msgs.length) (q.msgs.map sv), .sl 1 (0 + q.vals.length) (q.vals.map sv), iv q.fault, .sl 4 (0 + q.res.length) (q.res.flatMap cLn), intsA q.init, intsA q.leader, .sl 18 q.rules.length ((q.rules.take q.rules.length).flatMap cRu)] = .agg (cFm q)
 rw [List.take_length, Nat.zero_add, Nat.zero_add, Nat.zero_add, Nat.zero_add]; rfl
end Go.Proofs.YtpadmggccpgajaaDoor

namespace Go.Proofs.YtpadmggccpgajaaDoor
open Go.RowKit Go.Deep
variable {J : World → Prop}
set_option linter.unusedSimpArgs false in
set_option linter.unusedVariables false in
set_option maxRecDepth 100000 in
set_option maxHeartbeats 6400000 in
theorem sameTexts_c (xs : List ByteArray) (hx : xs.length ≤ 9223372036854775807) : Ctr Tryd.prog J 55 [strsA xs, strsA xs] (bv true) := by
 refine ctr_of_tri Tryd.func55 rfl (by intro X hX; simp only [List.mem_cons, List.not_mem_nil, or_false] at hX; rcases hX with rfl | rfl <;> exact plain_strs _) (n := 26) rfl (by simp) (fun w0 => ?_)
 refine kW 26 [] [(0, strsA xs), (1, strsA xs)] ?_
 refine tri_seq ?_
 refine tri_region ?_
 refine oA (sp_assign (.const (.bool false)) (bv false) rfl) I0 ?_
 refine kN 26 [] [(0, strsA xs), (1, strsA xs), (4, bv false)] ?_
 refine t_then ?_
 refine tri_seq ?_
 refine tri_seq ?_
 refine tri_region ?_
 refine oA (sp_move (.tmp 0) (strsA xs) rfl) I0 ?_
 refine oA (sp_lenSl (.tmp 6) rfl Tryd.underlying22) I0 ?_
 refine oA (sp_move (.tmp 1) (strsA xs) rfl) I0 ?_
 refine oA (sp_lenSl (.tmp 8) rfl Tryd.underlying22) I0 ?_
 refine oC (sp_neq rfl (dT' rfl)) I0 I0 ?_
 refine kN 26 [] [(0, strsA xs), (1, strsA xs), (4, bv false), (10, bv false)] ?_
 refine t_then ?_
 refine t_condF rfl ?_
 refine tri_skip ?_
 refine t_then ?_
 refine tri_seq ?_
 refine tri_seq ?_
 refine tri_region ?_
 refine oA (sp_assign (.const (.int .i64 0)) (iv 0) rfl) I0 ?_
 refine kN 26 [] [(0, strsA xs), (1, strsA xs), (4, bv false), (5, iv 0)] ?_
 refine t_then ?_
 refine tri_block ?_
 refine tri_loop (σ := {k : Nat // k ≤ xs.length}) (fun s => (ofL [], ofT 26 [(0, strsA xs), (1, strsA xs), (5, iv s.1)])) (fun s => xs.length - s.1) ⟨0, Nat.zero_le _⟩ (wk_keep [] _ rfl (by kernel_rfl) (by kernel_rfl)) (fun s => ?_)
 obtain ⟨k, hk0⟩ := s
 show ETri J w0 (ofL []) (ofT 26 [(0, strsA xs), (1, strsA xs), (5, iv k)]) _
 refine tri_seq ?_
 refine tri_seq ?_
 by_cases hs1 : ((k : Nat) : Int) < ((xs.length : Nat) : Int)
 refine tri_region ?_
 refine oA (sp_move (.tmp 5) (iv k) rfl) I0 ?_
 refine oA (sp_move (.tmp 0) (strsA xs) rfl) I0 ?_
 refine oA (sp_lenSl (.tmp 12) rfl Tryd.underlying22) I0 ?_
 refine oC (sp_lss rfl (dT hs1)) I0 I0 ?_
 refine kN 26 [] [(0, strsA xs), (1, strsA xs), (5, iv k), (14, bv true)] ?_
 refine t_then ?_
 refine t_condT rfl ?_
 refine tri_skip ?_
 refine t_then ?_
 refine tri_seq ?_
 refine tri_block ?_
 refine tri_seq ?_
 refine tri_draw [⟨[(.tmp 0, strsA xs)], [], strsA xs, .no⟩, ⟨[(.tmp 5, iv k)], [], iv k, .no⟩, ⟨[(.tmp 17, strsA xs), (.tmp 18, iv k)], [], .el (xs.map sv) (k * 1), .no⟩, ⟨[(.tmp 19, .el (xs.map sv) (k * 1))], [], sv xs[k], .no⟩, ⟨[(.tmp 1, strsA xs)], [], strsA xs, .no⟩, ⟨[(.tmp 5, iv k)], [], iv k, .no⟩, ⟨[(.tmp 21, strsA xs), (.tmp 22, iv k)], [], .el (xs.map sv) (k * 1), .no⟩, ⟨[(.tmp 23, .el (xs.map sv) (k * 1))], [], sv xs[k], .no⟩, ⟨[(.tmp 20, sv xs[k]), (.tmp 24, sv xs[k])], [], bv false, .no⟩] (by kernel_rfl) (by kernel_rfl) ?_
 refine ⟨app_yes rfl (sp_move (.tmp 0) (strsA xs) rfl) ⟨I0, T0⟩ T0 T0, ?_⟩
 refine ⟨app_yes rfl (sp_move (.tmp 5) (iv k) rfl) ⟨I0, T0⟩ T0 T0, ?_⟩
 refine ⟨app_yes rfl (sp_indexSl (off := k * 1) (.tmp 17) (.tmp 18) rfl Tryd.underlying22 (by kernel_rfl) (by omega) (by omega) rfl) ⟨I0, I0, T0⟩ T0 T0, ?_⟩
 refine ⟨app_yes rfl (sp_loadEl1 (X := sv xs[k]) (.tmp 19) rfl Tryd.underlying9 rfl (map_at1 xs (by omega))) ⟨I0, T0⟩ T0 T0, ?_⟩
 refine ⟨app_yes rfl (sp_move (.tmp 1) (strsA xs) rfl) ⟨I0, T0⟩ T0 T0, ?_⟩
 refine ⟨app_yes rfl (sp_move (.tmp 5) (iv k) rfl) ⟨I0, T0⟩ T0 T0, ?_⟩
 refine ⟨app_yes rfl (sp_indexSl (off := k * 1) (.tmp 21) (.tmp 22) rfl Tryd.underlying22 (by kernel_rfl) (by omega) (by omega) rfl) ⟨I0, I0, T0⟩ T0 T0, ?_⟩
 refine ⟨app_yes rfl (sp_loadEl1 (X := sv xs[k]) (.tmp 23) rfl Tryd.underlying9 rfl (map_at1 xs (by omega))) ⟨I0, T0⟩ T0 T0, ?_⟩
 refine ⟨app_yes rfl (sp_sneq (r := false) rfl (beq_self_eq_true _)) ⟨I0, I0, T0⟩ T0 T0, ?_⟩
 show ETri J w0 _ _ _
 refine kW 26 [] [(0, strsA xs), (1, strsA xs), (5, iv k), (14, bv true), (25, bv false)] ?_
 refine t_then ?_
 refine t_condF rfl ?_
 refine tri_skip ?_
 refine t_block ?_
 refine t_then ?_
 refine tri_region ?_
 refine oA (sp_move (.tmp 5) (iv k) rfl) I0 ?_
 refine oC (sp_add (c := ((k + 1 : Nat) : Int)) rfl (w64 (by omega) (by omega) (by omega))) I0 I0 ?_
 refine oA (sp_assign (.tmp 16) (iv (k + 1 : Nat)) rfl) I0 ?_
 refine kN 26 [] [(0, strsA xs), (1, strsA xs), (5, iv (k + 1 : Nat)), (14, bv true), (25, bv false)] ?_
 refine t_then ?_
 refine tri_again ⟨k + 1, by omega⟩ (show xs.length - (k + 1) < xs.length - k by omega) ?_
 exact wk_keep [] _ rfl (by kernel_rfl) (by kernel_rfl)
 refine tri_region ?_
 refine oA (sp_move (.tmp 5) (iv k) rfl) I0 ?_
 refine oA (sp_move (.tmp 0) (strsA xs) rfl) I0 ?_
 refine oA (sp_lenSl (.tmp 12) rfl Tryd.underlying22) I0 ?_
 refine oC (sp_lss rfl (dF hs1)) I0 I0 ?_
 refine kN 26 [] [(0, strsA xs), (1, strsA xs), (5, iv k), (14, bv false)] ?_
 refine t_then ?_
 refine t_condF rfl ?_
 refine tri_exit ?_
 refine t_then_exit ?_
 refine t_then_exit ?_
 refine t_hit ?_
 refine t_then ?_
 refine tri_seq ?_
 refine tri_region ?_
 refine oA (sp_assign (.const (.bool true)) (bv true) rfl) I0 ?_
 refine kN 26 [] [(4, bv true)] ?_
 refine t_then ?_
 refine tri_ret ?_
 refine tri_end1 Tryd.results55 (.tmp rfl) ?_
 exact rfl
set_option linter.unusedSimpArgs false in
set_option linter.unusedVariables false in
set_option maxRecDepth 100000 in
set_option maxHeartbeats 6400000 in
theorem sameLinears_c (xs : List Ln) (hx : xs.length ≤ 9223372036854775807) : Ctr Tryd.prog J 56 [slA 4 cLn xs, slA 4 cLn xs] (bv true) := by
 refine ctr_of_tri Tryd.func56 rfl (by intro X hX; simp only [List.mem_cons, List.not_mem_nil, or_false] at hX; rcases hX with rfl | rfl <;> exact plain_sl plain_ln _) (n := 26) rfl (by simp) (fun w0 => ?_)
 refine kW 26 [] [(0, slA 4 cLn xs), (1, slA 4 cLn xs)] ?_
 refine tri_seq ?_
 refine tri_region ?_
 refine oA (sp_assign (.const (.bool false)) (bv false) rfl) I0 ?_
 refine kN 26 [] [(0, slA 4 cLn xs), (1, slA 4 cLn xs), (4, bv false)] ?_
 refine t_then ?_
 refine tri_seq ?_
 refine tri_seq ?_
 refine tri_region ?_
 refine oA (sp_move (.tmp 0) (slA 4 cLn xs) rfl) I0 ?_
 refine oA (sp_lenSl (.tmp 6) rfl Tryd.underlying23) I0 ?_
 refine oA (sp_move (.tmp 1) (slA 4 cLn xs) rfl) I0 ?_
 refine oA (sp_lenSl (.tmp 8) rfl Tryd.underlying23) I0 ?_
 refine oC (sp_neq rfl (dT' rfl)) I0 I0 ?_
 refine kN 26 [] [(0, slA 4 cLn xs), (1, slA 4 cLn xs), (4, bv false), (10, bv false)] ?_
 refine t_then ?_
 refine t_condF rfl ?_
 refine tri_skip ?_
 refine t_then ?_
 refine tri_seq ?_
 refine tri_seq ?_
 refine tri_region ?_
 refine oA (sp_assign (.const (.int .i64 0)) (iv 0) rfl) I0 ?_
 refine kN 26 [] [(0, slA 4 cLn xs), (1, slA 4 cLn xs), (4, bv false), (5, iv 0)] ?_
 refine t_then ?_
 refine tri_block ?_
 refine tri_loop (σ := {k : Nat // k ≤ xs.length}) (fun s => (ofL [], ofT 26 [(0, slA 4 cLn xs), (1, slA 4 cLn xs), (5, iv s.1)])) (fun s => xs.length - s.1) ⟨0, Nat.zero_le _⟩ (wk_keep [] _ rfl (by kernel_rfl) (by kernel_rfl)) (fun s => ?_)
 obtain ⟨k, hk0⟩ := s
 show ETri J w0 (ofL []) (ofT 26 [(0, slA 4 cLn xs), (1, slA 4 cLn xs), (5, iv k)]) _
 refine tri_seq ?_
 refine tri_seq ?_
 by_cases hs1 : ((k : Nat) : Int) < ((xs.length : Nat) : Int)
 refine tri_region ?_
 refine oA (sp_move (.tmp 5) (iv k) rfl) I0 ?_
 refine oA (sp_move (.tmp 0) (slA 4 cLn xs) rfl) I0 ?_
 refine oA (sp_lenSl (.tmp 12) rfl Tryd.underlying23) I0 ?_
 refine oC (sp_lss rfl (dT hs1)) I0 I0 ?_
 refine kN 26 [] [(0, slA 4 cLn xs), (1, slA 4 cLn xs), (5, iv k), (14, bv true)] ?_
 refine t_then ?_
 refine t_condT rfl ?_
 refine tri_skip ?_
 refine t_then ?_
 refine tri_seq ?_
 refine tri_block ?_
 refine tri_seq ?_
 refine tri_draw [⟨[(.tmp 0, slA 4 cLn xs)], [], slA 4 cLn xs, .no⟩, ⟨[(.tmp 5, iv k)], [], iv k, .no⟩, ⟨[(.tmp 17, slA 4 cLn xs), (.tmp 18, iv k)], [], .el (xs.flatMap cLn) (k * 4), .no⟩, ⟨[(.tmp 19, .el (xs.flatMap cLn) (k * 4))], [], .agg (cLn xs[k]), .no⟩, ⟨[(.tmp 1, slA 4 cLn xs)], [], slA 4 cLn xs, .no⟩, ⟨[(.tmp 5, iv k)], [], iv k, .no⟩, ⟨[(.tmp 21, slA 4 cLn xs), (.tmp 22, iv k)], [], .el (xs.flatMap cLn) (k * 4), .no⟩, ⟨[(.tmp 23, .el (xs.flatMap cLn) (k * 4))], [], .agg (cLn xs[k]), .no⟩, ⟨[(.tmp 20, .agg (cLn xs[k])), (.tmp 24, .agg (cLn xs[k]))], [], bv false, .no⟩] (by kernel_rfl) (by kernel_rfl) ?_
 refine ⟨app_yes rfl (sp_move (.tmp 0) (slA 4 cLn xs) rfl) ⟨I0, T0⟩ T0 T0, ?_⟩
 refine ⟨app_yes rfl (sp_move (.tmp 5) (iv k) rfl) ⟨I0, T0⟩ T0 T0, ?_⟩
 refine ⟨app_yes rfl (sp_indexSl (off := k * 4) (.tmp 17) (.tmp 18) rfl Tryd.underlying23 (by kernel_rfl) (by omega) (by omega) rfl) ⟨I0, I0, T0⟩ T0 T0, ?_⟩
 refine ⟨app_yes rfl (sp_loadElS (z := 4) (.tmp 19) rfl Tryd.underlying87 rfl (by kernel_rfl) (flat_take lenLn xs k (by omega)) rfl) ⟨I0, T0⟩ T0 T0, ?_⟩
 refine ⟨app_yes rfl (sp_move (.tmp 1) (slA 4 cLn xs) rfl) ⟨I0, T0⟩ T0 T0, ?_⟩
 refine ⟨app_yes rfl (sp_move (.tmp 5) (iv k) rfl) ⟨I0, T0⟩ T0 T0, ?_⟩
 refine ⟨app_yes rfl (sp_indexSl (off := k * 4) (.tmp 21) (.tmp 22) rfl Tryd.underlying23 (by kernel_rfl) (by omega) (by omega) rfl) ⟨I0, I0, T0⟩ T0 T0, ?_⟩
 refine ⟨app_yes rfl (sp_loadElS (z := 4) (.tmp 23) rfl Tryd.underlying87 rfl (by kernel_rfl) (flat_take lenLn xs k (by omega)) rfl) ⟨I0, T0⟩ T0 T0, ?_⟩
 refine ⟨app_yes rfl (sp_aggNeq [.int .i64 xs[k].c, .int .i64 xs[k].n, .int .i64 xs[k].t, .int .i64 xs[k].f] rfl (by kernel_rfl) (fun w => eqn_ln _ _ _ _ w)) ⟨I0, I0, T0⟩ T0 T0, ?_⟩
 show ETri J w0 _ _ _
 refine kW 26 [] [(0, slA 4 cLn xs), (1, slA 4 cLn xs), (5, iv k), (14, bv true), (25, bv false)] ?_
 refine t_then ?_
 refine t_condF rfl ?_
 refine tri_skip ?_
 refine t_block ?_
 refine t_then ?_
 refine tri_region ?_
 refine oA (sp_move (.tmp 5) (iv k) rfl) I0 ?_
 refine oC (sp_add (c := ((k + 1 : Nat) : Int)) rfl (w64 (by omega) (by omega) (by omega))) I0 I0 ?_
 refine oA (sp_assign (.tmp 16) (iv (k + 1 : Nat)) rfl) I0 ?_
 refine kN 26 [] [(0, slA 4 cLn xs), (1, slA 4 cLn xs), (5, iv (k + 1 : Nat)), (14, bv true), (25, bv false)] ?_
 refine t_then ?_
 refine tri_again ⟨k + 1, by omega⟩ (show xs.length - (k + 1) < xs.length - k by omega) ?_
 exact wk_keep [] _ rfl (by kernel_rfl) (by kernel_rfl)
 refine tri_region ?_
 refine oA (sp_move (.tmp 5) (iv k) rfl) I0 ?_
 refine oA (sp_move (.tmp 0) (slA 4 cLn xs) rfl) I0 ?_
 refine oA (sp_lenSl (.tmp 12) rfl Tryd.underlying23) I0 ?_
 refine oC (sp_lss rfl (dF hs1)) I0 I0 ?_
 refine kN 26 [] [(0, slA 4 cLn xs), (1, slA 4 cLn xs), (5, iv k), (14, bv false)] ?_
 refine t_then ?_
 refine t_condF rfl ?_
 refine tri_exit ?_
 refine t_then_exit ?_
 refine t_then_exit ?_
 refine t_hit ?_
 refine t_then ?_
 refine tri_seq ?_
 refine tri_region ?_
 refine oA (sp_assign (.const (.bool true)) (bv true) rfl) I0 ?_
 refine kN 26 [] [(4, bv true)] ?_
 refine t_then ?_
 refine tri_ret ?_
 refine tri_end1 Tryd.results56 (.tmp rfl) ?_
 exact rfl
set_option linter.unusedSimpArgs false in
set_option linter.unusedVariables false in
set_option maxRecDepth 100000 in
set_option maxHeartbeats 6400000 in
theorem sameBut_c {r : Ru} (HR : RuOk r) : Ctr Tryd.prog J 54 [.agg (cRu r), .agg (cRu r)] (bv true) := by
 have l1 := HR.lguards
 refine ctr_of_tri Tryd.func54 rfl (by intro X hX; simp only [List.mem_cons, List.not_mem_nil, or_false] at hX; rcases hX with rfl | rfl <;> exact plain_agg (plain_ru r)) (n := 126) rfl (by simp) (fun w0 => ?_)
 refine kW 126 [] [(0, .agg (cRu r)), (1, .agg (cRu r))] ?_
 refine tri_seq ?_
 refine tri_region ?_
 refine t_op rfl (sp_box (X := .agg (cRu r)) (k := 1) (.tmp 0) rfl rfl) ⟨I0, T0⟩ T0 rfl ?_
 refine t_op rfl (sp_box (X := .agg (cRu r)) (k := 2) (.tmp 1) rfl rfl) ⟨I0, T0⟩ T0 rfl ?_
 refine oA (sp_assign (.const (.bool false)) (bv false) rfl) I0 ?_
 refine kN 126 [(1, .box 81 (cRu r)), (2, .box 81 (cRu r))] [(2, .box 1 0), (3, .box 2 0), (4, bv false)] ?_
 refine t_then ?_
 refine tri_seq ?_
 refine tri_seq ?_
 refine tri_region ?_
 refine oA (fB 7 (.tmp 2) rfl Tryd.underlying81 rfl 1 rfl) I0 ?_
 refine oB (lB (.box 81 (cRu r)) (slA 6 cTh r.guards) (.tmp 9) rfl Tryd.underlying79 rfl rfl) I0 rfl ?_
 refine oA (sp_lenSl (.tmp 10) rfl Tryd.underlying79) I0 ?_
 refine oA (fB 7 (.tmp 3) rfl Tryd.underlying81 rfl 1 rfl) I0 ?_
 refine oB (lB (.box 81 (cRu r)) (slA 6 cTh r.guards) (.tmp 12) rfl Tryd.underlying79 rfl rfl) I0 rfl ?_
 refine oA (sp_lenSl (.tmp 13) rfl Tryd.underlying79) I0 ?_
 refine oC (sp_neq rfl (dT' rfl)) I0 I0 ?_
 refine kN 126 [(1, .box 81 (cRu r)), (2, .box 81 (cRu r))] [(2, .box 1 0), (3, .box 2 0), (4, bv false), (15, bv false)] ?_
 refine t_then ?_
 refine t_condF rfl ?_
 refine tri_skip ?_
 refine t_then ?_
 refine tri_seq ?_
 refine tri_seq ?_
 refine tri_region ?_
 refine oA (sp_assign (.const (.int .i64 0)) (iv 0) rfl) I0 ?_
 refine kN 126 [(1, .box 81 (cRu r)), (2, .box 81 (cRu r))] [(2, .box 1 0), (3, .box 2 0), (4, bv false), (5, iv 0)] ?_
 refine t_then ?_
 refine tri_block ?_
 refine tri_loop (σ := {k : Nat // k ≤ r.guards.length}) (fun s => (ofL [(1, .box 81 (cRu r)), (2, .box 81 (cRu r))], ofT 126 [(2, .box 1 0), (3, .box 2 0), (5, iv s.1)])) (fun s => r.guards.length - s.1) ⟨0, Nat.zero_le _⟩ (wk_keep _ _ rfl (by kernel_rfl) (by kernel_rfl)) (fun s => ?_)
 obtain ⟨k, hk0⟩ := s
 show ETri J w0 (ofL [(1, .box 81 (cRu r)), (2, .box 81 (cRu r))]) (ofT 126 [(2, .box 1 0), (3, .box 2 0), (5, iv k)]) _
 refine tri_seq ?_
 refine tri_seq ?_
 by_cases hs1 : ((k : Nat) : Int) < ((r.guards.length : Nat) : Int)
 refine tri_region ?_
 refine oA (sp_move (.tmp 5) (iv k) rfl) I0 ?_
 refine oA (fB 7 (.tmp 2) rfl Tryd.underlying81 rfl 1 rfl) I0 ?_
 refine oB (lB (.box 81 (cRu r)) (slA 6 cTh r.guards) (.tmp 17) rfl Tryd.underlying79 rfl rfl) I0 rfl ?_
 refine oA (sp_lenSl (.tmp 18) rfl Tryd.underlying79) I0 ?_
 refine oC (sp_lss rfl (dT hs1)) I0 I0 ?_
 refine kN 126 [(1, .box 81 (cRu r)), (2, .box 81 (cRu r))] [(2, .box 1 0), (3, .box 2 0), (5, iv k), (20, bv true)] ?_
 refine t_then ?_
 refine t_condT rfl ?_
 refine tri_skip ?_
 refine t_then ?_
 refine tri_seq ?_
 refine tri_block ?_
 refine tri_seq ?_
 refine tri_draw [⟨[(.tmp 2, .box 1 0)], [], .box 1 7, .no⟩, ⟨[(.tmp 23, .box 1 7)], [(1, .box 81 (cRu r))], slA 6 cTh r.guards, .no⟩, ⟨[(.tmp 5, iv k)], [], iv k, .no⟩, ⟨[(.tmp 24, slA 6 cTh r.guards), (.tmp 25, iv k)], [], .el (r.guards.flatMap cTh) (k * 6), .no⟩, ⟨[(.tmp 26, .el (r.guards.flatMap cTh) (k * 6))], [], .agg (cTh r.guards[k]), .no⟩, ⟨[(.tmp 3, .box 2 0)], [], .box 2 7, .no⟩, ⟨[(.tmp 28, .box 2 7)], [(2, .box 81 (cRu r))], slA 6 cTh r.guards, .no⟩, ⟨[(.tmp 5, iv k)], [], iv k, .no⟩, ⟨[(.tmp 29, slA 6 cTh r.guards), (.tmp 30, iv k)], [], .el (r.guards.flatMap cTh) (k * 6), .no⟩, ⟨[(.tmp 31, .el (r.guards.flatMap cTh) (k * 6))], [], .agg (cTh r.guards[k]), .no⟩, ⟨[(.func 102, .v (.func (.func 102) #[] #[])), (.tmp 27, .agg (cTh r.guards[k])), (.tmp 32, .agg (cTh r.guards[k]))], [], bv true, .no⟩, ⟨[(.tmp 33, bv true)], [], bv false, .no⟩] (by kernel_rfl) (by kernel_rfl) ?_
 refine ⟨app_yes rfl (fB 7 (.tmp 2) rfl Tryd.underlying81 rfl 1 rfl) ⟨I0, T0⟩ T0 T0, ?_⟩
 refine ⟨app_yes rfl (lB (.box 81 (cRu r)) (slA 6 cTh r.guards) (.tmp 23) rfl Tryd.underlying79 rfl rfl) ⟨I0, T0⟩ ⟨rfl, T0⟩ T0, ?_⟩
 refine ⟨app_yes rfl (sp_move (.tmp 5) (iv k) rfl) ⟨I0, T0⟩ T0 T0, ?_⟩
 refine ⟨app_yes rfl (sp_indexSl (off := k * 6) (.tmp 24) (.tmp 25) rfl Tryd.underlying79 (by kernel_rfl) (by omega) (by omega) rfl) ⟨I0, I0, T0⟩ T0 T0, ?_⟩
 refine ⟨app_yes rfl (sp_loadElS (z := 6) (.tmp 26) rfl Tryd.underlying135 rfl (by kernel_rfl) (flat_take lenTh r.guards k (by omega)) rfl) ⟨I0, T0⟩ T0 T0, ?_⟩
 refine ⟨app_yes rfl (fB 7 (.tmp 3) rfl Tryd.underlying81 rfl 1 rfl) ⟨I0, T0⟩ T0 T0, ?_⟩
 refine ⟨app_yes rfl (lB (.box 81 (cRu r)) (slA 6 cTh r.guards) (.tmp 28) rfl Tryd.underlying79 rfl rfl) ⟨I0, T0⟩ ⟨rfl, T0⟩ T0, ?_⟩
 refine ⟨app_yes rfl (sp_move (.tmp 5) (iv k) rfl) ⟨I0, T0⟩ T0 T0, ?_⟩
 refine ⟨app_yes rfl (sp_indexSl (off := k * 6) (.tmp 29) (.tmp 30) rfl Tryd.underlying79 (by kernel_rfl) (by omega) (by omega) rfl) ⟨I0, I0, T0⟩ T0 T0, ?_⟩
 refine ⟨app_yes rfl (sp_loadElS (z := 6) (.tmp 31) rfl Tryd.underlying135 rfl (by kernel_rfl) (flat_take lenTh r.guards k (by omega)) rfl) ⟨I0, T0⟩ T0 T0, ?_⟩
 refine ⟨app_yes rfl (sp_call (c := .func 102) (xs := #[.tmp 27, .tmp 32]) [] (sameTh_c r.guards[k]) rfl (by kernel_rfl) rfl (Xs := [.agg (cTh r.guards[k]), .agg (cTh r.guards[k])]) rfl rfl rfl) ⟨I0, I0, I0, T0⟩ T0 T0, ?_⟩
 refine ⟨app_yes rfl (sp_not rfl rfl) ⟨I0, T0⟩ T0 T0, ?_⟩
 show ETri J w0 _ _ _
 refine kW 126 [(1, .box 81 (cRu r)), (2, .box 81 (cRu r))] [(2, .box 1 0), (3, .box 2 0), (5, iv k), (20, bv true), (34, bv false)] ?_
 refine t_then ?_
 refine t_condF rfl ?_
 refine tri_skip ?_
 refine t_block ?_
 refine t_then ?_
 refine tri_region ?_
 refine oA (sp_move (.tmp 5) (iv k) rfl) I0 ?_
 refine oC (sp_add (c := ((k + 1 : Nat) : Int)) rfl (w64 (by omega) (by omega) (by omega))) I0 I0 ?_
 refine oA (sp_assign (.tmp 22) (iv (k + 1 : Nat)) rfl) I0 ?_
 refine kN 126 [(1, .box 81 (cRu r)), (2, .box 81 (cRu r))] [(2, .box 1 0), (3, .box 2 0), (5, iv (k + 1 : Nat)), (20, bv true), (34, bv false)] ?_
 refine t_then ?_
 refine tri_again ⟨k + 1, by omega⟩ (show r.guards.length - (k + 1) < r.guards.length - k by omega) ?_
 exact wk_keep _ _ rfl (by kernel_rfl) (by kernel_rfl)
 refine tri_region ?_
 refine oA (sp_move (.tmp 5) (iv k) rfl) I0 ?_
 refine oA (fB 7 (.tmp 2) rfl Tryd.underlying81 rfl 1 rfl) I0 ?_
 refine oB (lB (.box 81 (cRu r)) (slA 6 cTh r.guards) (.tmp 17) rfl Tryd.underlying79 rfl rfl) I0 rfl ?_
 refine oA (sp_lenSl (.tmp 18) rfl Tryd.underlying79) I0 ?_
 refine oC (sp_lss rfl (dF hs1)) I0 I0 ?_
 refine kN 126 [(1, .box 81 (cRu r)), (2, .box 81 (cRu r))] [(2, .box 1 0), (3, .box 2 0), (5, iv k), (20, bv false)] ?_
 refine t_then ?_
 refine t_condF rfl ?_
 refine tri_exit ?_
 refine t_then_exit ?_
 refine t_then_exit ?_
 refine t_hit ?_
 refine t_then ?_
 refine tri_seq ?_
 refine tri_region ?_
 refine oA (fB 1 (.tmp 2) rfl Tryd.underlying81 rfl 1 rfl) I0 ?_
 refine oB (lB (.box 81 (cRu r)) (iv r.kind) (.tmp 35) rfl Tryd.underlying3 rfl rfl) I0 rfl ?_
 refine oA (fB 2 (.tmp 2) rfl Tryd.underlying81 rfl 1 rfl) I0 ?_
 refine oB (lB (.box 81 (cRu r)) (iv r.frm) (.tmp 37) rfl Tryd.underlying3 rfl rfl) I0 rfl ?_
 refine oA (fB 3 (.tmp 2) rfl Tryd.underlying81 rfl 1 rfl) I0 ?_
 refine oB (lB (.box 81 (cRu r)) (iv r.to) (.tmp 39) rfl Tryd.underlying3 rfl rfl) I0 rfl ?_
 refine oA (fB 4 (.tmp 2) rfl Tryd.underlying81 rfl 1 rfl) I0 ?_
 refine oB (lB (.box 81 (cRu r)) (iv r.pf) (.tmp 41) rfl Tryd.underlying3 rfl rfl) I0 rfl ?_
 refine oA (fB 5 (.tmp 2) rfl Tryd.underlying81 rfl 1 rfl) I0 ?_
 refine oB (lB (.box 81 (cRu r)) (iv r.pt) (.tmp 43) rfl Tryd.underlying3 rfl rfl) I0 rfl ?_
 refine oA (fB 10 (.tmp 2) rfl Tryd.underlying81 rfl 1 rfl) I0 ?_
 refine oB (lB (.box 81 (cRu r)) (iv r.rd) (.tmp 45) rfl Tryd.underlying3 rfl rfl) I0 rfl ?_
 refine oA (fB 11 (.tmp 2) rfl Tryd.underlying81 rfl 1 rfl) I0 ?_
 refine oB (lB (.box 81 (cRu r)) (iv r.wr) (.tmp 47) rfl Tryd.underlying3 rfl rfl) I0 rfl ?_
 refine oA (fB 13 (.tmp 2) rfl Tryd.underlying81 rfl 1 rfl) I0 ?_
 refine oB (lB (.box 81 (cRu r)) (iv r.pos) (.tmp 49) rfl Tryd.underlying3 rfl rfl) I0 rfl ?_
 refine oA (fB 17 (.tmp 2) rfl Tryd.underlying81 rfl 1 rfl) I0 ?_
 refine oB (lB (.box 81 (cRu r)) (iv r.dir) (.tmp 51) rfl Tryd.underlying3 rfl rfl) I0 rfl ?_
 refine t_op rfl (sp_build (z := 1) (k := 3) (fr := true) (cs := [iv r.kind, iv r.frm, iv r.to, iv r.pf, iv r.pt, iv r.rd, iv r.wr, iv r.pos, iv r.dir]) [.tmp 36, .tmp 38, .tmp 40, .tmp 42, .tmp 44, .tmp 46, .tmp 48, .tmp 50, .tmp 52] [iv r.kind, iv r.frm, iv r.to, iv r.pf, iv r.pt, iv r.rd, iv r.wr, iv r.pos, iv r.dir] rfl Tryd.underlying24 (by kernel_rfl) (by decide) (by decide) rfl rfl rfl (by kernel_rfl) (by decide) (fun _ => by simp [AV.cellsOf, AV.isNew, cLn, cTh]) (by kernel_rfl)) ⟨I0, I0, I0, I0, I0, I0, I0, I0, I0, T0⟩ T0 rfl ?_
 refine oA (sp_assign (.tmp 53) (.own 3) rfl) I0 ?_
 refine kN 126 [(1, .box 81 (cRu r)), (2, .box 81 (cRu r)), (3, .row true 3 1 9 ([iv r.kind, iv r.frm, iv r.to, iv r.pf, iv r.pt, iv r.rd, iv r.wr, iv r.pos, iv r.dir]))] [(2, .box 1 0), (3, .box 2 0), (6, .own 3)] ?_
 refine t_then ?_
 refine tri_seq ?_
 refine tri_region ?_
 refine oA (fB 1 (.tmp 3) rfl Tryd.underlying81 rfl 1 rfl) I0 ?_
 refine oB (lB (.box 81 (cRu r)) (iv r.kind) (.tmp 54) rfl Tryd.underlying3 rfl rfl) I0 rfl ?_
 refine oA (fB 2 (.tmp 3) rfl Tryd.underlying81 rfl 1 rfl) I0 ?_
 refine oB (lB (.box 81 (cRu r)) (iv r.frm) (.tmp 56) rfl Tryd.underlying3 rfl rfl) I0 rfl ?_
 refine oA (fB 3 (.tmp 3) rfl Tryd.underlying81 rfl 1 rfl) I0 ?_
 refine oB (lB (.box 81 (cRu r)) (iv r.to) (.tmp 58) rfl Tryd.underlying3 rfl rfl) I0 rfl ?_
 refine oA (fB 4 (.tmp 3) rfl Tryd.underlying81 rfl 1 rfl) I0 ?_
 refine oB (lB (.box 81 (cRu r)) (iv r.pf) (.tmp 60) rfl Tryd.underlying3 rfl rfl) I0 rfl ?_
 refine oA (fB 5 (.tmp 3) rfl Tryd.underlying81 rfl 1 rfl) I0 ?_
 refine oB (lB (.box 81 (cRu r)) (iv r.pt) (.tmp 62) rfl Tryd.underlying3 rfl rfl) I0 rfl ?_
 refine oA (fB 10 (.tmp 3) rfl Tryd.underlying81 rfl 1 rfl) I0 ?_
 refine oB (lB (.box 81 (cRu r)) (iv r.rd) (.tmp 64) rfl Tryd.underlying3 rfl rfl) I0 rfl ?_
 refine oA (fB 11 (.tmp 3) rfl Tryd.underlying81 rfl 1 rfl) I0 ?_
 refine oB (lB (.box 81 (cRu r)) (iv r.wr) (.tmp 66) rfl Tryd.underlying3 rfl rfl) I0 rfl ?_
 refine oA (fB 13 (.tmp 3) rfl Tryd.underlying81 rfl 1 rfl) I0 ?_
 refine oB (lB (.box 81 (cRu r)) (iv r.pos) (.tmp 68) rfl Tryd.underlying3 rfl rfl) I0 rfl ?_
 refine oA (fB 17 (.tmp 3) rfl Tryd.underlying81 rfl 1 rfl) I0 ?_
 refine oB (lB (.box 81 (cRu r)) (iv r.dir) (.tmp 70) rfl Tryd.underlying3 rfl rfl) I0 rfl ?_
 refine t_op rfl (sp_build (z := 1) (k := 4) (fr := true) (cs := [iv r.kind, iv r.frm, iv r.to, iv r.pf, iv r.pt, iv r.rd, iv r.wr, iv r.pos, iv r.dir]) [.tmp 55, .tmp 57, .tmp 59, .tmp 61, .tmp 63, .tmp 65, .tmp 67, .tmp 69, .tmp 71] [iv r.kind, iv r.frm, iv r.to, iv r.pf, iv r.pt, iv r.rd, iv r.wr, iv r.pos, iv r.dir] rfl Tryd.underlying24 (by kernel_rfl) (by decide) (by decide) rfl rfl rfl (by kernel_rfl) (by decide) (fun _ => by simp [AV.cellsOf, AV.isNew, cLn, cTh]) (by kernel_rfl)) ⟨I0, I0, I0, I0, I0, I0, I0, I0, I0, T0⟩ T0 rfl ?_
 refine oA (sp_assign (.tmp 72) (.own 4) rfl) I0 ?_
 refine kN 126 [(1, .box 81 (cRu r)), (2, .box 81 (cRu r)), (3, .row true 3 1 9 ([iv r.kind, iv r.frm, iv r.to, iv r.pf, iv r.pt, iv r.rd, iv r.wr, iv r.pos, iv r.dir])), (4, .row true 3 1 9 ([iv r.kind, iv r.frm, iv r.to, iv r.pf, iv r.pt, iv r.rd, iv r.wr, iv r.pos, iv r.dir]))] [(2, .box 1 0), (3, .box 2 0), (6, .own 3), (7, .own 4)] ?_
 refine t_then ?_
 refine tri_seq ?_
 refine tri_region ?_
 refine oA (sp_move (.tmp 6) (.own 3) rfl) I0 ?_
 refine oA (sp_move (.tmp 7) (.own 4) rfl) I0 ?_
 refine t_op rfl (sp_call (c := .func 19) (xs := #[.tmp 73, .tmp 74]) [(3, .row true 3 1 9 ([iv r.kind, iv r.frm, iv r.to, iv r.pf, iv r.pt, iv r.rd, iv r.wr, iv r.pos, iv r.dir])), (4, .row true 3 1 9 ([iv r.kind, iv r.frm, iv r.to, iv r.pf, iv r.pt, iv r.rd, iv r.wr, iv r.pos, iv r.dir]))] (sameInts_c ([r.kind, r.frm, r.to, r.pf, r.pt, r.rd, r.wr, r.pos, r.dir]) (ruInts HR)) rfl (by kernel_rfl) rfl (Xs := [.own 3, .own 4]) rfl rfl rfl) ⟨I0, I0, I0, T0⟩ ⟨rfl, rfl, T0⟩ T0 ?_
 refine oA (sp_move (.tmp 75) (bv true) rfl) I0 ?_
 refine gA (fB 6 (.tmp 2) rfl Tryd.underlying81 rfl 1 rfl) I0 ?_
 refine gB (lB (.box 81 (cRu r)) (intsA r.resp) (.tmp 77) rfl Tryd.underlying24 rfl rfl) I0 rfl ?_
 refine gA (fB 6 (.tmp 3) rfl Tryd.underlying81 rfl 1 rfl) I0 ?_
 refine gB (lB (.box 81 (cRu r)) (intsA r.resp) (.tmp 79) rfl Tryd.underlying24 rfl rfl) I0 rfl ?_
 refine gD (sp_call (c := .func 19) (xs := #[.tmp 78, .tmp 80]) [] (sameInts_c r.resp HR.resp) rfl (by kernel_rfl) rfl (Xs := [intsA r.resp, intsA r.resp]) rfl rfl rfl) I0 I0 I0 ?_
 refine oD (sp_pick (.tmp 76) (.tmp 81) (.const (.bool false)) true (bv true) (bv false) rfl) I0 I0 I0 ?_
 refine oA (sp_move (.tmp 82) (bv true) rfl) I0 ?_
 refine gA (fB 8 (.tmp 2) rfl Tryd.underlying81 rfl 1 rfl) I0 ?_
 refine gB (lB (.box 81 (cRu r)) (intsA r.ex) (.tmp 84) rfl Tryd.underlying24 rfl rfl) I0 rfl ?_
 refine gA (fB 8 (.tmp 3) rfl Tryd.underlying81 rfl 1 rfl) I0 ?_
 refine gB (lB (.box 81 (cRu r)) (intsA r.ex) (.tmp 86) rfl Tryd.underlying24 rfl rfl) I0 rfl ?_
 refine gD (sp_call (c := .func 19) (xs := #[.tmp 85, .tmp 87]) [] (sameInts_c r.ex HR.ex) rfl (by kernel_rfl) rfl (Xs := [intsA r.ex, intsA r.ex]) rfl rfl rfl) I0 I0 I0 ?_
 refine oD (sp_pick (.tmp 83) (.tmp 88) (.const (.bool false)) true (bv true) (bv false) rfl) I0 I0 I0 ?_
 refine oA (sp_move (.tmp 89) (bv true) rfl) I0 ?_
 refine gA (fB 9 (.tmp 2) rfl Tryd.underlying81 rfl 1 rfl) I0 ?_
 refine gB (lB (.box 81 (cRu r)) (intsA r.fa) (.tmp 91) rfl Tryd.underlying24 rfl rfl) I0 rfl ?_
 refine gA (fB 9 (.tmp 3) rfl Tryd.underlying81 rfl 1 rfl) I0 ?_
 refine gB (lB (.box 81 (cRu r)) (intsA r.fa) (.tmp 93) rfl Tryd.underlying24 rfl rfl) I0 rfl ?_
 refine gD (sp_call (c := .func 19) (xs := #[.tmp 92, .tmp 94]) [] (sameInts_c r.fa HR.fa) rfl (by kernel_rfl) rfl (Xs := [intsA r.fa, intsA r.fa]) rfl rfl rfl) I0 I0 I0 ?_
 refine oD (sp_pick (.tmp 90) (.tmp 95) (.const (.bool false)) true (bv true) (bv false) rfl) I0 I0 I0 ?_
 refine oA (sp_assign (.tmp 96) (bv true) rfl) I0 ?_
 refine kN 126 [(1, .box 81 (cRu r)), (2, .box 81 (cRu r))] [(2, .box 1 0), (3, .box 2 0), (8, bv true)] ?_
 refine t_then ?_
 refine tri_seq ?_
 refine tri_region ?_
 refine oA (sp_move (.tmp 8) (bv true) rfl) I0 ?_
 refine oA (sp_move (.tmp 97) (bv true) rfl) I0 ?_
 refine gA (fB 12 (.tmp 2) rfl Tryd.underlying81 rfl 1 rfl) I0 ?_
 refine gB (lB (.box 81 (cRu r)) (intsA r.send) (.tmp 99) rfl Tryd.underlying24 rfl rfl) I0 rfl ?_
 refine gA (fB 12 (.tmp 3) rfl Tryd.underlying81 rfl 1 rfl) I0 ?_
 refine gB (lB (.box 81 (cRu r)) (intsA r.send) (.tmp 101) rfl Tryd.underlying24 rfl rfl) I0 rfl ?_
 refine gD (sp_call (c := .func 19) (xs := #[.tmp 100, .tmp 102]) [] (sameInts_c r.send HR.send) rfl (by kernel_rfl) rfl (Xs := [intsA r.send, intsA r.send]) rfl rfl rfl) I0 I0 I0 ?_
 refine oD (sp_pick (.tmp 98) (.tmp 103) (.const (.bool false)) true (bv true) (bv false) rfl) I0 I0 I0 ?_
 refine oA (sp_move (.tmp 104) (bv true) rfl) I0 ?_
 refine gA (fB 14 (.tmp 2) rfl Tryd.underlying81 rfl 1 rfl) I0 ?_
 refine gB (lB (.box 81 (cRu r)) (intsA r.left) (.tmp 106) rfl Tryd.underlying24 rfl rfl) I0 rfl ?_
 refine gA (fB 14 (.tmp 3) rfl Tryd.underlying81 rfl 1 rfl) I0 ?_
 refine gB (lB (.box 81 (cRu r)) (intsA r.left) (.tmp 108) rfl Tryd.underlying24 rfl rfl) I0 rfl ?_
 refine gD (sp_call (c := .func 19) (xs := #[.tmp 107, .tmp 109]) [] (sameInts_c r.left HR.left) rfl (by kernel_rfl) rfl (Xs := [intsA r.left, intsA r.left]) rfl rfl rfl) I0 I0 I0 ?_
 refine oD (sp_pick (.tmp 105) (.tmp 110) (.const (.bool false)) true (bv true) (bv false) rfl) I0 I0 I0 ?_
 refine oA (sp_move (.tmp 111) (bv true) rfl) I0 ?_
 refine gA (fB 15 (.tmp 2) rfl Tryd.underlying81 rfl 1 rfl) I0 ?_
 refine gB (lB (.box 81 (cRu r)) (intsA r.right) (.tmp 113) rfl Tryd.underlying24 rfl rfl) I0 rfl ?_
 refine gA (fB 15 (.tmp 3) rfl Tryd.underlying81 rfl 1 rfl) I0 ?_
 refine gB (lB (.box 81 (cRu r)) (intsA r.right) (.tmp 115) rfl Tryd.underlying24 rfl rfl) I0 rfl ?_
 refine gD (sp_call (c := .func 19) (xs := #[.tmp 114, .tmp 116]) [] (sameInts_c r.right HR.right) rfl (by kernel_rfl) rfl (Xs := [intsA r.right, intsA r.right]) rfl rfl rfl) I0 I0 I0 ?_
 refine oD (sp_pick (.tmp 112) (.tmp 117) (.const (.bool false)) true (bv true) (bv false) rfl) I0 I0 I0 ?_
 refine oA (sp_move (.tmp 118) (bv true) rfl) I0 ?_
 refine gA (fB 16 (.tmp 2) rfl Tryd.underlying81 rfl 1 rfl) I0 ?_
 refine gB (lB (.box 81 (cRu r)) (intsA r.parent) (.tmp 120) rfl Tryd.underlying24 rfl rfl) I0 rfl ?_
 refine gA (fB 16 (.tmp 3) rfl Tryd.underlying81 rfl 1 rfl) I0 ?_
 refine gB (lB (.box 81 (cRu r)) (intsA r.parent) (.tmp 122) rfl Tryd.underlying24 rfl rfl) I0 rfl ?_
 refine gD (sp_call (c := .func 19) (xs := #[.tmp 121, .tmp 123]) [] (sameInts_c r.parent HR.parent) rfl (by kernel_rfl) rfl (Xs := [intsA r.parent, intsA r.parent]) rfl rfl rfl) I0 I0 I0 ?_
 refine oD (sp_pick (.tmp 119) (.tmp 124) (.const (.bool false)) true (bv true) (bv false) rfl) I0 I0 I0 ?_
 refine oA (sp_assign (.tmp 125) (bv true) rfl) I0 ?_
 refine kN 126 [] [(4, bv true)] ?_
 refine t_then ?_
 refine tri_ret ?_
 refine tri_end1 Tryd.results54 (.tmp rfl) ?_
 exact rfl
set_option linter.unusedSimpArgs false in
set_option linter.unusedVariables false in
set_option maxRecDepth 100000 in
set_option maxHeartbeats 6400000 in
theorem rEqual_s {q : Fm} (HQ : FmOk q) : Ctr Tryd.prog J 20 [.agg (cFm q), .agg (cFm q)] (bv true) := by
 have l1 := HQ.lrules
 refine ctr_of_tri Tryd.func20 rfl (by intro X hX; simp only [List.mem_cons, List.not_mem_nil, or_false] at hX; rcases hX with rfl | rfl <;> exact plain_agg (plain_fm q)) (n := 110) rfl (by simp) (fun w0 => ?_)
 refine kW 110 [] [(0, .agg (cFm q)), (1, .agg (cFm q))] ?_
 refine tri_seq ?_
 refine tri_region ?_
 refine t_op rfl (sp_box (X := .agg (cFm q)) (k := 1) (.tmp 0) rfl rfl) ⟨I0, T0⟩ T0 rfl ?_
 refine t_op rfl (sp_box (X := .agg (cFm q)) (k := 2) (.tmp 1) rfl rfl) ⟨I0, T0⟩ T0 rfl ?_
 refine oA (sp_assign (.const (.bool false)) (bv false) rfl) I0 ?_
 refine kN 110 [(1, .box 27 (cFm q)), (2, .box 27 (cFm q))] [(2, .box 1 0), (3, .box 2 0), (4, bv false)] ?_
 refine t_then ?_
 refine tri_seq ?_
 refine tri_seq ?_
 refine tri_region ?_
 refine oA (fB 0 (.tmp 2) rfl Tryd.underlying27 rfl 1 rfl) I0 ?_
 refine oB (lB (.box 27 (cFm q)) (sv q.nm) (.tmp 7) rfl Tryd.underlying9 rfl rfl) I0 rfl ?_
 refine oA (fB 0 (.tmp 3) rfl Tryd.underlying27 rfl 1 rfl) I0 ?_
 refine oB (lB (.box 27 (cFm q)) (sv q.nm) (.tmp 9) rfl Tryd.underlying9 rfl rfl) I0 rfl ?_
 refine oC (sp_sneq (r := false) rfl (beq_self_eq_true _)) I0 I0 ?_
 refine oA (sp_move (.tmp 11) (bv false) rfl) I0 ?_
 refine gA (fB 1 (.tmp 2) rfl Tryd.underlying27 rfl 1 rfl) I0 ?_
 refine gB (lB (.box 27 (cFm q)) (iv q.top) (.tmp 13) rfl Tryd.underlying3 rfl rfl) I0 rfl ?_
 refine gA (fB 1 (.tmp 3) rfl Tryd.underlying27 rfl 1 rfl) I0 ?_
 refine gB (lB (.box 27 (cFm q)) (iv q.top) (.tmp 15) rfl Tryd.underlying3 rfl rfl) I0 rfl ?_
 refine gC (sp_neq rfl (dT' rfl)) I0 I0 ?_
 refine oD (sp_pick (.tmp 12) (.const (.bool true)) (.tmp 17) false (bv true) (bv false) rfl) I0 I0 I0 ?_
 refine oA (sp_move (.tmp 18) (bv false) rfl) I0 ?_
 refine gA (fB 5 (.tmp 2) rfl Tryd.underlying27 rfl 1 rfl) I0 ?_
 refine gB (lB (.box 27 (cFm q)) (iv q.fault) (.tmp 20) rfl Tryd.underlying3 rfl rfl) I0 rfl ?_
 refine gA (fB 5 (.tmp 3) rfl Tryd.underlying27 rfl 1 rfl) I0 ?_
 refine gB (lB (.box 27 (cFm q)) (iv q.fault) (.tmp 22) rfl Tryd.underlying3 rfl rfl) I0 rfl ?_
 refine gC (sp_neq rfl (dT' rfl)) I0 I0 ?_
 refine oD (sp_pick (.tmp 19) (.const (.bool true)) (.tmp 24) false (bv true) (bv false) rfl) I0 I0 I0 ?_
 refine oA (sp_move (.tmp 25) (bv false) rfl) I0 ?_
 refine gA (fB 9 (.tmp 2) rfl Tryd.underlying27 rfl 1 rfl) I0 ?_
 refine gB (lB (.box 27 (cFm q)) (slA 18 cRu q.rules) (.tmp 27) rfl Tryd.underlying25 rfl rfl) I0 rfl ?_
 refine gA (sp_lenSl (.tmp 28) rfl Tryd.underlying25) I0 ?_
 refine gA (fB 9 (.tmp 3) rfl Tryd.underlying27 rfl 1 rfl) I0 ?_
 refine gB (lB (.box 27 (cFm q)) (slA 18 cRu q.rules) (.tmp 30) rfl Tryd.underlying25 rfl rfl) I0 rfl ?_
 refine gA (sp_lenSl (.tmp 31) rfl Tryd.underlying25) I0 ?_
 refine gC (sp_neq rfl (dT' rfl)) I0 I0 ?_
 refine oD (sp_pick (.tmp 26) (.const (.bool true)) (.tmp 33) false (bv true) (bv false) rfl) I0 I0 I0 ?_
 refine kN 110 [(1, .box 27 (cFm q)), (2, .box 27 (cFm q))] [(2, .box 1 0), (3, .box 2 0), (4, bv false), (34, bv false)] ?_
 refine t_then ?_
 refine t_condF rfl ?_
 refine tri_skip ?_
 refine t_then ?_
 refine tri_seq ?_
 refine tri_seq ?_
 refine tri_region ?_
 refine oA (sp_assign (.const (.int .i64 0)) (iv 0) rfl) I0 ?_
 refine kN 110 [(1, .box 27 (cFm q)), (2, .box 27 (cFm q))] [(2, .box 1 0), (3, .box 2 0), (4, bv false), (5, iv 0)] ?_
 refine t_then ?_
 refine tri_block ?_
 refine tri_loop (σ := {k : Nat // k ≤ q.rules.length}) (fun s => (ofL [(1, .box 27 (cFm q)), (2, .box 27 (cFm q))], ofT 110 [(2, .box 1 0), (3, .box 2 0), (5, iv s.1)])) (fun s => q.rules.length - s.1) ⟨0, Nat.zero_le _⟩ (wk_keep _ _ rfl (by kernel_rfl) (by kernel_rfl)) (fun s => ?_)
 obtain ⟨k, hk0⟩ := s
 show ETri J w0 (ofL [(1, .box 27 (cFm q)), (2, .box 27 (cFm q))]) (ofT 110 [(2, .box 1 0), (3, .box 2 0), (5, iv k)]) _
 refine tri_seq ?_
 refine tri_seq ?_
 by_cases hs1 : ((k : Nat) : Int) < ((q.rules.length : Nat) : Int)
 refine tri_region ?_
 refine oA (sp_move (.tmp 5) (iv k) rfl) I0 ?_
 refine oA (fB 9 (.tmp 2) rfl Tryd.underlying27 rfl 1 rfl) I0 ?_
 refine oB (lB (.box 27 (cFm q)) (slA 18 cRu q.rules) (.tmp 36) rfl Tryd.underlying25 rfl rfl) I0 rfl ?_
 refine oA (sp_lenSl (.tmp 37) rfl Tryd.underlying25) I0 ?_
 refine oC (sp_lss rfl (dT hs1)) I0 I0 ?_
 refine kN 110 [(1, .box 27 (cFm q)), (2, .box 27 (cFm q))] [(2, .box 1 0), (3, .box 2 0), (5, iv k), (39, bv true)] ?_
 refine t_then ?_
 refine t_condT rfl ?_
 refine tri_skip ?_
 refine t_then ?_
 refine tri_seq ?_
 refine tri_block ?_
 refine tri_seq ?_
 refine tri_draw [⟨[(.tmp 2, .box 1 0)], [], .box 1 9, .no⟩, ⟨[(.tmp 42, .box 1 9)], [(1, .box 27 (cFm q))], slA 18 cRu q.rules, .no⟩, ⟨[(.tmp 5, iv k)], [], iv k, .no⟩, ⟨[(.tmp 43, slA 18 cRu q.rules), (.tmp 44, iv k)], [], .el (q.rules.flatMap cRu) (k * 18), .no⟩, ⟨[(.tmp 45, .el (q.rules.flatMap cRu) (k * 18))], [], .el (q.rules.flatMap cRu) (k * 18), .no⟩, ⟨[(.tmp 46, .el (q.rules.flatMap cRu) (k * 18))], [], sv q.rules[k].nm, .no⟩, ⟨[(.tmp 3, .box 2 0)], [], .box 2 9, .no⟩, ⟨[(.tmp 48, .box 2 9)], [(2, .box 27 (cFm q))], slA 18 cRu q.rules, .no⟩, ⟨[(.tmp 5, iv k)], [], iv k, .no⟩, ⟨[(.tmp 49, slA 18 cRu q.rules), (.tmp 50, iv k)], [], .el (q.rules.flatMap cRu) (k * 18), .no⟩, ⟨[(.tmp 51, .el (q.rules.flatMap cRu) (k * 18))], [], .el (q.rules.flatMap cRu) (k * 18), .no⟩, ⟨[(.tmp 52, .el (q.rules.flatMap cRu) (k * 18))], [], sv q.rules[k].nm, .no⟩, ⟨[(.tmp 47, sv q.rules[k].nm), (.tmp 53, sv q.rules[k].nm)], [], bv false, .no⟩, ⟨[(.tmp 54, bv false)], [], bv false, .no⟩, ⟨[(.tmp 2, .box 1 0)], [], .box 1 9, .no⟩, ⟨[(.tmp 56, .box 1 9)], [(1, .box 27 (cFm q))], slA 18 cRu q.rules, .no⟩, ⟨[(.tmp 5, iv k)], [], iv k, .no⟩, ⟨[(.tmp 57, slA 18 cRu q.rules), (.tmp 58, iv k)], [], .el (q.rules.flatMap cRu) (k * 18), .no⟩, ⟨[(.tmp 59, .el (q.rules.flatMap cRu) (k * 18))], [], .agg (cRu q.rules[k]), .no⟩, ⟨[(.tmp 3, .box 2 0)], [], .box 2 9, .no⟩, ⟨[(.tmp 61, .box 2 9)], [(2, .box 27 (cFm q))], slA 18 cRu q.rules, .no⟩, ⟨[(.tmp 5, iv k)], [], iv k, .no⟩, ⟨[(.tmp 62, slA 18 cRu q.rules), (.tmp 63, iv k)], [], .el (q.rules.flatMap cRu) (k * 18), .no⟩, ⟨[(.tmp 64, .el (q.rules.flatMap cRu) (k * 18))], [], .agg (cRu q.rules[k]), .no⟩, ⟨[(.func 54, .v (.func (.func 54) #[] #[])), (.tmp 60, .agg (cRu q.rules[k])), (.tmp 65, .agg (cRu q.rules[k]))], [], bv true, .no⟩, ⟨[(.tmp 66, bv true)], [], bv false, .no⟩, ⟨[(.tmp 55, bv false), (.const (.bool true), bv true), (.tmp 67, bv false)], [], bv false, .no⟩] (by kernel_rfl) (by kernel_rfl) ?_
 refine ⟨app_yes rfl (fB 9 (.tmp 2) rfl Tryd.underlying27 rfl 1 rfl) ⟨I0, T0⟩ T0 T0, ?_⟩
 refine ⟨app_yes rfl (lB (.box 27 (cFm q)) (slA 18 cRu q.rules) (.tmp 42) rfl Tryd.underlying25 rfl rfl) ⟨I0, T0⟩ ⟨rfl, T0⟩ T0, ?_⟩
 refine ⟨app_yes rfl (sp_move (.tmp 5) (iv k) rfl) ⟨I0, T0⟩ T0 T0, ?_⟩
 refine ⟨app_yes rfl (sp_indexSl (off := k * 18) (.tmp 43) (.tmp 44) rfl Tryd.underlying25 (by kernel_rfl) (by omega) (by omega) rfl) ⟨I0, I0, T0⟩ T0 T0, ?_⟩
 refine ⟨app_yes rfl (sp_fieldEl (off' := k * 18) (.tmp 45) rfl Tryd.underlying81 rfl (z := 1) (by kernel_rfl) (by decide) rfl) ⟨I0, T0⟩ T0 T0, ?_⟩
 refine ⟨app_yes rfl (sp_loadEl1 (X := sv q.rules[k].nm) (.tmp 46) rfl Tryd.underlying9 rfl ((eflat_get lenRu q.rules k 0 (by omega) (by decide)).trans rfl)) ⟨I0, T0⟩ T0 T0, ?_⟩
 refine ⟨app_yes rfl (fB 9 (.tmp 3) rfl Tryd.underlying27 rfl 1 rfl) ⟨I0, T0⟩ T0 T0, ?_⟩
 refine ⟨app_yes rfl (lB (.box 27 (cFm q)) (slA 18 cRu q.rules) (.tmp 48) rfl Tryd.underlying25 rfl rfl) ⟨I0, T0⟩ ⟨rfl, T0⟩ T0, ?_⟩
 refine ⟨app_yes rfl (sp_move (.tmp 5) (iv k) rfl) ⟨I0, T0⟩ T0 T0, ?_⟩
 refine ⟨app_yes rfl (sp_indexSl (off := k * 18) (.tmp 49) (.tmp 50) rfl Tryd.underlying25 (by kernel_rfl) (by omega) (by omega) rfl) ⟨I0, I0, T0⟩ T0 T0, ?_⟩
 refine ⟨app_yes rfl (sp_fieldEl (off' := k * 18) (.tmp 51) rfl Tryd.underlying81 rfl (z := 1) (by kernel_rfl) (by decide) rfl) ⟨I0, T0⟩ T0 T0, ?_⟩
 refine ⟨app_yes rfl (sp_loadEl1 (X := sv q.rules[k].nm) (.tmp 52) rfl Tryd.underlying9 rfl ((eflat_get lenRu q.rules k 0 (by omega) (by decide)).trans rfl)) ⟨I0, T0⟩ T0 T0, ?_⟩
 refine ⟨app_yes rfl (sp_sneq (r := false) rfl (beq_self_eq_true _)) ⟨I0, I0, T0⟩ T0 T0, ?_⟩
 refine ⟨app_yes rfl (sp_move (.tmp 54) (bv false) rfl) ⟨I0, T0⟩ T0 T0, ?_⟩
 refine ⟨app_yes rfl (fB 9 (.tmp 2) rfl Tryd.underlying27 rfl 1 rfl) ⟨I0, T0⟩ T0 T0, ?_⟩
 refine ⟨app_yes rfl (lB (.box 27 (cFm q)) (slA 18 cRu q.rules) (.tmp 56) rfl Tryd.underlying25 rfl rfl) ⟨I0, T0⟩ ⟨rfl, T0⟩ T0, ?_⟩
 refine ⟨app_yes rfl (sp_move (.tmp 5) (iv k) rfl) ⟨I0, T0⟩ T0 T0, ?_⟩
 refine ⟨app_yes rfl (sp_indexSl (off := k * 18) (.tmp 57) (.tmp 58) rfl Tryd.underlying25 (by kernel_rfl) (by omega) (by omega) rfl) ⟨I0, I0, T0⟩ T0 T0, ?_⟩
 refine ⟨app_yes rfl (sp_loadElS (z := 18) (.tmp 59) rfl Tryd.underlying81 rfl (by kernel_rfl) (flat_take lenRu q.rules k (by omega)) rfl) ⟨I0, T0⟩ T0 T0, ?_⟩
 refine ⟨app_yes rfl (fB 9 (.tmp 3) rfl Tryd.underlying27 rfl 1 rfl) ⟨I0, T0⟩ T0 T0, ?_⟩
 refine ⟨app_yes rfl (lB (.box 27 (cFm q)) (slA 18 cRu q.rules) (.tmp 61) rfl Tryd.underlying25 rfl rfl) ⟨I0, T0⟩ ⟨rfl, T0⟩ T0, ?_⟩
 refine ⟨app_yes rfl (sp_move (.tmp 5) (iv k) rfl) ⟨I0, T0⟩ T0 T0, ?_⟩
 refine ⟨app_yes rfl (sp_indexSl (off := k * 18) (.tmp 62) (.tmp 63) rfl Tryd.underlying25 (by kernel_rfl) (by omega) (by omega) rfl) ⟨I0, I0, T0⟩ T0 T0, ?_⟩
 refine ⟨app_yes rfl (sp_loadElS (z := 18) (.tmp 64) rfl Tryd.underlying81 rfl (by kernel_rfl) (flat_take lenRu q.rules k (by omega)) rfl) ⟨I0, T0⟩ T0 T0, ?_⟩
 refine ⟨app_yes rfl (sp_call (c := .func 54) (xs := #[.tmp 60, .tmp 65]) [] (sameBut_c (HQ.rules q.rules[k] (List.getElem_mem (by omega)))) rfl (by kernel_rfl) rfl (Xs := [.agg (cRu q.rules[k]), .agg (cRu q.rules[k])]) rfl rfl rfl) ⟨I0, I0, I0, T0⟩ T0 T0, ?_⟩
 refine ⟨app_yes rfl (sp_not rfl rfl) ⟨I0, T0⟩ T0 T0, ?_⟩
 refine ⟨app_yes rfl (sp_pick (.tmp 55) (.const (.bool true)) (.tmp 67) false (bv true) (bv false) rfl) ⟨I0, I0, I0, T0⟩ T0 T0, ?_⟩
 show ETri J w0 _ _ _
 refine kW 110 [(1, .box 27 (cFm q)), (2, .box 27 (cFm q))] [(2, .box 1 0), (3, .box 2 0), (5, iv k), (39, bv true), (68, bv false)] ?_
 refine t_then ?_
 refine t_condF rfl ?_
 refine tri_skip ?_
 refine t_block ?_
 refine t_then ?_
 refine tri_region ?_
 refine oA (sp_move (.tmp 5) (iv k) rfl) I0 ?_
 refine oC (sp_add (c := ((k + 1 : Nat) : Int)) rfl (w64 (by omega) (by omega) (by omega))) I0 I0 ?_
 refine oA (sp_assign (.tmp 41) (iv (k + 1 : Nat)) rfl) I0 ?_
 refine kN 110 [(1, .box 27 (cFm q)), (2, .box 27 (cFm q))] [(2, .box 1 0), (3, .box 2 0), (5, iv (k + 1 : Nat)), (39, bv true), (68, bv false)] ?_
 refine t_then ?_
 refine tri_again ⟨k + 1, by omega⟩ (show q.rules.length - (k + 1) < q.rules.length - k by omega) ?_
 exact wk_keep _ _ rfl (by kernel_rfl) (by kernel_rfl)
 refine tri_region ?_
 refine oA (sp_move (.tmp 5) (iv k) rfl) I0 ?_
 refine oA (fB 9 (.tmp 2) rfl Tryd.underlying27 rfl 1 rfl) I0 ?_
 refine oB (lB (.box 27 (cFm q)) (slA 18 cRu q.rules) (.tmp 36) rfl Tryd.underlying25 rfl rfl) I0 rfl ?_
 refine oA (sp_lenSl (.tmp 37) rfl Tryd.underlying25) I0 ?_
 refine oC (sp_lss rfl (dF hs1)) I0 I0 ?_
 refine kN 110 [(1, .box 27 (cFm q)), (2, .box 27 (cFm q))] [(2, .box 1 0), (3, .box 2 0), (5, iv k), (39, bv false)] ?_
 refine t_then ?_
 refine t_condF rfl ?_
 refine tri_exit ?_
 refine t_then_exit ?_
 refine t_then_exit ?_
 refine t_hit ?_
 refine t_then ?_
 refine tri_seq ?_
 refine tri_region ?_
 refine oA (fB 2 (.tmp 2) rfl Tryd.underlying27 rfl 1 rfl) I0 ?_
 refine oB (lB (.box 27 (cFm q)) (strsA q.states) (.tmp 69) rfl Tryd.underlying22 rfl rfl) I0 rfl ?_
 refine oA (fB 2 (.tmp 3) rfl Tryd.underlying27 rfl 1 rfl) I0 ?_
 refine oB (lB (.box 27 (cFm q)) (strsA q.states) (.tmp 71) rfl Tryd.underlying22 rfl rfl) I0 rfl ?_
 refine oD (sp_call (c := .func 55) (xs := #[.tmp 70, .tmp 72]) [] (sameTexts_c q.states HQ.lstates) rfl (by kernel_rfl) rfl (Xs := [strsA q.states, strsA q.states]) rfl rfl rfl) I0 I0 I0 ?_
 refine oA (sp_move (.tmp 73) (bv true) rfl) I0 ?_
 refine gA (fB 3 (.tmp 2) rfl Tryd.underlying27 rfl 1 rfl) I0 ?_
 refine gB (lB (.box 27 (cFm q)) (strsA q.msgs) (.tmp 75) rfl Tryd.underlying22 rfl rfl) I0 rfl ?_
 refine gA (fB 3 (.tmp 3) rfl Tryd.underlying27 rfl 1 rfl) I0 ?_
 refine gB (lB (.box 27 (cFm q)) (strsA q.msgs) (.tmp 77) rfl Tryd.underlying22 rfl rfl) I0 rfl ?_
 refine gD (sp_call (c := .func 55) (xs := #[.tmp 76, .tmp 78]) [] (sameTexts_c q.msgs HQ.lmsgs) rfl (by kernel_rfl) rfl (Xs := [strsA q.msgs, strsA q.msgs]) rfl rfl rfl) I0 I0 I0 ?_
 refine oD (sp_pick (.tmp 74) (.tmp 79) (.const (.bool false)) true (bv true) (bv false) rfl) I0 I0 I0 ?_
 refine oA (sp_move (.tmp 80) (bv true) rfl) I0 ?_
 refine gA (fB 4 (.tmp 2) rfl Tryd.underlying27 rfl 1 rfl) I0 ?_
 refine gB (lB (.box 27 (cFm q)) (strsA q.vals) (.tmp 82) rfl Tryd.underlying22 rfl rfl) I0 rfl ?_
 refine gA (fB 4 (.tmp 3) rfl Tryd.underlying27 rfl 1 rfl) I0 ?_
 refine gB (lB (.box 27 (cFm q)) (strsA q.vals) (.tmp 84) rfl Tryd.underlying22 rfl rfl) I0 rfl ?_
 refine gD (sp_call (c := .func 55) (xs := #[.tmp 83, .tmp 85]) [] (sameTexts_c q.vals HQ.lvals) rfl (by kernel_rfl) rfl (Xs := [strsA q.vals, strsA q.vals]) rfl rfl rfl) I0 I0 I0 ?_
 refine oD (sp_pick (.tmp 81) (.tmp 86) (.const (.bool false)) true (bv true) (bv false) rfl) I0 I0 I0 ?_
 refine oA (sp_assign (.tmp 87) (bv true) rfl) I0 ?_
 refine kN 110 [(1, .box 27 (cFm q)), (2, .box 27 (cFm q))] [(2, .box 1 0), (3, .box 2 0), (6, bv true)] ?_
 refine t_then ?_
 refine tri_seq ?_
 refine tri_region ?_
 refine oA (sp_move (.tmp 6) (bv true) rfl) I0 ?_
 refine oA (sp_move (.tmp 88) (bv true) rfl) I0 ?_
 refine gA (fB 6 (.tmp 2) rfl Tryd.underlying27 rfl 1 rfl) I0 ?_
 refine gB (lB (.box 27 (cFm q)) (slA 4 cLn q.res) (.tmp 90) rfl Tryd.underlying23 rfl rfl) I0 rfl ?_
 refine gA (fB 6 (.tmp 3) rfl Tryd.underlying27 rfl 1 rfl) I0 ?_
 refine gB (lB (.box 27 (cFm q)) (slA 4 cLn q.res) (.tmp 92) rfl Tryd.underlying23 rfl rfl) I0 rfl ?_
 refine gD (sp_call (c := .func 56) (xs := #[.tmp 91, .tmp 93]) [] (sameLinears_c q.res HQ.lres) rfl (by kernel_rfl) rfl (Xs := [slA 4 cLn q.res, slA 4 cLn q.res]) rfl rfl rfl) I0 I0 I0 ?_
 refine oD (sp_pick (.tmp 89) (.tmp 94) (.const (.bool false)) true (bv true) (bv false) rfl) I0 I0 I0 ?_
 refine oA (sp_move (.tmp 95) (bv true) rfl) I0 ?_
 refine gA (fB 7 (.tmp 2) rfl Tryd.underlying27 rfl 1 rfl) I0 ?_
 refine gB (lB (.box 27 (cFm q)) (intsA q.init) (.tmp 97) rfl Tryd.underlying24 rfl rfl) I0 rfl ?_
 refine gA (fB 7 (.tmp 3) rfl Tryd.underlying27 rfl 1 rfl) I0 ?_
 refine gB (lB (.box 27 (cFm q)) (intsA q.init) (.tmp 99) rfl Tryd.underlying24 rfl rfl) I0 rfl ?_
 refine gD (sp_call (c := .func 19) (xs := #[.tmp 98, .tmp 100]) [] (sameInts_c q.init HQ.init) rfl (by kernel_rfl) rfl (Xs := [intsA q.init, intsA q.init]) rfl rfl rfl) I0 I0 I0 ?_
 refine oD (sp_pick (.tmp 96) (.tmp 101) (.const (.bool false)) true (bv true) (bv false) rfl) I0 I0 I0 ?_
 refine oA (sp_move (.tmp 102) (bv true) rfl) I0 ?_
 refine gA (fB 8 (.tmp 2) rfl Tryd.underlying27 rfl 1 rfl) I0 ?_
 refine gB (lB (.box 27 (cFm q)) (intsA q.leader) (.tmp 104) rfl Tryd.underlying24 rfl rfl) I0 rfl ?_
 refine gA (fB 8 (.tmp 3) rfl Tryd.underlying27 rfl 1 rfl) I0 ?_
 refine gB (lB (.box 27 (cFm q)) (intsA q.leader) (.tmp 106) rfl Tryd.underlying24 rfl rfl) I0 rfl ?_
 refine gD (sp_call (c := .func 19) (xs := #[.tmp 105, .tmp 107]) [] (sameInts_c q.leader HQ.leader) rfl (by kernel_rfl) rfl (Xs := [intsA q.leader, intsA q.leader]) rfl rfl rfl) I0 I0 I0 ?_
 refine oD (sp_pick (.tmp 103) (.tmp 108) (.const (.bool false)) true (bv true) (bv false) rfl) I0 I0 I0 ?_
 refine oA (sp_assign (.tmp 109) (bv true) rfl) I0 ?_
 refine kN 110 [] [(4, bv true)] ?_
 refine t_then ?_
 refine tri_ret ?_
 refine tri_end1 Tryd.results20 (.tmp rfl) ?_
 exact rfl
end Go.Proofs.YtpadmggccpgajaaDoor
