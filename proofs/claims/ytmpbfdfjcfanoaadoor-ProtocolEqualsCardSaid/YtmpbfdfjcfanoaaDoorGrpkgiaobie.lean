import Derived.Test.YtmpbfdfjcfanoaaDoorRows
import Derived.Lib.LaidTab
import Derived.LaidSub
import Derived.Test.YtmpbfdfjcfanoaaDoorGrpffocdgfn
import Derived.Test.YtmpbfdfjcfanoaaDoorGrpplodpafg
import Derived.Test.YtmpbfdfjcfanoaaDoorGrpifldfpll
import Derived.Test.YtmpbfdfjcfanoaaDoorGrpjdnchbff
set_option linter.all false
namespace Go.Proofs.YtmpbfdfjcfanoaaDoor
open Go.RowKit Go.Deep
variable {J : World → Prop}
set_option linter.unusedSimpArgs false in
set_option linter.unusedVariables false in
set_option maxRecDepth 100000 in
set_option maxHeartbeats 6400000 in
theorem rCopy_c {q : Fm} (H : FamLen q) : Ctr Tryd.prog J 15 [.agg (cFm q)] (.agg (cFm q)) := by
 have l1 := H.states
 have l2 := H.msgs
 have l3 := H.vals
 have l4 := H.res
 have l5 := H.lrules
 refine ctr_of_tri Tryd.func15 rfl (by intro X hX; simp only [List.mem_cons, List.not_mem_nil, or_false] at hX; rcases hX with rfl; exact plain_agg (plain_fm q)) (n := 54) rfl (by simp) (fun w0 => ?_)
 refine tri_wk (wk_keep [] [(0, .agg (cFm q))] (n := 54)) ?_
 refine tri_seq ?_
 refine tri_region ?_
 refine t_op rfl (sp_box (X := .agg (cFm q)) (k := 1) (.tmp 0) rfl rfl) ⟨I0, T0⟩ T0 rfl ?_
 refine t_op rfl (sp_alloc (z := .agg #[.string (⟨#[]⟩), .int .i64 0, .slice none 0 0, .slice none 0 0, .slice none 0 0, .int .i64 0, .slice none 0 0, .slice none 0 0, .slice none 0 0, .slice none 0 0]) (k := 2) rfl (by kernel_rfl)) T0 T0 rfl ?_
 refine tri_nil ?_
 refine tri_wk (wk_keep [(1, .box 27 (cFm q)), (2, .box 27 [sv (⟨#[]⟩), iv 0, .v (.slice none 0 0), .v (.slice none 0 0), .v (.slice none 0 0), iv 0, .v (.slice none 0 0), .v (.slice none 0 0), .v (.slice none 0 0), .v (.slice none 0 0)])] [(1, .box 1 0), (2, .box 2 0)] (n := 54)) ?_
 refine t_then ?_
 refine tri_seq ?_
 refine tri_region ?_
 refine t_op rfl (sp_loadBoxS (Y := .box 27 (cFm q)) (ds := cFm q) (z := 10) (.tmp 1) rfl Tryd.underlying27 rfl (by kernel_rfl) (by decide) (by kernel_rfl) (by kernel_rfl)) ⟨I0, T0⟩ ⟨rfl, T0⟩ T0 ?_
 refine t_op rfl (sp_alloc (z := .agg #[.string (⟨#[]⟩), .int .i64 0, .slice none 0 0, .slice none 0 0, .slice none 0 0, .int .i64 0, .slice none 0 0, .slice none 0 0, .slice none 0 0, .slice none 0 0]) (k := 3) rfl (by kernel_rfl)) T0 T0 rfl ?_
 refine t_op rfl (sp_storeBox (T0 := 27) (X := .agg (cFm q)) (cs := [sv (⟨#[]⟩), iv 0, .v (.slice none 0 0), .v (.slice none 0 0), .v (.slice none 0 0), iv 0, .v (.slice none 0 0), .v (.slice none 0 0), .v (.slice none 0 0), .v (.slice none 0 0)]) (ds := cFm q) (z := 10) (.tmp 3) (.tmp 5) rfl (by kernel_rfl) (by kernel_rfl) (by kernel_rfl) (of_decide_eq_true (by kernel_rfl)) (by kernel_rfl)) ⟨I0, I0, T0⟩ ⟨rfl, T0⟩ rfl ?_
 refine tri_nil ?_
 refine tri_wk (wk_keep [(1, .box 27 (cFm q)), (2, .box 27 [sv (⟨#[]⟩), iv 0, .v (.slice none 0 0), .v (.slice none 0 0), .v (.slice none 0 0), iv 0, .v (.slice none 0 0), .v (.slice none 0 0), .v (.slice none 0 0), .v (.slice none 0 0)]), (3, .box 27 (cFm q))] [(1, .box 1 0), (2, .box 2 0), (3, .box 3 0)] (n := 54)) ?_
 refine t_then ?_
 refine tri_seq ?_
 refine tri_region ?_
 refine t_op rfl (sp_build0 (z := 1) (k := 4) true rfl Tryd.underlying22 (by kernel_rfl)) T0 T0 rfl ?_
 refine t_op rfl (sp_fieldBox (off' := 2) (.tmp 1) rfl Tryd.underlying27 rfl (z := 1) (by kernel_rfl) (by decide) rfl) ⟨I0, T0⟩ T0 T0 ?_
 refine t_op rfl (sp_loadBox1 (Y := .box 27 (cFm q)) (X := strsA q.states) (.tmp 7) rfl Tryd.underlying22 rfl rfl) ⟨I0, T0⟩ ⟨rfl, T0⟩ T0 ?_
 refine t_op rfl (sp_append (n := 0) (cs := []) (fr := true) (m := q.states.length) (ds := (q.states.map sv)) (⟨Tryd.underlying22, by kernel_rfl, by decide⟩ : Elt Tryd.prog 22 9 1 16) (.tmp 6) (.tmp 8) rfl (fun _ d hd => by obtain ⟨x, _, rfl⟩ := List.mem_map.1 hd; rfl) (by unfold maxLen; omega) (by omega) (fun d hd => by obtain ⟨x, _, rfl⟩ := List.mem_map.1 hd; rfl) (es := (q.states.map sv)) (by rw [unfr_strs]; rfl)) ⟨I0, I0, T0⟩ ⟨rfl, T0⟩ rfl ?_
 refine t_op rfl (sp_fieldBox (off' := 2) (.tmp 3) rfl Tryd.underlying27 rfl (z := 1) (by kernel_rfl) (by decide) rfl) ⟨I0, T0⟩ T0 T0 ?_
 refine t_op rfl (sp_storeBox (T0 := 27) (X := .own 4) (cs := cFm q) (ds := [sv q.nm, iv q.top, .own 4, strsA q.msgs, strsA q.vals, iv q.fault, slA 4 cLn q.res, intsA q.init, intsA q.leader, slA 18 cRu q.rules]) (z := 1) (.tmp 10) (.tmp 9) rfl (by kernel_rfl) (by kernel_rfl) (by kernel_rfl) (of_decide_eq_true (by kernel_rfl)) (by kernel_rfl)) ⟨I0, I0, T0⟩ ⟨rfl, T0⟩ rfl ?_
 refine tri_nil ?_
 refine tri_wk (wk_keep [(1, .box 27 (cFm q)), (2, .box 27 [sv (⟨#[]⟩), iv 0, .v (.slice none 0 0), .v (.slice none 0 0), .v (.slice none 0 0), iv 0, .v (.slice none 0 0), .v (.slice none 0 0), .v (.slice none 0 0), .v (.slice none 0 0)]), (3, .box 27 [sv q.nm, iv q.top, .own 4, strsA q.msgs, strsA q.vals, iv q.fault, slA 4 cLn q.res, intsA q.init, intsA q.leader, slA 18 cRu q.rules]), (4, .row true 9 1 (0 + q.states.length) (q.states.map sv))] [(1, .box 1 0), (2, .box 2 0), (3, .box 3 0)] (n := 54)) ?_
 refine t_then ?_
 refine tri_seq ?_
 refine tri_region ?_
 refine t_op rfl (sp_build0 (z := 1) (k := 5) true rfl Tryd.underlying22 (by kernel_rfl)) T0 T0 rfl ?_
 refine t_op rfl (sp_fieldBox (off' := 3) (.tmp 1) rfl Tryd.underlying27 rfl (z := 1) (by kernel_rfl) (by decide) rfl) ⟨I0, T0⟩ T0 T0 ?_
 refine t_op rfl (sp_loadBox1 (Y := .box 27 (cFm q)) (X := strsA q.msgs) (.tmp 12) rfl Tryd.underlying22 rfl rfl) ⟨I0, T0⟩ ⟨rfl, T0⟩ T0 ?_
 refine t_op rfl (sp_append (n := 0) (cs := []) (fr := true) (m := q.msgs.length) (ds := (q.msgs.map sv)) (⟨Tryd.underlying22, by kernel_rfl, by decide⟩ : Elt Tryd.prog 22 9 1 16) (.tmp 11) (.tmp 13) rfl (fun _ d hd => by obtain ⟨x, _, rfl⟩ := List.mem_map.1 hd; rfl) (by unfold maxLen; omega) (by omega) (fun d hd => by obtain ⟨x, _, rfl⟩ := List.mem_map.1 hd; rfl) (es := (q.msgs.map sv)) (by rw [unfr_strs]; rfl)) ⟨I0, I0, T0⟩ ⟨rfl, T0⟩ rfl ?_
 refine t_op rfl (sp_fieldBox (off' := 3) (.tmp 3) rfl Tryd.underlying27 rfl (z := 1) (by kernel_rfl) (by decide) rfl) ⟨I0, T0⟩ T0 T0 ?_
 refine t_op rfl (sp_storeBox (T0 := 27) (X := .own 5) (cs := [sv q.nm, iv q.top, .own 4, strsA q.msgs, strsA q.vals, iv q.fault, slA 4 cLn q.res, intsA q.init, intsA q.leader, slA 18 cRu q.rules]) (ds := [sv q.nm, iv q.top, .own 4, .own 5, strsA q.vals, iv q.fault, slA 4 cLn q.res, intsA q.init, intsA q.leader, slA 18 cRu q.rules]) (z := 1) (.tmp 15) (.tmp 14) rfl (by kernel_rfl) (by kernel_rfl) (by kernel_rfl) (of_decide_eq_true (by kernel_rfl)) (by kernel_rfl)) ⟨I0, I0, T0⟩ ⟨rfl, T0⟩ rfl ?_
 refine tri_nil ?_
 refine tri_wk (wk_keep [(1, .box 27 (cFm q)), (2, .box 27 [sv (⟨#[]⟩), iv 0, .v (.slice none 0 0), .v (.slice none 0 0), .v (.slice none 0 0), iv 0, .v (.slice none 0 0), .v (.slice none 0 0), .v (.slice none 0 0), .v (.slice none 0 0)]), (3, .box 27 [sv q.nm, iv q.top, .own 4, .own 5, strsA q.vals, iv q.fault, slA 4 cLn q.res, intsA q.init, intsA q.leader, slA 18 cRu q.rules]), (4, .row true 9 1 (0 + q.states.length) (q.states.map sv)), (5, .row true 9 1 (0 + q.msgs.length) (q.msgs.map sv))] [(1, .box 1 0), (2, .box 2 0), (3, .box 3 0)] (n := 54)) ?_
 refine t_then ?_
 refine tri_seq ?_
 refine tri_region ?_
 refine t_op rfl (sp_build0 (z := 1) (k := 6) true rfl Tryd.underlying22 (by kernel_rfl)) T0 T0 rfl ?_
 refine t_op rfl (sp_fieldBox (off' := 4) (.tmp 1) rfl Tryd.underlying27 rfl (z := 1) (by kernel_rfl) (by decide) rfl) ⟨I0, T0⟩ T0 T0 ?_
 refine t_op rfl (sp_loadBox1 (Y := .box 27 (cFm q)) (X := strsA q.vals) (.tmp 17) rfl Tryd.underlying22 rfl rfl) ⟨I0, T0⟩ ⟨rfl, T0⟩ T0 ?_
 refine t_op rfl (sp_append (n := 0) (cs := []) (fr := true) (m := q.vals.length) (ds := (q.vals.map sv)) (⟨Tryd.underlying22, by kernel_rfl, by decide⟩ : Elt Tryd.prog 22 9 1 16) (.tmp 16) (.tmp 18) rfl (fun _ d hd => by obtain ⟨x, _, rfl⟩ := List.mem_map.1 hd; rfl) (by unfold maxLen; omega) (by omega) (fun d hd => by obtain ⟨x, _, rfl⟩ := List.mem_map.1 hd; rfl) (es := (q.vals.map sv)) (by rw [unfr_strs]; rfl)) ⟨I0, I0, T0⟩ ⟨rfl, T0⟩ rfl ?_
 refine t_op rfl (sp_fieldBox (off' := 4) (.tmp 3) rfl Tryd.underlying27 rfl (z := 1) (by kernel_rfl) (by decide) rfl) ⟨I0, T0⟩ T0 T0 ?_
 refine t_op rfl (sp_storeBox (T0 := 27) (X := .own 6) (cs := [sv q.nm, iv q.top, .own 4, .own 5, strsA q.vals, iv q.fault, slA 4 cLn q.res, intsA q.init, intsA q.leader, slA 18 cRu q.rules]) (ds := [sv q.nm, iv q.top, .own 4, .own 5, .own 6, iv q.fault, slA 4 cLn q.res, intsA q.init, intsA q.leader, slA 18 cRu q.rules]) (z := 1) (.tmp 20) (.tmp 19) rfl (by kernel_rfl) (by kernel_rfl) (by kernel_rfl) (of_decide_eq_true (by kernel_rfl)) (by kernel_rfl)) ⟨I0, I0, T0⟩ ⟨rfl, T0⟩ rfl ?_
 refine tri_nil ?_
 refine tri_wk (wk_keep [(1, .box 27 (cFm q)), (2, .box 27 [sv (⟨#[]⟩), iv 0, .v (.slice none 0 0), .v (.slice none 0 0), .v (.slice none 0 0), iv 0, .v (.slice none 0 0), .v (.slice none 0 0), .v (.slice none 0 0), .v (.slice none 0 0)]), (3, .box 27 [sv q.nm, iv q.top, .own 4, .own 5, .own 6, iv q.fault, slA 4 cLn q.res, intsA q.init, intsA q.leader, slA 18 cRu q.rules]), (4, .row true 9 1 (0 + q.states.length) (q.states.map sv)), (5, .row true 9 1 (0 + q.msgs.length) (q.msgs.map sv)), (6, .row true 9 1 (0 + q.vals.length) (q.vals.map sv))] [(1, .box 1 0), (2, .box 2 0), (3, .box 3 0)] (n := 54)) ?_
 refine t_then ?_
 refine tri_seq ?_
 refine tri_region ?_
 refine t_op rfl (sp_build0 (z := 4) (k := 7) true rfl Tryd.underlying23 (by kernel_rfl)) T0 T0 rfl ?_
 refine t_op rfl (sp_fieldBox (off' := 6) (.tmp 1) rfl Tryd.underlying27 rfl (z := 1) (by kernel_rfl) (by decide) rfl) ⟨I0, T0⟩ T0 T0 ?_
 refine t_op rfl (sp_loadBox1 (Y := .box 27 (cFm q)) (X := slA 4 cLn q.res) (.tmp 22) rfl Tryd.underlying23 rfl rfl) ⟨I0, T0⟩ ⟨rfl, T0⟩ T0 ?_
 refine t_op rfl (sp_append (n := 0) (cs := []) (fr := true) (m := q.res.length) (ds := (q.res.flatMap cLn)) (⟨Tryd.underlying23, by kernel_rfl, by decide⟩ : Elt Tryd.prog 23 53 4 32) (.tmp 21) (.tmp 23) rfl (fun _ => new_cLn _) (by unfold maxLen; omega) (by omega) (cell_cLn _) (es := (q.res.flatMap cLn)) (by rw [unfr_cLn]; rfl)) ⟨I0, I0, T0⟩ ⟨rfl, T0⟩ rfl ?_
 refine t_op rfl (sp_fieldBox (off' := 6) (.tmp 3) rfl Tryd.underlying27 rfl (z := 1) (by kernel_rfl) (by decide) rfl) ⟨I0, T0⟩ T0 T0 ?_
 refine t_op rfl (sp_storeBox (T0 := 27) (X := .own 7) (cs := [sv q.nm, iv q.top, .own 4, .own 5, .own 6, iv q.fault, slA 4 cLn q.res, intsA q.init, intsA q.leader, slA 18 cRu q.rules]) (ds := [sv q.nm, iv q.top, .own 4, .own 5, .own 6, iv q.fault, .own 7, intsA q.init, intsA q.leader, slA 18 cRu q.rules]) (z := 1) (.tmp 25) (.tmp 24) rfl (by kernel_rfl) (by kernel_rfl) (by kernel_rfl) (of_decide_eq_true (by kernel_rfl)) (by kernel_rfl)) ⟨I0, I0, T0⟩ ⟨rfl, T0⟩ rfl ?_
 refine tri_nil ?_
 refine tri_wk (wk_keep [(1, .box 27 (cFm q)), (2, .box 27 [sv (⟨#[]⟩), iv 0, .v (.slice none 0 0), .v (.slice none 0 0), .v (.slice none 0 0), iv 0, .v (.slice none 0 0), .v (.slice none 0 0), .v (.slice none 0 0), .v (.slice none 0 0)]), (3, .box 27 [sv q.nm, iv q.top, .own 4, .own 5, .own 6, iv q.fault, .own 7, intsA q.init, intsA q.leader, slA 18 cRu q.rules]), (4, .row true 9 1 (0 + q.states.length) (q.states.map sv)), (5, .row true 9 1 (0 + q.msgs.length) (q.msgs.map sv)), (6, .row true 9 1 (0 + q.vals.length) (q.vals.map sv)), (7, .row true 53 4 (0 + q.res.length) (q.res.flatMap cLn))] [(1, .box 1 0), (2, .box 2 0), (3, .box 3 0)] (n := 54)) ?_
 refine t_then ?_
 refine tri_seq ?_
 refine tri_region ?_
 refine t_op rfl (sp_fieldBox (off' := 7) (.tmp 1) rfl Tryd.underlying27 rfl (z := 1) (by kernel_rfl) (by decide) rfl) ⟨I0, T0⟩ T0 T0 ?_
 refine t_op rfl (sp_loadBox1 (Y := .box 27 (cFm q)) (X := intsA q.init) (.tmp 26) rfl Tryd.underlying24 rfl rfl) ⟨I0, T0⟩ ⟨rfl, T0⟩ T0 ?_
 refine t_op rfl (sp_call (c := .func 42) (xs := #[.tmp 27]) [] (CopyInts_c q.init (Nat.le_trans H.init (by decide))) rfl (by kernel_rfl) rfl (Xs := [intsA q.init]) rfl rfl rfl) ⟨I0, I0, T0⟩ T0 T0 ?_
 refine t_op rfl (sp_fieldBox (off' := 7) (.tmp 3) rfl Tryd.underlying27 rfl (z := 1) (by kernel_rfl) (by decide) rfl) ⟨I0, T0⟩ T0 T0 ?_
 refine t_op rfl (sp_storeBox (T0 := 27) (X := .fr (intsA q.init)) (cs := [sv q.nm, iv q.top, .own 4, .own 5, .own 6, iv q.fault, .own 7, intsA q.init, intsA q.leader, slA 18 cRu q.rules]) (ds := [sv q.nm, iv q.top, .own 4, .own 5, .own 6, iv q.fault, .own 7, .fr (intsA q.init), intsA q.leader, slA 18 cRu q.rules]) (z := 1) (.tmp 29) (.tmp 28) rfl (by kernel_rfl) (by kernel_rfl) (by kernel_rfl) (of_decide_eq_true (by kernel_rfl)) (by kernel_rfl)) ⟨I0, I0, T0⟩ ⟨rfl, T0⟩ rfl ?_
 refine tri_nil ?_
 refine tri_wk (wk_keep [(1, .box 27 (cFm q)), (2, .box 27 [sv (⟨#[]⟩), iv 0, .v (.slice none 0 0), .v (.slice none 0 0), .v (.slice none 0 0), iv 0, .v (.slice none 0 0), .v (.slice none 0 0), .v (.slice none 0 0), .v (.slice none 0 0)]), (3, .box 27 [sv q.nm, iv q.top, .own 4, .own 5, .own 6, iv q.fault, .own 7, .fr (intsA q.init), intsA q.leader, slA 18 cRu q.rules]), (4, .row true 9 1 (0 + q.states.length) (q.states.map sv)), (5, .row true 9 1 (0 + q.msgs.length) (q.msgs.map sv)), (6, .row true 9 1 (0 + q.vals.length) (q.vals.map sv)), (7, .row true 53 4 (0 + q.res.length) (q.res.flatMap cLn))] [(1, .box 1 0), (2, .box 2 0), (3, .box 3 0)] (n := 54)) ?_
 refine t_then ?_
 refine tri_seq ?_
 refine tri_region ?_
 refine t_op rfl (sp_fieldBox (off' := 8) (.tmp 1) rfl Tryd.underlying27 rfl (z := 1) (by kernel_rfl) (by decide) rfl) ⟨I0, T0⟩ T0 T0 ?_
 refine t_op rfl (sp_loadBox1 (Y := .box 27 (cFm q)) (X := intsA q.leader) (.tmp 30) rfl Tryd.underlying24 rfl rfl) ⟨I0, T0⟩ ⟨rfl, T0⟩ T0 ?_
 refine t_op rfl (sp_call (c := .func 42) (xs := #[.tmp 31]) [] (CopyInts_c q.leader (Nat.le_trans H.leader (by decide))) rfl (by kernel_rfl) rfl (Xs := [intsA q.leader]) rfl rfl rfl) ⟨I0, I0, T0⟩ T0 T0 ?_
 refine t_op rfl (sp_fieldBox (off' := 8) (.tmp 3) rfl Tryd.underlying27 rfl (z := 1) (by kernel_rfl) (by decide) rfl) ⟨I0, T0⟩ T0 T0 ?_
 refine t_op rfl (sp_storeBox (T0 := 27) (X := .fr (intsA q.leader)) (cs := [sv q.nm, iv q.top, .own 4, .own 5, .own 6, iv q.fault, .own 7, .fr (intsA q.init), intsA q.leader, slA 18 cRu q.rules]) (ds := [sv q.nm, iv q.top, .own 4, .own 5, .own 6, iv q.fault, .own 7, .fr (intsA q.init), .fr (intsA q.leader), slA 18 cRu q.rules]) (z := 1) (.tmp 33) (.tmp 32) rfl (by kernel_rfl) (by kernel_rfl) (by kernel_rfl) (of_decide_eq_true (by kernel_rfl)) (by kernel_rfl)) ⟨I0, I0, T0⟩ ⟨rfl, T0⟩ rfl ?_
 refine tri_nil ?_
 refine tri_wk (wk_keep [(1, .box 27 (cFm q)), (2, .box 27 [sv (⟨#[]⟩), iv 0, .v (.slice none 0 0), .v (.slice none 0 0), .v (.slice none 0 0), iv 0, .v (.slice none 0 0), .v (.slice none 0 0), .v (.slice none 0 0), .v (.slice none 0 0)]), (3, .box 27 [sv q.nm, iv q.top, .own 4, .own 5, .own 6, iv q.fault, .own 7, .fr (intsA q.init), .fr (intsA q.leader), slA 18 cRu q.rules]), (4, .row true 9 1 (0 + q.states.length) (q.states.map sv)), (5, .row true 9 1 (0 + q.msgs.length) (q.msgs.map sv)), (6, .row true 9 1 (0 + q.vals.length) (q.vals.map sv)), (7, .row true 53 4 (0 + q.res.length) (q.res.flatMap cLn))] [(1, .box 1 0), (2, .box 2 0), (3, .box 3 0)] (n := 54)) ?_
 refine t_then ?_
 refine tri_seq ?_
 refine tri_region ?_
 refine t_op rfl (sp_fieldBox (off' := 9) (.tmp 3) rfl Tryd.underlying27 rfl (z := 1) (by kernel_rfl) (by decide) rfl) ⟨I0, T0⟩ T0 T0 ?_
 refine t_op rfl (sp_storeBox (T0 := 27) (X := .v (.slice none 0 0)) (cs := [sv q.nm, iv q.top, .own 4, .own 5, .own 6, iv q.fault, .own 7, .fr (intsA q.init), .fr (intsA q.leader), slA 18 cRu q.rules]) (ds := [sv q.nm, iv q.top, .own 4, .own 5, .own 6, iv q.fault, .own 7, .fr (intsA q.init), .fr (intsA q.leader), .v (.slice none 0 0)]) (z := 1) (.tmp 34) (.const (.slice none 0 0)) rfl (by kernel_rfl) (by kernel_rfl) (by kernel_rfl) (of_decide_eq_true (by kernel_rfl)) (by kernel_rfl)) ⟨I0, I0, T0⟩ ⟨rfl, T0⟩ rfl ?_
 refine tri_nil ?_
 refine tri_wk (wk_keep [(1, .box 27 (cFm q)), (2, .box 27 [sv (⟨#[]⟩), iv 0, .v (.slice none 0 0), .v (.slice none 0 0), .v (.slice none 0 0), iv 0, .v (.slice none 0 0), .v (.slice none 0 0), .v (.slice none 0 0), .v (.slice none 0 0)]), (3, .box 27 [sv q.nm, iv q.top, .own 4, .own 5, .own 6, iv q.fault, .own 7, .fr (intsA q.init), .fr (intsA q.leader), .v (.slice none 0 0)]), (4, .row true 9 1 (0 + q.states.length) (q.states.map sv)), (5, .row true 9 1 (0 + q.msgs.length) (q.msgs.map sv)), (6, .row true 9 1 (0 + q.vals.length) (q.vals.map sv)), (7, .row true 53 4 (0 + q.res.length) (q.res.flatMap cLn))] [(1, .box 1 0), (2, .box 2 0), (3, .box 3 0)] (n := 54)) ?_
 refine t_then ?_
 refine tri_seq ?_
 refine tri_seq ?_
 refine tri_region ?_
 refine t_op rfl (sp_assign (.const (.int .i64 0)) (iv 0) rfl) ⟨I0, T0⟩ T0 T0 ?_
 refine tri_nil ?_
 refine tri_wk (wk_keep [(1, .box 27 (cFm q)), (2, .box 27 [sv (⟨#[]⟩), iv 0, .v (.slice none 0 0), .v (.slice none 0 0), .v (.slice none 0 0), iv 0, .v (.slice none 0 0), .v (.slice none 0 0), .v (.slice none 0 0), .v (.slice none 0 0)]), (3, .box 27 [sv q.nm, iv q.top, .own 4, .own 5, .own 6, iv q.fault, .own 7, .fr (intsA q.init), .fr (intsA q.leader), .v (.slice none 0 0)]), (4, .row true 9 1 (0 + q.states.length) (q.states.map sv)), (5, .row true 9 1 (0 + q.msgs.length) (q.msgs.map sv)), (6, .row true 9 1 (0 + q.vals.length) (q.vals.map sv)), (7, .row true 53 4 (0 + q.res.length) (q.res.flatMap cLn))] [(1, .box 1 0), (2, .box 2 0), (3, .box 3 0), (4, iv 0)] (n := 54)) ?_
 refine t_then ?_
 refine tri_block ?_
 refine tri_wk (wk_adoptB 3 9 8 true 76 18 rfl rfl rfl rfl) ?_
 refine tri_loop (σ := {k : Nat // k ≤ q.rules.length}) (fun s => (ofL [(1, .box 27 (cFm q)), (2, .box 27 [sv (⟨#[]⟩), iv 0, .v (.slice none 0 0), .v (.slice none 0 0), .v (.slice none 0 0), iv 0, .v (.slice none 0 0), .v (.slice none 0 0), .v (.slice none 0 0), .v (.slice none 0 0)]), (3, .box 27 [sv q.nm, iv q.top, .own 4, .own 5, .own 6, iv q.fault, .own 7, .fr (intsA q.init), .fr (intsA q.leader), .own 8]), (4, .row true 9 1 (0 + q.states.length) (q.states.map sv)), (5, .row true 9 1 (0 + q.msgs.length) (q.msgs.map sv)), (6, .row true 9 1 (0 + q.vals.length) (q.vals.map sv)), (7, .row true 53 4 (0 + q.res.length) (q.res.flatMap cLn)), (8, .row true 76 18 s.1 ((q.rules.take s.1).flatMap cRu))], ofT 54 [(1, .box 1 0), (2, .box 2 0), (3, .box 3 0), (4, iv s.1)])) (fun s => q.rules.length - s.1) ⟨0, Nat.zero_le _⟩ (wk_keep _ _ rfl (by kernel_rfl) (by kernel_rfl)) (fun s => ?_)
 obtain ⟨k, hk0⟩ := s
 show ETri J w0 (ofL [(1, .box 27 (cFm q)), (2, .box 27 [sv (⟨#[]⟩), iv 0, .v (.slice none 0 0), .v (.slice none 0 0), .v (.slice none 0 0), iv 0, .v (.slice none 0 0), .v (.slice none 0 0), .v (.slice none 0 0), .v (.slice none 0 0)]), (3, .box 27 [sv q.nm, iv q.top, .own 4, .own 5, .own 6, iv q.fault, .own 7, .fr (intsA q.init), .fr (intsA q.leader), .own 8]), (4, .row true 9 1 (0 + q.states.length) (q.states.map sv)), (5, .row true 9 1 (0 + q.msgs.length) (q.msgs.map sv)), (6, .row true 9 1 (0 + q.vals.length) (q.vals.map sv)), (7, .row true 53 4 (0 + q.res.length) (q.res.flatMap cLn)), (8, .row true 76 18 k ((q.rules.take k).flatMap cRu))]) (ofT 54 [(1, .box 1 0), (2, .box 2 0), (3, .box 3 0), (4, iv k)]) _
 refine tri_seq ?_
 refine tri_seq ?_
 by_cases hs1 : ((k : Nat) : Int) < ((q.rules.length : Nat) : Int)
 refine tri_region ?_
 refine t_op rfl (sp_move (.tmp 4) (iv k) rfl) ⟨I0, T0⟩ T0 T0 ?_
 refine t_op rfl (sp_fieldBox (off' := 9) (.tmp 1) rfl Tryd.underlying27 rfl (z := 1) (by kernel_rfl) (by decide) rfl) ⟨I0, T0⟩ T0 T0 ?_
 refine t_op rfl (sp_loadBox1 (Y := .box 27 (cFm q)) (X := slA 18 cRu q.rules) (.tmp 36) rfl Tryd.underlying25 rfl rfl) ⟨I0, T0⟩ ⟨rfl, T0⟩ T0 ?_
 refine t_op rfl (sp_lenSl (.tmp 37) rfl Tryd.underlying25) ⟨I0, T0⟩ T0 T0 ?_
 refine t_op rfl (sp_lss rfl (dT hs1)) ⟨I0, I0, T0⟩ T0 T0 ?_
 refine tri_nil ?_
 refine tri_wk (wk_keep [(1, .box 27 (cFm q)), (2, .box 27 [sv (⟨#[]⟩), iv 0, .v (.slice none 0 0), .v (.slice none 0 0), .v (.slice none 0 0), iv 0, .v (.slice none 0 0), .v (.slice none 0 0), .v (.slice none 0 0), .v (.slice none 0 0)]), (3, .box 27 [sv q.nm, iv q.top, .own 4, .own 5, .own 6, iv q.fault, .own 7, .fr (intsA q.init), .fr (intsA q.leader), .own 8]), (4, .row true 9 1 (0 + q.states.length) (q.states.map sv)), (5, .row true 9 1 (0 + q.msgs.length) (q.msgs.map sv)), (6, .row true 9 1 (0 + q.vals.length) (q.vals.map sv)), (7, .row true 53 4 (0 + q.res.length) (q.res.flatMap cLn)), (8, .row true 76 18 k ((q.rules.take k).flatMap cRu))] [(1, .box 1 0), (2, .box 2 0), (3, .box 3 0), (4, iv k), (39, bv true)] (n := 54)) ?_
 refine t_then ?_
 refine t_condT rfl ?_
 refine tri_skip ?_
 refine t_then ?_
 refine tri_seq ?_
 refine tri_block ?_
 refine tri_draw [⟨[(.tmp 3, .box 3 0)], [], .box 3 9, .no⟩, ⟨[(.tmp 42, .box 3 9)], [(3, .box 27 [sv q.nm, iv q.top, .own 4, .own 5, .own 6, iv q.fault, .own 7, .fr (intsA q.init), .fr (intsA q.leader), .own 8])], .own 8, .no⟩, ⟨[(.tmp 1, .box 1 0)], [], .box 1 9, .no⟩, ⟨[(.tmp 44, .box 1 9)], [(1, .box 27 (cFm q))], slA 18 cRu q.rules, .no⟩, ⟨[(.tmp 4, iv k)], [], iv k, .no⟩, ⟨[(.tmp 45, slA 18 cRu q.rules), (.tmp 46, iv k)], [], .el (q.rules.flatMap cRu) (k * 18), .no⟩, ⟨[(.tmp 47, .el (q.rules.flatMap cRu) (k * 18))], [], .agg (cRu q.rules[k]), .no⟩, ⟨[(.func 43, .v (.func (.func 43) #[] #[])), (.tmp 48, .agg (cRu q.rules[k]))], [], .fr (.agg (cRu q.rules[k])), .no⟩, ⟨[(.tmp 49, .agg [sv q.rules[k].nm, iv q.rules[k].kind, iv q.rules[k].frm, iv q.rules[k].to, iv q.rules[k].pf, iv q.rules[k].pt, .fr (intsA q.rules[k].resp), .fr (slA 6 cTh q.rules[k].guards), .fr (intsA q.rules[k].ex), .fr (intsA q.rules[k].fa), iv q.rules[k].rd, iv q.rules[k].wr, .fr (intsA q.rules[k].send), iv q.rules[k].pos, .fr (intsA q.rules[k].left), .fr (intsA q.rules[k].right), .fr (intsA q.rules[k].parent), iv q.rules[k].dir])], [], .own 9, .new 9 (.row false 76 18 1 ([sv q.rules[k].nm, iv q.rules[k].kind, iv q.rules[k].frm, iv q.rules[k].to, iv q.rules[k].pf, iv q.rules[k].pt, .fr (intsA q.rules[k].resp), .fr (slA 6 cTh q.rules[k].guards), .fr (intsA q.rules[k].ex), .fr (intsA q.rules[k].fa), iv q.rules[k].rd, iv q.rules[k].wr, .fr (intsA q.rules[k].send), iv q.rules[k].pos, .fr (intsA q.rules[k].left), .fr (intsA q.rules[k].right), .fr (intsA q.rules[k].parent), iv q.rules[k].dir]))⟩, ⟨[(.tmp 43, .own 8), (.tmp 50, .own 9)], [(8, .row true 76 18 k ((q.rules.take k).flatMap cRu)), (9, .row false 76 18 1 ([sv q.rules[k].nm, iv q.rules[k].kind, iv q.rules[k].frm, iv q.rules[k].to, iv q.rules[k].pf, iv q.rules[k].pt, .fr (intsA q.rules[k].resp), .fr (slA 6 cTh q.rules[k].guards), .fr (intsA q.rules[k].ex), .fr (intsA q.rules[k].fa), iv q.rules[k].rd, iv q.rules[k].wr, .fr (intsA q.rules[k].send), iv q.rules[k].pos, .fr (intsA q.rules[k].left), .fr (intsA q.rules[k].right), .fr (intsA q.rules[k].parent), iv q.rules[k].dir]))], .own 8, .ap 8 (.row true 76 18 (k + 1) ((q.rules.take (k + 1)).flatMap cRu))⟩, ⟨[(.tmp 3, .box 3 0)], [], .box 3 9, .no⟩, ⟨[(.tmp 52, .box 3 9), (.tmp 51, .own 8)], [(3, .box 27 [sv q.nm, iv q.top, .own 4, .own 5, .own 6, iv q.fault, .own 7, .fr (intsA q.init), .fr (intsA q.leader), .any])], .v undef, .st 3 (.box 27 [sv q.nm, iv q.top, .own 4, .own 5, .own 6, iv q.fault, .own 7, .fr (intsA q.init), .fr (intsA q.leader), .own 8])⟩] (by kernel_rfl) (by kernel_rfl) ?_
 refine ⟨app_yes rfl (sp_fieldBox (off' := 9) (.tmp 3) rfl Tryd.underlying27 rfl (z := 1) (by kernel_rfl) (by decide) rfl) ⟨I0, T0⟩ T0 T0, ?_⟩
 refine ⟨app_yes rfl (sp_loadBox1 (Y := .box 27 [sv q.nm, iv q.top, .own 4, .own 5, .own 6, iv q.fault, .own 7, .fr (intsA q.init), .fr (intsA q.leader), .own 8]) (X := .own 8) (.tmp 42) rfl Tryd.underlying25 rfl rfl) ⟨I0, T0⟩ ⟨rfl, T0⟩ T0, ?_⟩
 refine ⟨app_yes rfl (sp_fieldBox (off' := 9) (.tmp 1) rfl Tryd.underlying27 rfl (z := 1) (by kernel_rfl) (by decide) rfl) ⟨I0, T0⟩ T0 T0, ?_⟩
 refine ⟨app_yes rfl (sp_loadBox1 (Y := .box 27 (cFm q)) (X := slA 18 cRu q.rules) (.tmp 44) rfl Tryd.underlying25 rfl rfl) ⟨I0, T0⟩ ⟨rfl, T0⟩ T0, ?_⟩
 refine ⟨app_yes rfl (sp_move (.tmp 4) (iv k) rfl) ⟨I0, T0⟩ T0 T0, ?_⟩
 refine ⟨app_yes rfl (sp_indexSl (off := k * 18) (.tmp 45) (.tmp 46) rfl Tryd.underlying25 (by kernel_rfl) (by omega) (by omega) rfl) ⟨I0, I0, T0⟩ T0 T0, ?_⟩
 refine ⟨app_yes rfl (sp_loadElS (z := 18) (.tmp 47) rfl Tryd.underlying76 rfl (by kernel_rfl) (flat_take lenRu q.rules k (by omega)) rfl) ⟨I0, T0⟩ T0 T0, ?_⟩
 refine ⟨app_yes rfl (sp_call (c := .func 43) (xs := #[.tmp 48]) [] (CopyRule_c q.rules[k] (H.rules _ (List.getElem_mem (by omega)))) rfl (by kernel_rfl) rfl (Xs := [.agg (cRu q.rules[k])]) rfl rfl rfl) ⟨I0, I0, T0⟩ T0 T0, ?_⟩
 refine ⟨app_yes rfl (sp_build (z := 18) (k := 9) (fr := false) (cs := [sv q.rules[k].nm, iv q.rules[k].kind, iv q.rules[k].frm, iv q.rules[k].to, iv q.rules[k].pf, iv q.rules[k].pt, .fr (intsA q.rules[k].resp), .fr (slA 6 cTh q.rules[k].guards), .fr (intsA q.rules[k].ex), .fr (intsA q.rules[k].fa), iv q.rules[k].rd, iv q.rules[k].wr, .fr (intsA q.rules[k].send), iv q.rules[k].pos, .fr (intsA q.rules[k].left), .fr (intsA q.rules[k].right), .fr (intsA q.rules[k].parent), iv q.rules[k].dir]) [.tmp 49] [.agg [sv q.rules[k].nm, iv q.rules[k].kind, iv q.rules[k].frm, iv q.rules[k].to, iv q.rules[k].pf, iv q.rules[k].pt, .fr (intsA q.rules[k].resp), .fr (slA 6 cTh q.rules[k].guards), .fr (intsA q.rules[k].ex), .fr (intsA q.rules[k].fa), iv q.rules[k].rd, iv q.rules[k].wr, .fr (intsA q.rules[k].send), iv q.rules[k].pos, .fr (intsA q.rules[k].left), .fr (intsA q.rules[k].right), .fr (intsA q.rules[k].parent), iv q.rules[k].dir]] rfl Tryd.underlying25 (by kernel_rfl) (by decide) (by decide) rfl rfl rfl (by kernel_rfl) (by decide) (fun h => Bool.noConfusion h) (by kernel_rfl)) ⟨.inr (.inr ⟨_, rfl, rfl⟩), T0⟩ T0 rfl, ?_⟩
 refine ⟨app_yes rfl (sp_appendOwn (n := k) (cs := ((q.rules.take k).flatMap cRu)) (fr := true) (m := 1) (ds := [sv q.rules[k].nm, iv q.rules[k].kind, iv q.rules[k].frm, iv q.rules[k].to, iv q.rules[k].pf, iv q.rules[k].pt, .fr (intsA q.rules[k].resp), .fr (slA 6 cTh q.rules[k].guards), .fr (intsA q.rules[k].ex), .fr (intsA q.rules[k].fa), iv q.rules[k].rd, iv q.rules[k].wr, .fr (intsA q.rules[k].send), iv q.rules[k].pos, .fr (intsA q.rules[k].left), .fr (intsA q.rules[k].right), .fr (intsA q.rules[k].parent), iv q.rules[k].dir]) (⟨Tryd.underlying25, by kernel_rfl, by decide⟩ : Elt Tryd.prog 25 76 18 280) (.tmp 43) (.tmp 50) rfl (fun _ => newRu q.rules[k]) (by unfold maxLen; omega) (by omega) (cellRu q.rules[k]) (es := ((q.rules.take (k + 1)).flatMap cRu)) (snocRu (by omega))) ⟨I0, I0, T0⟩ ⟨rfl, rfl, T0⟩ rfl, ?_⟩
 refine ⟨app_yes rfl (sp_fieldBox (off' := 9) (.tmp 3) rfl Tryd.underlying27 rfl (z := 1) (by kernel_rfl) (by decide) rfl) ⟨I0, T0⟩ T0 T0, ?_⟩
 refine ⟨app_yes rfl (sp_storeBox (T0 := 27) (X := .own 8) (cs := [sv q.nm, iv q.top, .own 4, .own 5, .own 6, iv q.fault, .own 7, .fr (intsA q.init), .fr (intsA q.leader), .any]) (ds := [sv q.nm, iv q.top, .own 4, .own 5, .own 6, iv q.fault, .own 7, .fr (intsA q.init), .fr (intsA q.leader), .own 8]) (z := 1) (.tmp 52) (.tmp 51) rfl (by kernel_rfl) (by kernel_rfl) (by kernel_rfl) (of_decide_eq_true (by kernel_rfl)) (by kernel_rfl)) ⟨I0, I0, T0⟩ ⟨rfl, T0⟩ rfl, ?_⟩
 show ETri J w0 _ _ _
 refine tri_wk (wk_keep [(1, .box 27 (cFm q)), (2, .box 27 [sv (⟨#[]⟩), iv 0, .v (.slice none 0 0), .v (.slice none 0 0), .v (.slice none 0 0), iv 0, .v (.slice none 0 0), .v (.slice none 0 0), .v (.slice none 0 0), .v (.slice none 0 0)]), (3, .box 27 [sv q.nm, iv q.top, .own 4, .own 5, .own 6, iv q.fault, .own 7, .fr (intsA q.init), .fr (intsA q.leader), .own 8]), (4, .row true 9 1 (0 + q.states.length) (q.states.map sv)), (5, .row true 9 1 (0 + q.msgs.length) (q.msgs.map sv)), (6, .row true 9 1 (0 + q.vals.length) (q.vals.map sv)), (7, .row true 53 4 (0 + q.res.length) (q.res.flatMap cLn)), (8, .row true 76 18 (k + 1) ((q.rules.take (k + 1)).flatMap cRu))] [(1, .box 1 0), (2, .box 2 0), (3, .box 3 0), (4, iv k), (39, bv true)] (n := 54)) ?_
 refine t_block ?_
 refine t_then ?_
 refine tri_region ?_
 refine t_op rfl (sp_move (.tmp 4) (iv k) rfl) ⟨I0, T0⟩ T0 T0 ?_
 refine t_op rfl (sp_add (c := ((k + 1 : Nat) : Int)) rfl (w64 (by omega) (by omega) (by omega))) ⟨I0, I0, T0⟩ T0 T0 ?_
 refine t_op rfl (sp_assign (.tmp 41) (iv (k + 1 : Nat)) rfl) ⟨I0, T0⟩ T0 T0 ?_
 refine tri_nil ?_
 refine tri_wk (wk_keep [(1, .box 27 (cFm q)), (2, .box 27 [sv (⟨#[]⟩), iv 0, .v (.slice none 0 0), .v (.slice none 0 0), .v (.slice none 0 0), iv 0, .v (.slice none 0 0), .v (.slice none 0 0), .v (.slice none 0 0), .v (.slice none 0 0)]), (3, .box 27 [sv q.nm, iv q.top, .own 4, .own 5, .own 6, iv q.fault, .own 7, .fr (intsA q.init), .fr (intsA q.leader), .own 8]), (4, .row true 9 1 (0 + q.states.length) (q.states.map sv)), (5, .row true 9 1 (0 + q.msgs.length) (q.msgs.map sv)), (6, .row true 9 1 (0 + q.vals.length) (q.vals.map sv)), (7, .row true 53 4 (0 + q.res.length) (q.res.flatMap cLn)), (8, .row true 76 18 (k + 1) ((q.rules.take (k + 1)).flatMap cRu))] [(1, .box 1 0), (2, .box 2 0), (3, .box 3 0), (4, iv (k + 1 : Nat)), (39, bv true)] (n := 54)) ?_
 refine t_then ?_
 refine tri_again ⟨k + 1, by omega⟩ (show q.rules.length - (k + 1) < q.rules.length - k by omega) ?_
 exact wk_keep _ _ rfl (by kernel_rfl) (by kernel_rfl)
 refine tri_region ?_
 refine t_op rfl (sp_move (.tmp 4) (iv k) rfl) ⟨I0, T0⟩ T0 T0 ?_
 refine t_op rfl (sp_fieldBox (off' := 9) (.tmp 1) rfl Tryd.underlying27 rfl (z := 1) (by kernel_rfl) (by decide) rfl) ⟨I0, T0⟩ T0 T0 ?_
 refine t_op rfl (sp_loadBox1 (Y := .box 27 (cFm q)) (X := slA 18 cRu q.rules) (.tmp 36) rfl Tryd.underlying25 rfl rfl) ⟨I0, T0⟩ ⟨rfl, T0⟩ T0 ?_
 refine t_op rfl (sp_lenSl (.tmp 37) rfl Tryd.underlying25) ⟨I0, T0⟩ T0 T0 ?_
 refine t_op rfl (sp_lss rfl (dF hs1)) ⟨I0, I0, T0⟩ T0 T0 ?_
 refine tri_nil ?_
 refine tri_wk (wk_keep [(1, .box 27 (cFm q)), (2, .box 27 [sv (⟨#[]⟩), iv 0, .v (.slice none 0 0), .v (.slice none 0 0), .v (.slice none 0 0), iv 0, .v (.slice none 0 0), .v (.slice none 0 0), .v (.slice none 0 0), .v (.slice none 0 0)]), (3, .box 27 [sv q.nm, iv q.top, .own 4, .own 5, .own 6, iv q.fault, .own 7, .fr (intsA q.init), .fr (intsA q.leader), .own 8]), (4, .row true 9 1 (0 + q.states.length) (q.states.map sv)), (5, .row true 9 1 (0 + q.msgs.length) (q.msgs.map sv)), (6, .row true 9 1 (0 + q.vals.length) (q.vals.map sv)), (7, .row true 53 4 (0 + q.res.length) (q.res.flatMap cLn)), (8, .row true 76 18 k ((q.rules.take k).flatMap cRu))] [(1, .box 1 0), (2, .box 2 0), (3, .box 3 0), (4, iv k), (39, bv false)] (n := 54)) ?_
 refine t_then ?_
 refine t_condF rfl ?_
 refine tri_exit ?_
 refine t_then_exit ?_
 refine t_then_exit ?_
 refine t_hit ?_
 refine t_then ?_
 refine tri_seq ?_
 refine tri_region ?_
 refine t_op rfl (sp_loadBoxS (Y := .box 27 [sv q.nm, iv q.top, .own 4, .own 5, .own 6, iv q.fault, .own 7, .fr (intsA q.init), .fr (intsA q.leader), .own 8]) (ds := [sv q.nm, iv q.top, .own 4, .own 5, .own 6, iv q.fault, .own 7, .fr (intsA q.init), .fr (intsA q.leader), .own 8]) (z := 10) (.tmp 3) rfl Tryd.underlying27 rfl (by kernel_rfl) (by decide) (by kernel_rfl) (by kernel_rfl)) ⟨I0, T0⟩ ⟨rfl, T0⟩ T0 ?_
 refine t_op rfl (sp_storeBox (T0 := 27) (X := .agg [sv q.nm, iv q.top, .own 4, .own 5, .own 6, iv q.fault, .own 7, .fr (intsA q.init), .fr (intsA q.leader), .own 8]) (cs := [sv (⟨#[]⟩), iv 0, .v (.slice none 0 0), .v (.slice none 0 0), .v (.slice none 0 0), iv 0, .v (.slice none 0 0), .v (.slice none 0 0), .v (.slice none 0 0), .v (.slice none 0 0)]) (ds := [sv q.nm, iv q.top, .own 4, .own 5, .own 6, iv q.fault, .own 7, .fr (intsA q.init), .fr (intsA q.leader), .own 8]) (z := 10) (.tmp 2) (.tmp 53) rfl (by kernel_rfl) (by kernel_rfl) (by kernel_rfl) (of_decide_eq_true (by kernel_rfl)) (by kernel_rfl)) ⟨I0, I0, T0⟩ ⟨rfl, T0⟩ rfl ?_
 refine tri_nil ?_
 refine tri_wk (wk_keep [(2, .box 27 [sv q.nm, iv q.top, .own 4, .own 5, .own 6, iv q.fault, .own 7, .fr (intsA q.init), .fr (intsA q.leader), .own 8]), (4, .row true 9 1 (0 + q.states.length) (q.states.map sv)), (5, .row true 9 1 (0 + q.msgs.length) (q.msgs.map sv)), (6, .row true 9 1 (0 + q.vals.length) (q.vals.map sv)), (7, .row true 53 4 (0 + q.res.length) (q.res.flatMap cLn)), (8, .row true 76 18 k ((q.rules.take k).flatMap cRu))] [(2, .box 2 0)] (n := 54)) ?_
 refine t_then ?_
 refine tri_ret ?_
 refine tri_end1 Tryd.results15 (.cellS rfl rfl Tryd.underlying27 rfl (z := 10) (by kernel_rfl) rfl (by decide)) ?_
 have hk : k = q.rules.length := by omega
 subst hk
 show AV.agg [sv q.nm, iv q.top, .sl 1 (0 + q.states.length) (q.states.map sv), .sl 1 (0 + q.msgs.length) (q.msgs.map sv), .sl 1 (0 + q.vals.length) (q.vals.map sv), iv q.fault, .sl 4 (0 + q.res.length) (q.res.flatMap cLn), intsA q.init, intsA q.leader, .sl 18 q.rules.length ((q.rules.take q.rules.length).flatMap cRu)] = .agg (cFm q)
 rw [List.take_length, Nat.zero_add, Nat.zero_add, Nat.zero_add, Nat.zero_add]; rfl
end Go.Proofs.YtmpbfdfjcfanoaaDoor

namespace Go.Proofs.YtmpbfdfjcfanoaaDoor
open Go.RowKit Go.Deep
variable {J : World → Prop}
set_option linter.unusedSimpArgs false in
set_option linter.unusedVariables false in
set_option maxRecDepth 100000 in
set_option maxHeartbeats 6400000 in
theorem lawEquals_c {a b : Fm} (HA : FmOk a) (HB : FmOk b) : Ctr Tryd.prog TabW 9 [.agg (cFm a), .agg (cFm b)] (bv true) := by
 refine ctr_of_tri Tryd.func9 rfl (by intro X hX; simp only [List.mem_cons, List.not_mem_nil, or_false] at hX; rcases hX with rfl | rfl; exact plain_agg (plain_fm a); exact plain_agg (plain_fm b)) (n := 37) rfl (by simp) (fun w0 => ?_)
 refine tri_wk (wk_keep [] [(0, .agg (cFm a)), (1, .agg (cFm b))] (n := 37)) ?_
 refine tri_seq ?_
 refine tri_region ?_
 refine t_op rfl (sp_box (X := .agg (cFm a)) (k := 1) (.tmp 0) rfl rfl) ⟨I0, T0⟩ T0 rfl ?_
 refine t_op rfl (sp_box (X := .agg (cFm b)) (k := 2) (.tmp 1) rfl rfl) ⟨I0, T0⟩ T0 rfl ?_
 refine t_op rfl (sp_assign (.const (.bool false)) (bv false) rfl) ⟨I0, T0⟩ T0 T0 ?_
 refine tri_nil ?_
 refine tri_wk (wk_keep [(1, .box 27 (cFm a)), (2, .box 27 (cFm b))] [(2, .box 1 0), (3, .box 2 0), (4, bv false)] (n := 37)) ?_
 refine t_then ?_
 refine tri_seq ?_
 refine tri_seq ?_
 by_cases hs1 : (bigF a) = true
 refine tri_region ?_
 refine t_op rfl (sp_loadBoxS (Y := .box 27 (cFm a)) (ds := cFm a) (z := 10) (.tmp 2) rfl Tryd.underlying27 rfl (by kernel_rfl) (by decide) (by kernel_rfl) (by kernel_rfl)) ⟨I0, T0⟩ ⟨rfl, T0⟩ T0 ?_
 refine t_op rfl (sp_call (c := .func 13) (xs := #[.tmp 5]) [] (ctr_b (Big_c HA) hs1) rfl (by kernel_rfl) rfl (Xs := [.agg (cFm a)]) rfl rfl rfl) ⟨I0, I0, T0⟩ T0 T0 ?_
 refine t_op rfl (sp_move (.tmp 6) (bv true) rfl) ⟨I0, T0⟩ T0 T0 ?_
 refine t_skip rfl ?_
 refine t_skip rfl ?_
 refine t_op rfl (sp_pick (.tmp 7) (.const (.bool true)) (.tmp 9) true (bv true) (.v (.tuple #[])) rfl) ⟨I0, I0, I0, T0⟩ T0 T0 ?_
 refine tri_nil ?_
 refine tri_wk (wk_keep [(1, .box 27 (cFm a)), (2, .box 27 (cFm b))] [(2, .box 1 0), (3, .box 2 0), (4, bv false), (10, bv true)] (n := 37)) ?_
 refine t_then ?_
 refine t_condT rfl ?_
 refine tri_seq ?_
 refine tri_region ?_
 refine t_op rfl (sp_call (c := .func 14) (xs := #[]) [] known_c rfl (by kernel_rfl) rfl (Xs := []) rfl rfl rfl) ⟨I0, T0⟩ T0 T0 ?_
 refine t_op rfl (sp_assign (.tmp 11) (bv true) rfl) ⟨I0, T0⟩ T0 T0 ?_
 refine tri_nil ?_
 refine tri_wk (wk_keep [(1, .box 27 (cFm a)), (2, .box 27 (cFm b))] [(2, .box 1 0), (3, .box 2 0), (4, bv true)] (n := 37)) ?_
 refine t_then ?_
 refine tri_ret ?_
 refine t_then_ret ?_
 refine tri_end1 Tryd.results9 (.tmp rfl) ?_
 exact rfl
 have hs1f : (bigF a) = false := by simpa using hs1
 by_cases hs2 : (bigF b) = true
 refine tri_region ?_
 refine t_op rfl (sp_loadBoxS (Y := .box 27 (cFm a)) (ds := cFm a) (z := 10) (.tmp 2) rfl Tryd.underlying27 rfl (by kernel_rfl) (by decide) (by kernel_rfl) (by kernel_rfl)) ⟨I0, T0⟩ ⟨rfl, T0⟩ T0 ?_
 refine t_op rfl (sp_call (c := .func 13) (xs := #[.tmp 5]) [] (ctr_b (Big_c HA) hs1f) rfl (by kernel_rfl) rfl (Xs := [.agg (cFm a)]) rfl rfl rfl) ⟨I0, I0, T0⟩ T0 T0 ?_
 refine t_op rfl (sp_move (.tmp 6) (bv false) rfl) ⟨I0, T0⟩ T0 T0 ?_
 refine t_opG rfl (sp_loadBoxS (Y := .box 27 (cFm b)) (ds := cFm b) (z := 10) (.tmp 3) rfl Tryd.underlying27 rfl (by kernel_rfl) (by decide) (by kernel_rfl) (by kernel_rfl)) ⟨I0, T0⟩ ⟨rfl, T0⟩ T0 ?_
 refine t_opG rfl (sp_call (c := .func 13) (xs := #[.tmp 8]) [] (ctr_b (Big_c HB) hs2) rfl (by kernel_rfl) rfl (Xs := [.agg (cFm b)]) rfl rfl rfl) ⟨I0, I0, T0⟩ T0 T0 ?_
 refine t_op rfl (sp_pick (.tmp 7) (.const (.bool true)) (.tmp 9) false (bv true) (bv true) rfl) ⟨I0, I0, I0, T0⟩ T0 T0 ?_
 refine tri_nil ?_
 refine tri_wk (wk_keep [(1, .box 27 (cFm a)), (2, .box 27 (cFm b))] [(2, .box 1 0), (3, .box 2 0), (4, bv false), (10, bv true)] (n := 37)) ?_
 refine t_then ?_
 refine t_condT rfl ?_
 refine tri_seq ?_
 refine tri_region ?_
 refine t_op rfl (sp_call (c := .func 14) (xs := #[]) [] known_c rfl (by kernel_rfl) rfl (Xs := []) rfl rfl rfl) ⟨I0, T0⟩ T0 T0 ?_
 refine t_op rfl (sp_assign (.tmp 11) (bv true) rfl) ⟨I0, T0⟩ T0 T0 ?_
 refine tri_nil ?_
 refine tri_wk (wk_keep [(1, .box 27 (cFm a)), (2, .box 27 (cFm b))] [(2, .box 1 0), (3, .box 2 0), (4, bv true)] (n := 37)) ?_
 refine t_then ?_
 refine tri_ret ?_
 refine t_then_ret ?_
 refine tri_end1 Tryd.results9 (.tmp rfl) ?_
 exact rfl
 have hs2f : (bigF b) = false := by simpa using hs2
 refine tri_region ?_
 refine t_op rfl (sp_loadBoxS (Y := .box 27 (cFm a)) (ds := cFm a) (z := 10) (.tmp 2) rfl Tryd.underlying27 rfl (by kernel_rfl) (by decide) (by kernel_rfl) (by kernel_rfl)) ⟨I0, T0⟩ ⟨rfl, T0⟩ T0 ?_
 refine t_op rfl (sp_call (c := .func 13) (xs := #[.tmp 5]) [] (ctr_b (Big_c HA) hs1f) rfl (by kernel_rfl) rfl (Xs := [.agg (cFm a)]) rfl rfl rfl) ⟨I0, I0, T0⟩ T0 T0 ?_
 refine t_op rfl (sp_move (.tmp 6) (bv false) rfl) ⟨I0, T0⟩ T0 T0 ?_
 refine t_opG rfl (sp_loadBoxS (Y := .box 27 (cFm b)) (ds := cFm b) (z := 10) (.tmp 3) rfl Tryd.underlying27 rfl (by kernel_rfl) (by decide) (by kernel_rfl) (by kernel_rfl)) ⟨I0, T0⟩ ⟨rfl, T0⟩ T0 ?_
 refine t_opG rfl (sp_call (c := .func 13) (xs := #[.tmp 8]) [] (ctr_b (Big_c HB) hs2f) rfl (by kernel_rfl) rfl (Xs := [.agg (cFm b)]) rfl rfl rfl) ⟨I0, I0, T0⟩ T0 T0 ?_
 refine t_op rfl (sp_pick (.tmp 7) (.const (.bool true)) (.tmp 9) false (bv true) (bv false) rfl) ⟨I0, I0, I0, T0⟩ T0 T0 ?_
 refine tri_nil ?_
 refine tri_wk (wk_keep [(1, .box 27 (cFm a)), (2, .box 27 (cFm b))] [(2, .box 1 0), (3, .box 2 0), (4, bv false), (10, bv false)] (n := 37)) ?_
 refine t_then ?_
 refine t_condF rfl ?_
 refine tri_skip ?_
 refine t_then ?_
 refine tri_seq ?_
 refine tri_draw [⟨[(.tmp 2, .box 1 0)], [(1, .box 27 (cFm a))], .agg (cFm a), .no⟩, ⟨[(.tmp 3, .box 2 0)], [(2, .box 27 (cFm b))], .agg (cFm b), .no⟩, ⟨[(.func 27, .v (.func (.func 27) #[] #[])), (.tmp 12, .agg (cFm a)), (.tmp 13, .agg (cFm b))], [], bv (decide (a = b)), .no⟩, ⟨[(.tmp 2, .box 1 0)], [(1, .box 27 (cFm a))], .agg (cFm a), .no⟩, ⟨[(.tmp 3, .box 2 0)], [(2, .box 27 (cFm b))], .agg (cFm b), .no⟩, ⟨[(.func 18, .v (.func (.func 18) #[] #[])), (.tmp 15, .agg (cFm a)), (.tmp 16, .agg (cFm b))], [], bv (decide (a = b)), .no⟩, ⟨[(.tmp 14, bv (decide (a = b))), (.tmp 17, bv (decide (a = b)))], [], bv true, .no⟩, ⟨[(.tmp 18, bv true)], [], bv true, .no⟩, ⟨[(.tmp 3, .box 2 0)], [(2, .box 27 (cFm b))], .agg (cFm b), .no⟩, ⟨[(.tmp 2, .box 1 0)], [(1, .box 27 (cFm a))], .agg (cFm a), .no⟩, ⟨[(.func 27, .v (.func (.func 27) #[] #[])), (.tmp 20, .agg (cFm b)), (.tmp 21, .agg (cFm a))], [], bv (decide (a = b)), .no⟩, ⟨[(.tmp 2, .box 1 0)], [(1, .box 27 (cFm a))], .agg (cFm a), .no⟩, ⟨[(.tmp 3, .box 2 0)], [(2, .box 27 (cFm b))], .agg (cFm b), .no⟩, ⟨[(.func 27, .v (.func (.func 27) #[] #[])), (.tmp 23, .agg (cFm a)), (.tmp 24, .agg (cFm b))], [], bv (decide (a = b)), .no⟩, ⟨[(.tmp 22, bv (decide (a = b))), (.tmp 25, bv (decide (a = b)))], [], bv true, .no⟩, ⟨[(.tmp 19, bv true), (.tmp 26, bv true), (.const (.bool false), bv false)], [], bv true, .no⟩, ⟨[(.tmp 27, bv true)], [], bv true, .no⟩, ⟨[(.tmp 2, .box 1 0)], [(1, .box 27 (cFm a))], .agg (cFm a), .no⟩, ⟨[(.tmp 2, .box 1 0)], [(1, .box 27 (cFm a))], .agg (cFm a), .no⟩, ⟨[(.func 15, .v (.func (.func 15) #[] #[])), (.tmp 30, .agg (cFm a))], [], .fr (.agg (cFm a)), .no⟩, ⟨[(.func 27, .v (.func (.func 27) #[] #[])), (.tmp 29, .agg (cFm a)), (.tmp 31, .agg (cFm a))], [], bv true, .no⟩, ⟨[(.tmp 28, bv true), (.tmp 32, bv true), (.const (.bool false), bv false)], [], bv true, .no⟩, ⟨[(.tmp 33, bv true)], [], bv true, .no⟩, ⟨[(.func 14, .v (.func (.func 14) #[] #[]))], [], bv true, .no⟩, ⟨[(.tmp 34, bv true), (.tmp 35, bv true), (.const (.bool false), bv false)], [], bv true, .no⟩, ⟨[(.tmp 36, bv true)], [], bv true, .no⟩] (by kernel_rfl) (by kernel_rfl) ?_
 refine ⟨app_yes rfl (sp_loadBoxS (Y := .box 27 (cFm a)) (ds := cFm a) (z := 10) (.tmp 2) rfl Tryd.underlying27 rfl (by kernel_rfl) (by decide) (by kernel_rfl) (by kernel_rfl)) ⟨I0, T0⟩ ⟨rfl, T0⟩ T0, ?_⟩
 refine ⟨app_yes rfl (sp_loadBoxS (Y := .box 27 (cFm b)) (ds := cFm b) (z := 10) (.tmp 3) rfl Tryd.underlying27 rfl (by kernel_rfl) (by decide) (by kernel_rfl) (by kernel_rfl)) ⟨I0, T0⟩ ⟨rfl, T0⟩ T0, ?_⟩
 refine ⟨app_yes rfl (sp_call (c := .func 27) (xs := #[.tmp 12, .tmp 13]) [] (qEqualG HA HB) rfl (by kernel_rfl) rfl (Xs := [.agg (cFm a), .agg (cFm b)]) rfl rfl rfl) ⟨I0, I0, I0, T0⟩ T0 T0, ?_⟩
 refine ⟨app_yes rfl (sp_loadBoxS (Y := .box 27 (cFm a)) (ds := cFm a) (z := 10) (.tmp 2) rfl Tryd.underlying27 rfl (by kernel_rfl) (by decide) (by kernel_rfl) (by kernel_rfl)) ⟨I0, T0⟩ ⟨rfl, T0⟩ T0, ?_⟩
 refine ⟨app_yes rfl (sp_loadBoxS (Y := .box 27 (cFm b)) (ds := cFm b) (z := 10) (.tmp 3) rfl Tryd.underlying27 rfl (by kernel_rfl) (by decide) (by kernel_rfl) (by kernel_rfl)) ⟨I0, T0⟩ ⟨rfl, T0⟩ T0, ?_⟩
 refine ⟨app_yes rfl (sp_call (c := .func 18) (xs := #[.tmp 15, .tmp 16]) [] (rEqualG HA HB) rfl (by kernel_rfl) rfl (Xs := [.agg (cFm a), .agg (cFm b)]) rfl rfl rfl) ⟨I0, I0, I0, T0⟩ T0 T0, ?_⟩
 refine ⟨app_yes rfl (sp_beql rfl Tryd.underlying4 (beq_self_eq_true _)) ⟨I0, I0, T0⟩ T0 T0, ?_⟩
 refine ⟨app_yes rfl (sp_move (.tmp 18) (bv true) rfl) ⟨I0, T0⟩ T0 T0, ?_⟩
 refine ⟨app_yes rfl (sp_loadBoxS (Y := .box 27 (cFm b)) (ds := cFm b) (z := 10) (.tmp 3) rfl Tryd.underlying27 rfl (by kernel_rfl) (by decide) (by kernel_rfl) (by kernel_rfl)) ⟨I0, T0⟩ ⟨rfl, T0⟩ T0, ?_⟩
 refine ⟨app_yes rfl (sp_loadBoxS (Y := .box 27 (cFm a)) (ds := cFm a) (z := 10) (.tmp 2) rfl Tryd.underlying27 rfl (by kernel_rfl) (by decide) (by kernel_rfl) (by kernel_rfl)) ⟨I0, T0⟩ ⟨rfl, T0⟩ T0, ?_⟩
 refine ⟨app_yes rfl (sp_call (c := .func 27) (xs := #[.tmp 20, .tmp 21]) [] (ctr_b (qEqualG HB HA) (Bool.eq_iff_iff.2 ⟨fun h => dec_t (of_decide_eq_true h).symm, fun h => dec_t (of_decide_eq_true h).symm⟩)) rfl (by kernel_rfl) rfl (Xs := [.agg (cFm b), .agg (cFm a)]) rfl rfl rfl) ⟨I0, I0, I0, T0⟩ T0 T0, ?_⟩
 refine ⟨app_yes rfl (sp_loadBoxS (Y := .box 27 (cFm a)) (ds := cFm a) (z := 10) (.tmp 2) rfl Tryd.underlying27 rfl (by kernel_rfl) (by decide) (by kernel_rfl) (by kernel_rfl)) ⟨I0, T0⟩ ⟨rfl, T0⟩ T0, ?_⟩
 refine ⟨app_yes rfl (sp_loadBoxS (Y := .box 27 (cFm b)) (ds := cFm b) (z := 10) (.tmp 3) rfl Tryd.underlying27 rfl (by kernel_rfl) (by decide) (by kernel_rfl) (by kernel_rfl)) ⟨I0, T0⟩ ⟨rfl, T0⟩ T0, ?_⟩
 refine ⟨app_yes rfl (sp_call (c := .func 27) (xs := #[.tmp 23, .tmp 24]) [] (qEqualG HA HB) rfl (by kernel_rfl) rfl (Xs := [.agg (cFm a), .agg (cFm b)]) rfl rfl rfl) ⟨I0, I0, I0, T0⟩ T0 T0, ?_⟩
 refine ⟨app_yes rfl (sp_beql rfl Tryd.underlying4 (beq_self_eq_true _)) ⟨I0, I0, T0⟩ T0 T0, ?_⟩
 refine ⟨app_yes rfl (sp_pick (.tmp 19) (.tmp 26) (.const (.bool false)) true (bv true) (bv false) rfl) ⟨I0, I0, I0, T0⟩ T0 T0, ?_⟩
 refine ⟨app_yes rfl (sp_move (.tmp 27) (bv true) rfl) ⟨I0, T0⟩ T0 T0, ?_⟩
 refine ⟨app_yes rfl (sp_loadBoxS (Y := .box 27 (cFm a)) (ds := cFm a) (z := 10) (.tmp 2) rfl Tryd.underlying27 rfl (by kernel_rfl) (by decide) (by kernel_rfl) (by kernel_rfl)) ⟨I0, T0⟩ ⟨rfl, T0⟩ T0, ?_⟩
 refine ⟨app_yes rfl (sp_loadBoxS (Y := .box 27 (cFm a)) (ds := cFm a) (z := 10) (.tmp 2) rfl Tryd.underlying27 rfl (by kernel_rfl) (by decide) (by kernel_rfl) (by kernel_rfl)) ⟨I0, T0⟩ ⟨rfl, T0⟩ T0, ?_⟩
 refine ⟨app_yes rfl (sp_call (c := .func 15) (xs := #[.tmp 30]) [] (rCopy_c (famLen hs1f)) rfl (by kernel_rfl) rfl (Xs := [.agg (cFm a)]) rfl rfl rfl) ⟨I0, I0, T0⟩ T0 T0, ?_⟩
 refine ⟨app_yes rfl (sp_call (c := .func 27) (xs := #[.tmp 29, .tmp 31]) [] (ctr_b (qEqualG HA HA) (dec_t rfl)) rfl (by kernel_rfl) rfl (Xs := [.agg (cFm a), .agg (cFm a)]) rfl rfl rfl) ⟨I0, I0, .inr (.inl rfl), T0⟩ T0 T0, ?_⟩
 refine ⟨app_yes rfl (sp_pick (.tmp 28) (.tmp 32) (.const (.bool false)) true (bv true) (bv false) rfl) ⟨I0, I0, I0, T0⟩ T0 T0, ?_⟩
 refine ⟨app_yes rfl (sp_move (.tmp 33) (bv true) rfl) ⟨I0, T0⟩ T0 T0, ?_⟩
 refine ⟨app_yes rfl (sp_call (c := .func 14) (xs := #[]) [] known_c rfl (by kernel_rfl) rfl (Xs := []) rfl rfl rfl) ⟨I0, T0⟩ T0 T0, ?_⟩
 refine ⟨app_yes rfl (sp_pick (.tmp 34) (.tmp 35) (.const (.bool false)) true (bv true) (bv false) rfl) ⟨I0, I0, I0, T0⟩ T0 T0, ?_⟩
 refine ⟨app_yes rfl (sp_assign (.tmp 36) (bv true) rfl) ⟨I0, T0⟩ T0 T0, ?_⟩
 show ETri TabW w0 _ _ _
 refine tri_wk (wk_keep [] [(4, bv true)] (n := 37)) ?_
 refine t_then ?_
 refine tri_ret ?_
 refine tri_end1 Tryd.results9 (.tmp rfl) ?_
 exact rfl
theorem walk_Equals {v v' : Value} {a b : Fm} (w : World) (ha : IsFam 0 w v a) (hb : IsFam 0 w v' b) (ht : TabW w) :
    Calls Tryd.prog 9 #[v, v'] w fun e w' => e = .returned (.bool true) ∧ Below w.heap.size w w' :=
  walk2 (lawEquals_c ha.ok hb.ok) (famw ha) (famw hb) ht
end Go.Proofs.YtmpbfdfjcfanoaaDoor

namespace Go.Proofs.YtmpbfdfjcfanoaaDoor
open Go.RowKit Go.Deep

theorem tab_of_laid {W : World} (h : laidMetH Tryd.prog [("math/bits.deBruijn32tab", Rows.laid_math_bits_deBruijn32tab), ("math/bits.deBruijn64tab", Rows.laid_math_bits_deBruijn64tab), ("internal/strconv.uint64pow10", Rows.laid_internal_strconv_uint64pow10)] W) : TabW W := by
  have h1 := h.filter fun x => x.1 == "internal/strconv.uint64pow10"
  have h2 := (laidMetH_iff.1 h1).1
  have e : ((([("math/bits.deBruijn32tab", Rows.laid_math_bits_deBruijn32tab), ("math/bits.deBruijn64tab", Rows.laid_math_bits_deBruijn64tab), ("internal/strconv.uint64pow10", Rows.laid_internal_strconv_uint64pow10)] : List (String × DataW Unit)).filter fun x => x.1 == "internal/strconv.uint64pow10").filter fun x => x.2.handleName?.isNone) = [("internal/strconv.uint64pow10", Go.Lib.tabData .u64 Go.Lib.pow10Tab)] := by kernel_rfl
  rw [e] at h2
  exact Go.Lib.tabIs_of_head (g := 0) (t := 142) (e := 134) (n := 20) (by kernel_rfl) (by kernel_rfl) Tryd.underlying142 Tryd.underlying134 (by kernel_rfl) (by kernel_rfl) h2
end Go.Proofs.YtmpbfdfjcfanoaaDoor
