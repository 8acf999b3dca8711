import Derived.Test.YtmpbfdfjcfanoaaDoorRows
import Derived.Lib.LaidTab
import Derived.LaidSub
import Derived.Test.YtmpbfdfjcfanoaaDoorGrpijpilmhn
import Derived.Test.YtmpbfdfjcfanoaaDoorGrpnaecaajm
import Derived.Test.YtmpbfdfjcfanoaaDoorGrpajjobmgg
import Derived.Test.YtmpbfdfjcfanoaaDoorGrplboogech
set_option linter.all false
/-
  THE COPY OF A FAMILY, OF THE REFERENCE.
-/
namespace Go.Proofs.YtmpbfdfjcfanoaaDoor
open Go.RowKit Go.Deep
variable {J : World → Prop}
set_option linter.unusedSimpArgs false in
set_option linter.unusedVariables false in
set_option maxRecDepth 100000 in
set_option maxHeartbeats 6400000 in
theorem rCopy_c {q : Fm} (H : FamLen q) : Ctr Tryd.prog J 15 [.agg (cFm q)] (.agg (cFm q)) := by
 have l1 := H.states
 have l2 := H.msgs
 have l3 := H.vals
 have l4 := H.res
 have l5 := H.lrules
 refine ctr_of_tri Tryd.func15 rfl (by intro X hX; simp only [List.mem_cons, List.not_mem_nil, or_false] at hX; rcases hX with rfl; exact plain_agg (plain_fm q)) (n := 54) rfl (by simp) (fun w0 => ?_)
 refine tri_wk (wk_keep [] [(0, .agg (cFm q))] (n := 54) rfl (by kernel_rfl) (by kernel_rfl)) ?_
 refine tri_seq ?_
 refine tri_region ?_
 refine t_op rfl (sp_box (X := .agg (cFm q)) (k := 1) (.tmp 0) rfl rfl) ⟨.inl rfl, trivial⟩ trivial rfl ?_
 refine t_op rfl (sp_alloc (z := .agg #[.string (⟨#[]⟩), .int .i64 0, .slice none 0 0, .slice none 0 0, .slice none 0 0, .int .i64 0, .slice none 0 0, .slice none 0 0, .slice none 0 0, .slice none 0 0]) (k := 2) rfl (by kernel_rfl)) trivial trivial rfl ?_
 refine tri_nil ?_
 refine tri_wk (wk_keep [(1, .box 27 (cFm q)), (2, .box 27 [sv (⟨#[]⟩), iv 0, .v (.slice none 0 0), .v (.slice none 0 0), .v (.slice none 0 0), iv 0, .v (.slice none 0 0), .v (.slice none 0 0), .v (.slice none 0 0), .v (.slice none 0 0)])] [(1, .box 1 0), (2, .box 2 0)] (n := 54) rfl (by kernel_rfl) (by kernel_rfl)) ?_
 refine t_then ?_
 refine tri_seq ?_
 refine tri_region ?_
 refine t_op rfl (sp_loadBoxS (Y := .box 27 (cFm q)) (ds := cFm q) (z := 10) (.tmp 1) rfl Tryd.underlying27 rfl (by kernel_rfl) (by decide) (by kernel_rfl) (by kernel_rfl)) ⟨.inl rfl, trivial⟩ ⟨rfl, trivial⟩ trivial ?_
 refine t_op rfl (sp_alloc (z := .agg #[.string (⟨#[]⟩), .int .i64 0, .slice none 0 0, .slice none 0 0, .slice none 0 0, .int .i64 0, .slice none 0 0, .slice none 0 0, .slice none 0 0, .slice none 0 0]) (k := 3) rfl (by kernel_rfl)) trivial trivial rfl ?_
 refine t_op rfl (sp_storeBox (T0 := 27) (X := .agg (cFm q)) (cs := [sv (⟨#[]⟩), iv 0, .v (.slice none 0 0), .v (.slice none 0 0), .v (.slice none 0 0), iv 0, .v (.slice none 0 0), .v (.slice none 0 0), .v (.slice none 0 0), .v (.slice none 0 0)]) (ds := cFm q) (z := 10) (.tmp 3) (.tmp 5) rfl (by kernel_rfl) (by kernel_rfl) (by kernel_rfl) (of_decide_eq_true (by kernel_rfl)) (by kernel_rfl)) ⟨.inl rfl, .inl rfl, trivial⟩ ⟨rfl, trivial⟩ rfl ?_
 refine tri_nil ?_
 refine tri_wk (wk_keep [(1, .box 27 (cFm q)), (2, .box 27 [sv (⟨#[]⟩), iv 0, .v (.slice none 0 0), .v (.slice none 0 0), .v (.slice none 0 0), iv 0, .v (.slice none 0 0), .v (.slice none 0 0), .v (.slice none 0 0), .v (.slice none 0 0)]), (3, .box 27 (cFm q))] [(1, .box 1 0), (2, .box 2 0), (3, .box 3 0)] (n := 54) rfl (by kernel_rfl) (by kernel_rfl)) ?_
 refine t_then ?_
 refine tri_seq ?_
 refine tri_region ?_
 refine t_op rfl (sp_build0 (z := 1) (k := 4) true rfl Tryd.underlying22 (by kernel_rfl)) trivial trivial rfl ?_
 refine t_op rfl (sp_fieldBox (off' := 2) (.tmp 1) rfl Tryd.underlying27 rfl (z := 1) (by kernel_rfl) (by decide) rfl) ⟨.inl rfl, trivial⟩ trivial trivial ?_
 refine t_op rfl (sp_loadBox1 (Y := .box 27 (cFm q)) (X := strsA q.states) (.tmp 7) rfl Tryd.underlying22 rfl rfl) ⟨.inl rfl, trivial⟩ ⟨rfl, trivial⟩ trivial ?_
 refine t_op rfl (sp_append (n := 0) (cs := []) (fr := true) (m := q.states.length) (ds := (q.states.map sv)) (⟨Tryd.underlying22, by kernel_rfl, by decide⟩ : Elt Tryd.prog 22 9 1 16) (.tmp 6) (.tmp 8) rfl (fun _ d hd => by obtain ⟨x, _, rfl⟩ := List.mem_map.1 hd; rfl) (by unfold maxLen; omega) (by omega) (fun d hd => by obtain ⟨x, _, rfl⟩ := List.mem_map.1 hd; rfl) (es := (q.states.map sv)) (by rw [unfr_strs]; rfl)) ⟨.inl rfl, .inl rfl, trivial⟩ ⟨rfl, trivial⟩ rfl ?_
 refine t_op rfl (sp_fieldBox (off' := 2) (.tmp 3) rfl Tryd.underlying27 rfl (z := 1) (by kernel_rfl) (by decide) rfl) ⟨.inl rfl, trivial⟩ trivial trivial ?_
 refine t_op rfl (sp_storeBox (T0 := 27) (X := .own 4) (cs := cFm q) (ds := [sv q.nm, iv q.top, .own 4, strsA q.msgs, strsA q.vals, iv q.fault, slA 4 cLn q.res, intsA q.init, intsA q.leader, slA 18 cRu q.rules]) (z := 1) (.tmp 10) (.tmp 9) rfl (by kernel_rfl) (by kernel_rfl) (by kernel_rfl) (of_decide_eq_true (by kernel_rfl)) (by kernel_rfl)) ⟨.inl rfl, .inl rfl, trivial⟩ ⟨rfl, trivial⟩ rfl ?_
 refine tri_nil ?_
 refine tri_wk (wk_keep [(1, .box 27 (cFm q)), (2, .box 27 [sv (⟨#[]⟩), iv 0, .v (.slice none 0 0), .v (.slice none 0 0), .v (.slice none 0 0), iv 0, .v (.slice none 0 0), .v (.slice none 0 0), .v (.slice none 0 0), .v (.slice none 0 0)]), (3, .box 27 [sv q.nm, iv q.top, .own 4, strsA q.msgs, strsA q.vals, iv q.fault, slA 4 cLn q.res, intsA q.init, intsA q.leader, slA 18 cRu q.rules]), (4, .row true 9 1 (0 + q.states.length) (q.states.map sv))] [(1, .box 1 0), (2, .box 2 0), (3, .box 3 0)] (n := 54) rfl (by kernel_rfl) (by kernel_rfl)) ?_
 refine t_then ?_
 refine tri_seq ?_
 refine tri_region ?_
 refine t_op rfl (sp_build0 (z := 1) (k := 5) true rfl Tryd.underlying22 (by kernel_rfl)) trivial trivial rfl ?_
 refine t_op rfl (sp_fieldBox (off' := 3) (.tmp 1) rfl Tryd.underlying27 rfl (z := 1) (by kernel_rfl) (by decide) rfl) ⟨.inl rfl, trivial⟩ trivial trivial ?_
 refine t_op rfl (sp_loadBox1 (Y := .box 27 (cFm q)) (X := strsA q.msgs) (.tmp 12) rfl Tryd.underlying22 rfl rfl) ⟨.inl rfl, trivial⟩ ⟨rfl, trivial⟩ trivial ?_
 refine t_op rfl (sp_append (n := 0) (cs := []) (fr := true) (m := q.msgs.length) (ds := (q.msgs.map sv)) (⟨Tryd.underlying22, by kernel_rfl, by decide⟩ : Elt Tryd.prog 22 9 1 16) (.tmp 11) (.tmp 13) rfl (fun _ d hd => by obtain ⟨x, _, rfl⟩ := List.mem_map.1 hd; rfl) (by unfold maxLen; omega) (by omega) (fun d hd => by obtain ⟨x, _, rfl⟩ := List.mem_map.1 hd; rfl) (es := (q.msgs.map sv)) (by rw [unfr_strs]; rfl)) ⟨.inl rfl, .inl rfl, trivial⟩ ⟨rfl, trivial⟩ rfl ?_
 refine t_op rfl (sp_fieldBox (off' := 3) (.tmp 3) rfl Tryd.underlying27 rfl (z := 1) (by kernel_rfl) (by decide) rfl) ⟨.inl rfl, trivial⟩ trivial trivial ?_
 refine t_op rfl (sp_storeBox (T0 := 27) (X := .own 5) (cs := [sv q.nm, iv q.top, .own 4, strsA q.msgs, strsA q.vals, iv q.fault, slA 4 cLn q.res, intsA q.init, intsA q.leader, slA 18 cRu q.rules]) (ds := [sv q.nm, iv q.top, .own 4, .own 5, strsA q.vals, iv q.fault, slA 4 cLn q.res, intsA q.init, intsA q.leader, slA 18 cRu q.rules]) (z := 1) (.tmp 15) (.tmp 14) rfl (by kernel_rfl) (by kernel_rfl) (by kernel_rfl) (of_decide_eq_true (by kernel_rfl)) (by kernel_rfl)) ⟨.inl rfl, .inl rfl, trivial⟩ ⟨rfl, trivial⟩ rfl ?_
 refine tri_nil ?_
 refine tri_wk (wk_keep [(1, .box 27 (cFm q)), (2, .box 27 [sv (⟨#[]⟩), iv 0, .v (.slice none 0 0), .v (.slice none 0 0), .v (.slice none 0 0), iv 0, .v (.slice none 0 0), .v (.slice none 0 0), .v (.slice none 0 0), .v (.slice none 0 0)]), (3, .box 27 [sv q.nm, iv q.top, .own 4, .own 5, strsA q.vals, iv q.fault, slA 4 cLn q.res, intsA q.init, intsA q.leader, slA 18 cRu q.rules]), (4, .row true 9 1 (0 + q.states.length) (q.states.map sv)), (5, .row true 9 1 (0 + q.msgs.length) (q.msgs.map sv))] [(1, .box 1 0), (2, .box 2 0), (3, .box 3 0)] (n := 54) rfl (by kernel_rfl) (by kernel_rfl)) ?_
 refine t_then ?_
 refine tri_seq ?_
 refine tri_region ?_
 refine t_op rfl (sp_build0 (z := 1) (k := 6) true rfl Tryd.underlying22 (by kernel_rfl)) trivial trivial rfl ?_
 refine t_op rfl (sp_fieldBox (off' := 4) (.tmp 1) rfl Tryd.underlying27 rfl (z := 1) (by kernel_rfl) (by decide) rfl) ⟨.inl rfl, trivial⟩ trivial trivial ?_
 refine t_op rfl (sp_loadBox1 (Y := .box 27 (cFm q)) (X := strsA q.vals) (.tmp 17) rfl Tryd.underlying22 rfl rfl) ⟨.inl rfl, trivial⟩ ⟨rfl, trivial⟩ trivial ?_
 refine t_op rfl (sp_append (n := 0) (cs := []) (fr := true) (m := q.vals.length) (ds := (q.vals.map sv)) (⟨Tryd.underlying22, by kernel_rfl, by decide⟩ : Elt Tryd.prog 22 9 1 16) (.tmp 16) (.tmp 18) rfl (fun _ d hd => by obtain ⟨x, _, rfl⟩ := List.mem_map.1 hd; rfl) (by unfold maxLen; omega) (by omega) (fun d hd => by obtain ⟨x, _, rfl⟩ := List.mem_map.1 hd; rfl) (es := (q.vals.map sv)) (by rw [unfr_strs]; rfl)) ⟨.inl rfl, .inl rfl, trivial⟩ ⟨rfl, trivial⟩ rfl ?_
 refine t_op rfl (sp_fieldBox (off' := 4) (.tmp 3) rfl Tryd.underlying27 rfl (z := 1) (by kernel_rfl) (by decide) rfl) ⟨.inl rfl, trivial⟩ trivial trivial ?_
 refine t_op rfl (sp_storeBox (T0 := 27) (X := .own 6) (cs := [sv q.nm, iv q.top, .own 4, .own 5, strsA q.vals, iv q.fault, slA 4 cLn q.res, intsA q.init, intsA q.leader, slA 18 cRu q.rules]) (ds := [sv q.nm, iv q.top, .own 4, .own 5, .own 6, iv q.fault, slA 4 cLn q.res, intsA q.init, intsA q.leader, slA 18 cRu q.rules]) (z := 1) (.tmp 20) (.tmp 19) rfl (by kernel_rfl) (by kernel_rfl) (by kernel_rfl) (of_decide_eq_true (by kernel_rfl)) (by kernel_rfl)) ⟨.inl rfl, .inl rfl, trivial⟩ ⟨rfl, trivial⟩ rfl ?_
 refine tri_nil ?_
 refine tri_wk (wk_keep [(1, .box 27 (cFm q)), (2, .box 27 [sv (⟨#[]⟩), iv 0, .v (.slice none 0 0), .v (.slice none 0 0), .v (.slice none 0 0), iv 0, .v (.slice none 0 0), .v (.slice none 0 0), .v (.slice none 0 0), .v (.slice none 0 0)]), (3, .box 27 [sv q.nm, iv q.top, .own 4, .own 5, .own 6, iv q.fault, slA 4 cLn q.res, intsA q.init, intsA q.leader, slA 18 cRu q.rules]), (4, .row true 9 1 (0 + q.states.length) (q.states.map sv)), (5, .row true 9 1 (0 + q.msgs.length) (q.msgs.map sv)), (6, .row true 9 1 (0 + q.vals.length) (q.vals.map sv))] [(1, .box 1 0), (2, .box 2 0), (3, .box 3 0)] (n := 54) rfl (by kernel_rfl) (by kernel_rfl)) ?_
 refine t_then ?_
 refine tri_seq ?_
 refine tri_region ?_
 refine t_op rfl (sp_build0 (z := 4) (k := 7) true rfl Tryd.underlying23 (by kernel_rfl)) trivial trivial rfl ?_
 refine t_op rfl (sp_fieldBox (off' := 6) (.tmp 1) rfl Tryd.underlying27 rfl (z := 1) (by kernel_rfl) (by decide) rfl) ⟨.inl rfl, trivial⟩ trivial trivial ?_
 refine t_op rfl (sp_loadBox1 (Y := .box 27 (cFm q)) (X := slA 4 cLn q.res) (.tmp 22) rfl Tryd.underlying23 rfl rfl) ⟨.inl rfl, trivial⟩ ⟨rfl, trivial⟩ trivial ?_
 refine t_op rfl (sp_append (n := 0) (cs := []) (fr := true) (m := q.res.length) (ds := (q.res.flatMap cLn)) (⟨Tryd.underlying23, by kernel_rfl, by decide⟩ : Elt Tryd.prog 23 53 4 32) (.tmp 21) (.tmp 23) rfl (fun _ => new_cLn _) (by unfold maxLen; omega) (by omega) (cell_cLn _) (es := (q.res.flatMap cLn)) (by rw [unfr_cLn]; rfl)) ⟨.inl rfl, .inl rfl, trivial⟩ ⟨rfl, trivial⟩ rfl ?_
 refine t_op rfl (sp_fieldBox (off' := 6) (.tmp 3) rfl Tryd.underlying27 rfl (z := 1) (by kernel_rfl) (by decide) rfl) ⟨.inl rfl, trivial⟩ trivial trivial ?_
 refine t_op rfl (sp_storeBox (T0 := 27) (X := .own 7) (cs := [sv q.nm, iv q.top, .own 4, .own 5, .own 6, iv q.fault, slA 4 cLn q.res, intsA q.init, intsA q.leader, slA 18 cRu q.rules]) (ds := [sv q.nm, iv q.top, .own 4, .own 5, .own 6, iv q.fault, .own 7, intsA q.init, intsA q.leader, slA 18 cRu q.rules]) (z := 1) (.tmp 25) (.tmp 24) rfl (by kernel_rfl) (by kernel_rfl) (by kernel_rfl) (of_decide_eq_true (by kernel_rfl)) (by kernel_rfl)) ⟨.inl rfl, .inl rfl, trivial⟩ ⟨rfl, trivial⟩ rfl ?_
 refine tri_nil ?_
 refine tri_wk (wk_keep [(1, .box 27 (cFm q)), (2, .box 27 [sv (⟨#[]⟩), iv 0, .v (.slice none 0 0), .v (.slice none 0 0), .v (.slice none 0 0), iv 0, .v (.slice none 0 0), .v (.slice none 0 0), .v (.slice none 0 0), .v (.slice none 0 0)]), (3, .box 27 [sv q.nm, iv q.top, .own 4, .own 5, .own 6, iv q.fault, .own 7, intsA q.init, intsA q.leader, slA 18 cRu q.rules]), (4, .row true 9 1 (0 + q.states.length) (q.states.map sv)), (5, .row true 9 1 (0 + q.msgs.length) (q.msgs.map sv)), (6, .row true 9 1 (0 + q.vals.length) (q.vals.map sv)), (7, .row true 53 4 (0 + q.res.length) (q.res.flatMap cLn))] [(1, .box 1 0), (2, .box 2 0), (3, .box 3 0)] (n := 54) rfl (by kernel_rfl) (by kernel_rfl)) ?_
 refine t_then ?_
 refine tri_seq ?_
 refine tri_region ?_
 refine t_op rfl (sp_fieldBox (off' := 7) (.tmp 1) rfl Tryd.underlying27 rfl (z := 1) (by kernel_rfl) (by decide) rfl) ⟨.inl rfl, trivial⟩ trivial trivial ?_
 refine t_op rfl (sp_loadBox1 (Y := .box 27 (cFm q)) (X := intsA q.init) (.tmp 26) rfl Tryd.underlying24 rfl rfl) ⟨.inl rfl, trivial⟩ ⟨rfl, trivial⟩ trivial ?_
 refine t_op rfl (sp_call (c := .func 42) (xs := #[.tmp 27]) [] (CopyInts_c q.init (Nat.le_trans H.init (by decide))) rfl (by kernel_rfl) rfl (Xs := [intsA q.init]) rfl rfl rfl) ⟨.inl rfl, .inl rfl, trivial⟩ trivial trivial ?_
 refine t_op rfl (sp_fieldBox (off' := 7) (.tmp 3) rfl Tryd.underlying27 rfl (z := 1) (by kernel_rfl) (by decide) rfl) ⟨.inl rfl, trivial⟩ trivial trivial ?_
 refine t_op rfl (sp_storeBox (T0 := 27) (X := .fr (intsA q.init)) (cs := [sv q.nm, iv q.top, .own 4, .own 5, .own 6, iv q.fault, .own 7, intsA q.init, intsA q.leader, slA 18 cRu q.rules]) (ds := [sv q.nm, iv q.top, .own 4, .own 5, .own 6, iv q.fault, .own 7, .fr (intsA q.init), intsA q.leader, slA 18 cRu q.rules]) (z := 1) (.tmp 29) (.tmp 28) rfl (by kernel_rfl) (by kernel_rfl) (by kernel_rfl) (of_decide_eq_true (by kernel_rfl)) (by kernel_rfl)) ⟨.inl rfl, .inl rfl, trivial⟩ ⟨rfl, trivial⟩ rfl ?_
 refine tri_nil ?_
 refine tri_wk (wk_keep [(1, .box 27 (cFm q)), (2, .box 27 [sv (⟨#[]⟩), iv 0, .v (.slice none 0 0), .v (.slice none 0 0), .v (.slice none 0 0), iv 0, .v (.slice none 0 0), .v (.slice none 0 0), .v (.slice none 0 0), .v (.slice none 0 0)]), (3, .box 27 [sv q.nm, iv q.top, .own 4, .own 5, .own 6, iv q.fault, .own 7, .fr (intsA q.init), intsA q.leader, slA 18 cRu q.rules]), (4, .row true 9 1 (0 + q.states.length) (q.states.map sv)), (5, .row true 9 1 (0 + q.msgs.length) (q.msgs.map sv)), (6, .row true 9 1 (0 + q.vals.length) (q.vals.map sv)), (7, .row true 53 4 (0 + q.res.length) (q.res.flatMap cLn))] [(1, .box 1 0), (2, .box 2 0), (3, .box 3 0)] (n := 54) rfl (by kernel_rfl) (by kernel_rfl)) ?_
 refine t_then ?_
 refine tri_seq ?_
 refine tri_region ?_
 refine t_op rfl (sp_fieldBox (off' := 8) (.tmp 1) rfl Tryd.underlying27 rfl (z := 1) (by kernel_rfl) (by decide) rfl) ⟨.inl rfl, trivial⟩ trivial trivial ?_
 refine t_op rfl (sp_loadBox1 (Y := .box 27 (cFm q)) (X := intsA q.leader) (.tmp 30) rfl Tryd.underlying24 rfl rfl) ⟨.inl rfl, trivial⟩ ⟨rfl, trivial⟩ trivial ?_
 refine t_op rfl (sp_call (c := .func 42) (xs := #[.tmp 31]) [] (CopyInts_c q.leader (Nat.le_trans H.leader (by decide))) rfl (by kernel_rfl) rfl (Xs := [intsA q.leader]) rfl rfl rfl) ⟨.inl rfl, .inl rfl, trivial⟩ trivial trivial ?_
 refine t_op rfl (sp_fieldBox (off' := 8) (.tmp 3) rfl Tryd.underlying27 rfl (z := 1) (by kernel_rfl) (by decide) rfl) ⟨.inl rfl, trivial⟩ trivial trivial ?_
 refine t_op rfl (sp_storeBox (T0 := 27) (X := .fr (intsA q.leader)) (cs := [sv q.nm, iv q.top, .own 4, .own 5, .own 6, iv q.fault, .own 7, .fr (intsA q.init), intsA q.leader, slA 18 cRu q.rules]) (ds := [sv q.nm, iv q.top, .own 4, .own 5, .own 6, iv q.fault, .own 7, .fr (intsA q.init), .fr (intsA q.leader), slA 18 cRu q.rules]) (z := 1) (.tmp 33) (.tmp 32) rfl (by kernel_rfl) (by kernel_rfl) (by kernel_rfl) (of_decide_eq_true (by kernel_rfl)) (by kernel_rfl)) ⟨.inl rfl, .inl rfl, trivial⟩ ⟨rfl, trivial⟩ rfl ?_
 refine tri_nil ?_
 refine tri_wk (wk_keep [(1, .box 27 (cFm q)), (2, .box 27 [sv (⟨#[]⟩), iv 0, .v (.slice none 0 0), .v (.slice none 0 0), .v (.slice none 0 0), iv 0, .v (.slice none 0 0), .v (.slice none 0 0), .v (.slice none 0 0), .v (.slice none 0 0)]), (3, .box 27 [sv q.nm, iv q.top, .own 4, .own 5, .own 6, iv q.fault, .own 7, .fr (intsA q.init), .fr (intsA q.leader), slA 18 cRu q.rules]), (4, .row true 9 1 (0 + q.states.length) (q.states.map sv)), (5, .row true 9 1 (0 + q.msgs.length) (q.msgs.map sv)), (6, .row true 9 1 (0 + q.vals.length) (q.vals.map sv)), (7, .row true 53 4 (0 + q.res.length) (q.res.flatMap cLn))] [(1, .box 1 0), (2, .box 2 0), (3, .box 3 0)] (n := 54) rfl (by kernel_rfl) (by kernel_rfl)) ?_
 refine t_then ?_
 refine tri_seq ?_
 refine tri_region ?_
 refine t_op rfl (sp_fieldBox (off' := 9) (.tmp 3) rfl Tryd.underlying27 rfl (z := 1) (by kernel_rfl) (by decide) rfl) ⟨.inl rfl, trivial⟩ trivial trivial ?_
 refine t_op rfl (sp_storeBox (T0 := 27) (X := .v (.slice none 0 0)) (cs := [sv q.nm, iv q.top, .own 4, .own 5, .own 6, iv q.fault, .own 7, .fr (intsA q.init), .fr (intsA q.leader), slA 18 cRu q.rules]) (ds := [sv q.nm, iv q.top, .own 4, .own 5, .own 6, iv q.fault, .own 7, .fr (intsA q.init), .fr (intsA q.leader), .v (.slice none 0 0)]) (z := 1) (.tmp 34) (.const (.slice none 0 0)) rfl (by kernel_rfl) (by kernel_rfl) (by kernel_rfl) (of_decide_eq_true (by kernel_rfl)) (by kernel_rfl)) ⟨.inl rfl, .inl rfl, trivial⟩ ⟨rfl, trivial⟩ rfl ?_
 refine tri_nil ?_
 refine tri_wk (wk_keep [(1, .box 27 (cFm q)), (2, .box 27 [sv (⟨#[]⟩), iv 0, .v (.slice none 0 0), .v (.slice none 0 0), .v (.slice none 0 0), iv 0, .v (.slice none 0 0), .v (.slice none 0 0), .v (.slice none 0 0), .v (.slice none 0 0)]), (3, .box 27 [sv q.nm, iv q.top, .own 4, .own 5, .own 6, iv q.fault, .own 7, .fr (intsA q.init), .fr (intsA q.leader), .v (.slice none 0 0)]), (4, .row true 9 1 (0 + q.states.length) (q.states.map sv)), (5, .row true 9 1 (0 + q.msgs.length) (q.msgs.map sv)), (6, .row true 9 1 (0 + q.vals.length) (q.vals.map sv)), (7, .row true 53 4 (0 + q.res.length) (q.res.flatMap cLn))] [(1, .box 1 0), (2, .box 2 0), (3, .box 3 0)] (n := 54) rfl (by kernel_rfl) (by kernel_rfl)) ?_
 refine t_then ?_
 refine tri_seq ?_
 refine tri_seq ?_
 refine tri_region ?_
 refine t_op rfl (sp_assign (.const (.int .i64 0)) (iv 0) rfl) ⟨.inl rfl, trivial⟩ trivial trivial ?_
 refine tri_nil ?_
 refine tri_wk (wk_keep [(1, .box 27 (cFm q)), (2, .box 27 [sv (⟨#[]⟩), iv 0, .v (.slice none 0 0), .v (.slice none 0 0), .v (.slice none 0 0), iv 0, .v (.slice none 0 0), .v (.slice none 0 0), .v (.slice none 0 0), .v (.slice none 0 0)]), (3, .box 27 [sv q.nm, iv q.top, .own 4, .own 5, .own 6, iv q.fault, .own 7, .fr (intsA q.init), .fr (intsA q.leader), .v (.slice none 0 0)]), (4, .row true 9 1 (0 + q.states.length) (q.states.map sv)), (5, .row true 9 1 (0 + q.msgs.length) (q.msgs.map sv)), (6, .row true 9 1 (0 + q.vals.length) (q.vals.map sv)), (7, .row true 53 4 (0 + q.res.length) (q.res.flatMap cLn))] [(1, .box 1 0), (2, .box 2 0), (3, .box 3 0), (4, iv 0)] (n := 54) rfl (by kernel_rfl) (by kernel_rfl)) ?_
 refine t_then ?_
 refine tri_block ?_
 refine tri_wk (wk_adoptB 3 9 8 true 76 18 rfl rfl rfl rfl) ?_
 refine tri_loop (σ := {k : Nat // k ≤ q.rules.length}) (fun s => (ofL [(1, .box 27 (cFm q)), (2, .box 27 [sv (⟨#[]⟩), iv 0, .v (.slice none 0 0), .v (.slice none 0 0), .v (.slice none 0 0), iv 0, .v (.slice none 0 0), .v (.slice none 0 0), .v (.slice none 0 0), .v (.slice none 0 0)]), (3, .box 27 [sv q.nm, iv q.top, .own 4, .own 5, .own 6, iv q.fault, .own 7, .fr (intsA q.init), .fr (intsA q.leader), .own 8]), (4, .row true 9 1 (0 + q.states.length) (q.states.map sv)), (5, .row true 9 1 (0 + q.msgs.length) (q.msgs.map sv)), (6, .row true 9 1 (0 + q.vals.length) (q.vals.map sv)), (7, .row true 53 4 (0 + q.res.length) (q.res.flatMap cLn)), (8, .row true 76 18 s.1 ((q.rules.take s.1).flatMap cRu))], ofT 54 [(1, .box 1 0), (2, .box 2 0), (3, .box 3 0), (4, iv s.1)])) (fun s => q.rules.length - s.1) ⟨0, Nat.zero_le _⟩ (wk_keep _ _ rfl (by kernel_rfl) (by kernel_rfl)) (fun s => ?_)
 obtain ⟨k, hk0⟩ := s
 show ETri J w0 (ofL [(1, .box 27 (cFm q)), (2, .box 27 [sv (⟨#[]⟩), iv 0, .v (.slice none 0 0), .v (.slice none 0 0), .v (.slice none 0 0), iv 0, .v (.slice none 0 0), .v (.slice none 0 0), .v (.slice none 0 0), .v (.slice none 0 0)]), (3, .box 27 [sv q.nm, iv q.top, .own 4, .own 5, .own 6, iv q.fault, .own 7, .fr (intsA q.init), .fr (intsA q.leader), .own 8]), (4, .row true 9 1 (0 + q.states.length) (q.states.map sv)), (5, .row true 9 1 (0 + q.msgs.length) (q.msgs.map sv)), (6, .row true 9 1 (0 + q.vals.length) (q.vals.map sv)), (7, .row true 53 4 (0 + q.res.length) (q.res.flatMap cLn)), (8, .row true 76 18 k ((q.rules.take k).flatMap cRu))]) (ofT 54 [(1, .box 1 0), (2, .box 2 0), (3, .box 3 0), (4, iv k)]) _
 refine tri_seq ?_
 refine tri_seq ?_
 by_cases hs1 : ((k : Nat) : Int) < ((q.rules.length : Nat) : Int)
 refine tri_region ?_
 refine t_op rfl (sp_move (.tmp 4) (iv k) rfl) ⟨.inl rfl, trivial⟩ trivial trivial ?_
 refine t_op rfl (sp_fieldBox (off' := 9) (.tmp 1) rfl Tryd.underlying27 rfl (z := 1) (by kernel_rfl) (by decide) rfl) ⟨.inl rfl, trivial⟩ trivial trivial ?_
 refine t_op rfl (sp_loadBox1 (Y := .box 27 (cFm q)) (X := slA 18 cRu q.rules) (.tmp 36) rfl Tryd.underlying25 rfl rfl) ⟨.inl rfl, trivial⟩ ⟨rfl, trivial⟩ trivial ?_
 refine t_op rfl (sp_lenSl (.tmp 37) rfl Tryd.underlying25) ⟨.inl rfl, trivial⟩ trivial trivial ?_
 refine t_op rfl (sp_lss rfl (dT hs1)) ⟨.inl rfl, .inl rfl, trivial⟩ trivial trivial ?_
 refine tri_nil ?_
 refine tri_wk (wk_keep [(1, .box 27 (cFm q)), (2, .box 27 [sv (⟨#[]⟩), iv 0, .v (.slice none 0 0), .v (.slice none 0 0), .v (.slice none 0 0), iv 0, .v (.slice none 0 0), .v (.slice none 0 0), .v (.slice none 0 0), .v (.slice none 0 0)]), (3, .box 27 [sv q.nm, iv q.top, .own 4, .own 5, .own 6, iv q.fault, .own 7, .fr (intsA q.init), .fr (intsA q.leader), .own 8]), (4, .row true 9 1 (0 + q.states.length) (q.states.map sv)), (5, .row true 9 1 (0 + q.msgs.length) (q.msgs.map sv)), (6, .row true 9 1 (0 + q.vals.length) (q.vals.map sv)), (7, .row true 53 4 (0 + q.res.length) (q.res.flatMap cLn)), (8, .row true 76 18 k ((q.rules.take k).flatMap cRu))] [(1, .box 1 0), (2, .box 2 0), (3, .box 3 0), (4, iv k), (39, bv true)] (n := 54) rfl (by kernel_rfl) (by kernel_rfl)) ?_
 refine t_then ?_
 refine t_condT rfl ?_
 refine tri_skip ?_
 refine t_then ?_
 refine tri_seq ?_
 refine tri_block ?_
 refine tri_draw [⟨[(.tmp 3, .box 3 0)], [], .box 3 9, .no⟩, ⟨[(.tmp 42, .box 3 9)], [(3, .box 27 [sv q.nm, iv q.top, .own 4, .own 5, .own 6, iv q.fault, .own 7, .fr (intsA q.init), .fr (intsA q.leader), .own 8])], .own 8, .no⟩, ⟨[(.tmp 1, .box 1 0)], [], .box 1 9, .no⟩, ⟨[(.tmp 44, .box 1 9)], [(1, .box 27 (cFm q))], slA 18 cRu q.rules, .no⟩, ⟨[(.tmp 4, iv k)], [], iv k, .no⟩, ⟨[(.tmp 45, slA 18 cRu q.rules), (.tmp 46, iv k)], [], .el (q.rules.flatMap cRu) (k * 18), .no⟩, ⟨[(.tmp 47, .el (q.rules.flatMap cRu) (k * 18))], [], .agg (cRu q.rules[k]), .no⟩, ⟨[(.func 43, .v (.func (.func 43) #[] #[])), (.tmp 48, .agg (cRu q.rules[k]))], [], .fr (.agg (cRu q.rules[k])), .no⟩, ⟨[(.tmp 49, .agg [sv q.rules[k].nm, iv q.rules[k].kind, iv q.rules[k].frm, iv q.rules[k].to, iv q.rules[k].pf, iv q.rules[k].pt, .fr (intsA q.rules[k].resp), .fr (slA 6 cTh q.rules[k].guards), .fr (intsA q.rules[k].ex), .fr (intsA q.rules[k].fa), iv q.rules[k].rd, iv q.rules[k].wr, .fr (intsA q.rules[k].send), iv q.rules[k].pos, .fr (intsA q.rules[k].left), .fr (intsA q.rules[k].right), .fr (intsA q.rules[k].parent), iv q.rules[k].dir])], [], .own 9, .new 9 (.row false 76 18 1 ([sv q.rules[k].nm, iv q.rules[k].kind, iv q.rules[k].frm, iv q.rules[k].to, iv q.rules[k].pf, iv q.rules[k].pt, .fr (intsA q.rules[k].resp), .fr (slA 6 cTh q.rules[k].guards), .fr (intsA q.rules[k].ex), .fr (intsA q.rules[k].fa), iv q.rules[k].rd, iv q.rules[k].wr, .fr (intsA q.rules[k].send), iv q.rules[k].pos, .fr (intsA q.rules[k].left), .fr (intsA q.rules[k].right), .fr (intsA q.rules[k].parent), iv q.rules[k].dir]))⟩, ⟨[(.tmp 43, .own 8), (.tmp 50, .own 9)], [(8, .row true 76 18 k ((q.rules.take k).flatMap cRu)), (9, .row false 76 18 1 ([sv q.rules[k].nm, iv q.rules[k].kind, iv q.rules[k].frm, iv q.rules[k].to, iv q.rules[k].pf, iv q.rules[k].pt, .fr (intsA q.rules[k].resp), .fr (slA 6 cTh q.rules[k].guards), .fr (intsA q.rules[k].ex), .fr (intsA q.rules[k].fa), iv q.rules[k].rd, iv q.rules[k].wr, .fr (intsA q.rules[k].send), iv q.rules[k].pos, .fr (intsA q.rules[k].left), .fr (intsA q.rules[k].right), .fr (intsA q.rules[k].parent), iv q.rules[k].dir]))], .own 8, .ap 8 (.row true 76 18 (k + 1) ((q.rules.take (k + 1)).flatMap cRu))⟩, ⟨[(.tmp 3, .box 3 0)], [], .box 3 9, .no⟩, ⟨[(.tmp 52, .box 3 9), (.tmp 51, .own 8)], [(3, .box 27 [sv q.nm, iv q.top, .own 4, .own 5, .own 6, iv q.fault, .own 7, .fr (intsA q.init), .fr (intsA q.leader), .any])], .v undef, .st 3 (.box 27 [sv q.nm, iv q.top, .own 4, .own 5, .own 6, iv q.fault, .own 7, .fr (intsA q.init), .fr (intsA q.leader), .own 8])⟩] (by kernel_rfl) (by kernel_rfl) ?_
 refine ⟨app_yes rfl (sp_fieldBox (off' := 9) (.tmp 3) rfl Tryd.underlying27 rfl (z := 1) (by kernel_rfl) (by decide) rfl) ⟨.inl rfl, trivial⟩ trivial trivial, ?_⟩
 refine ⟨app_yes rfl (sp_loadBox1 (Y := .box 27 [sv q.nm, iv q.top, .own 4, .own 5, .own 6, iv q.fault, .own 7, .fr (intsA q.init), .fr (intsA q.leader), .own 8]) (X := .own 8) (.tmp 42) rfl Tryd.underlying25 rfl rfl) ⟨.inl rfl, trivial⟩ ⟨rfl, trivial⟩ trivial, ?_⟩
 refine ⟨app_yes rfl (sp_fieldBox (off' := 9) (.tmp 1) rfl Tryd.underlying27 rfl (z := 1) (by kernel_rfl) (by decide) rfl) ⟨.inl rfl, trivial⟩ trivial trivial, ?_⟩
 refine ⟨app_yes rfl (sp_loadBox1 (Y := .box 27 (cFm q)) (X := slA 18 cRu q.rules) (.tmp 44) rfl Tryd.underlying25 rfl rfl) ⟨.inl rfl, trivial⟩ ⟨rfl, trivial⟩ trivial, ?_⟩
 refine ⟨app_yes rfl (sp_move (.tmp 4) (iv k) rfl) ⟨.inl rfl, trivial⟩ trivial trivial, ?_⟩
 refine ⟨app_yes rfl (sp_indexSl (off := k * 18) (.tmp 45) (.tmp 46) rfl Tryd.underlying25 (by kernel_rfl) (by omega) (by omega) rfl) ⟨.inl rfl, .inl rfl, trivial⟩ trivial trivial, ?_⟩
 refine ⟨app_yes rfl (sp_loadElS (z := 18) (.tmp 47) rfl Tryd.underlying76 rfl (by kernel_rfl) (flat_take lenRu q.rules k (by omega)) rfl) ⟨.inl rfl, trivial⟩ trivial trivial, ?_⟩
 refine ⟨app_yes rfl (sp_call (c := .func 43) (xs := #[.tmp 48]) [] (CopyRule_c q.rules[k] (H.rules _ (List.getElem_mem (by omega)))) rfl (by kernel_rfl) rfl (Xs := [.agg (cRu q.rules[k])]) rfl rfl rfl) ⟨.inl rfl, .inl rfl, trivial⟩ trivial trivial, ?_⟩
 refine ⟨app_yes rfl (sp_build (z := 18) (k := 9) (fr := false) (cs := [sv q.rules[k].nm, iv q.rules[k].kind, iv q.rules[k].frm, iv q.rules[k].to, iv q.rules[k].pf, iv q.rules[k].pt, .fr (intsA q.rules[k].resp), .fr (slA 6 cTh q.rules[k].guards), .fr (intsA q.rules[k].ex), .fr (intsA q.rules[k].fa), iv q.rules[k].rd, iv q.rules[k].wr, .fr (intsA q.rules[k].send), iv q.rules[k].pos, .fr (intsA q.rules[k].left), .fr (intsA q.rules[k].right), .fr (intsA q.rules[k].parent), iv q.rules[k].dir]) [.tmp 49] [.agg [sv q.rules[k].nm, iv q.rules[k].kind, iv q.rules[k].frm, iv q.rules[k].to, iv q.rules[k].pf, iv q.rules[k].pt, .fr (intsA q.rules[k].resp), .fr (slA 6 cTh q.rules[k].guards), .fr (intsA q.rules[k].ex), .fr (intsA q.rules[k].fa), iv q.rules[k].rd, iv q.rules[k].wr, .fr (intsA q.rules[k].send), iv q.rules[k].pos, .fr (intsA q.rules[k].left), .fr (intsA q.rules[k].right), .fr (intsA q.rules[k].parent), iv q.rules[k].dir]] rfl Tryd.underlying25 (by kernel_rfl) (by decide) (by decide) rfl rfl rfl (by kernel_rfl) (by decide) (fun h => Bool.noConfusion h) (by kernel_rfl)) ⟨.inr (.inr ⟨_, rfl, rfl⟩), trivial⟩ trivial rfl, ?_⟩
 refine ⟨app_yes rfl (sp_appendOwn (n := k) (cs := ((q.rules.take k).flatMap cRu)) (fr := true) (m := 1) (ds := [sv q.rules[k].nm, iv q.rules[k].kind, iv q.rules[k].frm, iv q.rules[k].to, iv q.rules[k].pf, iv q.rules[k].pt, .fr (intsA q.rules[k].resp), .fr (slA 6 cTh q.rules[k].guards), .fr (intsA q.rules[k].ex), .fr (intsA q.rules[k].fa), iv q.rules[k].rd, iv q.rules[k].wr, .fr (intsA q.rules[k].send), iv q.rules[k].pos, .fr (intsA q.rules[k].left), .fr (intsA q.rules[k].right), .fr (intsA q.rules[k].parent), iv q.rules[k].dir]) (⟨Tryd.underlying25, by kernel_rfl, by decide⟩ : Elt Tryd.prog 25 76 18 280) (.tmp 43) (.tmp 50) rfl (fun _ => newRu q.rules[k]) (by unfold maxLen; omega) (by omega) (cellRu q.rules[k]) (es := ((q.rules.take (k + 1)).flatMap cRu)) (snocRu (by omega))) ⟨.inl rfl, .inl rfl, trivial⟩ ⟨rfl, rfl, trivial⟩ rfl, ?_⟩
 refine ⟨app_yes rfl (sp_fieldBox (off' := 9) (.tmp 3) rfl Tryd.underlying27 rfl (z := 1) (by kernel_rfl) (by decide) rfl) ⟨.inl rfl, trivial⟩ trivial trivial, ?_⟩
 refine ⟨app_yes rfl (sp_storeBox (T0 := 27) (X := .own 8) (cs := [sv q.nm, iv q.top, .own 4, .own 5, .own 6, iv q.fault, .own 7, .fr (intsA q.init), .fr (intsA q.leader), .any]) (ds := [sv q.nm, iv q.top, .own 4, .own 5, .own 6, iv q.fault, .own 7, .fr (intsA q.init), .fr (intsA q.leader), .own 8]) (z := 1) (.tmp 52) (.tmp 51) rfl (by kernel_rfl) (by kernel_rfl) (by kernel_rfl) (of_decide_eq_true (by kernel_rfl)) (by kernel_rfl)) ⟨.inl rfl, .inl rfl, trivial⟩ ⟨rfl, trivial⟩ rfl, ?_⟩
 show ETri J w0 _ _ _
 refine tri_wk (wk_keep [(1, .box 27 (cFm q)), (2, .box 27 [sv (⟨#[]⟩), iv 0, .v (.slice none 0 0), .v (.slice none 0 0), .v (.slice none 0 0), iv 0, .v (.slice none 0 0), .v (.slice none 0 0), .v (.slice none 0 0), .v (.slice none 0 0)]), (3, .box 27 [sv q.nm, iv q.top, .own 4, .own 5, .own 6, iv q.fault, .own 7, .fr (intsA q.init), .fr (intsA q.leader), .own 8]), (4, .row true 9 1 (0 + q.states.length) (q.states.map sv)), (5, .row true 9 1 (0 + q.msgs.length) (q.msgs.map sv)), (6, .row true 9 1 (0 + q.vals.length) (q.vals.map sv)), (7, .row true 53 4 (0 + q.res.length) (q.res.flatMap cLn)), (8, .row true 76 18 (k + 1) ((q.rules.take (k + 1)).flatMap cRu))] [(1, .box 1 0), (2, .box 2 0), (3, .box 3 0), (4, iv k), (39, bv true)] (n := 54) rfl (by kernel_rfl) (by kernel_rfl)) ?_
 refine t_block ?_
 refine t_then ?_
 refine tri_region ?_
 refine t_op rfl (sp_move (.tmp 4) (iv k) rfl) ⟨.inl rfl, trivial⟩ trivial trivial ?_
 refine t_op rfl (sp_add (c := ((k + 1 : Nat) : Int)) rfl (w64 (by omega) (by omega) (by omega))) ⟨.inl rfl, .inl rfl, trivial⟩ trivial trivial ?_
 refine t_op rfl (sp_assign (.tmp 41) (iv (k + 1 : Nat)) rfl) ⟨.inl rfl, trivial⟩ trivial trivial ?_
 refine tri_nil ?_
 refine tri_wk (wk_keep [(1, .box 27 (cFm q)), (2, .box 27 [sv (⟨#[]⟩), iv 0, .v (.slice none 0 0), .v (.slice none 0 0), .v (.slice none 0 0), iv 0, .v (.slice none 0 0), .v (.slice none 0 0), .v (.slice none 0 0), .v (.slice none 0 0)]), (3, .box 27 [sv q.nm, iv q.top, .own 4, .own 5, .own 6, iv q.fault, .own 7, .fr (intsA q.init), .fr (intsA q.leader), .own 8]), (4, .row true 9 1 (0 + q.states.length) (q.states.map sv)), (5, .row true 9 1 (0 + q.msgs.length) (q.msgs.map sv)), (6, .row true 9 1 (0 + q.vals.length) (q.vals.map sv)), (7, .row true 53 4 (0 + q.res.length) (q.res.flatMap cLn)), (8, .row true 76 18 (k + 1) ((q.rules.take (k + 1)).flatMap cRu))] [(1, .box 1 0), (2, .box 2 0), (3, .box 3 0), (4, iv (k + 1 : Nat)), (39, bv true)] (n := 54) rfl (by kernel_rfl) (by kernel_rfl)) ?_
 refine t_then ?_
 refine tri_again ⟨k + 1, by omega⟩ (show q.rules.length - (k + 1) < q.rules.length - k by omega) ?_
 exact wk_keep _ _ rfl (by kernel_rfl) (by kernel_rfl)
 refine tri_region ?_
 refine t_op rfl (sp_move (.tmp 4) (iv k) rfl) ⟨.inl rfl, trivial⟩ trivial trivial ?_
 refine t_op rfl (sp_fieldBox (off' := 9) (.tmp 1) rfl Tryd.underlying27 rfl (z := 1) (by kernel_rfl) (by decide) rfl) ⟨.inl rfl, trivial⟩ trivial trivial ?_
 refine t_op rfl (sp_loadBox1 (Y := .box 27 (cFm q)) (X := slA 18 cRu q.rules) (.tmp 36) rfl Tryd.underlying25 rfl rfl) ⟨.inl rfl, trivial⟩ ⟨rfl, trivial⟩ trivial ?_
 refine t_op rfl (sp_lenSl (.tmp 37) rfl Tryd.underlying25) ⟨.inl rfl, trivial⟩ trivial trivial ?_
 refine t_op rfl (sp_lss rfl (dF hs1)) ⟨.inl rfl, .inl rfl, trivial⟩ trivial trivial ?_
 refine tri_nil ?_
 refine tri_wk (wk_keep [(1, .box 27 (cFm q)), (2, .box 27 [sv (⟨#[]⟩), iv 0, .v (.slice none 0 0), .v (.slice none 0 0), .v (.slice none 0 0), iv 0, .v (.slice none 0 0), .v (.slice none 0 0), .v (.slice none 0 0), .v (.slice none 0 0)]), (3, .box 27 [sv q.nm, iv q.top, .own 4, .own 5, .own 6, iv q.fault, .own 7, .fr (intsA q.init), .fr (intsA q.leader), .own 8]), (4, .row true 9 1 (0 + q.states.length) (q.states.map sv)), (5, .row true 9 1 (0 + q.msgs.length) (q.msgs.map sv)), (6, .row true 9 1 (0 + q.vals.length) (q.vals.map sv)), (7, .row true 53 4 (0 + q.res.length) (q.res.flatMap cLn)), (8, .row true 76 18 k ((q.rules.take k).flatMap cRu))] [(1, .box 1 0), (2, .box 2 0), (3, .box 3 0), (4, iv k), (39, bv false)] (n := 54) rfl (by kernel_rfl) (by kernel_rfl)) ?_
 refine t_then ?_
 refine t_condF rfl ?_
 refine tri_exit ?_
 refine t_then_exit ?_
 refine t_then_exit ?_
 refine t_hit ?_
 refine t_then ?_
 refine tri_seq ?_
 refine tri_region ?_
 refine t_op rfl (sp_loadBoxS (Y := .box 27 [sv q.nm, iv q.top, .own 4, .own 5, .own 6, iv q.fault, .own 7, .fr (intsA q.init), .fr (intsA q.leader), .own 8]) (ds := [sv q.nm, iv q.top, .own 4, .own 5, .own 6, iv q.fault, .own 7, .fr (intsA q.init), .fr (intsA q.leader), .own 8]) (z := 10) (.tmp 3) rfl Tryd.underlying27 rfl (by kernel_rfl) (by decide) (by kernel_rfl) (by kernel_rfl)) ⟨.inl rfl, trivial⟩ ⟨rfl, trivial⟩ trivial ?_
 refine t_op rfl (sp_storeBox (T0 := 27) (X := .agg [sv q.nm, iv q.top, .own 4, .own 5, .own 6, iv q.fault, .own 7, .fr (intsA q.init), .fr (intsA q.leader), .own 8]) (cs := [sv (⟨#[]⟩), iv 0, .v (.slice none 0 0), .v (.slice none 0 0), .v (.slice none 0 0), iv 0, .v (.slice none 0 0), .v (.slice none 0 0), .v (.slice none 0 0), .v (.slice none 0 0)]) (ds := [sv q.nm, iv q.top, .own 4, .own 5, .own 6, iv q.fault, .own 7, .fr (intsA q.init), .fr (intsA q.leader), .own 8]) (z := 10) (.tmp 2) (.tmp 53) rfl (by kernel_rfl) (by kernel_rfl) (by kernel_rfl) (of_decide_eq_true (by kernel_rfl)) (by kernel_rfl)) ⟨.inl rfl, .inl rfl, trivial⟩ ⟨rfl, trivial⟩ rfl ?_
 refine tri_nil ?_
 refine tri_wk (wk_keep [(2, .box 27 [sv q.nm, iv q.top, .own 4, .own 5, .own 6, iv q.fault, .own 7, .fr (intsA q.init), .fr (intsA q.leader), .own 8]), (4, .row true 9 1 (0 + q.states.length) (q.states.map sv)), (5, .row true 9 1 (0 + q.msgs.length) (q.msgs.map sv)), (6, .row true 9 1 (0 + q.vals.length) (q.vals.map sv)), (7, .row true 53 4 (0 + q.res.length) (q.res.flatMap cLn)), (8, .row true 76 18 k ((q.rules.take k).flatMap cRu))] [(2, .box 2 0)] (n := 54) rfl (by kernel_rfl) (by kernel_rfl)) ?_
 refine t_then ?_
 refine tri_ret ?_
 refine tri_end1 Tryd.results15 (.cellS rfl rfl Tryd.underlying27 rfl (z := 10) (by kernel_rfl) rfl (by decide)) ?_
 have hk : k = q.rules.length := by omega
 subst hk
 show AV.agg [sv q.nm, iv q.top, .sl 1 (0 + q.states.length) (q.states.map sv), .sl 1 (0 + q.msgs.length) (q.msgs.map sv), .sl 1 (0 + q.vals.length) (q.vals.map sv), iv q.fault, .sl 4 (0 + q.res.length) (q.res.flatMap cLn), intsA q.init, intsA q.leader, .sl 18 q.rules.length ((q.rules.take q.rules.length).flatMap cRu)] = .agg (cFm q)
 rw [List.take_length, Nat.zero_add, Nat.zero_add, Nat.zero_add, Nat.zero_add]; rfl
end Go.Proofs.YtmpbfdfjcfanoaaDoor

/-
  THE WALK OF ProtocolValidates.
-/
namespace Go.Proofs.YtmpbfdfjcfanoaaDoor
open Go.RowKit Go.Deep
variable {J : World → Prop}
set_option linter.unusedSimpArgs false in
set_option linter.unusedVariables false in
set_option maxRecDepth 100000 in
set_option maxHeartbeats 6400000 in
theorem lawValidates_c {q : Fm} (HQ : FmOk q) : Ctr Tryd.prog TabW 3 [.agg (cFm q)] (bv true) := by
 refine ctr_of_tri Tryd.func3 rfl (by intro X hX; simp only [List.mem_cons, List.not_mem_nil, or_false] at hX; rcases hX with rfl; exact plain_agg (plain_fm q)) (n := 22) rfl (by simp) (fun w0 => ?_)
 refine tri_wk (wk_keep [] [(0, .agg (cFm q))] (n := 22) rfl (by kernel_rfl) (by kernel_rfl)) ?_
 refine tri_seq ?_
 refine tri_region ?_
 refine t_op rfl (sp_box (X := .agg (cFm q)) (k := 1) (.tmp 0) rfl rfl) ⟨.inl rfl, trivial⟩ trivial rfl ?_
 refine t_op rfl (sp_assign (.const (.bool false)) (bv false) rfl) ⟨.inl rfl, trivial⟩ trivial trivial ?_
 refine tri_nil ?_
 refine tri_wk (wk_keep [(1, .box 27 (cFm q))] [(1, .box 1 0), (2, bv false)] (n := 22) rfl (by kernel_rfl) (by kernel_rfl)) ?_
 refine t_then ?_
 refine tri_seq ?_
 refine tri_seq ?_
 by_cases hs1 : (bigF q) = true
 refine tri_region ?_
 refine t_op rfl (sp_loadBoxS (Y := .box 27 (cFm q)) (ds := cFm q) (z := 10) (.tmp 1) rfl Tryd.underlying27 rfl (by kernel_rfl) (by decide) (by kernel_rfl) (by kernel_rfl)) ⟨.inl rfl, trivial⟩ ⟨rfl, trivial⟩ trivial ?_
 refine t_op rfl (sp_call (c := .func 13) (xs := #[.tmp 4]) [] (ctr_b (Big_c HQ) hs1) rfl (by kernel_rfl) rfl (Xs := [.agg (cFm q)]) rfl rfl rfl) ⟨.inl rfl, .inl rfl, trivial⟩ trivial trivial ?_
 refine tri_nil ?_
 refine tri_wk (wk_keep [(1, .box 27 (cFm q))] [(1, .box 1 0), (2, bv false), (5, bv true)] (n := 22) rfl (by kernel_rfl) (by kernel_rfl)) ?_
 refine t_then ?_
 refine t_condT rfl ?_
 refine tri_seq ?_
 refine tri_region ?_
 refine t_op rfl (sp_call (c := .func 14) (xs := #[]) [] known_c rfl (by kernel_rfl) rfl (Xs := []) rfl rfl rfl) ⟨.inl rfl, trivial⟩ trivial trivial ?_
 refine t_op rfl (sp_assign (.tmp 6) (bv true) rfl) ⟨.inl rfl, trivial⟩ trivial trivial ?_
 refine tri_nil ?_
 refine tri_wk (wk_keep [(1, .box 27 (cFm q))] [(1, .box 1 0), (2, bv true)] (n := 22) rfl (by kernel_rfl) (by kernel_rfl)) ?_
 refine t_then ?_
 refine tri_ret ?_
 refine t_then_ret ?_
 refine tri_end1 Tryd.results3 (.tmp rfl) ?_
 exact rfl
 have hs1f : (bigF q) = false := by simpa using hs1
 refine tri_region ?_
 refine t_op rfl (sp_loadBoxS (Y := .box 27 (cFm q)) (ds := cFm q) (z := 10) (.tmp 1) rfl Tryd.underlying27 rfl (by kernel_rfl) (by decide) (by kernel_rfl) (by kernel_rfl)) ⟨.inl rfl, trivial⟩ ⟨rfl, trivial⟩ trivial ?_
 refine t_op rfl (sp_call (c := .func 13) (xs := #[.tmp 4]) [] (ctr_b (Big_c HQ) hs1f) rfl (by kernel_rfl) rfl (Xs := [.agg (cFm q)]) rfl rfl rfl) ⟨.inl rfl, .inl rfl, trivial⟩ trivial trivial ?_
 refine tri_nil ?_
 refine tri_wk (wk_keep [(1, .box 27 (cFm q))] [(1, .box 1 0), (2, bv false), (5, bv false)] (n := 22) rfl (by kernel_rfl) (by kernel_rfl)) ?_
 refine t_then ?_
 refine t_condF rfl ?_
 refine tri_skip ?_
 refine t_then ?_
 refine tri_seq ?_
 refine tri_region ?_
 refine t_op rfl (sp_loadBoxS (Y := .box 27 (cFm q)) (ds := cFm q) (z := 10) (.tmp 1) rfl Tryd.underlying27 rfl (by kernel_rfl) (by decide) (by kernel_rfl) (by kernel_rfl)) ⟨.inl rfl, trivial⟩ ⟨rfl, trivial⟩ trivial ?_
 refine t_op rfl (sp_call (c := .func 15) (xs := #[.tmp 7]) [] (rCopy_c (famLen hs1f)) rfl (by kernel_rfl) rfl (Xs := [.agg (cFm q)]) rfl rfl rfl) ⟨.inl rfl, .inl rfl, trivial⟩ trivial trivial ?_
 refine t_op rfl (sp_alloc (z := .agg #[.string (⟨#[]⟩), .int .i64 0, .slice none 0 0, .slice none 0 0, .slice none 0 0, .int .i64 0, .slice none 0 0, .slice none 0 0, .slice none 0 0, .slice none 0 0]) (k := 2) rfl (by kernel_rfl)) trivial trivial rfl ?_
 refine t_op rfl (sp_storeBox (T0 := 27) (X := .agg [sv q.nm, iv q.top, .fr (strsA q.states), .fr (strsA q.msgs), .fr (strsA q.vals), iv q.fault, .fr (slA 4 cLn q.res), .fr (intsA q.init), .fr (intsA q.leader), .fr (slA 18 cRu q.rules)]) (cs := [sv (⟨#[]⟩), iv 0, .v (.slice none 0 0), .v (.slice none 0 0), .v (.slice none 0 0), iv 0, .v (.slice none 0 0), .v (.slice none 0 0), .v (.slice none 0 0), .v (.slice none 0 0)]) (ds := [sv q.nm, iv q.top, .fr (strsA q.states), .fr (strsA q.msgs), .fr (strsA q.vals), iv q.fault, .fr (slA 4 cLn q.res), .fr (intsA q.init), .fr (intsA q.leader), .fr (slA 18 cRu q.rules)]) (z := 10) (.tmp 3) (.tmp 8) rfl (by kernel_rfl) (by kernel_rfl) (by kernel_rfl) (of_decide_eq_true (by kernel_rfl)) (by kernel_rfl)) ⟨.inl rfl, .inr (.inr ⟨_, rfl, rfl⟩), trivial⟩ ⟨rfl, trivial⟩ rfl ?_
 refine tri_nil ?_
 refine tri_wk (wk_keep [(1, .box 27 (cFm q)), (2, .box 27 [sv q.nm, iv q.top, .fr (strsA q.states), .fr (strsA q.msgs), .fr (strsA q.vals), iv q.fault, .fr (slA 4 cLn q.res), .fr (intsA q.init), .fr (intsA q.leader), .fr (slA 18 cRu q.rules)])] [(1, .box 1 0), (2, bv false), (3, .box 2 0)] (n := 22) rfl (by kernel_rfl) (by kernel_rfl)) ?_
 refine t_then ?_
 refine tri_seq ?_
 refine tri_draw [⟨[(.tmp 3, .box 2 0)], [(2, .box 27 [sv q.nm, iv q.top, .fr (strsA q.states), .fr (strsA q.msgs), .fr (strsA q.vals), iv q.fault, .fr (slA 4 cLn q.res), .fr (intsA q.init), .fr (intsA q.leader), .fr (slA 18 cRu q.rules)])], .agg [sv q.nm, iv q.top, .fr (strsA q.states), .fr (strsA q.msgs), .fr (strsA q.vals), iv q.fault, .fr (slA 4 cLn q.res), .fr (intsA q.init), .fr (intsA q.leader), .fr (slA 18 cRu q.rules)], .no⟩, ⟨[(.func 16, .v (.func (.func 16) #[] #[])), (.tmp 9, .agg [sv q.nm, iv q.top, .fr (strsA q.states), .fr (strsA q.msgs), .fr (strsA q.vals), iv q.fault, .fr (slA 4 cLn q.res), .fr (intsA q.init), .fr (intsA q.leader), .fr (slA 18 cRu q.rules)])], [], iv (valE q), .no⟩, ⟨[(.tmp 1, .box 1 0)], [(1, .box 27 (cFm q))], .agg (cFm q), .no⟩, ⟨[(.func 17, .v (.func (.func 17) #[] #[])), (.tmp 11, .agg (cFm q))], [], iv (valE q), .no⟩, ⟨[(.tmp 10, iv (valE q)), (.tmp 12, iv (valE q))], [], bv true, .no⟩, ⟨[(.tmp 13, bv true)], [], bv true, .no⟩, ⟨[(.tmp 3, .box 2 0)], [(2, .box 27 [sv q.nm, iv q.top, .fr (strsA q.states), .fr (strsA q.msgs), .fr (strsA q.vals), iv q.fault, .fr (slA 4 cLn q.res), .fr (intsA q.init), .fr (intsA q.leader), .fr (slA 18 cRu q.rules)])], .agg [sv q.nm, iv q.top, .fr (strsA q.states), .fr (strsA q.msgs), .fr (strsA q.vals), iv q.fault, .fr (slA 4 cLn q.res), .fr (intsA q.init), .fr (intsA q.leader), .fr (slA 18 cRu q.rules)], .no⟩, ⟨[(.tmp 1, .box 1 0)], [(1, .box 27 (cFm q))], .agg (cFm q), .no⟩, ⟨[(.func 18, .v (.func (.func 18) #[] #[])), (.tmp 15, .agg [sv q.nm, iv q.top, .fr (strsA q.states), .fr (strsA q.msgs), .fr (strsA q.vals), iv q.fault, .fr (slA 4 cLn q.res), .fr (intsA q.init), .fr (intsA q.leader), .fr (slA 18 cRu q.rules)]), (.tmp 16, .agg (cFm q))], [], bv true, .no⟩, ⟨[(.tmp 14, bv true), (.tmp 17, bv true), (.const (.bool false), bv false)], [], bv true, .no⟩, ⟨[(.tmp 18, bv true)], [], bv true, .no⟩, ⟨[(.func 14, .v (.func (.func 14) #[] #[]))], [], bv true, .no⟩, ⟨[(.tmp 19, bv true), (.tmp 20, bv true), (.const (.bool false), bv false)], [], bv true, .no⟩, ⟨[(.tmp 21, bv true)], [], bv true, .no⟩] (by kernel_rfl) (by kernel_rfl) ?_
 refine ⟨app_yes rfl (sp_loadBoxS (Y := .box 27 [sv q.nm, iv q.top, .fr (strsA q.states), .fr (strsA q.msgs), .fr (strsA q.vals), iv q.fault, .fr (slA 4 cLn q.res), .fr (intsA q.init), .fr (intsA q.leader), .fr (slA 18 cRu q.rules)]) (ds := [sv q.nm, iv q.top, .fr (strsA q.states), .fr (strsA q.msgs), .fr (strsA q.vals), iv q.fault, .fr (slA 4 cLn q.res), .fr (intsA q.init), .fr (intsA q.leader), .fr (slA 18 cRu q.rules)]) (z := 10) (.tmp 3) rfl Tryd.underlying27 rfl (by kernel_rfl) (by decide) (by kernel_rfl) (by kernel_rfl)) ⟨.inl rfl, trivial⟩ ⟨rfl, trivial⟩ trivial, ?_⟩
 refine ⟨app_yes rfl (sp_call (c := .func 16) (xs := #[.tmp 9]) [] (qValidate_c HQ) rfl (by kernel_rfl) rfl (Xs := [.agg [sv q.nm, iv q.top, .fr (strsA q.states), .fr (strsA q.msgs), .fr (strsA q.vals), iv q.fault, .fr (slA 4 cLn q.res), .fr (intsA q.init), .fr (intsA q.leader), .fr (slA 18 cRu q.rules)]]) rfl rfl rfl) ⟨.inl rfl, .inl rfl, trivial⟩ trivial trivial, ?_⟩
 refine ⟨app_yes rfl (sp_loadBoxS (Y := .box 27 (cFm q)) (ds := cFm q) (z := 10) (.tmp 1) rfl Tryd.underlying27 rfl (by kernel_rfl) (by decide) (by kernel_rfl) (by kernel_rfl)) ⟨.inl rfl, trivial⟩ ⟨rfl, trivial⟩ trivial, ?_⟩
 refine ⟨app_yes rfl (sp_call (c := .func 17) (xs := #[.tmp 11]) [] (rValidate_c HQ) rfl (by kernel_rfl) rfl (Xs := [.agg (cFm q)]) rfl rfl rfl) ⟨.inl rfl, .inl rfl, trivial⟩ trivial trivial, ?_⟩
 refine ⟨app_yes rfl (sp_eql rfl (dT rfl)) ⟨.inl rfl, .inl rfl, trivial⟩ trivial trivial, ?_⟩
 refine ⟨app_yes rfl (sp_move (.tmp 13) (bv true) rfl) ⟨.inl rfl, trivial⟩ trivial trivial, ?_⟩
 refine ⟨app_yes rfl (sp_loadBoxS (Y := .box 27 [sv q.nm, iv q.top, .fr (strsA q.states), .fr (strsA q.msgs), .fr (strsA q.vals), iv q.fault, .fr (slA 4 cLn q.res), .fr (intsA q.init), .fr (intsA q.leader), .fr (slA 18 cRu q.rules)]) (ds := [sv q.nm, iv q.top, .fr (strsA q.states), .fr (strsA q.msgs), .fr (strsA q.vals), iv q.fault, .fr (slA 4 cLn q.res), .fr (intsA q.init), .fr (intsA q.leader), .fr (slA 18 cRu q.rules)]) (z := 10) (.tmp 3) rfl Tryd.underlying27 rfl (by kernel_rfl) (by decide) (by kernel_rfl) (by kernel_rfl)) ⟨.inl rfl, trivial⟩ ⟨rfl, trivial⟩ trivial, ?_⟩
 refine ⟨app_yes rfl (sp_loadBoxS (Y := .box 27 (cFm q)) (ds := cFm q) (z := 10) (.tmp 1) rfl Tryd.underlying27 rfl (by kernel_rfl) (by decide) (by kernel_rfl) (by kernel_rfl)) ⟨.inl rfl, trivial⟩ ⟨rfl, trivial⟩ trivial, ?_⟩
 refine ⟨app_yes rfl (sp_call (c := .func 18) (xs := #[.tmp 15, .tmp 16]) [] (rEqual_s HQ) rfl (by kernel_rfl) rfl (Xs := [.agg [sv q.nm, iv q.top, .fr (strsA q.states), .fr (strsA q.msgs), .fr (strsA q.vals), iv q.fault, .fr (slA 4 cLn q.res), .fr (intsA q.init), .fr (intsA q.leader), .fr (slA 18 cRu q.rules)], .agg (cFm q)]) rfl rfl rfl) ⟨.inl rfl, .inl rfl, .inl rfl, trivial⟩ trivial trivial, ?_⟩
 refine ⟨app_yes rfl (sp_pick (.tmp 14) (.tmp 17) (.const (.bool false)) true (bv true) (bv false) rfl) ⟨.inl rfl, .inl rfl, .inl rfl, trivial⟩ trivial trivial, ?_⟩
 refine ⟨app_yes rfl (sp_move (.tmp 18) (bv true) rfl) ⟨.inl rfl, trivial⟩ trivial trivial, ?_⟩
 refine ⟨app_yes rfl (sp_call (c := .func 14) (xs := #[]) [] known_c rfl (by kernel_rfl) rfl (Xs := []) rfl rfl rfl) ⟨.inl rfl, trivial⟩ trivial trivial, ?_⟩
 refine ⟨app_yes rfl (sp_pick (.tmp 19) (.tmp 20) (.const (.bool false)) true (bv true) (bv false) rfl) ⟨.inl rfl, .inl rfl, .inl rfl, trivial⟩ trivial trivial, ?_⟩
 refine ⟨app_yes rfl (sp_assign (.tmp 21) (bv true) rfl) ⟨.inl rfl, trivial⟩ trivial trivial, ?_⟩
 show ETri TabW w0 _ _ _
 refine tri_wk (wk_keep [] [(2, bv true)] (n := 22) rfl (by kernel_rfl) (by kernel_rfl)) ?_
 refine t_then ?_
 refine tri_ret ?_
 refine tri_end1 Tryd.results3 (.tmp rfl) ?_
 exact rfl
theorem walk_Validates {v : Value} {q : Fm} (w : World) (hq : IsFam 0 w v q) (ht : TabW w) :
    Calls Tryd.prog 3 #[v] w fun e w' => e = .returned (.bool true) ∧ Below w.heap.size w w' :=
  walk1 (lawValidates_c hq.ok) (famw hq) ht
end Go.Proofs.YtmpbfdfjcfanoaaDoor

/-
  THE TABLE THAT strconv READS, out of a row's condition on the listed variables.
-/
namespace Go.Proofs.YtmpbfdfjcfanoaaDoor
open Go.RowKit Go.Deep

theorem tab_of_laid {W : World} (h : laidMetH Tryd.prog [("math/bits.deBruijn32tab", Rows.laid_math_bits_deBruijn32tab), ("math/bits.deBruijn64tab", Rows.laid_math_bits_deBruijn64tab), ("internal/strconv.uint64pow10", Rows.laid_internal_strconv_uint64pow10)] W) : TabW W := by
  have h1 := h.filter fun x => x.1 == "internal/strconv.uint64pow10"
  have h2 := (laidMetH_iff.1 h1).1
  have e : ((([("math/bits.deBruijn32tab", Rows.laid_math_bits_deBruijn32tab), ("math/bits.deBruijn64tab", Rows.laid_math_bits_deBruijn64tab), ("internal/strconv.uint64pow10", Rows.laid_internal_strconv_uint64pow10)] : List (String × DataW Unit)).filter fun x => x.1 == "internal/strconv.uint64pow10").filter fun x => x.2.handleName?.isNone) = [("internal/strconv.uint64pow10", Go.Lib.tabData .u64 Go.Lib.pow10Tab)] := by kernel_rfl
  rw [e] at h2
  exact Go.Lib.tabIs_of_head (g := 0) (t := 142) (e := 134) (n := 20) (by kernel_rfl) (by kernel_rfl) Tryd.underlying142 Tryd.underlying134 (by kernel_rfl) (by kernel_rfl) h2
end Go.Proofs.YtmpbfdfjcfanoaaDoor
