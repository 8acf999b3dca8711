import Derived.Test.YtmpbfdfjcfanoaaDoorProg
import Derived.Test.YtmpbfdfjcfanoaaDoorGrpmimdldbm
import Derived.Test.YtmpbfdfjcfanoaaDoorGrpgdlckedd
import Derived.Test.YtmpbfdfjcfanoaaDoorGrpcdpephbp
import Derived.Test.YtmpbfdfjcfanoaaDoorGrpifgadlbb
import Derived.Test.YtmpbfdfjcfanoaaDoorGrpabbcndhj
set_option linter.all false
/-
  COPIES OF THE REFERENCE.
-/
namespace Go.Proofs.YtmpbfdfjcfanoaaDoor
open Go.RowKit Go.Deep
variable {J : World → Prop}
set_option maxRecDepth 100000 in
set_option maxHeartbeats 6400000 in
theorem CopyInts_c (xs : List Int) (hx : xs.length ≤ 17592186044416) : Ctr Tryd.prog J 42 [intsA xs] (intsA xs) := by
  refine ctr_of_tri Tryd.func42 rfl (by intro X hX; simp at hX; subst hX; exact plain_ints _) (n := 6) rfl (by simp) (fun w0 => ?_)
  refine tri_wk (wk_keep [] [(0, intsA xs)] (n := 6) rfl (by kernel_rfl) (by kernel_rfl)) ?_
  refine tri_seq ?_
  refine tri_region ?_
  refine t_op rfl (sp_assign (.const (.slice none 0 0)) (.v (.slice none 0 0)) rfl) ⟨.inl rfl, trivial⟩ trivial trivial ?_
  refine tri_nil ?_
  refine tri_wk (wk_keep [] [(0, intsA xs), (2, .v (.slice none 0 0))] (n := 6) rfl (by kernel_rfl) (by kernel_rfl)) ?_
  refine t_then ?_
  refine tri_seq ?_
  refine tri_region ?_
  refine t_op rfl (sp_build0 (z := 1) (k := 1) true rfl Tryd.underlying24 (by kernel_rfl)) trivial trivial rfl ?_
  refine t_op rfl (sp_move (.tmp 0) (intsA xs) rfl) ⟨.inl rfl, trivial⟩ trivial trivial ?_
  refine t_op rfl (sp_append (⟨Tryd.underlying24, by kernel_rfl, by decide⟩ : Elt Tryd.prog 24 3 1 8) (.tmp 3) (.tmp 4) rfl (fun _ d hd => by obtain ⟨x, _, rfl⟩ := List.mem_map.1 hd; rfl) (by unfold maxLen; omega) (by omega) (fun d hd => by obtain ⟨x, _, rfl⟩ := List.mem_map.1 hd; rfl) (es := (xs.map iv)) (by rw [unfr_ints]; rfl)) ⟨.inl rfl, .inl rfl, trivial⟩ ⟨rfl, trivial⟩ rfl ?_
  refine t_op rfl (sp_assign (.tmp 5) (.own 1) rfl) ⟨.inl rfl, trivial⟩ trivial trivial ?_
  refine tri_nil ?_
  refine tri_wk (wk_keep [(1, .row true 3 1 (0 + xs.length) (xs.map iv))] [(2, .own 1)] (n := 6) rfl (by kernel_rfl) (by kernel_rfl)) ?_
  refine t_then ?_
  refine tri_ret ?_
  refine tri_end1 Tryd.results42 (.tmp rfl) ?_
  show AV.sl 1 (0 + xs.length) (xs.map iv) = intsA xs
  rw [Nat.zero_add]; rfl
/-- The lists of a rule, of a family, are not longer than memory. -/
structure RuLen (r : Ru) : Prop where
  resp : r.resp.length ≤ 17592186044416
  guards : r.guards.length ≤ 1000000000
  ex : r.ex.length ≤ 17592186044416
  fa : r.fa.length ≤ 17592186044416
  send : r.send.length ≤ 17592186044416
  left : r.left.length ≤ 17592186044416
  right : r.right.length ≤ 17592186044416
  parent : r.parent.length ≤ 17592186044416
set_option maxRecDepth 100000 in
set_option maxHeartbeats 6400000 in
theorem CopyRule_c (r : Ru) (H : RuLen r) : Ctr Tryd.prog J 43 [.agg (cRu r)] (.agg (cRu r)) := by
  have hg := H.guards
  refine ctr_of_tri Tryd.func43 rfl (by intro X hX; simp at hX; subst hX; exact plain_agg (plain_ru r)) (n := 39) rfl (by simp) (fun w0 => ?_)
  refine tri_wk (wk_keep [] [(0, .agg (cRu r))] (n := 39) rfl (by kernel_rfl) (by kernel_rfl)) ?_
  refine tri_seq ?_
  refine tri_region ?_
  refine t_op rfl (sp_box (X := .agg (cRu r)) (k := 1) (.tmp 0) rfl rfl) ⟨.inl rfl, trivial⟩ trivial rfl ?_
  refine t_op rfl (sp_alloc (z := .agg #[.string (⟨#[]⟩), .int .i64 0, .int .i64 0, .int .i64 0, .int .i64 0, .int .i64 0, .slice none 0 0, .slice none 0 0, .slice none 0 0, .slice none 0 0, .int .i64 0, .int .i64 0, .slice none 0 0, .int .i64 0, .slice none 0 0, .slice none 0 0, .slice none 0 0, .int .i64 0]) (k := 2) rfl (by kernel_rfl)) trivial trivial rfl ?_
  refine tri_nil ?_
  refine tri_wk (wk_keep [(1, .box 76 (cRu r)), (2, .box 76 [.v (.string (⟨#[]⟩)), .v (.int .i64 0), .v (.int .i64 0), .v (.int .i64 0), .v (.int .i64 0), .v (.int .i64 0), .v (.slice none 0 0), .v (.slice none 0 0), .v (.slice none 0 0), .v (.slice none 0 0), .v (.int .i64 0), .v (.int .i64 0), .v (.slice none 0 0), .v (.int .i64 0), .v (.slice none 0 0), .v (.slice none 0 0), .v (.slice none 0 0), .v (.int .i64 0)])] [(1, .box 1 0), (2, .box 2 0)] (n := 39) rfl (by kernel_rfl) (by kernel_rfl)) ?_
  refine t_then ?_
  refine tri_seq ?_
  refine tri_region ?_
  refine t_op rfl (sp_loadBoxS (Y := .box 76 (cRu r)) (ds := cRu r) (z := 18) (.tmp 1) rfl Tryd.underlying76 rfl (by kernel_rfl) (by decide) (by kernel_rfl) (by kernel_rfl)) ⟨.inl rfl, trivial⟩ ⟨rfl, trivial⟩ trivial ?_
  refine t_op rfl (sp_alloc (z := .agg #[.string (⟨#[]⟩), .int .i64 0, .int .i64 0, .int .i64 0, .int .i64 0, .int .i64 0, .slice none 0 0, .slice none 0 0, .slice none 0 0, .slice none 0 0, .int .i64 0, .int .i64 0, .slice none 0 0, .int .i64 0, .slice none 0 0, .slice none 0 0, .slice none 0 0, .int .i64 0]) (k := 3) rfl (by kernel_rfl)) trivial trivial rfl ?_
  refine t_op rfl (sp_storeBox (T0 := 76) (X := .agg (cRu r)) (cs := [.v (.string (⟨#[]⟩)), .v (.int .i64 0), .v (.int .i64 0), .v (.int .i64 0), .v (.int .i64 0), .v (.int .i64 0), .v (.slice none 0 0), .v (.slice none 0 0), .v (.slice none 0 0), .v (.slice none 0 0), .v (.int .i64 0), .v (.int .i64 0), .v (.slice none 0 0), .v (.int .i64 0), .v (.slice none 0 0), .v (.slice none 0 0), .v (.slice none 0 0), .v (.int .i64 0)]) (ds := cRu r) (z := 18) (.tmp 3) (.tmp 4) rfl (by kernel_rfl) (by kernel_rfl) (by kernel_rfl) (of_decide_eq_true (by kernel_rfl)) (by kernel_rfl)) ⟨.inl rfl, .inl rfl, trivial⟩ ⟨rfl, trivial⟩ rfl ?_
  refine tri_nil ?_
  refine tri_wk (wk_keep [(1, .box 76 (cRu r)), (2, .box 76 [.v (.string (⟨#[]⟩)), .v (.int .i64 0), .v (.int .i64 0), .v (.int .i64 0), .v (.int .i64 0), .v (.int .i64 0), .v (.slice none 0 0), .v (.slice none 0 0), .v (.slice none 0 0), .v (.slice none 0 0), .v (.int .i64 0), .v (.int .i64 0), .v (.slice none 0 0), .v (.int .i64 0), .v (.slice none 0 0), .v (.slice none 0 0), .v (.slice none 0 0), .v (.int .i64 0)]), (3, .box 76 (cRu r))] [(1, .box 1 0), (2, .box 2 0), (3, .box 3 0)] (n := 39) rfl (by kernel_rfl) (by kernel_rfl)) ?_
  refine t_then ?_
  refine tri_seq ?_
  refine tri_region ?_
  refine t_op rfl (sp_fieldBox (off' := 6) (.tmp 1) rfl Tryd.underlying76 rfl (z := 1) (by kernel_rfl) (by decide) rfl) ⟨.inl rfl, trivial⟩ trivial trivial ?_
  refine t_op rfl (sp_loadBox1 (Y := .box 76 (cRu r)) (X := intsA r.resp) (.tmp 5) rfl Tryd.underlying24 rfl rfl) ⟨.inl rfl, trivial⟩ ⟨rfl, trivial⟩ trivial ?_
  refine t_op rfl (sp_call [] (CopyInts_c r.resp H.resp) rfl (by kernel_rfl) rfl (Xs := [intsA r.resp]) rfl rfl rfl) ⟨.inl rfl, .inl rfl, trivial⟩ trivial trivial ?_
  refine t_op rfl (sp_fieldBox (off' := 6) (.tmp 3) rfl Tryd.underlying76 rfl (z := 1) (by kernel_rfl) (by decide) rfl) ⟨.inl rfl, trivial⟩ trivial trivial ?_
  refine t_op rfl (sp_storeBox (T0 := 76) (X := .fr (intsA r.resp)) (cs := cRu r) (ds := [.v (.string r.nm), .v (.int .i64 r.kind), .v (.int .i64 r.frm), .v (.int .i64 r.to), .v (.int .i64 r.pf), .v (.int .i64 r.pt), .fr (intsA r.resp), slA 6 cTh r.guards, intsA r.ex, intsA r.fa, .v (.int .i64 r.rd), .v (.int .i64 r.wr), intsA r.send, .v (.int .i64 r.pos), intsA r.left, intsA r.right, intsA r.parent, .v (.int .i64 r.dir)]) (z := 1) (.tmp 8) (.tmp 7) rfl (by kernel_rfl) (by kernel_rfl) (by kernel_rfl) (of_decide_eq_true (by kernel_rfl)) (by kernel_rfl)) ⟨.inl rfl, .inl rfl, trivial⟩ ⟨rfl, trivial⟩ rfl ?_
  refine tri_nil ?_
  refine tri_wk (wk_keep [(1, .box 76 (cRu r)), (2, .box 76 [.v (.string (⟨#[]⟩)), .v (.int .i64 0), .v (.int .i64 0), .v (.int .i64 0), .v (.int .i64 0), .v (.int .i64 0), .v (.slice none 0 0), .v (.slice none 0 0), .v (.slice none 0 0), .v (.slice none 0 0), .v (.int .i64 0), .v (.int .i64 0), .v (.slice none 0 0), .v (.int .i64 0), .v (.slice none 0 0), .v (.slice none 0 0), .v (.slice none 0 0), .v (.int .i64 0)]), (3, .box 76 [.v (.string r.nm), .v (.int .i64 r.kind), .v (.int .i64 r.frm), .v (.int .i64 r.to), .v (.int .i64 r.pf), .v (.int .i64 r.pt), .fr (intsA r.resp), slA 6 cTh r.guards, intsA r.ex, intsA r.fa, .v (.int .i64 r.rd), .v (.int .i64 r.wr), intsA r.send, .v (.int .i64 r.pos), intsA r.left, intsA r.right, intsA r.parent, .v (.int .i64 r.dir)])] [(1, .box 1 0), (2, .box 2 0), (3, .box 3 0)] (n := 39) rfl (by kernel_rfl) (by kernel_rfl)) ?_
  refine t_then ?_
  refine tri_seq ?_
  refine tri_region ?_
  refine t_op rfl (sp_build0 (z := 6) (k := 4) true rfl Tryd.underlying49 (by kernel_rfl)) trivial trivial rfl ?_
  refine t_op rfl (sp_fieldBox (off' := 7) (.tmp 1) rfl Tryd.underlying76 rfl (z := 1) (by kernel_rfl) (by decide) rfl) ⟨.inl rfl, trivial⟩ trivial trivial ?_
  refine t_op rfl (sp_loadBox1 (Y := .box 76 (cRu r)) (X := slA 6 cTh r.guards) (.tmp 10) rfl Tryd.underlying49 rfl rfl) ⟨.inl rfl, trivial⟩ ⟨rfl, trivial⟩ trivial ?_
  refine t_op rfl (sp_append (⟨Tryd.underlying49, by kernel_rfl, by decide⟩ : Elt Tryd.prog 49 55 6 48) (.tmp 9) (.tmp 11) rfl (fun _ => new_cTh _) (by unfold maxLen; omega) (by omega) (cell_cTh _) (es := (r.guards.flatMap cTh)) (by rw [unfr_cTh]; rfl)) ⟨.inl rfl, .inl rfl, trivial⟩ ⟨rfl, trivial⟩ rfl ?_
  refine t_op rfl (sp_fieldBox (off' := 7) (.tmp 3) rfl Tryd.underlying76 rfl (z := 1) (by kernel_rfl) (by decide) rfl) ⟨.inl rfl, trivial⟩ trivial trivial ?_
  refine t_op rfl (sp_storeBox (T0 := 76) (X := .own 4) (cs := [.v (.string r.nm), .v (.int .i64 r.kind), .v (.int .i64 r.frm), .v (.int .i64 r.to), .v (.int .i64 r.pf), .v (.int .i64 r.pt), .fr (intsA r.resp), slA 6 cTh r.guards, intsA r.ex, intsA r.fa, .v (.int .i64 r.rd), .v (.int .i64 r.wr), intsA r.send, .v (.int .i64 r.pos), intsA r.left, intsA r.right, intsA r.parent, .v (.int .i64 r.dir)]) (ds := [.v (.string r.nm), .v (.int .i64 r.kind), .v (.int .i64 r.frm), .v (.int .i64 r.to), .v (.int .i64 r.pf), .v (.int .i64 r.pt), .fr (intsA r.resp), .own 4, intsA r.ex, intsA r.fa, .v (.int .i64 r.rd), .v (.int .i64 r.wr), intsA r.send, .v (.int .i64 r.pos), intsA r.left, intsA r.right, intsA r.parent, .v (.int .i64 r.dir)]) (z := 1) (.tmp 13) (.tmp 12) rfl (by kernel_rfl) (by kernel_rfl) (by kernel_rfl) (of_decide_eq_true (by kernel_rfl)) (by kernel_rfl)) ⟨.inl rfl, .inl rfl, trivial⟩ ⟨rfl, trivial⟩ rfl ?_
  refine tri_nil ?_
  refine tri_wk (wk_keep [(1, .box 76 (cRu r)), (2, .box 76 [.v (.string (⟨#[]⟩)), .v (.int .i64 0), .v (.int .i64 0), .v (.int .i64 0), .v (.int .i64 0), .v (.int .i64 0), .v (.slice none 0 0), .v (.slice none 0 0), .v (.slice none 0 0), .v (.slice none 0 0), .v (.int .i64 0), .v (.int .i64 0), .v (.slice none 0 0), .v (.int .i64 0), .v (.slice none 0 0), .v (.slice none 0 0), .v (.slice none 0 0), .v (.int .i64 0)]), (3, .box 76 [.v (.string r.nm), .v (.int .i64 r.kind), .v (.int .i64 r.frm), .v (.int .i64 r.to), .v (.int .i64 r.pf), .v (.int .i64 r.pt), .fr (intsA r.resp), .own 4, intsA r.ex, intsA r.fa, .v (.int .i64 r.rd), .v (.int .i64 r.wr), intsA r.send, .v (.int .i64 r.pos), intsA r.left, intsA r.right, intsA r.parent, .v (.int .i64 r.dir)]), (4, .row true 55 6 (0 + r.guards.length) (r.guards.flatMap cTh))] [(1, .box 1 0), (2, .box 2 0), (3, .box 3 0)] (n := 39) rfl (by kernel_rfl) (by kernel_rfl)) ?_
  refine t_then ?_
  refine tri_seq ?_
  refine tri_region ?_
  refine t_op rfl (sp_fieldBox (off' := 8) (.tmp 1) rfl Tryd.underlying76 rfl (z := 1) (by kernel_rfl) (by decide) rfl) ⟨.inl rfl, trivial⟩ trivial trivial ?_
  refine t_op rfl (sp_loadBox1 (Y := .box 76 (cRu r)) (X := intsA r.ex) (.tmp 14) rfl Tryd.underlying24 rfl rfl) ⟨.inl rfl, trivial⟩ ⟨rfl, trivial⟩ trivial ?_
  refine t_op rfl (sp_call [] (CopyInts_c r.ex H.ex) rfl (by kernel_rfl) rfl (Xs := [intsA r.ex]) rfl rfl rfl) ⟨.inl rfl, .inl rfl, trivial⟩ trivial trivial ?_
  refine t_op rfl (sp_fieldBox (off' := 8) (.tmp 3) rfl Tryd.underlying76 rfl (z := 1) (by kernel_rfl) (by decide) rfl) ⟨.inl rfl, trivial⟩ trivial trivial ?_
  refine t_op rfl (sp_storeBox (T0 := 76) (X := .fr (intsA r.ex)) (cs := [.v (.string r.nm), .v (.int .i64 r.kind), .v (.int .i64 r.frm), .v (.int .i64 r.to), .v (.int .i64 r.pf), .v (.int .i64 r.pt), .fr (intsA r.resp), .own 4, intsA r.ex, intsA r.fa, .v (.int .i64 r.rd), .v (.int .i64 r.wr), intsA r.send, .v (.int .i64 r.pos), intsA r.left, intsA r.right, intsA r.parent, .v (.int .i64 r.dir)]) (ds := [.v (.string r.nm), .v (.int .i64 r.kind), .v (.int .i64 r.frm), .v (.int .i64 r.to), .v (.int .i64 r.pf), .v (.int .i64 r.pt), .fr (intsA r.resp), .own 4, .fr (intsA r.ex), intsA r.fa, .v (.int .i64 r.rd), .v (.int .i64 r.wr), intsA r.send, .v (.int .i64 r.pos), intsA r.left, intsA r.right, intsA r.parent, .v (.int .i64 r.dir)]) (z := 1) (.tmp 17) (.tmp 16) rfl (by kernel_rfl) (by kernel_rfl) (by kernel_rfl) (of_decide_eq_true (by kernel_rfl)) (by kernel_rfl)) ⟨.inl rfl, .inl rfl, trivial⟩ ⟨rfl, trivial⟩ rfl ?_
  refine tri_nil ?_
  refine tri_wk (wk_keep [(1, .box 76 (cRu r)), (2, .box 76 [.v (.string (⟨#[]⟩)), .v (.int .i64 0), .v (.int .i64 0), .v (.int .i64 0), .v (.int .i64 0), .v (.int .i64 0), .v (.slice none 0 0), .v (.slice none 0 0), .v (.slice none 0 0), .v (.slice none 0 0), .v (.int .i64 0), .v (.int .i64 0), .v (.slice none 0 0), .v (.int .i64 0), .v (.slice none 0 0), .v (.slice none 0 0), .v (.slice none 0 0), .v (.int .i64 0)]), (3, .box 76 [.v (.string r.nm), .v (.int .i64 r.kind), .v (.int .i64 r.frm), .v (.int .i64 r.to), .v (.int .i64 r.pf), .v (.int .i64 r.pt), .fr (intsA r.resp), .own 4, .fr (intsA r.ex), intsA r.fa, .v (.int .i64 r.rd), .v (.int .i64 r.wr), intsA r.send, .v (.int .i64 r.pos), intsA r.left, intsA r.right, intsA r.parent, .v (.int .i64 r.dir)]), (4, .row true 55 6 (0 + r.guards.length) (r.guards.flatMap cTh))] [(1, .box 1 0), (2, .box 2 0), (3, .box 3 0)] (n := 39) rfl (by kernel_rfl) (by kernel_rfl)) ?_
  refine t_then ?_
  refine tri_seq ?_
  refine tri_region ?_
  refine t_op rfl (sp_fieldBox (off' := 9) (.tmp 1) rfl Tryd.underlying76 rfl (z := 1) (by kernel_rfl) (by decide) rfl) ⟨.inl rfl, trivial⟩ trivial trivial ?_
  refine t_op rfl (sp_loadBox1 (Y := .box 76 (cRu r)) (X := intsA r.fa) (.tmp 18) rfl Tryd.underlying24 rfl rfl) ⟨.inl rfl, trivial⟩ ⟨rfl, trivial⟩ trivial ?_
  refine t_op rfl (sp_call [] (CopyInts_c r.fa H.fa) rfl (by kernel_rfl) rfl (Xs := [intsA r.fa]) rfl rfl rfl) ⟨.inl rfl, .inl rfl, trivial⟩ trivial trivial ?_
  refine t_op rfl (sp_fieldBox (off' := 9) (.tmp 3) rfl Tryd.underlying76 rfl (z := 1) (by kernel_rfl) (by decide) rfl) ⟨.inl rfl, trivial⟩ trivial trivial ?_
  refine t_op rfl (sp_storeBox (T0 := 76) (X := .fr (intsA r.fa)) (cs := [.v (.string r.nm), .v (.int .i64 r.kind), .v (.int .i64 r.frm), .v (.int .i64 r.to), .v (.int .i64 r.pf), .v (.int .i64 r.pt), .fr (intsA r.resp), .own 4, .fr (intsA r.ex), intsA r.fa, .v (.int .i64 r.rd), .v (.int .i64 r.wr), intsA r.send, .v (.int .i64 r.pos), intsA r.left, intsA r.right, intsA r.parent, .v (.int .i64 r.dir)]) (ds := [.v (.string r.nm), .v (.int .i64 r.kind), .v (.int .i64 r.frm), .v (.int .i64 r.to), .v (.int .i64 r.pf), .v (.int .i64 r.pt), .fr (intsA r.resp), .own 4, .fr (intsA r.ex), .fr (intsA r.fa), .v (.int .i64 r.rd), .v (.int .i64 r.wr), intsA r.send, .v (.int .i64 r.pos), intsA r.left, intsA r.right, intsA r.parent, .v (.int .i64 r.dir)]) (z := 1) (.tmp 21) (.tmp 20) rfl (by kernel_rfl) (by kernel_rfl) (by kernel_rfl) (of_decide_eq_true (by kernel_rfl)) (by kernel_rfl)) ⟨.inl rfl, .inl rfl, trivial⟩ ⟨rfl, trivial⟩ rfl ?_
  refine tri_nil ?_
  refine tri_wk (wk_keep [(1, .box 76 (cRu r)), (2, .box 76 [.v (.string (⟨#[]⟩)), .v (.int .i64 0), .v (.int .i64 0), .v (.int .i64 0), .v (.int .i64 0), .v (.int .i64 0), .v (.slice none 0 0), .v (.slice none 0 0), .v (.slice none 0 0), .v (.slice none 0 0), .v (.int .i64 0), .v (.int .i64 0), .v (.slice none 0 0), .v (.int .i64 0), .v (.slice none 0 0), .v (.slice none 0 0), .v (.slice none 0 0), .v (.int .i64 0)]), (3, .box 76 [.v (.string r.nm), .v (.int .i64 r.kind), .v (.int .i64 r.frm), .v (.int .i64 r.to), .v (.int .i64 r.pf), .v (.int .i64 r.pt), .fr (intsA r.resp), .own 4, .fr (intsA r.ex), .fr (intsA r.fa), .v (.int .i64 r.rd), .v (.int .i64 r.wr), intsA r.send, .v (.int .i64 r.pos), intsA r.left, intsA r.right, intsA r.parent, .v (.int .i64 r.dir)]), (4, .row true 55 6 (0 + r.guards.length) (r.guards.flatMap cTh))] [(1, .box 1 0), (2, .box 2 0), (3, .box 3 0)] (n := 39) rfl (by kernel_rfl) (by kernel_rfl)) ?_
  refine t_then ?_
  refine tri_seq ?_
  refine tri_region ?_
  refine t_op rfl (sp_fieldBox (off' := 12) (.tmp 1) rfl Tryd.underlying76 rfl (z := 1) (by kernel_rfl) (by decide) rfl) ⟨.inl rfl, trivial⟩ trivial trivial ?_
  refine t_op rfl (sp_loadBox1 (Y := .box 76 (cRu r)) (X := intsA r.send) (.tmp 22) rfl Tryd.underlying24 rfl rfl) ⟨.inl rfl, trivial⟩ ⟨rfl, trivial⟩ trivial ?_
  refine t_op rfl (sp_call [] (CopyInts_c r.send H.send) rfl (by kernel_rfl) rfl (Xs := [intsA r.send]) rfl rfl rfl) ⟨.inl rfl, .inl rfl, trivial⟩ trivial trivial ?_
  refine t_op rfl (sp_fieldBox (off' := 12) (.tmp 3) rfl Tryd.underlying76 rfl (z := 1) (by kernel_rfl) (by decide) rfl) ⟨.inl rfl, trivial⟩ trivial trivial ?_
  refine t_op rfl (sp_storeBox (T0 := 76) (X := .fr (intsA r.send)) (cs := [.v (.string r.nm), .v (.int .i64 r.kind), .v (.int .i64 r.frm), .v (.int .i64 r.to), .v (.int .i64 r.pf), .v (.int .i64 r.pt), .fr (intsA r.resp), .own 4, .fr (intsA r.ex), .fr (intsA r.fa), .v (.int .i64 r.rd), .v (.int .i64 r.wr), intsA r.send, .v (.int .i64 r.pos), intsA r.left, intsA r.right, intsA r.parent, .v (.int .i64 r.dir)]) (ds := [.v (.string r.nm), .v (.int .i64 r.kind), .v (.int .i64 r.frm), .v (.int .i64 r.to), .v (.int .i64 r.pf), .v (.int .i64 r.pt), .fr (intsA r.resp), .own 4, .fr (intsA r.ex), .fr (intsA r.fa), .v (.int .i64 r.rd), .v (.int .i64 r.wr), .fr (intsA r.send), .v (.int .i64 r.pos), intsA r.left, intsA r.right, intsA r.parent, .v (.int .i64 r.dir)]) (z := 1) (.tmp 25) (.tmp 24) rfl (by kernel_rfl) (by kernel_rfl) (by kernel_rfl) (of_decide_eq_true (by kernel_rfl)) (by kernel_rfl)) ⟨.inl rfl, .inl rfl, trivial⟩ ⟨rfl, trivial⟩ rfl ?_
  refine tri_nil ?_
  refine tri_wk (wk_keep [(1, .box 76 (cRu r)), (2, .box 76 [.v (.string (⟨#[]⟩)), .v (.int .i64 0), .v (.int .i64 0), .v (.int .i64 0), .v (.int .i64 0), .v (.int .i64 0), .v (.slice none 0 0), .v (.slice none 0 0), .v (.slice none 0 0), .v (.slice none 0 0), .v (.int .i64 0), .v (.int .i64 0), .v (.slice none 0 0), .v (.int .i64 0), .v (.slice none 0 0), .v (.slice none 0 0), .v (.slice none 0 0), .v (.int .i64 0)]), (3, .box 76 [.v (.string r.nm), .v (.int .i64 r.kind), .v (.int .i64 r.frm), .v (.int .i64 r.to), .v (.int .i64 r.pf), .v (.int .i64 r.pt), .fr (intsA r.resp), .own 4, .fr (intsA r.ex), .fr (intsA r.fa), .v (.int .i64 r.rd), .v (.int .i64 r.wr), .fr (intsA r.send), .v (.int .i64 r.pos), intsA r.left, intsA r.right, intsA r.parent, .v (.int .i64 r.dir)]), (4, .row true 55 6 (0 + r.guards.length) (r.guards.flatMap cTh))] [(1, .box 1 0), (2, .box 2 0), (3, .box 3 0)] (n := 39) rfl (by kernel_rfl) (by kernel_rfl)) ?_
  refine t_then ?_
  refine tri_seq ?_
  refine tri_region ?_
  refine t_op rfl (sp_fieldBox (off' := 14) (.tmp 1) rfl Tryd.underlying76 rfl (z := 1) (by kernel_rfl) (by decide) rfl) ⟨.inl rfl, trivial⟩ trivial trivial ?_
  refine t_op rfl (sp_loadBox1 (Y := .box 76 (cRu r)) (X := intsA r.left) (.tmp 26) rfl Tryd.underlying24 rfl rfl) ⟨.inl rfl, trivial⟩ ⟨rfl, trivial⟩ trivial ?_
  refine t_op rfl (sp_call [] (CopyInts_c r.left H.left) rfl (by kernel_rfl) rfl (Xs := [intsA r.left]) rfl rfl rfl) ⟨.inl rfl, .inl rfl, trivial⟩ trivial trivial ?_
  refine t_op rfl (sp_fieldBox (off' := 14) (.tmp 3) rfl Tryd.underlying76 rfl (z := 1) (by kernel_rfl) (by decide) rfl) ⟨.inl rfl, trivial⟩ trivial trivial ?_
  refine t_op rfl (sp_storeBox (T0 := 76) (X := .fr (intsA r.left)) (cs := [.v (.string r.nm), .v (.int .i64 r.kind), .v (.int .i64 r.frm), .v (.int .i64 r.to), .v (.int .i64 r.pf), .v (.int .i64 r.pt), .fr (intsA r.resp), .own 4, .fr (intsA r.ex), .fr (intsA r.fa), .v (.int .i64 r.rd), .v (.int .i64 r.wr), .fr (intsA r.send), .v (.int .i64 r.pos), intsA r.left, intsA r.right, intsA r.parent, .v (.int .i64 r.dir)]) (ds := [.v (.string r.nm), .v (.int .i64 r.kind), .v (.int .i64 r.frm), .v (.int .i64 r.to), .v (.int .i64 r.pf), .v (.int .i64 r.pt), .fr (intsA r.resp), .own 4, .fr (intsA r.ex), .fr (intsA r.fa), .v (.int .i64 r.rd), .v (.int .i64 r.wr), .fr (intsA r.send), .v (.int .i64 r.pos), .fr (intsA r.left), intsA r.right, intsA r.parent, .v (.int .i64 r.dir)]) (z := 1) (.tmp 29) (.tmp 28) rfl (by kernel_rfl) (by kernel_rfl) (by kernel_rfl) (of_decide_eq_true (by kernel_rfl)) (by kernel_rfl)) ⟨.inl rfl, .inl rfl, trivial⟩ ⟨rfl, trivial⟩ rfl ?_
  refine tri_nil ?_
  refine tri_wk (wk_keep [(1, .box 76 (cRu r)), (2, .box 76 [.v (.string (⟨#[]⟩)), .v (.int .i64 0), .v (.int .i64 0), .v (.int .i64 0), .v (.int .i64 0), .v (.int .i64 0), .v (.slice none 0 0), .v (.slice none 0 0), .v (.slice none 0 0), .v (.slice none 0 0), .v (.int .i64 0), .v (.int .i64 0), .v (.slice none 0 0), .v (.int .i64 0), .v (.slice none 0 0), .v (.slice none 0 0), .v (.slice none 0 0), .v (.int .i64 0)]), (3, .box 76 [.v (.string r.nm), .v (.int .i64 r.kind), .v (.int .i64 r.frm), .v (.int .i64 r.to), .v (.int .i64 r.pf), .v (.int .i64 r.pt), .fr (intsA r.resp), .own 4, .fr (intsA r.ex), .fr (intsA r.fa), .v (.int .i64 r.rd), .v (.int .i64 r.wr), .fr (intsA r.send), .v (.int .i64 r.pos), .fr (intsA r.left), intsA r.right, intsA r.parent, .v (.int .i64 r.dir)]), (4, .row true 55 6 (0 + r.guards.length) (r.guards.flatMap cTh))] [(1, .box 1 0), (2, .box 2 0), (3, .box 3 0)] (n := 39) rfl (by kernel_rfl) (by kernel_rfl)) ?_
  refine t_then ?_
  refine tri_seq ?_
  refine tri_region ?_
  refine t_op rfl (sp_fieldBox (off' := 15) (.tmp 1) rfl Tryd.underlying76 rfl (z := 1) (by kernel_rfl) (by decide) rfl) ⟨.inl rfl, trivial⟩ trivial trivial ?_
  refine t_op rfl (sp_loadBox1 (Y := .box 76 (cRu r)) (X := intsA r.right) (.tmp 30) rfl Tryd.underlying24 rfl rfl) ⟨.inl rfl, trivial⟩ ⟨rfl, trivial⟩ trivial ?_
  refine t_op rfl (sp_call [] (CopyInts_c r.right H.right) rfl (by kernel_rfl) rfl (Xs := [intsA r.right]) rfl rfl rfl) ⟨.inl rfl, .inl rfl, trivial⟩ trivial trivial ?_
  refine t_op rfl (sp_fieldBox (off' := 15) (.tmp 3) rfl Tryd.underlying76 rfl (z := 1) (by kernel_rfl) (by decide) rfl) ⟨.inl rfl, trivial⟩ trivial trivial ?_
  refine t_op rfl (sp_storeBox (T0 := 76) (X := .fr (intsA r.right)) (cs := [.v (.string r.nm), .v (.int .i64 r.kind), .v (.int .i64 r.frm), .v (.int .i64 r.to), .v (.int .i64 r.pf), .v (.int .i64 r.pt), .fr (intsA r.resp), .own 4, .fr (intsA r.ex), .fr (intsA r.fa), .v (.int .i64 r.rd), .v (.int .i64 r.wr), .fr (intsA r.send), .v (.int .i64 r.pos), .fr (intsA r.left), intsA r.right, intsA r.parent, .v (.int .i64 r.dir)]) (ds := [.v (.string r.nm), .v (.int .i64 r.kind), .v (.int .i64 r.frm), .v (.int .i64 r.to), .v (.int .i64 r.pf), .v (.int .i64 r.pt), .fr (intsA r.resp), .own 4, .fr (intsA r.ex), .fr (intsA r.fa), .v (.int .i64 r.rd), .v (.int .i64 r.wr), .fr (intsA r.send), .v (.int .i64 r.pos), .fr (intsA r.left), .fr (intsA r.right), intsA r.parent, .v (.int .i64 r.dir)]) (z := 1) (.tmp 33) (.tmp 32) rfl (by kernel_rfl) (by kernel_rfl) (by kernel_rfl) (of_decide_eq_true (by kernel_rfl)) (by kernel_rfl)) ⟨.inl rfl, .inl rfl, trivial⟩ ⟨rfl, trivial⟩ rfl ?_
  refine tri_nil ?_
  refine tri_wk (wk_keep [(1, .box 76 (cRu r)), (2, .box 76 [.v (.string (⟨#[]⟩)), .v (.int .i64 0), .v (.int .i64 0), .v (.int .i64 0), .v (.int .i64 0), .v (.int .i64 0), .v (.slice none 0 0), .v (.slice none 0 0), .v (.slice none 0 0), .v (.slice none 0 0), .v (.int .i64 0), .v (.int .i64 0), .v (.slice none 0 0), .v (.int .i64 0), .v (.slice none 0 0), .v (.slice none 0 0), .v (.slice none 0 0), .v (.int .i64 0)]), (3, .box 76 [.v (.string r.nm), .v (.int .i64 r.kind), .v (.int .i64 r.frm), .v (.int .i64 r.to), .v (.int .i64 r.pf), .v (.int .i64 r.pt), .fr (intsA r.resp), .own 4, .fr (intsA r.ex), .fr (intsA r.fa), .v (.int .i64 r.rd), .v (.int .i64 r.wr), .fr (intsA r.send), .v (.int .i64 r.pos), .fr (intsA r.left), .fr (intsA r.right), intsA r.parent, .v (.int .i64 r.dir)]), (4, .row true 55 6 (0 + r.guards.length) (r.guards.flatMap cTh))] [(1, .box 1 0), (2, .box 2 0), (3, .box 3 0)] (n := 39) rfl (by kernel_rfl) (by kernel_rfl)) ?_
  refine t_then ?_
  refine tri_seq ?_
  refine tri_region ?_
  refine t_op rfl (sp_fieldBox (off' := 16) (.tmp 1) rfl Tryd.underlying76 rfl (z := 1) (by kernel_rfl) (by decide) rfl) ⟨.inl rfl, trivial⟩ trivial trivial ?_
  refine t_op rfl (sp_loadBox1 (Y := .box 76 (cRu r)) (X := intsA r.parent) (.tmp 34) rfl Tryd.underlying24 rfl rfl) ⟨.inl rfl, trivial⟩ ⟨rfl, trivial⟩ trivial ?_
  refine t_op rfl (sp_call [] (CopyInts_c r.parent H.parent) rfl (by kernel_rfl) rfl (Xs := [intsA r.parent]) rfl rfl rfl) ⟨.inl rfl, .inl rfl, trivial⟩ trivial trivial ?_
  refine t_op rfl (sp_fieldBox (off' := 16) (.tmp 3) rfl Tryd.underlying76 rfl (z := 1) (by kernel_rfl) (by decide) rfl) ⟨.inl rfl, trivial⟩ trivial trivial ?_
  refine t_op rfl (sp_storeBox (T0 := 76) (X := .fr (intsA r.parent)) (cs := [.v (.string r.nm), .v (.int .i64 r.kind), .v (.int .i64 r.frm), .v (.int .i64 r.to), .v (.int .i64 r.pf), .v (.int .i64 r.pt), .fr (intsA r.resp), .own 4, .fr (intsA r.ex), .fr (intsA r.fa), .v (.int .i64 r.rd), .v (.int .i64 r.wr), .fr (intsA r.send), .v (.int .i64 r.pos), .fr (intsA r.left), .fr (intsA r.right), intsA r.parent, .v (.int .i64 r.dir)]) (ds := [.v (.string r.nm), .v (.int .i64 r.kind), .v (.int .i64 r.frm), .v (.int .i64 r.to), .v (.int .i64 r.pf), .v (.int .i64 r.pt), .fr (intsA r.resp), .own 4, .fr (intsA r.ex), .fr (intsA r.fa), .v (.int .i64 r.rd), .v (.int .i64 r.wr), .fr (intsA r.send), .v (.int .i64 r.pos), .fr (intsA r.left), .fr (intsA r.right), .fr (intsA r.parent), .v (.int .i64 r.dir)]) (z := 1) (.tmp 37) (.tmp 36) rfl (by kernel_rfl) (by kernel_rfl) (by kernel_rfl) (of_decide_eq_true (by kernel_rfl)) (by kernel_rfl)) ⟨.inl rfl, .inl rfl, trivial⟩ ⟨rfl, trivial⟩ rfl ?_
  refine tri_nil ?_
  refine tri_wk (wk_keep [(1, .box 76 (cRu r)), (2, .box 76 [.v (.string (⟨#[]⟩)), .v (.int .i64 0), .v (.int .i64 0), .v (.int .i64 0), .v (.int .i64 0), .v (.int .i64 0), .v (.slice none 0 0), .v (.slice none 0 0), .v (.slice none 0 0), .v (.slice none 0 0), .v (.int .i64 0), .v (.int .i64 0), .v (.slice none 0 0), .v (.int .i64 0), .v (.slice none 0 0), .v (.slice none 0 0), .v (.slice none 0 0), .v (.int .i64 0)]), (3, .box 76 [.v (.string r.nm), .v (.int .i64 r.kind), .v (.int .i64 r.frm), .v (.int .i64 r.to), .v (.int .i64 r.pf), .v (.int .i64 r.pt), .fr (intsA r.resp), .own 4, .fr (intsA r.ex), .fr (intsA r.fa), .v (.int .i64 r.rd), .v (.int .i64 r.wr), .fr (intsA r.send), .v (.int .i64 r.pos), .fr (intsA r.left), .fr (intsA r.right), .fr (intsA r.parent), .v (.int .i64 r.dir)]), (4, .row true 55 6 (0 + r.guards.length) (r.guards.flatMap cTh))] [(1, .box 1 0), (2, .box 2 0), (3, .box 3 0)] (n := 39) rfl (by kernel_rfl) (by kernel_rfl)) ?_
  refine t_then ?_
  refine tri_seq ?_
  refine tri_region ?_
  refine t_op rfl (sp_loadBoxS (Y := .box 76 [.v (.string r.nm), .v (.int .i64 r.kind), .v (.int .i64 r.frm), .v (.int .i64 r.to), .v (.int .i64 r.pf), .v (.int .i64 r.pt), .fr (intsA r.resp), .own 4, .fr (intsA r.ex), .fr (intsA r.fa), .v (.int .i64 r.rd), .v (.int .i64 r.wr), .fr (intsA r.send), .v (.int .i64 r.pos), .fr (intsA r.left), .fr (intsA r.right), .fr (intsA r.parent), .v (.int .i64 r.dir)]) (ds := [.v (.string r.nm), .v (.int .i64 r.kind), .v (.int .i64 r.frm), .v (.int .i64 r.to), .v (.int .i64 r.pf), .v (.int .i64 r.pt), .fr (intsA r.resp), .own 4, .fr (intsA r.ex), .fr (intsA r.fa), .v (.int .i64 r.rd), .v (.int .i64 r.wr), .fr (intsA r.send), .v (.int .i64 r.pos), .fr (intsA r.left), .fr (intsA r.right), .fr (intsA r.parent), .v (.int .i64 r.dir)]) (z := 18) (.tmp 3) rfl Tryd.underlying76 rfl (by kernel_rfl) (by decide) (by kernel_rfl) (by kernel_rfl)) ⟨.inl rfl, trivial⟩ ⟨rfl, trivial⟩ trivial ?_
  refine t_op rfl (sp_storeBox (T0 := 76) (X := .agg [.v (.string r.nm), .v (.int .i64 r.kind), .v (.int .i64 r.frm), .v (.int .i64 r.to), .v (.int .i64 r.pf), .v (.int .i64 r.pt), .fr (intsA r.resp), .own 4, .fr (intsA r.ex), .fr (intsA r.fa), .v (.int .i64 r.rd), .v (.int .i64 r.wr), .fr (intsA r.send), .v (.int .i64 r.pos), .fr (intsA r.left), .fr (intsA r.right), .fr (intsA r.parent), .v (.int .i64 r.dir)]) (cs := [.v (.string (⟨#[]⟩)), .v (.int .i64 0), .v (.int .i64 0), .v (.int .i64 0), .v (.int .i64 0), .v (.int .i64 0), .v (.slice none 0 0), .v (.slice none 0 0), .v (.slice none 0 0), .v (.slice none 0 0), .v (.int .i64 0), .v (.int .i64 0), .v (.slice none 0 0), .v (.int .i64 0), .v (.slice none 0 0), .v (.slice none 0 0), .v (.slice none 0 0), .v (.int .i64 0)]) (ds := [.v (.string r.nm), .v (.int .i64 r.kind), .v (.int .i64 r.frm), .v (.int .i64 r.to), .v (.int .i64 r.pf), .v (.int .i64 r.pt), .fr (intsA r.resp), .own 4, .fr (intsA r.ex), .fr (intsA r.fa), .v (.int .i64 r.rd), .v (.int .i64 r.wr), .fr (intsA r.send), .v (.int .i64 r.pos), .fr (intsA r.left), .fr (intsA r.right), .fr (intsA r.parent), .v (.int .i64 r.dir)]) (z := 18) (.tmp 2) (.tmp 38) rfl (by kernel_rfl) (by kernel_rfl) (by kernel_rfl) (of_decide_eq_true (by kernel_rfl)) (by kernel_rfl)) ⟨.inl rfl, .inl rfl, trivial⟩ ⟨rfl, trivial⟩ rfl ?_
  refine tri_nil ?_
  refine tri_wk (wk_keep [(1, .box 76 (cRu r)), (2, .box 76 [.v (.string r.nm), .v (.int .i64 r.kind), .v (.int .i64 r.frm), .v (.int .i64 r.to), .v (.int .i64 r.pf), .v (.int .i64 r.pt), .fr (intsA r.resp), .own 4, .fr (intsA r.ex), .fr (intsA r.fa), .v (.int .i64 r.rd), .v (.int .i64 r.wr), .fr (intsA r.send), .v (.int .i64 r.pos), .fr (intsA r.left), .fr (intsA r.right), .fr (intsA r.parent), .v (.int .i64 r.dir)]), (3, .box 76 [.v (.string r.nm), .v (.int .i64 r.kind), .v (.int .i64 r.frm), .v (.int .i64 r.to), .v (.int .i64 r.pf), .v (.int .i64 r.pt), .fr (intsA r.resp), .own 4, .fr (intsA r.ex), .fr (intsA r.fa), .v (.int .i64 r.rd), .v (.int .i64 r.wr), .fr (intsA r.send), .v (.int .i64 r.pos), .fr (intsA r.left), .fr (intsA r.right), .fr (intsA r.parent), .v (.int .i64 r.dir)]), (4, .row true 55 6 (0 + r.guards.length) (r.guards.flatMap cTh))] [(1, .box 1 0), (2, .box 2 0), (3, .box 3 0)] (n := 39) rfl (by kernel_rfl) (by kernel_rfl)) ?_
  refine t_then ?_
  refine tri_ret ?_
  refine tri_end1 Tryd.results43 (.cellS rfl rfl Tryd.underlying76 rfl (z := 18) (by kernel_rfl) rfl (by decide)) ?_
  show AV.agg [sv r.nm, iv r.kind, iv r.frm, iv r.to, iv r.pf, iv r.pt, intsA r.resp, .sl 6 (0 + r.guards.length) (r.guards.flatMap cTh), intsA r.ex, intsA r.fa, iv r.rd, iv r.wr, intsA r.send, iv r.pos, intsA r.left, intsA r.right, intsA r.parent, iv r.dir] = .agg (cRu r)
  rw [Nat.zero_add]; rfl
end Go.Proofs.YtmpbfdfjcfanoaaDoor

/-
  A NIL SLICE IN A CELL IS TAKEN FOR ONE THAT THE CALL OWNS.
-/
namespace Go.Proofs.YtmpbfdfjcfanoaaDoor
open Go.RowKit Go.Deep
theorem wk_adoptB {h : AHeap} {t : ATm} (k0 i k : Nat) (fr : Bool) (e z : Nat) {T : TypeId} {cs ds : List AV} (hk : h k = none) (hb : h k0 = some (.box T cs)) (hi : cs[i]? = some (.v (.slice none 0 0))) (hd : cs.set i (.own k) = ds) :
    Wk h t (fun j => if j = k then some (.row fr e z 0 []) else if j = k0 then some (.box T ds) else h j) t := by
  subst hd
  intro J w0 ρ a w s
  have hρ := s.dom k hk
  have hkk : k0 ≠ k := by rintro rfl; rw [hb] at hk; cases hk
  refine ⟨upd ρ k .nil, ?_⟩
  have hok : ∀ b, okOf ρ b → okOf (upd ρ k .nil) b := fun b hb j c n hj => by
    by_cases e : j = k
    · subst e; rw [upd_same] at hj; cases hj
    · rw [upd_other e] at hj; exact hb _ _ _ hj
  have hn : ∀ j nm, ρ j = some nm → upd ρ k .nil j = some nm := fun j nm hj => by rw [upd_other (by rintro rfl; rw [hρ] at hj; cases hj)]; exact hj
  have hp : ∀ X x, Pu (w0.heap.size ≤ ·) w (okOf ρ) X x → Pu (w0.heap.size ≤ ·) w (okOf (upd ρ k .nil)) X x := fun X x hx => hx.weak hok
  have hat : ∀ j b c n, upd ρ k .nil j = some (.at b c n) → ρ j = some (.at b c n) := fun j b c n hj => by
    by_cases e : j = k
    · subst e; rw [upd_same] at hj; cases hj
    · rw [upd_other e] at hj; exact hj
  refine ⟨⟨fun j k b c d m n hj hk => s.wf.inj _ _ _ _ _ _ _ (hat _ _ _ _ hj) (hat _ _ _ _ hk), fun k b c n hk => s.wf.lo _ _ _ _ (hat _ _ _ _ hk)⟩, s.bel, s.inv, fun j X hj => ?_, fun j hj => ?_, s.tl, fun j hj => (s.tm j hj).keep hp hn, s.df⟩
  · by_cases e : j = k
    · subst e
      rw [if_pos rfl] at hj
      cases hj
      exact ⟨.nil, upd_same _ _ _, blk_nil _ _ _ _ _ _⟩
    · rw [if_neg e] at hj
      by_cases e0 : j = k0
      · subst e0
        rw [if_pos rfl] at hj
        cases hj
        obtain ⟨nm, g1, g2⟩ := s.hp j _ hb
        obtain ⟨b, c, n, vs, q0, q1, q2, q3⟩ := g2
        refine ⟨nm, hn _ _ g1, b, c, n, vs, q0, q1, by simpa using q2, fun l hl => ?_⟩
        have hl' : l < cs.length := by simpa using hl
        rw [List.getElem_set]
        split
        · rename_i e1
          subst e1
          have h1 := q3 i hl'
          have h2 : cs[i] = .v (.slice none 0 0) := by
            rw [List.getElem?_eq_getElem hl'] at hi
            exact Option.some.inj hi
          rw [h2] at h1
          rw [h1.v_inv]
          exact .own (nm := .nil) (upd_same _ _ _)
        · exact (q3 l hl').keep hp hn
      · rw [if_neg e0] at hj
        obtain ⟨nm, g1, g2⟩ := s.hp j X hj
        exact ⟨nm, hn _ _ g1, g2.keep (fun fr X x hx => hx.weak fun b hb => ⟨hok _ hb.1, hb.2⟩) hp hn fun _ _ _ _ => rfl⟩
  · by_cases e : j = k
    · rw [if_pos e] at hj; cases hj
    · rw [if_neg e] at hj
      rw [upd_other e]
      by_cases e0 : j = k0
      · rw [if_pos e0] at hj; cases hj
      · rw [if_neg e0] at hj; exact s.dom j hj
end Go.Proofs.YtmpbfdfjcfanoaaDoor

/-
  THE COPY OF A FAMILY: plain facts.
-/
namespace Go.Proofs.YtmpbfdfjcfanoaaDoor
open Go.RowKit Go.Deep
/-- What is not big. -/
structure FamLen (q : Fm) : Prop where
  states : q.states.length ≤ 60
  msgs : q.msgs.length ≤ 60
  vals : q.vals.length ≤ 60
  res : q.res.length ≤ 60
  init : q.init.length ≤ 60
  leader : q.leader.length ≤ 60
  lrules : q.rules.length ≤ 30
  rules : ∀ r ∈ q.rules, RuLen r
theorem famLen {q : Fm} (h : bigF q = false) : FamLen q := by
  unfold bigF at h
  simp only [Bool.or_eq_false_iff, decide_eq_false_iff_not] at h
  obtain ⟨⟨⟨⟨⟨⟨⟨⟨⟨⟨⟨h0, h1⟩, h2⟩, h3⟩, h4⟩, h5⟩, h6⟩, h7⟩, h8⟩, _⟩, _⟩, _⟩ := h
  refine ⟨by omega, by omega, by omega, by omega, by omega, by omega, by omega, fun r hr => ?_⟩
  unfold bigRk at h8
  rw [List.take_length, List.any_eq_false] at h8
  have h9 := h8 r hr
  have h10 : bigR r = false := by simpa using h9
  unfold bigR at h10
  simp only [Bool.or_eq_false_iff, decide_eq_false_iff_not] at h10
  obtain ⟨⟨⟨⟨⟨⟨⟨⟨_, a1⟩, a2⟩, a3⟩, a4⟩, a5⟩, a6⟩, a7⟩, a8⟩ := h10
  exact ⟨by omega, by omega, by omega, by omega, by omega, by omega, by omega, by omega⟩
theorem newRu (r : Ru) : ∀ d ∈ (cRu r).map AV.mkFr, d.isNew = true := fun d hd => by
  obtain ⟨x, _, rfl⟩ := List.mem_map.1 hd
  cases x <;> rfl
theorem cellRu (r : Ru) : ∀ d ∈ (cRu r).map AV.mkFr, d.cell = true := fun d hd => by
  simp only [cRu, List.map_cons, List.map_nil, List.mem_cons, List.not_mem_nil, or_false] at hd
  rcases hd with rfl | rfl | rfl | rfl | rfl | rfl | rfl | rfl | rfl | rfl | rfl | rfl | rfl | rfl | rfl | rfl | rfl | rfl <;> rfl
theorem snocRu {rs : List Ru} {k : Nat} (h : k < rs.length) : (rs.take k).flatMap cRu ++ rowCells true ((cRu rs[k]).map AV.mkFr) = (rs.take (k + 1)).flatMap cRu := by
  rw [List.take_succ_eq_append_getElem h, List.flatMap_append]
  congr 1
end Go.Proofs.YtmpbfdfjcfanoaaDoor

/-
  EQUAL TO ITSELF: elder contracts and plain facts.
-/
namespace Go.Proofs.YtmpbfdfjcfanoaaDoor
open Go.RowKit Go.Deep
variable {J : World → Prop}
theorem eqI_self (xs : List Int) : eqI xs xs = true := by unfold eqI; simp
theorem sameInts_c (xs : List Int) (hx : InOk xs) : Ctr Tryd.prog J 35 [intsA xs, intsA xs] (bv true) := ctr2 fun w v v' _ h h' => by
  have := SameInts_any (pu_ints hx lo0 h) (pu_ints hx lo0 h')
  rw [eqI_self] at this
  exact this.mono fun _ _ => ret_sc
theorem sameTh_c (g : Th) : Ctr Tryd.prog J 103 [.agg (cTh g), .agg (cTh g)] (bv true) := ctr2 fun w v v' _ h h' => by
  have e : ∀ {v : Value}, Pu (fun _ => True) w (fun b => b < w.heap.size) (.agg (cTh g)) v → v = .agg #[.int .i64 g.msg, .int .i64 g.coef, .int .i64 g.bd.c, .int .i64 g.bd.n, .int .i64 g.bd.t, .int .i64 g.bd.f] := fun h => by
    obtain ⟨vs, rfl, hl, hv⟩ := agg_cells h
    rw [cells6 hl, (hv 0 (by simp [cTh])).v_inv, (hv 1 (by simp [cTh])).v_inv, (hv 2 (by simp [cTh])).v_inv, (hv 3 (by simp [cTh])).v_inv, (hv 4 (by simp [cTh])).v_inv, (hv 5 (by simp [cTh])).v_inv]
  rw [e h, e h']
  have := SameTh_any g.msg g.coef g.bd.c g.bd.n g.bd.t g.bd.f g.msg g.coef g.bd.c g.bd.n g.bd.t g.bd.f w
  rw [decide_eq_true rfl] at this
  exact this.mono fun _ _ => ret_sc
theorem ruInts {r : Ru} (h : RuOk r) : InOk [r.kind, r.frm, r.to, r.pf, r.pt, r.rd, r.wr, r.pos, r.dir] := fun x hx => by
  simp only [List.mem_cons, List.not_mem_nil, or_false] at hx
  rcases hx with rfl | rfl | rfl | rfl | rfl | rfl | rfl | rfl | rfl
  · exact h.kind
  · exact h.frm
  · exact h.to
  · exact h.pf
  · exact h.pt
  · exact h.rd
  · exact h.wr
  · exact h.pos
  · exact h.dir
theorem eqn_ln (a b c d : Int) (w : World) : (Op.equalIn 10000 53 (.agg #[.int .i64 a, .int .i64 b, .int .i64 c, .int .i64 d]) (.agg #[.int .i64 a, .int .i64 b, .int .i64 c, .int .i64 d])).run Tryd.prog w = .ok true w := by
  rw [run_equalIn_agg w 9999 _ _ _ (by kernel_rfl) (by kernel_rfl)]
  rw [show (Program.fieldsOf Tryd.prog 53).toList = _ from by unfold Program.fieldsOf; rw [Tryd.underlying53]]
  simp [go_sem, Op.eqFields, part, asAgg, isAgg, Tryd.underlying3, run_underlying]
end Go.Proofs.YtmpbfdfjcfanoaaDoor
