import Derived.Test.YtmpbfdfjcfanoaaDoorProg
import Derived.Deep.QuietTactic
import Derived.BigQuiet
import Derived.LoopTactic
import Derived.Lib.Hide
import Derived.Test.YtmpbfdfjcfanoaaDoorGrpjfkenafn
import Derived.Test.YtmpbfdfjcfanoaaDoorGrpifldfpll
import Derived.Test.YtmpbfdfjcfanoaaDoorGrpokdbekcg
import Derived.Test.YtmpbfdfjcfanoaaDoorGrpgchmcopf
import Derived.Test.YtmpbfdfjcfanoaaDoorGrpcapphkoo
import Derived.Test.YtmpbfdfjcfanoaaDoorGrpdnckhhhf
set_option linter.all false
namespace Go.Proofs.YtmpbfdfjcfanoaaDoor
open Go.RowKit Go.Deep
variable {J : World → Prop}
set_option maxRecDepth 100000 in
set_option maxHeartbeats 6400000 in
theorem CopyInts_c (xs : List Int) (hx : xs.length ≤ 17592186044416) : Ctr Tryd.prog J 42 [intsA xs] (intsA xs) := by
  refine ctr_of_tri Tryd.func42 rfl (by intro X hX; simp at hX; subst hX; exact plain_ints _) (n := 6) rfl (by simp) (fun w0 => ?_)
  refine tri_wk (wk_keep [] [(0, intsA xs)] (n := 6) rfl (by kernel_rfl) (by kernel_rfl)) ?_
  refine tri_seq ?_
  refine tri_region ?_
  refine t_op rfl (sp_assign (.const (.slice none 0 0)) (.v (.slice none 0 0)) rfl) ⟨.inl rfl, trivial⟩ trivial trivial ?_
  refine tri_nil ?_
  refine tri_wk (wk_keep [] [(0, intsA xs), (2, .v (.slice none 0 0))] (n := 6) rfl (by kernel_rfl) (by kernel_rfl)) ?_
  refine t_then ?_
  refine tri_seq ?_
  refine tri_region ?_
  refine t_op rfl (sp_build0 (z := 1) (k := 1) true rfl Tryd.underlying24 (by kernel_rfl)) trivial trivial rfl ?_
  refine t_op rfl (sp_move (.tmp 0) (intsA xs) rfl) ⟨.inl rfl, trivial⟩ trivial trivial ?_
  refine t_op rfl (sp_append (⟨Tryd.underlying24, by kernel_rfl, by decide⟩ : Elt Tryd.prog 24 3 1 8) (.tmp 3) (.tmp 4) rfl (fun _ d hd => by obtain ⟨x, _, rfl⟩ := List.mem_map.1 hd; rfl) (by unfold maxLen; omega) (by omega) (fun d hd => by obtain ⟨x, _, rfl⟩ := List.mem_map.1 hd; rfl) (es := (xs.map iv)) (by rw [unfr_ints]; rfl)) ⟨.inl rfl, .inl rfl, trivial⟩ ⟨rfl, trivial⟩ rfl ?_
  refine t_op rfl (sp_assign (.tmp 5) (.own 1) rfl) ⟨.inl rfl, trivial⟩ trivial trivial ?_
  refine tri_nil ?_
  refine tri_wk (wk_keep [(1, .row true 3 1 (0 + xs.length) (xs.map iv))] [(2, .own 1)] (n := 6) rfl (by kernel_rfl) (by kernel_rfl)) ?_
  refine t_then ?_
  refine tri_ret ?_
  refine tri_end1 Tryd.results42 (.tmp rfl) ?_
  show AV.sl 1 (0 + xs.length) (xs.map iv) = intsA xs
  rw [Nat.zero_add]; rfl
/-- The lists of a rule, of a family, are not longer than memory. -/
structure RuLen (r : Ru) : Prop where
  resp : r.resp.length ≤ 17592186044416
  guards : r.guards.length ≤ 1000000000
  ex : r.ex.length ≤ 17592186044416
  fa : r.fa.length ≤ 17592186044416
  send : r.send.length ≤ 17592186044416
  left : r.left.length ≤ 17592186044416
  right : r.right.length ≤ 17592186044416
  parent : r.parent.length ≤ 17592186044416
set_option maxRecDepth 100000 in
set_option maxHeartbeats 6400000 in
theorem CopyRule_c (r : Ru) (H : RuLen r) : Ctr Tryd.prog J 43 [.agg (cRu r)] (.agg (cRu r)) := by
  have hg := H.guards
  refine ctr_of_tri Tryd.func43 rfl (by intro X hX; simp at hX; subst hX; exact plain_agg (plain_ru r)) (n := 39) rfl (by simp) (fun w0 => ?_)
  refine tri_wk (wk_keep [] [(0, .agg (cRu r))] (n := 39) rfl (by kernel_rfl) (by kernel_rfl)) ?_
  refine tri_seq ?_
  refine tri_region ?_
  refine t_op rfl (sp_box (X := .agg (cRu r)) (k := 1) (.tmp 0) rfl rfl) ⟨.inl rfl, trivial⟩ trivial rfl ?_
  refine t_op rfl (sp_alloc (z := .agg #[.string (⟨#[]⟩), .int .i64 0, .int .i64 0, .int .i64 0, .int .i64 0, .int .i64 0, .slice none 0 0, .slice none 0 0, .slice none 0 0, .slice none 0 0, .int .i64 0, .int .i64 0, .slice none 0 0, .int .i64 0, .slice none 0 0, .slice none 0 0, .slice none 0 0, .int .i64 0]) (k := 2) rfl (by kernel_rfl)) trivial trivial rfl ?_
  refine tri_nil ?_
  refine tri_wk (wk_keep [(1, .box 76 (cRu r)), (2, .box 76 [.v (.string (⟨#[]⟩)), .v (.int .i64 0), .v (.int .i64 0), .v (.int .i64 0), .v (.int .i64 0), .v (.int .i64 0), .v (.slice none 0 0), .v (.slice none 0 0), .v (.slice none 0 0), .v (.slice none 0 0), .v (.int .i64 0), .v (.int .i64 0), .v (.slice none 0 0), .v (.int .i64 0), .v (.slice none 0 0), .v (.slice none 0 0), .v (.slice none 0 0), .v (.int .i64 0)])] [(1, .box 1 0), (2, .box 2 0)] (n := 39) rfl (by kernel_rfl) (by kernel_rfl)) ?_
  refine t_then ?_
  refine tri_seq ?_
  refine tri_region ?_
  refine t_op rfl (sp_loadBoxS (Y := .box 76 (cRu r)) (ds := cRu r) (z := 18) (.tmp 1) rfl Tryd.underlying76 rfl (by kernel_rfl) (by decide) (by kernel_rfl) (by kernel_rfl)) ⟨.inl rfl, trivial⟩ ⟨rfl, trivial⟩ trivial ?_
  refine t_op rfl (sp_alloc (z := .agg #[.string (⟨#[]⟩), .int .i64 0, .int .i64 0, .int .i64 0, .int .i64 0, .int .i64 0, .slice none 0 0, .slice none 0 0, .slice none 0 0, .slice none 0 0, .int .i64 0, .int .i64 0, .slice none 0 0, .int .i64 0, .slice none 0 0, .slice none 0 0, .slice none 0 0, .int .i64 0]) (k := 3) rfl (by kernel_rfl)) trivial trivial rfl ?_
  refine t_op rfl (sp_storeBox (T0 := 76) (X := .agg (cRu r)) (cs := [.v (.string (⟨#[]⟩)), .v (.int .i64 0), .v (.int .i64 0), .v (.int .i64 0), .v (.int .i64 0), .v (.int .i64 0), .v (.slice none 0 0), .v (.slice none 0 0), .v (.slice none 0 0), .v (.slice none 0 0), .v (.int .i64 0), .v (.int .i64 0), .v (.slice none 0 0), .v (.int .i64 0), .v (.slice none 0 0), .v (.slice none 0 0), .v (.slice none 0 0), .v (.int .i64 0)]) (ds := cRu r) (z := 18) (.tmp 3) (.tmp 4) rfl (by kernel_rfl) (by kernel_rfl) (by kernel_rfl) (of_decide_eq_true (by kernel_rfl)) (by kernel_rfl)) ⟨.inl rfl, .inl rfl, trivial⟩ ⟨rfl, trivial⟩ rfl ?_
  refine tri_nil ?_
  refine tri_wk (wk_keep [(1, .box 76 (cRu r)), (2, .box 76 [.v (.string (⟨#[]⟩)), .v (.int .i64 0), .v (.int .i64 0), .v (.int .i64 0), .v (.int .i64 0), .v (.int .i64 0), .v (.slice none 0 0), .v (.slice none 0 0), .v (.slice none 0 0), .v (.slice none 0 0), .v (.int .i64 0), .v (.int .i64 0), .v (.slice none 0 0), .v (.int .i64 0), .v (.slice none 0 0), .v (.slice none 0 0), .v (.slice none 0 0), .v (.int .i64 0)]), (3, .box 76 (cRu r))] [(1, .box 1 0), (2, .box 2 0), (3, .box 3 0)] (n := 39) rfl (by kernel_rfl) (by kernel_rfl)) ?_
  refine t_then ?_
  refine tri_seq ?_
  refine tri_region ?_
  refine t_op rfl (sp_fieldBox (off' := 6) (.tmp 1) rfl Tryd.underlying76 rfl (z := 1) (by kernel_rfl) (by decide) rfl) ⟨.inl rfl, trivial⟩ trivial trivial ?_
  refine t_op rfl (sp_loadBox1 (Y := .box 76 (cRu r)) (X := intsA r.resp) (.tmp 5) rfl Tryd.underlying24 rfl rfl) ⟨.inl rfl, trivial⟩ ⟨rfl, trivial⟩ trivial ?_
  refine t_op rfl (sp_call [] (CopyInts_c r.resp H.resp) rfl (by kernel_rfl) rfl (Xs := [intsA r.resp]) rfl rfl rfl) ⟨.inl rfl, .inl rfl, trivial⟩ trivial trivial ?_
  refine t_op rfl (sp_fieldBox (off' := 6) (.tmp 3) rfl Tryd.underlying76 rfl (z := 1) (by kernel_rfl) (by decide) rfl) ⟨.inl rfl, trivial⟩ trivial trivial ?_
  refine t_op rfl (sp_storeBox (T0 := 76) (X := .fr (intsA r.resp)) (cs := cRu r) (ds := [.v (.string r.nm), .v (.int .i64 r.kind), .v (.int .i64 r.frm), .v (.int .i64 r.to), .v (.int .i64 r.pf), .v (.int .i64 r.pt), .fr (intsA r.resp), slA 6 cTh r.guards, intsA r.ex, intsA r.fa, .v (.int .i64 r.rd), .v (.int .i64 r.wr), intsA r.send, .v (.int .i64 r.pos), intsA r.left, intsA r.right, intsA r.parent, .v (.int .i64 r.dir)]) (z := 1) (.tmp 8) (.tmp 7) rfl (by kernel_rfl) (by kernel_rfl) (by kernel_rfl) (of_decide_eq_true (by kernel_rfl)) (by kernel_rfl)) ⟨.inl rfl, .inl rfl, trivial⟩ ⟨rfl, trivial⟩ rfl ?_
  refine tri_nil ?_
  refine tri_wk (wk_keep [(1, .box 76 (cRu r)), (2, .box 76 [.v (.string (⟨#[]⟩)), .v (.int .i64 0), .v (.int .i64 0), .v (.int .i64 0), .v (.int .i64 0), .v (.int .i64 0), .v (.slice none 0 0), .v (.slice none 0 0), .v (.slice none 0 0), .v (.slice none 0 0), .v (.int .i64 0), .v (.int .i64 0), .v (.slice none 0 0), .v (.int .i64 0), .v (.slice none 0 0), .v (.slice none 0 0), .v (.slice none 0 0), .v (.int .i64 0)]), (3, .box 76 [.v (.string r.nm), .v (.int .i64 r.kind), .v (.int .i64 r.frm), .v (.int .i64 r.to), .v (.int .i64 r.pf), .v (.int .i64 r.pt), .fr (intsA r.resp), slA 6 cTh r.guards, intsA r.ex, intsA r.fa, .v (.int .i64 r.rd), .v (.int .i64 r.wr), intsA r.send, .v (.int .i64 r.pos), intsA r.left, intsA r.right, intsA r.parent, .v (.int .i64 r.dir)])] [(1, .box 1 0), (2, .box 2 0), (3, .box 3 0)] (n := 39) rfl (by kernel_rfl) (by kernel_rfl)) ?_
  refine t_then ?_
  refine tri_seq ?_
  refine tri_region ?_
  refine t_op rfl (sp_build0 (z := 6) (k := 4) true rfl Tryd.underlying49 (by kernel_rfl)) trivial trivial rfl ?_
  refine t_op rfl (sp_fieldBox (off' := 7) (.tmp 1) rfl Tryd.underlying76 rfl (z := 1) (by kernel_rfl) (by decide) rfl) ⟨.inl rfl, trivial⟩ trivial trivial ?_
  refine t_op rfl (sp_loadBox1 (Y := .box 76 (cRu r)) (X := slA 6 cTh r.guards) (.tmp 10) rfl Tryd.underlying49 rfl rfl) ⟨.inl rfl, trivial⟩ ⟨rfl, trivial⟩ trivial ?_
  refine t_op rfl (sp_append (⟨Tryd.underlying49, by kernel_rfl, by decide⟩ : Elt Tryd.prog 49 55 6 48) (.tmp 9) (.tmp 11) rfl (fun _ => new_cTh _) (by unfold maxLen; omega) (by omega) (cell_cTh _) (es := (r.guards.flatMap cTh)) (by rw [unfr_cTh]; rfl)) ⟨.inl rfl, .inl rfl, trivial⟩ ⟨rfl, trivial⟩ rfl ?_
  refine t_op rfl (sp_fieldBox (off' := 7) (.tmp 3) rfl Tryd.underlying76 rfl (z := 1) (by kernel_rfl) (by decide) rfl) ⟨.inl rfl, trivial⟩ trivial trivial ?_
  refine t_op rfl (sp_storeBox (T0 := 76) (X := .own 4) (cs := [.v (.string r.nm), .v (.int .i64 r.kind), .v (.int .i64 r.frm), .v (.int .i64 r.to), .v (.int .i64 r.pf), .v (.int .i64 r.pt), .fr (intsA r.resp), slA 6 cTh r.guards, intsA r.ex, intsA r.fa, .v (.int .i64 r.rd), .v (.int .i64 r.wr), intsA r.send, .v (.int .i64 r.pos), intsA r.left, intsA r.right, intsA r.parent, .v (.int .i64 r.dir)]) (ds := [.v (.string r.nm), .v (.int .i64 r.kind), .v (.int .i64 r.frm), .v (.int .i64 r.to), .v (.int .i64 r.pf), .v (.int .i64 r.pt), .fr (intsA r.resp), .own 4, intsA r.ex, intsA r.fa, .v (.int .i64 r.rd), .v (.int .i64 r.wr), intsA r.send, .v (.int .i64 r.pos), intsA r.left, intsA r.right, intsA r.parent, .v (.int .i64 r.dir)]) (z := 1) (.tmp 13) (.tmp 12) rfl (by kernel_rfl) (by kernel_rfl) (by kernel_rfl) (of_decide_eq_true (by kernel_rfl)) (by kernel_rfl)) ⟨.inl rfl, .inl rfl, trivial⟩ ⟨rfl, trivial⟩ rfl ?_
  refine tri_nil ?_
  refine tri_wk (wk_keep [(1, .box 76 (cRu r)), (2, .box 76 [.v (.string (⟨#[]⟩)), .v (.int .i64 0), .v (.int .i64 0), .v (.int .i64 0), .v (.int .i64 0), .v (.int .i64 0), .v (.slice none 0 0), .v (.slice none 0 0), .v (.slice none 0 0), .v (.slice none 0 0), .v (.int .i64 0), .v (.int .i64 0), .v (.slice none 0 0), .v (.int .i64 0), .v (.slice none 0 0), .v (.slice none 0 0), .v (.slice none 0 0), .v (.int .i64 0)]), (3, .box 76 [.v (.string r.nm), .v (.int .i64 r.kind), .v (.int .i64 r.frm), .v (.int .i64 r.to), .v (.int .i64 r.pf), .v (.int .i64 r.pt), .fr (intsA r.resp), .own 4, intsA r.ex, intsA r.fa, .v (.int .i64 r.rd), .v (.int .i64 r.wr), intsA r.send, .v (.int .i64 r.pos), intsA r.left, intsA r.right, intsA r.parent, .v (.int .i64 r.dir)]), (4, .row true 55 6 (0 + r.guards.length) (r.guards.flatMap cTh))] [(1, .box 1 0), (2, .box 2 0), (3, .box 3 0)] (n := 39) rfl (by kernel_rfl) (by kernel_rfl)) ?_
  refine t_then ?_
  refine tri_seq ?_
  refine tri_region ?_
  refine t_op rfl (sp_fieldBox (off' := 8) (.tmp 1) rfl Tryd.underlying76 rfl (z := 1) (by kernel_rfl) (by decide) rfl) ⟨.inl rfl, trivial⟩ trivial trivial ?_
  refine t_op rfl (sp_loadBox1 (Y := .box 76 (cRu r)) (X := intsA r.ex) (.tmp 14) rfl Tryd.underlying24 rfl rfl) ⟨.inl rfl, trivial⟩ ⟨rfl, trivial⟩ trivial ?_
  refine t_op rfl (sp_call [] (CopyInts_c r.ex H.ex) rfl (by kernel_rfl) rfl (Xs := [intsA r.ex]) rfl rfl rfl) ⟨.inl rfl, .inl rfl, trivial⟩ trivial trivial ?_
  refine t_op rfl (sp_fieldBox (off' := 8) (.tmp 3) rfl Tryd.underlying76 rfl (z := 1) (by kernel_rfl) (by decide) rfl) ⟨.inl rfl, trivial⟩ trivial trivial ?_
  refine t_op rfl (sp_storeBox (T0 := 76) (X := .fr (intsA r.ex)) (cs := [.v (.string r.nm), .v (.int .i64 r.kind), .v (.int .i64 r.frm), .v (.int .i64 r.to), .v (.int .i64 r.pf), .v (.int .i64 r.pt), .fr (intsA r.resp), .own 4, intsA r.ex, intsA r.fa, .v (.int .i64 r.rd), .v (.int .i64 r.wr), intsA r.send, .v (.int .i64 r.pos), intsA r.left, intsA r.right, intsA r.parent, .v (.int .i64 r.dir)]) (ds := [.v (.string r.nm), .v (.int .i64 r.kind), .v (.int .i64 r.frm), .v (.int .i64 r.to), .v (.int .i64 r.pf), .v (.int .i64 r.pt), .fr (intsA r.resp), .own 4, .fr (intsA r.ex), intsA r.fa, .v (.int .i64 r.rd), .v (.int .i64 r.wr), intsA r.send, .v (.int .i64 r.pos), intsA r.left, intsA r.right, intsA r.parent, .v (.int .i64 r.dir)]) (z := 1) (.tmp 17) (.tmp 16) rfl (by kernel_rfl) (by kernel_rfl) (by kernel_rfl) (of_decide_eq_true (by kernel_rfl)) (by kernel_rfl)) ⟨.inl rfl, .inl rfl, trivial⟩ ⟨rfl, trivial⟩ rfl ?_
  refine tri_nil ?_
  refine tri_wk (wk_keep [(1, .box 76 (cRu r)), (2, .box 76 [.v (.string (⟨#[]⟩)), .v (.int .i64 0), .v (.int .i64 0), .v (.int .i64 0), .v (.int .i64 0), .v (.int .i64 0), .v (.slice none 0 0), .v (.slice none 0 0), .v (.slice none 0 0), .v (.slice none 0 0), .v (.int .i64 0), .v (.int .i64 0), .v (.slice none 0 0), .v (.int .i64 0), .v (.slice none 0 0), .v (.slice none 0 0), .v (.slice none 0 0), .v (.int .i64 0)]), (3, .box 76 [.v (.string r.nm), .v (.int .i64 r.kind), .v (.int .i64 r.frm), .v (.int .i64 r.to), .v (.int .i64 r.pf), .v (.int .i64 r.pt), .fr (intsA r.resp), .own 4, .fr (intsA r.ex), intsA r.fa, .v (.int .i64 r.rd), .v (.int .i64 r.wr), intsA r.send, .v (.int .i64 r.pos), intsA r.left, intsA r.right, intsA r.parent, .v (.int .i64 r.dir)]), (4, .row true 55 6 (0 + r.guards.length) (r.guards.flatMap cTh))] [(1, .box 1 0), (2, .box 2 0), (3, .box 3 0)] (n := 39) rfl (by kernel_rfl) (by kernel_rfl)) ?_
  refine t_then ?_
  refine tri_seq ?_
  refine tri_region ?_
  refine t_op rfl (sp_fieldBox (off' := 9) (.tmp 1) rfl Tryd.underlying76 rfl (z := 1) (by kernel_rfl) (by decide) rfl) ⟨.inl rfl, trivial⟩ trivial trivial ?_
  refine t_op rfl (sp_loadBox1 (Y := .box 76 (cRu r)) (X := intsA r.fa) (.tmp 18) rfl Tryd.underlying24 rfl rfl) ⟨.inl rfl, trivial⟩ ⟨rfl, trivial⟩ trivial ?_
  refine t_op rfl (sp_call [] (CopyInts_c r.fa H.fa) rfl (by kernel_rfl) rfl (Xs := [intsA r.fa]) rfl rfl rfl) ⟨.inl rfl, .inl rfl, trivial⟩ trivial trivial ?_
  refine t_op rfl (sp_fieldBox (off' := 9) (.tmp 3) rfl Tryd.underlying76 rfl (z := 1) (by kernel_rfl) (by decide) rfl) ⟨.inl rfl, trivial⟩ trivial trivial ?_
  refine t_op rfl (sp_storeBox (T0 := 76) (X := .fr (intsA r.fa)) (cs := [.v (.string r.nm), .v (.int .i64 r.kind), .v (.int .i64 r.frm), .v (.int .i64 r.to), .v (.int .i64 r.pf), .v (.int .i64 r.pt), .fr (intsA r.resp), .own 4, .fr (intsA r.ex), intsA r.fa, .v (.int .i64 r.rd), .v (.int .i64 r.wr), intsA r.send, .v (.int .i64 r.pos), intsA r.left, intsA r.right, intsA r.parent, .v (.int .i64 r.dir)]) (ds := [.v (.string r.nm), .v (.int .i64 r.kind), .v (.int .i64 r.frm), .v (.int .i64 r.to), .v (.int .i64 r.pf), .v (.int .i64 r.pt), .fr (intsA r.resp), .own 4, .fr (intsA r.ex), .fr (intsA r.fa), .v (.int .i64 r.rd), .v (.int .i64 r.wr), intsA r.send, .v (.int .i64 r.pos), intsA r.left, intsA r.right, intsA r.parent, .v (.int .i64 r.dir)]) (z := 1) (.tmp 21) (.tmp 20) rfl (by kernel_rfl) (by kernel_rfl) (by kernel_rfl) (of_decide_eq_true (by kernel_rfl)) (by kernel_rfl)) ⟨.inl rfl, .inl rfl, trivial⟩ ⟨rfl, trivial⟩ rfl ?_
  refine tri_nil ?_
  refine tri_wk (wk_keep [(1, .box 76 (cRu r)), (2, .box 76 [.v (.string (⟨#[]⟩)), .v (.int .i64 0), .v (.int .i64 0), .v (.int .i64 0), .v (.int .i64 0), .v (.int .i64 0), .v (.slice none 0 0), .v (.slice none 0 0), .v (.slice none 0 0), .v (.slice none 0 0), .v (.int .i64 0), .v (.int .i64 0), .v (.slice none 0 0), .v (.int .i64 0), .v (.slice none 0 0), .v (.slice none 0 0), .v (.slice none 0 0), .v (.int .i64 0)]), (3, .box 76 [.v (.string r.nm), .v (.int .i64 r.kind), .v (.int .i64 r.frm), .v (.int .i64 r.to), .v (.int .i64 r.pf), .v (.int .i64 r.pt), .fr (intsA r.resp), .own 4, .fr (intsA r.ex), .fr (intsA r.fa), .v (.int .i64 r.rd), .v (.int .i64 r.wr), intsA r.send, .v (.int .i64 r.pos), intsA r.left, intsA r.right, intsA r.parent, .v (.int .i64 r.dir)]), (4, .row true 55 6 (0 + r.guards.length) (r.guards.flatMap cTh))] [(1, .box 1 0), (2, .box 2 0), (3, .box 3 0)] (n := 39) rfl (by kernel_rfl) (by kernel_rfl)) ?_
  refine t_then ?_
  refine tri_seq ?_
  refine tri_region ?_
  refine t_op rfl (sp_fieldBox (off' := 12) (.tmp 1) rfl Tryd.underlying76 rfl (z := 1) (by kernel_rfl) (by decide) rfl) ⟨.inl rfl, trivial⟩ trivial trivial ?_
  refine t_op rfl (sp_loadBox1 (Y := .box 76 (cRu r)) (X := intsA r.send) (.tmp 22) rfl Tryd.underlying24 rfl rfl) ⟨.inl rfl, trivial⟩ ⟨rfl, trivial⟩ trivial ?_
  refine t_op rfl (sp_call [] (CopyInts_c r.send H.send) rfl (by kernel_rfl) rfl (Xs := [intsA r.send]) rfl rfl rfl) ⟨.inl rfl, .inl rfl, trivial⟩ trivial trivial ?_
  refine t_op rfl (sp_fieldBox (off' := 12) (.tmp 3) rfl Tryd.underlying76 rfl (z := 1) (by kernel_rfl) (by decide) rfl) ⟨.inl rfl, trivial⟩ trivial trivial ?_
  refine t_op rfl (sp_storeBox (T0 := 76) (X := .fr (intsA r.send)) (cs := [.v (.string r.nm), .v (.int .i64 r.kind), .v (.int .i64 r.frm), .v (.int .i64 r.to), .v (.int .i64 r.pf), .v (.int .i64 r.pt), .fr (intsA r.resp), .own 4, .fr (intsA r.ex), .fr (intsA r.fa), .v (.int .i64 r.rd), .v (.int .i64 r.wr), intsA r.send, .v (.int .i64 r.pos), intsA r.left, intsA r.right, intsA r.parent, .v (.int .i64 r.dir)]) (ds := [.v (.string r.nm), .v (.int .i64 r.kind), .v (.int .i64 r.frm), .v (.int .i64 r.to), .v (.int .i64 r.pf), .v (.int .i64 r.pt), .fr (intsA r.resp), .own 4, .fr (intsA r.ex), .fr (intsA r.fa), .v (.int .i64 r.rd), .v (.int .i64 r.wr), .fr (intsA r.send), .v (.int .i64 r.pos), intsA r.left, intsA r.right, intsA r.parent, .v (.int .i64 r.dir)]) (z := 1) (.tmp 25) (.tmp 24) rfl (by kernel_rfl) (by kernel_rfl) (by kernel_rfl) (of_decide_eq_true (by kernel_rfl)) (by kernel_rfl)) ⟨.inl rfl, .inl rfl, trivial⟩ ⟨rfl, trivial⟩ rfl ?_
  refine tri_nil ?_
  refine tri_wk (wk_keep [(1, .box 76 (cRu r)), (2, .box 76 [.v (.string (⟨#[]⟩)), .v (.int .i64 0), .v (.int .i64 0), .v (.int .i64 0), .v (.int .i64 0), .v (.int .i64 0), .v (.slice none 0 0), .v (.slice none 0 0), .v (.slice none 0 0), .v (.slice none 0 0), .v (.int .i64 0), .v (.int .i64 0), .v (.slice none 0 0), .v (.int .i64 0), .v (.slice none 0 0), .v (.slice none 0 0), .v (.slice none 0 0), .v (.int .i64 0)]), (3, .box 76 [.v (.string r.nm), .v (.int .i64 r.kind), .v (.int .i64 r.frm), .v (.int .i64 r.to), .v (.int .i64 r.pf), .v (.int .i64 r.pt), .fr (intsA r.resp), .own 4, .fr (intsA r.ex), .fr (intsA r.fa), .v (.int .i64 r.rd), .v (.int .i64 r.wr), .fr (intsA r.send), .v (.int .i64 r.pos), intsA r.left, intsA r.right, intsA r.parent, .v (.int .i64 r.dir)]), (4, .row true 55 6 (0 + r.guards.length) (r.guards.flatMap cTh))] [(1, .box 1 0), (2, .box 2 0), (3, .box 3 0)] (n := 39) rfl (by kernel_rfl) (by kernel_rfl)) ?_
  refine t_then ?_
  refine tri_seq ?_
  refine tri_region ?_
  refine t_op rfl (sp_fieldBox (off' := 14) (.tmp 1) rfl Tryd.underlying76 rfl (z := 1) (by kernel_rfl) (by decide) rfl) ⟨.inl rfl, trivial⟩ trivial trivial ?_
  refine t_op rfl (sp_loadBox1 (Y := .box 76 (cRu r)) (X := intsA r.left) (.tmp 26) rfl Tryd.underlying24 rfl rfl) ⟨.inl rfl, trivial⟩ ⟨rfl, trivial⟩ trivial ?_
  refine t_op rfl (sp_call [] (CopyInts_c r.left H.left) rfl (by kernel_rfl) rfl (Xs := [intsA r.left]) rfl rfl rfl) ⟨.inl rfl, .inl rfl, trivial⟩ trivial trivial ?_
  refine t_op rfl (sp_fieldBox (off' := 14) (.tmp 3) rfl Tryd.underlying76 rfl (z := 1) (by kernel_rfl) (by decide) rfl) ⟨.inl rfl, trivial⟩ trivial trivial ?_
  refine t_op rfl (sp_storeBox (T0 := 76) (X := .fr (intsA r.left)) (cs := [.v (.string r.nm), .v (.int .i64 r.kind), .v (.int .i64 r.frm), .v (.int .i64 r.to), .v (.int .i64 r.pf), .v (.int .i64 r.pt), .fr (intsA r.resp), .own 4, .fr (intsA r.ex), .fr (intsA r.fa), .v (.int .i64 r.rd), .v (.int .i64 r.wr), .fr (intsA r.send), .v (.int .i64 r.pos), intsA r.left, intsA r.right, intsA r.parent, .v (.int .i64 r.dir)]) (ds := [.v (.string r.nm), .v (.int .i64 r.kind), .v (.int .i64 r.frm), .v (.int .i64 r.to), .v (.int .i64 r.pf), .v (.int .i64 r.pt), .fr (intsA r.resp), .own 4, .fr (intsA r.ex), .fr (intsA r.fa), .v (.int .i64 r.rd), .v (.int .i64 r.wr), .fr (intsA r.send), .v (.int .i64 r.pos), .fr (intsA r.left), intsA r.right, intsA r.parent, .v (.int .i64 r.dir)]) (z := 1) (.tmp 29) (.tmp 28) rfl (by kernel_rfl) (by kernel_rfl) (by kernel_rfl) (of_decide_eq_true (by kernel_rfl)) (by kernel_rfl)) ⟨.inl rfl, .inl rfl, trivial⟩ ⟨rfl, trivial⟩ rfl ?_
  refine tri_nil ?_
  refine tri_wk (wk_keep [(1, .box 76 (cRu r)), (2, .box 76 [.v (.string (⟨#[]⟩)), .v (.int .i64 0), .v (.int .i64 0), .v (.int .i64 0), .v (.int .i64 0), .v (.int .i64 0), .v (.slice none 0 0), .v (.slice none 0 0), .v (.slice none 0 0), .v (.slice none 0 0), .v (.int .i64 0), .v (.int .i64 0), .v (.slice none 0 0), .v (.int .i64 0), .v (.slice none 0 0), .v (.slice none 0 0), .v (.slice none 0 0), .v (.int .i64 0)]), (3, .box 76 [.v (.string r.nm), .v (.int .i64 r.kind), .v (.int .i64 r.frm), .v (.int .i64 r.to), .v (.int .i64 r.pf), .v (.int .i64 r.pt), .fr (intsA r.resp), .own 4, .fr (intsA r.ex), .fr (intsA r.fa), .v (.int .i64 r.rd), .v (.int .i64 r.wr), .fr (intsA r.send), .v (.int .i64 r.pos), .fr (intsA r.left), intsA r.right, intsA r.parent, .v (.int .i64 r.dir)]), (4, .row true 55 6 (0 + r.guards.length) (r.guards.flatMap cTh))] [(1, .box 1 0), (2, .box 2 0), (3, .box 3 0)] (n := 39) rfl (by kernel_rfl) (by kernel_rfl)) ?_
  refine t_then ?_
  refine tri_seq ?_
  refine tri_region ?_
  refine t_op rfl (sp_fieldBox (off' := 15) (.tmp 1) rfl Tryd.underlying76 rfl (z := 1) (by kernel_rfl) (by decide) rfl) ⟨.inl rfl, trivial⟩ trivial trivial ?_
  refine t_op rfl (sp_loadBox1 (Y := .box 76 (cRu r)) (X := intsA r.right) (.tmp 30) rfl Tryd.underlying24 rfl rfl) ⟨.inl rfl, trivial⟩ ⟨rfl, trivial⟩ trivial ?_
  refine t_op rfl (sp_call [] (CopyInts_c r.right H.right) rfl (by kernel_rfl) rfl (Xs := [intsA r.right]) rfl rfl rfl) ⟨.inl rfl, .inl rfl, trivial⟩ trivial trivial ?_
  refine t_op rfl (sp_fieldBox (off' := 15) (.tmp 3) rfl Tryd.underlying76 rfl (z := 1) (by kernel_rfl) (by decide) rfl) ⟨.inl rfl, trivial⟩ trivial trivial ?_
  refine t_op rfl (sp_storeBox (T0 := 76) (X := .fr (intsA r.right)) (cs := [.v (.string r.nm), .v (.int .i64 r.kind), .v (.int .i64 r.frm), .v (.int .i64 r.to), .v (.int .i64 r.pf), .v (.int .i64 r.pt), .fr (intsA r.resp), .own 4, .fr (intsA r.ex), .fr (intsA r.fa), .v (.int .i64 r.rd), .v (.int .i64 r.wr), .fr (intsA r.send), .v (.int .i64 r.pos), .fr (intsA r.left), intsA r.right, intsA r.parent, .v (.int .i64 r.dir)]) (ds := [.v (.string r.nm), .v (.int .i64 r.kind), .v (.int .i64 r.frm), .v (.int .i64 r.to), .v (.int .i64 r.pf), .v (.int .i64 r.pt), .fr (intsA r.resp), .own 4, .fr (intsA r.ex), .fr (intsA r.fa), .v (.int .i64 r.rd), .v (.int .i64 r.wr), .fr (intsA r.send), .v (.int .i64 r.pos), .fr (intsA r.left), .fr (intsA r.right), intsA r.parent, .v (.int .i64 r.dir)]) (z := 1) (.tmp 33) (.tmp 32) rfl (by kernel_rfl) (by kernel_rfl) (by kernel_rfl) (of_decide_eq_true (by kernel_rfl)) (by kernel_rfl)) ⟨.inl rfl, .inl rfl, trivial⟩ ⟨rfl, trivial⟩ rfl ?_
  refine tri_nil ?_
  refine tri_wk (wk_keep [(1, .box 76 (cRu r)), (2, .box 76 [.v (.string (⟨#[]⟩)), .v (.int .i64 0), .v (.int .i64 0), .v (.int .i64 0), .v (.int .i64 0), .v (.int .i64 0), .v (.slice none 0 0), .v (.slice none 0 0), .v (.slice none 0 0), .v (.slice none 0 0), .v (.int .i64 0), .v (.int .i64 0), .v (.slice none 0 0), .v (.int .i64 0), .v (.slice none 0 0), .v (.slice none 0 0), .v (.slice none 0 0), .v (.int .i64 0)]), (3, .box 76 [.v (.string r.nm), .v (.int .i64 r.kind), .v (.int .i64 r.frm), .v (.int .i64 r.to), .v (.int .i64 r.pf), .v (.int .i64 r.pt), .fr (intsA r.resp), .own 4, .fr (intsA r.ex), .fr (intsA r.fa), .v (.int .i64 r.rd), .v (.int .i64 r.wr), .fr (intsA r.send), .v (.int .i64 r.pos), .fr (intsA r.left), .fr (intsA r.right), intsA r.parent, .v (.int .i64 r.dir)]), (4, .row true 55 6 (0 + r.guards.length) (r.guards.flatMap cTh))] [(1, .box 1 0), (2, .box 2 0), (3, .box 3 0)] (n := 39) rfl (by kernel_rfl) (by kernel_rfl)) ?_
  refine t_then ?_
  refine tri_seq ?_
  refine tri_region ?_
  refine t_op rfl (sp_fieldBox (off' := 16) (.tmp 1) rfl Tryd.underlying76 rfl (z := 1) (by kernel_rfl) (by decide) rfl) ⟨.inl rfl, trivial⟩ trivial trivial ?_
  refine t_op rfl (sp_loadBox1 (Y := .box 76 (cRu r)) (X := intsA r.parent) (.tmp 34) rfl Tryd.underlying24 rfl rfl) ⟨.inl rfl, trivial⟩ ⟨rfl, trivial⟩ trivial ?_
  refine t_op rfl (sp_call [] (CopyInts_c r.parent H.parent) rfl (by kernel_rfl) rfl (Xs := [intsA r.parent]) rfl rfl rfl) ⟨.inl rfl, .inl rfl, trivial⟩ trivial trivial ?_
  refine t_op rfl (sp_fieldBox (off' := 16) (.tmp 3) rfl Tryd.underlying76 rfl (z := 1) (by kernel_rfl) (by decide) rfl) ⟨.inl rfl, trivial⟩ trivial trivial ?_
  refine t_op rfl (sp_storeBox (T0 := 76) (X := .fr (intsA r.parent)) (cs := [.v (.string r.nm), .v (.int .i64 r.kind), .v (.int .i64 r.frm), .v (.int .i64 r.to), .v (.int .i64 r.pf), .v (.int .i64 r.pt), .fr (intsA r.resp), .own 4, .fr (intsA r.ex), .fr (intsA r.fa), .v (.int .i64 r.rd), .v (.int .i64 r.wr), .fr (intsA r.send), .v (.int .i64 r.pos), .fr (intsA r.left), .fr (intsA r.right), intsA r.parent, .v (.int .i64 r.dir)]) (ds := [.v (.string r.nm), .v (.int .i64 r.kind), .v (.int .i64 r.frm), .v (.int .i64 r.to), .v (.int .i64 r.pf), .v (.int .i64 r.pt), .fr (intsA r.resp), .own 4, .fr (intsA r.ex), .fr (intsA r.fa), .v (.int .i64 r.rd), .v (.int .i64 r.wr), .fr (intsA r.send), .v (.int .i64 r.pos), .fr (intsA r.left), .fr (intsA r.right), .fr (intsA r.parent), .v (.int .i64 r.dir)]) (z := 1) (.tmp 37) (.tmp 36) rfl (by kernel_rfl) (by kernel_rfl) (by kernel_rfl) (of_decide_eq_true (by kernel_rfl)) (by kernel_rfl)) ⟨.inl rfl, .inl rfl, trivial⟩ ⟨rfl, trivial⟩ rfl ?_
  refine tri_nil ?_
  refine tri_wk (wk_keep [(1, .box 76 (cRu r)), (2, .box 76 [.v (.string (⟨#[]⟩)), .v (.int .i64 0), .v (.int .i64 0), .v (.int .i64 0), .v (.int .i64 0), .v (.int .i64 0), .v (.slice none 0 0), .v (.slice none 0 0), .v (.slice none 0 0), .v (.slice none 0 0), .v (.int .i64 0), .v (.int .i64 0), .v (.slice none 0 0), .v (.int .i64 0), .v (.slice none 0 0), .v (.slice none 0 0), .v (.slice none 0 0), .v (.int .i64 0)]), (3, .box 76 [.v (.string r.nm), .v (.int .i64 r.kind), .v (.int .i64 r.frm), .v (.int .i64 r.to), .v (.int .i64 r.pf), .v (.int .i64 r.pt), .fr (intsA r.resp), .own 4, .fr (intsA r.ex), .fr (intsA r.fa), .v (.int .i64 r.rd), .v (.int .i64 r.wr), .fr (intsA r.send), .v (.int .i64 r.pos), .fr (intsA r.left), .fr (intsA r.right), .fr (intsA r.parent), .v (.int .i64 r.dir)]), (4, .row true 55 6 (0 + r.guards.length) (r.guards.flatMap cTh))] [(1, .box 1 0), (2, .box 2 0), (3, .box 3 0)] (n := 39) rfl (by kernel_rfl) (by kernel_rfl)) ?_
  refine t_then ?_
  refine tri_seq ?_
  refine tri_region ?_
  refine t_op rfl (sp_loadBoxS (Y := .box 76 [.v (.string r.nm), .v (.int .i64 r.kind), .v (.int .i64 r.frm), .v (.int .i64 r.to), .v (.int .i64 r.pf), .v (.int .i64 r.pt), .fr (intsA r.resp), .own 4, .fr (intsA r.ex), .fr (intsA r.fa), .v (.int .i64 r.rd), .v (.int .i64 r.wr), .fr (intsA r.send), .v (.int .i64 r.pos), .fr (intsA r.left), .fr (intsA r.right), .fr (intsA r.parent), .v (.int .i64 r.dir)]) (ds := [.v (.string r.nm), .v (.int .i64 r.kind), .v (.int .i64 r.frm), .v (.int .i64 r.to), .v (.int .i64 r.pf), .v (.int .i64 r.pt), .fr (intsA r.resp), .own 4, .fr (intsA r.ex), .fr (intsA r.fa), .v (.int .i64 r.rd), .v (.int .i64 r.wr), .fr (intsA r.send), .v (.int .i64 r.pos), .fr (intsA r.left), .fr (intsA r.right), .fr (intsA r.parent), .v (.int .i64 r.dir)]) (z := 18) (.tmp 3) rfl Tryd.underlying76 rfl (by kernel_rfl) (by decide) (by kernel_rfl) (by kernel_rfl)) ⟨.inl rfl, trivial⟩ ⟨rfl, trivial⟩ trivial ?_
  refine t_op rfl (sp_storeBox (T0 := 76) (X := .agg [.v (.string r.nm), .v (.int .i64 r.kind), .v (.int .i64 r.frm), .v (.int .i64 r.to), .v (.int .i64 r.pf), .v (.int .i64 r.pt), .fr (intsA r.resp), .own 4, .fr (intsA r.ex), .fr (intsA r.fa), .v (.int .i64 r.rd), .v (.int .i64 r.wr), .fr (intsA r.send), .v (.int .i64 r.pos), .fr (intsA r.left), .fr (intsA r.right), .fr (intsA r.parent), .v (.int .i64 r.dir)]) (cs := [.v (.string (⟨#[]⟩)), .v (.int .i64 0), .v (.int .i64 0), .v (.int .i64 0), .v (.int .i64 0), .v (.int .i64 0), .v (.slice none 0 0), .v (.slice none 0 0), .v (.slice none 0 0), .v (.slice none 0 0), .v (.int .i64 0), .v (.int .i64 0), .v (.slice none 0 0), .v (.int .i64 0), .v (.slice none 0 0), .v (.slice none 0 0), .v (.slice none 0 0), .v (.int .i64 0)]) (ds := [.v (.string r.nm), .v (.int .i64 r.kind), .v (.int .i64 r.frm), .v (.int .i64 r.to), .v (.int .i64 r.pf), .v (.int .i64 r.pt), .fr (intsA r.resp), .own 4, .fr (intsA r.ex), .fr (intsA r.fa), .v (.int .i64 r.rd), .v (.int .i64 r.wr), .fr (intsA r.send), .v (.int .i64 r.pos), .fr (intsA r.left), .fr (intsA r.right), .fr (intsA r.parent), .v (.int .i64 r.dir)]) (z := 18) (.tmp 2) (.tmp 38) rfl (by kernel_rfl) (by kernel_rfl) (by kernel_rfl) (of_decide_eq_true (by kernel_rfl)) (by kernel_rfl)) ⟨.inl rfl, .inl rfl, trivial⟩ ⟨rfl, trivial⟩ rfl ?_
  refine tri_nil ?_
  refine tri_wk (wk_keep [(1, .box 76 (cRu r)), (2, .box 76 [.v (.string r.nm), .v (.int .i64 r.kind), .v (.int .i64 r.frm), .v (.int .i64 r.to), .v (.int .i64 r.pf), .v (.int .i64 r.pt), .fr (intsA r.resp), .own 4, .fr (intsA r.ex), .fr (intsA r.fa), .v (.int .i64 r.rd), .v (.int .i64 r.wr), .fr (intsA r.send), .v (.int .i64 r.pos), .fr (intsA r.left), .fr (intsA r.right), .fr (intsA r.parent), .v (.int .i64 r.dir)]), (3, .box 76 [.v (.string r.nm), .v (.int .i64 r.kind), .v (.int .i64 r.frm), .v (.int .i64 r.to), .v (.int .i64 r.pf), .v (.int .i64 r.pt), .fr (intsA r.resp), .own 4, .fr (intsA r.ex), .fr (intsA r.fa), .v (.int .i64 r.rd), .v (.int .i64 r.wr), .fr (intsA r.send), .v (.int .i64 r.pos), .fr (intsA r.left), .fr (intsA r.right), .fr (intsA r.parent), .v (.int .i64 r.dir)]), (4, .row true 55 6 (0 + r.guards.length) (r.guards.flatMap cTh))] [(1, .box 1 0), (2, .box 2 0), (3, .box 3 0)] (n := 39) rfl (by kernel_rfl) (by kernel_rfl)) ?_
  refine t_then ?_
  refine tri_ret ?_
  refine tri_end1 Tryd.results43 (.cellS rfl rfl Tryd.underlying76 rfl (z := 18) (by kernel_rfl) rfl (by decide)) ?_
  show AV.agg [sv r.nm, iv r.kind, iv r.frm, iv r.to, iv r.pf, iv r.pt, intsA r.resp, .sl 6 (0 + r.guards.length) (r.guards.flatMap cTh), intsA r.ex, intsA r.fa, iv r.rd, iv r.wr, intsA r.send, iv r.pos, intsA r.left, intsA r.right, intsA r.parent, iv r.dir] = .agg (cRu r)
  rw [Nat.zero_add]; rfl
end Go.Proofs.YtmpbfdfjcfanoaaDoor

namespace Go.Proofs.YtmpbfdfjcfanoaaDoor
open Go.RowKit Go.Deep
theorem wk_adoptB {h : AHeap} {t : ATm} (k0 i k : Nat) (fr : Bool) (e z : Nat) {T : TypeId} {cs ds : List AV} (hk : h k = none) (hb : h k0 = some (.box T cs)) (hi : cs[i]? = some (.v (.slice none 0 0))) (hd : cs.set i (.own k) = ds) :
    Wk h t (fun j => if j = k then some (.row fr e z 0 []) else if j = k0 then some (.box T ds) else h j) t := by
  subst hd
  intro J w0 ρ a w s
  have hρ := s.dom k hk
  have hkk : k0 ≠ k := by rintro rfl; rw [hb] at hk; cases hk
  refine ⟨upd ρ k .nil, ?_⟩
  have hok : ∀ b, okOf ρ b → okOf (upd ρ k .nil) b := fun b hb j c n hj => by
    by_cases e : j = k
    · subst e; rw [upd_same] at hj; cases hj
    · rw [upd_other e] at hj; exact hb _ _ _ hj
  have hn : ∀ j nm, ρ j = some nm → upd ρ k .nil j = some nm := fun j nm hj => by rw [upd_other (by rintro rfl; rw [hρ] at hj; cases hj)]; exact hj
  have hp : ∀ X x, Pu (w0.heap.size ≤ ·) w (okOf ρ) X x → Pu (w0.heap.size ≤ ·) w (okOf (upd ρ k .nil)) X x := fun X x hx => hx.weak hok
  have hat : ∀ j b c n, upd ρ k .nil j = some (.at b c n) → ρ j = some (.at b c n) := fun j b c n hj => by
    by_cases e : j = k
    · subst e; rw [upd_same] at hj; cases hj
    · rw [upd_other e] at hj; exact hj
  refine ⟨⟨fun j k b c d m n hj hk => s.wf.inj _ _ _ _ _ _ _ (hat _ _ _ _ hj) (hat _ _ _ _ hk), fun k b c n hk => s.wf.lo _ _ _ _ (hat _ _ _ _ hk)⟩, s.bel, s.inv, fun j X hj => ?_, fun j hj => ?_, s.tl, fun j hj => (s.tm j hj).keep hp hn, s.df⟩
  · by_cases e : j = k
    · subst e
      rw [if_pos rfl] at hj
      cases hj
      exact ⟨.nil, upd_same _ _ _, blk_nil _ _ _ _ _ _⟩
    · rw [if_neg e] at hj
      by_cases e0 : j = k0
      · subst e0
        rw [if_pos rfl] at hj
        cases hj
        obtain ⟨nm, g1, g2⟩ := s.hp j _ hb
        obtain ⟨b, c, n, vs, q0, q1, q2, q3⟩ := g2
        refine ⟨nm, hn _ _ g1, b, c, n, vs, q0, q1, by simpa using q2, fun l hl => ?_⟩
        have hl' : l < cs.length := by simpa using hl
        rw [List.getElem_set]
        split
        · rename_i e1
          subst e1
          have h1 := q3 i hl'
          have h2 : cs[i] = .v (.slice none 0 0) := by
            rw [List.getElem?_eq_getElem hl'] at hi
            exact Option.some.inj hi
          rw [h2] at h1
          rw [h1.v_inv]
          exact .own (nm := .nil) (upd_same _ _ _)
        · exact (q3 l hl').keep hp hn
      · rw [if_neg e0] at hj
        obtain ⟨nm, g1, g2⟩ := s.hp j X hj
        exact ⟨nm, hn _ _ g1, g2.keep (fun fr X x hx => hx.weak fun b hb => ⟨hok _ hb.1, hb.2⟩) hp hn fun _ _ _ _ => rfl⟩
  · by_cases e : j = k
    · rw [if_pos e] at hj; cases hj
    · rw [if_neg e] at hj
      rw [upd_other e]
      by_cases e0 : j = k0
      · rw [if_pos e0] at hj; cases hj
      · rw [if_neg e0] at hj; exact s.dom j hj
end Go.Proofs.YtmpbfdfjcfanoaaDoor

namespace Go.Proofs.YtmpbfdfjcfanoaaDoor
open Go.RowKit Go.Deep
/-- What is not big. -/
structure FamLen (q : Fm) : Prop where
  states : q.states.length ≤ 60
  msgs : q.msgs.length ≤ 60
  vals : q.vals.length ≤ 60
  res : q.res.length ≤ 60
  init : q.init.length ≤ 60
  leader : q.leader.length ≤ 60
  lrules : q.rules.length ≤ 30
  rules : ∀ r ∈ q.rules, RuLen r
theorem famLen {q : Fm} (h : bigF q = false) : FamLen q := by
  unfold bigF at h
  simp only [Bool.or_eq_false_iff, decide_eq_false_iff_not] at h
  obtain ⟨⟨⟨⟨⟨⟨⟨⟨⟨⟨⟨h0, h1⟩, h2⟩, h3⟩, h4⟩, h5⟩, h6⟩, h7⟩, h8⟩, _⟩, _⟩, _⟩ := h
  refine ⟨by omega, by omega, by omega, by omega, by omega, by omega, by omega, fun r hr => ?_⟩
  unfold bigRk at h8
  rw [List.take_length, List.any_eq_false] at h8
  have h9 := h8 r hr
  have h10 : bigR r = false := by simpa using h9
  unfold bigR at h10
  simp only [Bool.or_eq_false_iff, decide_eq_false_iff_not] at h10
  obtain ⟨⟨⟨⟨⟨⟨⟨⟨_, a1⟩, a2⟩, a3⟩, a4⟩, a5⟩, a6⟩, a7⟩, a8⟩ := h10
  exact ⟨by omega, by omega, by omega, by omega, by omega, by omega, by omega, by omega⟩
theorem newRu (r : Ru) : ∀ d ∈ (cRu r).map AV.mkFr, d.isNew = true := fun d hd => by
  obtain ⟨x, _, rfl⟩ := List.mem_map.1 hd
  cases x <;> rfl
theorem cellRu (r : Ru) : ∀ d ∈ (cRu r).map AV.mkFr, d.cell = true := fun d hd => by
  simp only [cRu, List.map_cons, List.map_nil, List.mem_cons, List.not_mem_nil, or_false] at hd
  rcases hd with rfl | rfl | rfl | rfl | rfl | rfl | rfl | rfl | rfl | rfl | rfl | rfl | rfl | rfl | rfl | rfl | rfl | rfl <;> rfl
theorem snocRu {rs : List Ru} {k : Nat} (h : k < rs.length) : (rs.take k).flatMap cRu ++ rowCells true ((cRu rs[k]).map AV.mkFr) = (rs.take (k + 1)).flatMap cRu := by
  rw [List.take_succ_eq_append_getElem h, List.flatMap_append]
  congr 1
end Go.Proofs.YtmpbfdfjcfanoaaDoor

namespace Go.Proofs.YtmpbfdfjcfanoaaDoor
open Go.RowKit Go.Deep
variable {J : World → Prop}
theorem ruInts {r : Ru} (h : RuOk r) : InOk [r.kind, r.frm, r.to, r.pf, r.pt, r.rd, r.wr, r.pos, r.dir] := fun x hx => by
  simp only [List.mem_cons, List.not_mem_nil, or_false] at hx
  rcases hx with rfl | rfl | rfl | rfl | rfl | rfl | rfl | rfl | rfl
  · exact h.kind
  · exact h.frm
  · exact h.to
  · exact h.pf
  · exact h.pt
  · exact h.rd
  · exact h.wr
  · exact h.pos
  · exact h.dir
end Go.Proofs.YtmpbfdfjcfanoaaDoor

namespace Go.Proofs.YtmpbfdfjcfanoaaDoor
open Go.RowKit Go.Deep

/-- The first k elements are the same. -/
def sameK (xs ys : List Int) (k : Nat) : Prop := xs.take k = ys.take k
theorem sameK_succ {xs ys : List Int} {k : Nat} (h : k < xs.length) (h' : k < ys.length) (hk : sameK xs ys k) (e : xs[k] = ys[k]) : sameK xs ys (k + 1) := by
  unfold sameK at *; rw [List.take_succ_eq_append_getElem h, List.take_succ_eq_append_getElem h', hk, e]
theorem eqI_differ {xs ys : List Int} {k : Nat} (h : k < xs.length) (h' : k < ys.length) (e : xs[k] ≠ ys[k]) : eqI xs ys = false := by
  unfold eqI; rw [decide_eq_false_iff_not]; rintro rfl; exact e rfl
theorem eqI_len {xs ys : List Int} (h : xs.length ≠ ys.length) : eqI xs ys = false := by
  unfold eqI; rw [decide_eq_false_iff_not]; rintro rfl; exact h rfl
theorem eqI_end {xs ys : List Int} {k : Nat} (h : k = xs.length) (h' : k = ys.length) (hk : sameK xs ys k) : eqI xs ys = true := by
  unfold sameK at hk; rw [List.take_of_length_le (by omega), List.take_of_length_le (by omega)] at hk
  unfold eqI; rw [decide_eq_true_iff]; exact hk

set_option maxHeartbeats 800000 in
theorem Equal_full (b off n cap b' off' n' cap' : Nat) (w : World) (xs ys : List Int) (hx : xs.length = n) (hy : ys.length = n') (hn : n ≤ 9223372036854775807) (hb : b < w.heap.size) (hb' : b' < w.heap.size)
    (hc : ∀ i, i < n → w.cell? ⟨b, off + i, none⟩ = some (.int .i64 (xs.getD i 0))) (hc' : ∀ i, i < n' → w.cell? ⟨b', off' + i, none⟩ = some (.int .i64 (ys.getD i 0))) :
    Calls Tryd.prog 73 #[.slice (some ⟨b, off, none⟩) n cap, .slice (some ⟨b', off', none⟩) n' cap'] w fun e w' => e = .returned (.bool (eqI xs ys)) ∧ Below w.heap.size w w' := by
  by_cases hnn : n = n'
  · subst hnn
    go_enter Tryd.func73, Tryd.ntmps73
    go_wp2_with fail
    go_loopw [13] (fun v wr => ∃ k : Nat, k ≤ n ∧ v = .int .i64 k ∧ sameK xs ys k ∧ Below w.heap.size w wr) (fun v _ => n - (intOf v).toNat)
    case atStart => exact ⟨0, Nat.zero_le _, rfl, rfl, Below.refl _ _⟩
    case round =>
      obtain ⟨k, hk, rfl, hs, hB⟩ := hrel
      have HS := Lib.hid hs
      have HB := Lib.hid hB
      clear hs
      by_cases h1 : k < n
      · have g1 : wr.cell? ⟨b, off + k, none⟩ = some (.int .i64 (xs.getD k 0)) := (hB.cell (p := ⟨b, off + k, none⟩) hb).trans (hc k h1)
        have g2 : wr.cell? ⟨b', off' + k, none⟩ = some (.int .i64 (ys.getD k 0)) := (hB.cell (p := ⟨b', off' + k, none⟩) hb').trans (hc' k h1)
        have ex : xs.getD k 0 = xs[k]'(by omega) := by simp [List.getD, List.getElem?_eq_getElem (show k < xs.length by omega)]
        have ey : ys.getD k 0 = ys[k]'(by omega) := by simp [List.getD, List.getElem?_eq_getElem (show k < ys.length by omega)]
        rw [ex] at g1
        rw [ey] at g2
        generalize hX : xs[k]'(by omega) = x at g1
        generalize hY : ys[k]'(by omega) = y at g2
        have HX := Lib.hid hX
        have HY := Lib.hid hY
        clear hB ex ey hX hY
        by_cases he : x = y
        · have HE := Lib.hid he
          have e1 : (x == y) = true := by simp [he]
          have e2 : (x != y) = false := by rw [bne, e1]; rfl
          clear he
          go_wp2_with fail
          go_quiet (fail)
          go_wp2_with fail
          go_roundw
          case rel => exact ⟨k + 1, by omega, by go_num, sameK_succ (by omega) (by omega) HS.out (by rw [HX.out, HY.out]; exact HE.out), quietBelow HB.out _⟩
          case measure => simp [intOf]; omega
        · have HE := Lib.hid he
          have e1 : (x == y) = false := by simp [he]
          have e2 : (x != y) = true := by rw [bne, e1]; rfl
          clear he
          go_wp2_with fail
          go_quiet (fail)
          go_wp2_with fail
          go_ret
          exact ⟨ret_bool (by rw [eqI_differ (k := k) (by omega) (by omega) (by rw [HX.out, HY.out]; exact HE.out)]), quietBelow HB.out _⟩
      · clear hB
        go_wp2_with fail
        go_ret
        exact ⟨ret_bool (by rw [eqI_end (k := k) (by omega) (by omega) HS.out]), HB.out⟩
  · have h1 : (((n : Nat) : Int) == ((n' : Nat) : Int)) = false := by simp; omega
    have h2 : (((n : Nat) : Int) != ((n' : Nat) : Int)) = true := by rw [bne, h1]; rfl
    have E := Lib.hid (eqI_len (xs := xs) (ys := ys) (by rw [hx, hy]; exact hnn))
    clear hnn
    go_enter Tryd.func73, Tryd.ntmps73
    go_wp2_with fail
    go_ret
    exact ⟨ret_bool (by rw [E.out]), Below.refl _ _⟩
theorem Equal_left (a a' : Option Addr) (cap n' cap' : Nat) (w : World) (ys : List Int) (hy : ys.length = n') (hn : n' ≤ 9223372036854775807) :
    Calls Tryd.prog 73 #[.slice a 0 cap, .slice a' n' cap'] w fun e w' => e = .returned (.bool (eqI [] ys)) ∧ Below w.heap.size w w' := by
  by_cases h0 : n' = 0
  · subst h0
    obtain rfl := List.eq_nil_of_length_eq_zero hy
    go_enter Tryd.func73, Tryd.ntmps73
    go_wp2_with fail
    refine wp_loop_rounds 1 ?_
    rw [rounds_succ]
    go_wp2_with fail
    go_ret
    exact ⟨rfl, Below.refl _ _⟩
  · have h1 : (((0 : Nat) : Int) == ((n' : Nat) : Int)) = false := by simp; omega
    have h1' : ((0 : Int) == ((n' : Nat) : Int)) = false := by simp; omega
    have h2 : ((0 : Int) != ((n' : Nat) : Int)) = true := by rw [bne, h1']; rfl
    have E := Lib.hid (eqI_len (xs := []) (ys := ys) (by simp; omega))
    clear h0
    go_enter Tryd.func73, Tryd.ntmps73
    go_wp2_with fail
    go_ret
    exact ⟨ret_bool (by rw [E.out]), Below.refl _ _⟩
theorem Equal_right (a a' : Option Addr) (n cap cap' : Nat) (w : World) (x : Int) (xs : List Int) (hx : (x :: xs).length = n) (hn : n ≤ 9223372036854775807) :
    Calls Tryd.prog 73 #[.slice a n cap, .slice a' 0 cap'] w fun e w' => e = .returned (.bool (eqI (x :: xs) [])) ∧ Below w.heap.size w w' := by
  have h0 : 0 < n := by simp at hx; omega
  have h1 : (((n : Nat) : Int) == (0 : Int)) = false := by simp; omega
  have h2 : (((n : Nat) : Int) != (0 : Int)) = true := by rw [bne, h1]; rfl
  have E := Lib.hid (eqI_len (xs := x :: xs) (ys := []) (by simp))
  clear hx
  go_enter Tryd.func73, Tryd.ntmps73
  go_wp2_with fail
  go_ret
  exact ⟨ret_bool (by rw [E.out]), Below.refl _ _⟩
theorem Equal_any {lo lo' : Nat} {w : World} {v v' : Value} {xs ys : List Int} (h : IsInts lo w v xs) (h' : IsInts lo' w v' ys) :
    Calls Tryd.prog 73 #[v, v'] w fun e w' => e = .returned (.bool (eqI xs ys)) ∧ Below w.heap.size w w' := by
  obtain ⟨a, cap, rfl, hl, hm, hi, hc⟩ := h
  obtain ⟨a', cap', rfl, hl', hm', hi', hc'⟩ := h'
  unfold maxLen at hm hm'
  rcases hc with rfl | ⟨b, off, rfl, _, hb, hc⟩
  · exact Equal_left _ _ _ _ _ _ _ rfl (by omega)
  · rcases hc' with rfl | ⟨b', off', rfl, _, hb', hc'⟩
    · cases xs with
      | nil => exact Equal_left _ _ _ _ _ _ _ rfl (by simp)
      | cons x xs => exact Equal_right _ _ _ _ _ _ _ _ rfl (by omega)
    · exact Equal_full _ _ _ _ _ _ _ _ _ _ _ rfl rfl (by omega) hb hb' hc hc'
end Go.Proofs.YtmpbfdfjcfanoaaDoor

namespace Go.Proofs.YtmpbfdfjcfanoaaDoor
open Go.RowKit Go.Deep
deriving instance DecidableEq for Ru
deriving instance DecidableEq for Fm
theorem str_eq {s t : ByteArray} : (s.toList == t.toList) = true ↔ s = t := by
  rw [beq_iff_eq, ByteArray.toList_eq, ByteArray.toList_eq]
  constructor
  · intro h
    obtain ⟨a⟩ := s
    obtain ⟨b⟩ := t
    have h2 : a.toList = b.toList := h
    rw [show a = b from by simpa using congrArg List.toArray h2]
  · rintro rfl; rfl
theorem str_ne {s t : ByteArray} (h : (s.toList == t.toList) = false) : s ≠ t := fun e => by rw [str_eq.2 e] at h; cases h
def agK {α : Type} (xs ys : List α) (k : Nat) : Prop := ∀ i (h : i < xs.length) (h' : i < ys.length), i < k → xs[i] = ys[i]
section
variable {α : Type} {xs ys : List α} {k : Nat}
theorem agK_zero (xs ys : List α) : agK xs ys 0 := fun _ _ _ h => absurd h (by omega)
theorem agK_succ (h1 : k < xs.length) (h2 : k < ys.length) (h : agK xs ys k) (e : xs[k] = ys[k]) : agK xs ys (k + 1) := fun i a b c => by
  by_cases x : i = k
  · subst x; exact e
  · exact h i a b (by omega)
variable [DecidableEq α]
theorem ag_end (hl : ((xs.length : Nat) : Int) = ((ys.length : Nat) : Int)) (hk : ¬ k < xs.length) (h : agK xs ys k) : decide (xs = ys) = true := by
  rw [decide_eq_true_eq]; exact List.ext_getElem (by omega) fun i a b => h i a b (by omega)
theorem ag_no (h1 : k < xs.length) (h2 : k < ys.length) (e : ¬ xs[k] = ys[k]) : decide (xs = ys) = false := by
  rw [decide_eq_false_iff_not]; rintro rfl; exact e rfl
theorem ag_len (hl : ¬ ((xs.length : Nat) : Int) = ((ys.length : Nat) : Int)) : decide (xs = ys) = false := by
  rw [decide_eq_false_iff_not]; rintro rfl; exact hl rfl
end
section
variable {P : Program} {J : World → Prop} {o : Oper}
theorem sp_aggNeqG {T ty : TypeId} {x y : Operand} (xs ys : List Value) {b : Bool} (r : Bool) (ho : o.op = .binOp .neq T x y ty) (hm : P.eqGuardType P.depth T = false) (H : ∀ w, (Op.equalIn 10000 T (.agg xs.toArray) (.agg ys.toArray)).run P w = .ok b w) (hr : b = !r) :
    ASpec P J o [(x, .agg (xs.map AV.v)), (y, .agg (ys.map AV.v))] [] (.v (.bool r)) .no :=
  aspec_val fun ρ B a w _ ha _ => by
    have h1 := agg_known (ha (x, .agg (xs.map AV.v)) (by simp))
    have h2 := agg_known (ha (y, .agg (ys.map AV.v)) (by simp))
    refine ⟨.bool r, ?_, .pu (.v _)⟩
    simp only [execOp, ho, h1, h2]
    refine run_val ?_
    rw [Sem.run_bind, run_eqGuard_agg w .neq T x y _ _ hm, Result.andThen_ok, run_neq_struct, H w, hr]
    simp
end
theorem eqg_ln (l m : Ln) (w : World) : (Op.equalIn 10000 53 (.agg [.int .i64 l.c, .int .i64 l.n, .int .i64 l.t, .int .i64 l.f].toArray) (.agg [.int .i64 m.c, .int .i64 m.n, .int .i64 m.t, .int .i64 m.f].toArray)).run Tryd.prog w = .ok (decide (l = m)) w := by
  rw [run_equalIn_agg w 9999 _ _ _ (by kernel_rfl) (by kernel_rfl)]
  rw [show (Program.fieldsOf Tryd.prog 53).toList = _ from by unfold Program.fieldsOf; rw [Tryd.underlying53]]
  obtain ⟨a, b, c, d⟩ := l
  obtain ⟨e, f, g, h⟩ := m
  by_cases h1 : a = e
  · by_cases h2 : b = f
    · by_cases h3 : c = g
      · by_cases h4 : d = h
        · simp [go_sem, Op.eqFields, part, asAgg, isAgg, Tryd.underlying3, run_underlying, h1, h2, h3, h4]
        · simp [go_sem, Op.eqFields, part, asAgg, isAgg, Tryd.underlying3, run_underlying, h1, h2, h3, h4]
      · simp [go_sem, Op.eqFields, part, asAgg, isAgg, Tryd.underlying3, run_underlying, h1, h2, h3]
    · simp [go_sem, Op.eqFields, part, asAgg, isAgg, Tryd.underlying3, run_underlying, h1, h2]
  · simp [go_sem, Op.eqFields, part, asAgg, isAgg, Tryd.underlying3, run_underlying, h1]
variable {J : World → Prop}
theorem sameIntsG (xs ys : List Int) (hx : InOk xs) (hy : InOk ys) : Ctr Tryd.prog J 35 [intsA xs, intsA ys] (bv (decide (xs = ys))) := ctr2 fun w v v' _ h h' =>
  (SameInts_any (pu_ints hx lo0 h) (pu_ints hy lo0 h')).mono fun _ _ => ret_sc
theorem eqIntsG (xs ys : List Int) (hx : InOk xs) (hy : InOk ys) : Ctr Tryd.prog J 73 [intsA xs, intsA ys] (bv (decide (xs = ys))) := ctr2 fun w v v' _ h h' =>
  (Equal_any (pu_ints hx lo0 h) (pu_ints hy lo0 h')).mono fun _ _ => ret_sc
theorem sameThG (g k : Th) : Ctr Tryd.prog J 103 [.agg (cTh g), .agg (cTh k)] (bv (decide (g = k))) := ctr2 fun w v v' _ h h' => by
  have e : ∀ {g : Th} {v : Value}, Pu (fun _ => True) w (fun b => b < w.heap.size) (.agg (cTh g)) v → v = .agg #[.int .i64 g.msg, .int .i64 g.coef, .int .i64 g.bd.c, .int .i64 g.bd.n, .int .i64 g.bd.t, .int .i64 g.bd.f] := fun {g} {v} h => by
    obtain ⟨vs, rfl, hl, hv⟩ := agg_cells h
    rw [cells6 hl, (hv 0 (by simp [cTh])).v_inv, (hv 1 (by simp [cTh])).v_inv, (hv 2 (by simp [cTh])).v_inv, (hv 3 (by simp [cTh])).v_inv, (hv 4 (by simp [cTh])).v_inv, (hv 5 (by simp [cTh])).v_inv]
  rw [e h, e h']
  exact (SameTh_any g.msg g.coef g.bd.c g.bd.n g.bd.t g.bd.f k.msg k.coef k.bd.c k.bd.n k.bd.t k.bd.f w).mono fun _ _ => ret_sc
theorem samePartsG {r s : Ru} (hr : RuOk r) (hs : RuOk s) : Ctr Tryd.prog J 83 [.agg (cRu r), .agg (cRu s)] (bv (samP r s)) := ctr2 fun w v v' _ h h' => by
  obtain ⟨vs, rfl, hl, hv⟩ := agg_cells h
  obtain ⟨us, rfl, hl', hu⟩ := agg_cells h'
  exact (sameParts_any (ru_of (lo := 0) hr lo0 hl hv) (ru_of (lo := 0) hs lo0 hl' hu)).mono fun _ _ => ret_sc
structure SP (r s : Ru) : Prop where
  n9 : [r.kind, r.frm, r.to, r.pf, r.pt, r.rd, r.wr, r.pos, r.dir] = [s.kind, s.frm, s.to, s.pf, s.pt, s.rd, s.wr, s.pos, s.dir]
  resp : r.resp = s.resp
  guards : r.guards = s.guards
  ex : r.ex = s.ex
  fa : r.fa = s.fa
  send : r.send = s.send
  left : r.left = s.left
  right : r.right = s.right
  parent : r.parent = s.parent
theorem samP_sp {r s : Ru} : samP r s = true ↔ SP r s := by
  rw [samP_iff]
  constructor
  · rintro ⟨h1, h2, h3, h4, h5, h6, h7, h8, h9, h10, h11, h12, h13, h14, h15, h16, h17⟩
    exact ⟨by rw [h1, h2, h3, h4, h5, h10, h11, h13, h17], h6, h7, h8, h9, h12, h14, h15, h16⟩
  · rintro ⟨h, h6, h7, h8, h9, h12, h14, h15, h16⟩
    simp only [List.cons.injEq, and_true] at h
    obtain ⟨h1, h2, h3, h4, h5, h10, h11, h13, h17⟩ := h
    exact ⟨h1, h2, h3, h4, h5, h6, h7, h8, h9, h10, h11, h12, h13, h14, h15, h16, h17⟩
theorem samP_not {r s : Ru} {Q : Prop} (h : SP r s → Q) (n : ¬ Q) : samP r s = false := by
  cases e : samP r s with
  | false => rfl
  | true => exact absurd (h (samP_sp.1 e)) n
theorem rule_eq_iff (r s : Ru) : r = s ↔ r.nm = s.nm ∧ samP r s = true := by
  constructor
  · rintro rfl; exact ⟨rfl, samP_sp.2 ⟨rfl, rfl, rfl, rfl, rfl, rfl, rfl, rfl, rfl⟩⟩
  · rintro ⟨h, h'⟩
    rw [samP_iff] at h'
    obtain ⟨h1, h2, h3, h4, h5, h6, h7, h8, h9, h10, h11, h12, h13, h14, h15, h16, h17⟩ := h'
    cases r; cases s; simp_all
theorem dec_t {p : Prop} [Decidable p] (h : p) : decide p = true := decide_eq_true h
theorem dec_f {p q : Prop} [Decidable p] (h : p → q) (n : ¬ q) : decide p = false := decide_eq_false fun e => n (h e)
theorem fm_eq {a b : Fm} (h0 : a.nm = b.nm) (h1 : a.top = b.top) (h2 : a.states = b.states) (h3 : a.msgs = b.msgs) (h4 : a.vals = b.vals) (h5 : a.fault = b.fault) (h6 : a.res = b.res) (h7 : a.init = b.init) (h8 : a.leader = b.leader) (h9 : a.rules = b.rules) : a = b := by
  cases a; cases b; simp_all
end Go.Proofs.YtmpbfdfjcfanoaaDoor

namespace Go.Proofs.YtmpbfdfjcfanoaaDoor
open Go.RowKit Go.Deep
variable {J : World → Prop}
set_option linter.unusedSimpArgs false in
set_option linter.unusedVariables false in
set_option maxRecDepth 100000 in
set_option maxHeartbeats 6400000 in
theorem sameTextsG (xs ys : List ByteArray) (hx : xs.length ≤ 9223372036854775807) (hy : ys.length ≤ 9223372036854775807) : Ctr Tryd.prog J 63 [strsA xs, strsA ys] (bv (decide (xs = ys))) := by
 refine ctr_of_tri Tryd.func63 rfl (by intro X hX; simp only [List.mem_cons, List.not_mem_nil, or_false] at hX; rcases hX with rfl | rfl; exact plain_strs _; exact plain_strs _) (n := 26) rfl (by simp) (fun w0 => ?_)
 refine tri_wk (wk_keep [] [(0, strsA xs), (1, strsA ys)] (n := 26)) ?_
 refine tri_seq ?_
 refine tri_region ?_
 refine t_op rfl (sp_assign (.const (.bool false)) (bv false) rfl) ⟨I0, T0⟩ T0 T0 ?_
 refine tri_nil ?_
 refine tri_wk (wk_keep [] [(0, strsA xs), (1, strsA ys), (4, bv false)] (n := 26)) ?_
 refine t_then ?_
 refine tri_seq ?_
 refine tri_seq ?_
 by_cases hs1 : ((xs.length : Nat) : Int) = ((ys.length : Nat) : Int)
 refine tri_region ?_
 refine t_op rfl (sp_move (.tmp 0) (strsA xs) rfl) ⟨I0, T0⟩ T0 T0 ?_
 refine t_op rfl (sp_lenSl (.tmp 6) rfl Tryd.underlying22) ⟨I0, T0⟩ T0 T0 ?_
 refine t_op rfl (sp_move (.tmp 1) (strsA ys) rfl) ⟨I0, T0⟩ T0 T0 ?_
 refine t_op rfl (sp_lenSl (.tmp 8) rfl Tryd.underlying22) ⟨I0, T0⟩ T0 T0 ?_
 refine t_op rfl (sp_neq rfl (dT' hs1)) ⟨I0, I0, T0⟩ T0 T0 ?_
 refine tri_nil ?_
 refine tri_wk (wk_keep [] [(0, strsA xs), (1, strsA ys), (4, bv false), (10, bv false)] (n := 26)) ?_
 refine t_then ?_
 refine t_condF rfl ?_
 refine tri_skip ?_
 refine t_then ?_
 refine tri_seq ?_
 refine tri_seq ?_
 refine tri_region ?_
 refine t_op rfl (sp_assign (.const (.int .i64 0)) (iv 0) rfl) ⟨I0, T0⟩ T0 T0 ?_
 refine tri_nil ?_
 refine tri_wk (wk_keep [] [(0, strsA xs), (1, strsA ys), (4, bv false), (5, iv 0)] (n := 26)) ?_
 refine t_then ?_
 refine tri_block ?_
 refine tri_loop (σ := {k : Nat // k ≤ xs.length ∧ agK xs ys k}) (fun s => (ofL [], ofT 26 [(0, strsA xs), (1, strsA ys), (5, iv s.1)])) (fun s => xs.length - s.1) ⟨0, Nat.zero_le _, agK_zero _ _⟩ (wk_keep [] _ rfl (by kernel_rfl) (by kernel_rfl)) (fun s => ?_)
 obtain ⟨k, hk0, hs0⟩ := s
 show ETri J w0 (ofL []) (ofT 26 [(0, strsA xs), (1, strsA ys), (5, iv k)]) _
 refine tri_seq ?_
 refine tri_seq ?_
 by_cases hs2 : ((k : Nat) : Int) < ((xs.length : Nat) : Int)
 refine tri_region ?_
 refine t_op rfl (sp_move (.tmp 5) (iv k) rfl) ⟨I0, T0⟩ T0 T0 ?_
 refine t_op rfl (sp_move (.tmp 0) (strsA xs) rfl) ⟨I0, T0⟩ T0 T0 ?_
 refine t_op rfl (sp_lenSl (.tmp 12) rfl Tryd.underlying22) ⟨I0, T0⟩ T0 T0 ?_
 refine t_op rfl (sp_lss rfl (dT hs2)) ⟨I0, I0, T0⟩ T0 T0 ?_
 refine tri_nil ?_
 refine tri_wk (wk_keep [] [(0, strsA xs), (1, strsA ys), (5, iv k), (14, bv true)] (n := 26)) ?_
 refine t_then ?_
 refine t_condT rfl ?_
 refine tri_skip ?_
 refine t_then ?_
 refine tri_seq ?_
 refine tri_block ?_
 refine tri_seq ?_
 by_cases hs3 : (xs[k].toList == ys[k].toList) = true
 refine tri_draw [⟨[(.tmp 0, strsA xs)], [], strsA xs, .no⟩, ⟨[(.tmp 5, iv k)], [], iv k, .no⟩, ⟨[(.tmp 17, strsA xs), (.tmp 18, iv k)], [], .el (xs.map sv) (k * 1), .no⟩, ⟨[(.tmp 19, .el (xs.map sv) (k * 1))], [], sv xs[k], .no⟩, ⟨[(.tmp 1, strsA ys)], [], strsA ys, .no⟩, ⟨[(.tmp 5, iv k)], [], iv k, .no⟩, ⟨[(.tmp 21, strsA ys), (.tmp 22, iv k)], [], .el (ys.map sv) (k * 1), .no⟩, ⟨[(.tmp 23, .el (ys.map sv) (k * 1))], [], sv ys[k], .no⟩, ⟨[(.tmp 20, sv xs[k]), (.tmp 24, sv ys[k])], [], bv false, .no⟩] (by kernel_rfl) (by kernel_rfl) ?_
 refine ⟨app_yes rfl (sp_move (.tmp 0) (strsA xs) rfl) ⟨I0, T0⟩ T0 T0, ?_⟩
 refine ⟨app_yes rfl (sp_move (.tmp 5) (iv k) rfl) ⟨I0, T0⟩ T0 T0, ?_⟩
 refine ⟨app_yes rfl (sp_indexSl (off := k * 1) (.tmp 17) (.tmp 18) rfl Tryd.underlying22 (by kernel_rfl) (by omega) (by omega) rfl) ⟨I0, I0, T0⟩ T0 T0, ?_⟩
 refine ⟨app_yes rfl (sp_loadEl1 (X := sv xs[k]) (.tmp 19) rfl Tryd.underlying9 rfl (map_at1 xs (by omega))) ⟨I0, T0⟩ T0 T0, ?_⟩
 refine ⟨app_yes rfl (sp_move (.tmp 1) (strsA ys) rfl) ⟨I0, T0⟩ T0 T0, ?_⟩
 refine ⟨app_yes rfl (sp_move (.tmp 5) (iv k) rfl) ⟨I0, T0⟩ T0 T0, ?_⟩
 refine ⟨app_yes rfl (sp_indexSl (off := k * 1) (.tmp 21) (.tmp 22) rfl Tryd.underlying22 (by kernel_rfl) (by omega) (by omega) rfl) ⟨I0, I0, T0⟩ T0 T0, ?_⟩
 refine ⟨app_yes rfl (sp_loadEl1 (X := sv ys[k]) (.tmp 23) rfl Tryd.underlying9 rfl (map_at1 ys (by omega))) ⟨I0, T0⟩ T0 T0, ?_⟩
 refine ⟨app_yes rfl (sp_sneq (r := false) rfl hs3) ⟨I0, I0, T0⟩ T0 T0, ?_⟩
 show ETri J w0 _ _ _
 refine tri_wk (wk_keep [] [(0, strsA xs), (1, strsA ys), (5, iv k), (14, bv true), (25, bv false)] (n := 26)) ?_
 refine t_then ?_
 refine t_condF rfl ?_
 refine tri_skip ?_
 refine t_block ?_
 refine t_then ?_
 refine tri_region ?_
 refine t_op rfl (sp_move (.tmp 5) (iv k) rfl) ⟨I0, T0⟩ T0 T0 ?_
 refine t_op rfl (sp_add (c := ((k + 1 : Nat) : Int)) rfl (w64 (by omega) (by omega) (by omega))) ⟨I0, I0, T0⟩ T0 T0 ?_
 refine t_op rfl (sp_assign (.tmp 16) (iv (k + 1 : Nat)) rfl) ⟨I0, T0⟩ T0 T0 ?_
 refine tri_nil ?_
 refine tri_wk (wk_keep [] [(0, strsA xs), (1, strsA ys), (5, iv (k + 1 : Nat)), (14, bv true), (25, bv false)] (n := 26)) ?_
 refine t_then ?_
 refine tri_again ⟨k + 1, by omega, agK_succ (by omega) (by omega) hs0 (str_eq.1 hs3)⟩ (show xs.length - (k + 1) < xs.length - k by omega) ?_
 exact wk_keep [] _ rfl (by kernel_rfl) (by kernel_rfl)
 have hs3f : (xs[k].toList == ys[k].toList) = false := by simpa using hs3
 refine tri_draw [⟨[(.tmp 0, strsA xs)], [], strsA xs, .no⟩, ⟨[(.tmp 5, iv k)], [], iv k, .no⟩, ⟨[(.tmp 17, strsA xs), (.tmp 18, iv k)], [], .el (xs.map sv) (k * 1), .no⟩, ⟨[(.tmp 19, .el (xs.map sv) (k * 1))], [], sv xs[k], .no⟩, ⟨[(.tmp 1, strsA ys)], [], strsA ys, .no⟩, ⟨[(.tmp 5, iv k)], [], iv k, .no⟩, ⟨[(.tmp 21, strsA ys), (.tmp 22, iv k)], [], .el (ys.map sv) (k * 1), .no⟩, ⟨[(.tmp 23, .el (ys.map sv) (k * 1))], [], sv ys[k], .no⟩, ⟨[(.tmp 20, sv xs[k]), (.tmp 24, sv ys[k])], [], bv true, .no⟩] (by kernel_rfl) (by kernel_rfl) ?_
 refine ⟨app_yes rfl (sp_move (.tmp 0) (strsA xs) rfl) ⟨I0, T0⟩ T0 T0, ?_⟩
 refine ⟨app_yes rfl (sp_move (.tmp 5) (iv k) rfl) ⟨I0, T0⟩ T0 T0, ?_⟩
 refine ⟨app_yes rfl (sp_indexSl (off := k * 1) (.tmp 17) (.tmp 18) rfl Tryd.underlying22 (by kernel_rfl) (by omega) (by omega) rfl) ⟨I0, I0, T0⟩ T0 T0, ?_⟩
 refine ⟨app_yes rfl (sp_loadEl1 (X := sv xs[k]) (.tmp 19) rfl Tryd.underlying9 rfl (map_at1 xs (by omega))) ⟨I0, T0⟩ T0 T0, ?_⟩
 refine ⟨app_yes rfl (sp_move (.tmp 1) (strsA ys) rfl) ⟨I0, T0⟩ T0 T0, ?_⟩
 refine ⟨app_yes rfl (sp_move (.tmp 5) (iv k) rfl) ⟨I0, T0⟩ T0 T0, ?_⟩
 refine ⟨app_yes rfl (sp_indexSl (off := k * 1) (.tmp 21) (.tmp 22) rfl Tryd.underlying22 (by kernel_rfl) (by omega) (by omega) rfl) ⟨I0, I0, T0⟩ T0 T0, ?_⟩
 refine ⟨app_yes rfl (sp_loadEl1 (X := sv ys[k]) (.tmp 23) rfl Tryd.underlying9 rfl (map_at1 ys (by omega))) ⟨I0, T0⟩ T0 T0, ?_⟩
 refine ⟨app_yes rfl (sp_sneq (r := true) rfl hs3f) ⟨I0, I0, T0⟩ T0 T0, ?_⟩
 show ETri J w0 _ _ _
 refine tri_wk (wk_keep [] [(0, strsA xs), (1, strsA ys), (5, iv k), (14, bv true), (25, bv true)] (n := 26)) ?_
 refine t_then ?_
 refine t_condT rfl ?_
 refine tri_seq ?_
 refine tri_region ?_
 refine t_op rfl (sp_assign (.const (.bool false)) (bv false) rfl) ⟨I0, T0⟩ T0 T0 ?_
 refine tri_nil ?_
 refine tri_wk (wk_keep [] [(0, strsA xs), (1, strsA ys), (4, bv false), (5, iv k), (14, bv true), (25, bv true)] (n := 26)) ?_
 refine t_then ?_
 refine tri_ret ?_
 refine t_block_ret ?_
 refine t_then_ret ?_
 refine t_then_ret ?_
 refine t_block_ret ?_
 refine t_then_ret ?_
 refine tri_end1 Tryd.results63 (.tmp rfl) ?_
 exact congrArg (fun x : Bool => AV.v (.bool x)) ((ag_no (k := k) (by omega) (by omega) (str_ne hs3f)).symm)
 refine tri_region ?_
 refine t_op rfl (sp_move (.tmp 5) (iv k) rfl) ⟨I0, T0⟩ T0 T0 ?_
 refine t_op rfl (sp_move (.tmp 0) (strsA xs) rfl) ⟨I0, T0⟩ T0 T0 ?_
 refine t_op rfl (sp_lenSl (.tmp 12) rfl Tryd.underlying22) ⟨I0, T0⟩ T0 T0 ?_
 refine t_op rfl (sp_lss rfl (dF hs2)) ⟨I0, I0, T0⟩ T0 T0 ?_
 refine tri_nil ?_
 refine tri_wk (wk_keep [] [(0, strsA xs), (1, strsA ys), (5, iv k), (14, bv false)] (n := 26)) ?_
 refine t_then ?_
 refine t_condF rfl ?_
 refine tri_exit ?_
 refine t_then_exit ?_
 refine t_then_exit ?_
 refine t_hit ?_
 refine t_then ?_
 refine tri_seq ?_
 refine tri_region ?_
 refine t_op rfl (sp_assign (.const (.bool true)) (bv true) rfl) ⟨I0, T0⟩ T0 T0 ?_
 refine tri_nil ?_
 refine tri_wk (wk_keep [] [(4, bv true)] (n := 26)) ?_
 refine t_then ?_
 refine tri_ret ?_
 refine tri_end1 Tryd.results63 (.tmp rfl) ?_
 exact congrArg (fun x : Bool => AV.v (.bool x)) ((ag_end hs1 (by omega) hs0).symm)
 refine tri_region ?_
 refine t_op rfl (sp_move (.tmp 0) (strsA xs) rfl) ⟨I0, T0⟩ T0 T0 ?_
 refine t_op rfl (sp_lenSl (.tmp 6) rfl Tryd.underlying22) ⟨I0, T0⟩ T0 T0 ?_
 refine t_op rfl (sp_move (.tmp 1) (strsA ys) rfl) ⟨I0, T0⟩ T0 T0 ?_
 refine t_op rfl (sp_lenSl (.tmp 8) rfl Tryd.underlying22) ⟨I0, T0⟩ T0 T0 ?_
 refine t_op rfl (sp_neq rfl (dF' hs1)) ⟨I0, I0, T0⟩ T0 T0 ?_
 refine tri_nil ?_
 refine tri_wk (wk_keep [] [(0, strsA xs), (1, strsA ys), (4, bv false), (10, bv true)] (n := 26)) ?_
 refine t_then ?_
 refine t_condT rfl ?_
 refine tri_seq ?_
 refine tri_region ?_
 refine t_op rfl (sp_assign (.const (.bool false)) (bv false) rfl) ⟨I0, T0⟩ T0 T0 ?_
 refine tri_nil ?_
 refine tri_wk (wk_keep [] [(0, strsA xs), (1, strsA ys), (4, bv false)] (n := 26)) ?_
 refine t_then ?_
 refine tri_ret ?_
 refine t_then_ret ?_
 refine tri_end1 Tryd.results63 (.tmp rfl) ?_
 exact congrArg (fun x : Bool => AV.v (.bool x)) ((ag_len hs1).symm)
set_option linter.unusedSimpArgs false in
set_option linter.unusedVariables false in
set_option maxRecDepth 100000 in
set_option maxHeartbeats 6400000 in
theorem eqTextsG (xs ys : List ByteArray) (hx : xs.length ≤ 9223372036854775807) (hy : ys.length ≤ 9223372036854775807) : Ctr Tryd.prog J 71 [strsA xs, strsA ys] (bv (decide (xs = ys))) := by
 refine ctr_of_tri Tryd.func71 rfl (by intro X hX; simp only [List.mem_cons, List.not_mem_nil, or_false] at hX; rcases hX with rfl | rfl; exact plain_strs _; exact plain_strs _) (n := 26) rfl (by simp) (fun w0 => ?_)
 refine tri_wk (wk_keep [] [(0, strsA xs), (1, strsA ys)] (n := 26)) ?_
 refine tri_seq ?_
 refine tri_region ?_
 refine t_op rfl (sp_assign (.const (.bool false)) (bv false) rfl) ⟨I0, T0⟩ T0 T0 ?_
 refine tri_nil ?_
 refine tri_wk (wk_keep [] [(0, strsA xs), (1, strsA ys), (4, bv false)] (n := 26)) ?_
 refine t_then ?_
 refine tri_seq ?_
 refine tri_seq ?_
 by_cases hs1 : ((xs.length : Nat) : Int) = ((ys.length : Nat) : Int)
 refine tri_region ?_
 refine t_op rfl (sp_move (.tmp 0) (strsA xs) rfl) ⟨I0, T0⟩ T0 T0 ?_
 refine t_op rfl (sp_lenSl (.tmp 6) rfl Tryd.underlying22) ⟨I0, T0⟩ T0 T0 ?_
 refine t_op rfl (sp_move (.tmp 1) (strsA ys) rfl) ⟨I0, T0⟩ T0 T0 ?_
 refine t_op rfl (sp_lenSl (.tmp 8) rfl Tryd.underlying22) ⟨I0, T0⟩ T0 T0 ?_
 refine t_op rfl (sp_neq rfl (dT' hs1)) ⟨I0, I0, T0⟩ T0 T0 ?_
 refine tri_nil ?_
 refine tri_wk (wk_keep [] [(0, strsA xs), (1, strsA ys), (4, bv false), (10, bv false)] (n := 26)) ?_
 refine t_then ?_
 refine t_condF rfl ?_
 refine tri_skip ?_
 refine t_then ?_
 refine tri_seq ?_
 refine tri_seq ?_
 refine tri_region ?_
 refine t_op rfl (sp_move (.tmp 0) (strsA xs) rfl) ⟨I0, T0⟩ T0 T0 ?_
 refine t_op rfl (sp_lenSl (.tmp 11) rfl Tryd.underlying22) ⟨I0, T0⟩ T0 T0 ?_
 refine t_op rfl (sp_move (.const (.int .i64 0)) (iv 0) rfl) ⟨I0, T0⟩ T0 T0 ?_
 refine tri_nil ?_
 refine tri_wk (wk_keep [] [(0, strsA xs), (1, strsA ys), (4, bv false), (12, iv xs.length), (13, iv 0)] (n := 26)) ?_
 refine t_then ?_
 refine tri_block ?_
 refine tri_loop (σ := {k : Nat // k ≤ xs.length ∧ agK xs ys k}) (fun s => (ofL [], ofT 26 [(0, strsA xs), (1, strsA ys), (12, iv xs.length), (13, iv s.1)])) (fun s => xs.length - s.1) ⟨0, Nat.zero_le _, agK_zero _ _⟩ (wk_keep [] _ rfl (by kernel_rfl) (by kernel_rfl)) (fun s => ?_)
 obtain ⟨k, hk0, hs0⟩ := s
 show ETri J w0 (ofL []) (ofT 26 [(0, strsA xs), (1, strsA ys), (12, iv xs.length), (13, iv k)]) _
 refine tri_seq ?_
 by_cases hs2 : ((k : Nat) : Int) < ((xs.length : Nat) : Int)
 refine tri_region ?_
 refine t_op rfl (sp_lss rfl (dT hs2)) ⟨I0, I0, T0⟩ T0 T0 ?_
 refine tri_nil ?_
 refine tri_wk (wk_keep [] [(0, strsA xs), (1, strsA ys), (12, iv xs.length), (13, iv k), (14, bv true)] (n := 26)) ?_
 refine t_then ?_
 refine tri_seq ?_
 refine t_condT rfl ?_
 refine tri_skip ?_
 refine t_then ?_
 refine tri_seq ?_
 refine tri_block ?_
 refine tri_seq ?_
 refine tri_region ?_
 refine t_op rfl (sp_move (.tmp 13) (iv k) rfl) ⟨I0, T0⟩ T0 T0 ?_
 refine t_op rfl (sp_assign (.tmp 15) (iv k) rfl) ⟨I0, T0⟩ T0 T0 ?_
 refine tri_nil ?_
 refine tri_wk (wk_keep [] [(0, strsA xs), (1, strsA ys), (5, iv k), (12, iv xs.length), (13, iv k), (14, bv true)] (n := 26)) ?_
 refine t_then ?_
 refine tri_seq ?_
 by_cases hs3 : (xs[k].toList == ys[k].toList) = true
 refine tri_draw [⟨[(.tmp 0, strsA xs)], [], strsA xs, .no⟩, ⟨[(.tmp 5, iv k)], [], iv k, .no⟩, ⟨[(.tmp 16, strsA xs), (.tmp 17, iv k)], [], .el (xs.map sv) (k * 1), .no⟩, ⟨[(.tmp 18, .el (xs.map sv) (k * 1))], [], sv xs[k], .no⟩, ⟨[(.tmp 1, strsA ys)], [], strsA ys, .no⟩, ⟨[(.tmp 5, iv k)], [], iv k, .no⟩, ⟨[(.tmp 20, strsA ys), (.tmp 21, iv k)], [], .el (ys.map sv) (k * 1), .no⟩, ⟨[(.tmp 22, .el (ys.map sv) (k * 1))], [], sv ys[k], .no⟩, ⟨[(.tmp 19, sv xs[k]), (.tmp 23, sv ys[k])], [], bv false, .no⟩] (by kernel_rfl) (by kernel_rfl) ?_
 refine ⟨app_yes rfl (sp_move (.tmp 0) (strsA xs) rfl) ⟨I0, T0⟩ T0 T0, ?_⟩
 refine ⟨app_yes rfl (sp_move (.tmp 5) (iv k) rfl) ⟨I0, T0⟩ T0 T0, ?_⟩
 refine ⟨app_yes rfl (sp_indexSl (off := k * 1) (.tmp 16) (.tmp 17) rfl Tryd.underlying22 (by kernel_rfl) (by omega) (by omega) rfl) ⟨I0, I0, T0⟩ T0 T0, ?_⟩
 refine ⟨app_yes rfl (sp_loadEl1 (X := sv xs[k]) (.tmp 18) rfl Tryd.underlying9 rfl (map_at1 xs (by omega))) ⟨I0, T0⟩ T0 T0, ?_⟩
 refine ⟨app_yes rfl (sp_move (.tmp 1) (strsA ys) rfl) ⟨I0, T0⟩ T0 T0, ?_⟩
 refine ⟨app_yes rfl (sp_move (.tmp 5) (iv k) rfl) ⟨I0, T0⟩ T0 T0, ?_⟩
 refine ⟨app_yes rfl (sp_indexSl (off := k * 1) (.tmp 20) (.tmp 21) rfl Tryd.underlying22 (by kernel_rfl) (by omega) (by omega) rfl) ⟨I0, I0, T0⟩ T0 T0, ?_⟩
 refine ⟨app_yes rfl (sp_loadEl1 (X := sv ys[k]) (.tmp 22) rfl Tryd.underlying9 rfl (map_at1 ys (by omega))) ⟨I0, T0⟩ T0 T0, ?_⟩
 refine ⟨app_yes rfl (sp_sneq (r := false) rfl hs3) ⟨I0, I0, T0⟩ T0 T0, ?_⟩
 show ETri J w0 _ _ _
 refine tri_wk (wk_keep [] [(0, strsA xs), (1, strsA ys), (5, iv k), (12, iv xs.length), (13, iv k), (14, bv true), (24, bv false)] (n := 26)) ?_
 refine t_then ?_
 refine t_condF rfl ?_
 refine tri_skip ?_
 refine t_block ?_
 refine t_then ?_
 refine tri_region ?_
 refine t_op rfl (sp_add (c := ((k + 1 : Nat) : Int)) rfl (w64 (by omega) (by omega) (by omega))) ⟨I0, I0, T0⟩ T0 T0 ?_
 refine t_op rfl (sp_move (.tmp 25) (iv (k + 1 : Nat)) rfl) ⟨I0, T0⟩ T0 T0 ?_
 refine tri_nil ?_
 refine tri_wk (wk_keep [] [(0, strsA xs), (1, strsA ys), (5, iv k), (12, iv xs.length), (13, iv (k + 1 : Nat)), (14, bv true), (24, bv false)] (n := 26)) ?_
 refine t_then ?_
 refine tri_again ⟨k + 1, by omega, agK_succ (by omega) (by omega) hs0 (str_eq.1 hs3)⟩ (show xs.length - (k + 1) < xs.length - k by omega) ?_
 exact wk_keep [] _ rfl (by kernel_rfl) (by kernel_rfl)
 have hs3f : (xs[k].toList == ys[k].toList) = false := by simpa using hs3
 refine tri_draw [⟨[(.tmp 0, strsA xs)], [], strsA xs, .no⟩, ⟨[(.tmp 5, iv k)], [], iv k, .no⟩, ⟨[(.tmp 16, strsA xs), (.tmp 17, iv k)], [], .el (xs.map sv) (k * 1), .no⟩, ⟨[(.tmp 18, .el (xs.map sv) (k * 1))], [], sv xs[k], .no⟩, ⟨[(.tmp 1, strsA ys)], [], strsA ys, .no⟩, ⟨[(.tmp 5, iv k)], [], iv k, .no⟩, ⟨[(.tmp 20, strsA ys), (.tmp 21, iv k)], [], .el (ys.map sv) (k * 1), .no⟩, ⟨[(.tmp 22, .el (ys.map sv) (k * 1))], [], sv ys[k], .no⟩, ⟨[(.tmp 19, sv xs[k]), (.tmp 23, sv ys[k])], [], bv true, .no⟩] (by kernel_rfl) (by kernel_rfl) ?_
 refine ⟨app_yes rfl (sp_move (.tmp 0) (strsA xs) rfl) ⟨I0, T0⟩ T0 T0, ?_⟩
 refine ⟨app_yes rfl (sp_move (.tmp 5) (iv k) rfl) ⟨I0, T0⟩ T0 T0, ?_⟩
 refine ⟨app_yes rfl (sp_indexSl (off := k * 1) (.tmp 16) (.tmp 17) rfl Tryd.underlying22 (by kernel_rfl) (by omega) (by omega) rfl) ⟨I0, I0, T0⟩ T0 T0, ?_⟩
 refine ⟨app_yes rfl (sp_loadEl1 (X := sv xs[k]) (.tmp 18) rfl Tryd.underlying9 rfl (map_at1 xs (by omega))) ⟨I0, T0⟩ T0 T0, ?_⟩
 refine ⟨app_yes rfl (sp_move (.tmp 1) (strsA ys) rfl) ⟨I0, T0⟩ T0 T0, ?_⟩
 refine ⟨app_yes rfl (sp_move (.tmp 5) (iv k) rfl) ⟨I0, T0⟩ T0 T0, ?_⟩
 refine ⟨app_yes rfl (sp_indexSl (off := k * 1) (.tmp 20) (.tmp 21) rfl Tryd.underlying22 (by kernel_rfl) (by omega) (by omega) rfl) ⟨I0, I0, T0⟩ T0 T0, ?_⟩
 refine ⟨app_yes rfl (sp_loadEl1 (X := sv ys[k]) (.tmp 22) rfl Tryd.underlying9 rfl (map_at1 ys (by omega))) ⟨I0, T0⟩ T0 T0, ?_⟩
 refine ⟨app_yes rfl (sp_sneq (r := true) rfl hs3f) ⟨I0, I0, T0⟩ T0 T0, ?_⟩
 show ETri J w0 _ _ _
 refine tri_wk (wk_keep [] [(0, strsA xs), (1, strsA ys), (5, iv k), (12, iv xs.length), (13, iv k), (14, bv true), (24, bv true)] (n := 26)) ?_
 refine t_then ?_
 refine t_condT rfl ?_
 refine tri_seq ?_
 refine tri_region ?_
 refine t_op rfl (sp_assign (.const (.bool false)) (bv false) rfl) ⟨I0, T0⟩ T0 T0 ?_
 refine tri_nil ?_
 refine tri_wk (wk_keep [] [(0, strsA xs), (1, strsA ys), (4, bv false), (5, iv k), (12, iv xs.length), (13, iv k), (14, bv true), (24, bv true)] (n := 26)) ?_
 refine t_then ?_
 refine tri_ret ?_
 refine t_block_ret ?_
 refine t_then_ret ?_
 refine t_then_ret ?_
 refine t_block_ret ?_
 refine t_then_ret ?_
 refine tri_end1 Tryd.results71 (.tmp rfl) ?_
 exact congrArg (fun x : Bool => AV.v (.bool x)) ((ag_no (k := k) (by omega) (by omega) (str_ne hs3f)).symm)
 refine tri_region ?_
 refine t_op rfl (sp_lss rfl (dF hs2)) ⟨I0, I0, T0⟩ T0 T0 ?_
 refine tri_nil ?_
 refine tri_wk (wk_keep [] [(0, strsA xs), (1, strsA ys), (12, iv xs.length), (13, iv k), (14, bv false)] (n := 26)) ?_
 refine t_then ?_
 refine tri_seq ?_
 refine t_condF rfl ?_
 refine tri_exit ?_
 refine t_then_exit ?_
 refine t_then_exit ?_
 refine t_hit ?_
 refine t_then ?_
 refine tri_seq ?_
 refine tri_region ?_
 refine t_op rfl (sp_assign (.const (.bool true)) (bv true) rfl) ⟨I0, T0⟩ T0 T0 ?_
 refine tri_nil ?_
 refine tri_wk (wk_keep [] [(4, bv true)] (n := 26)) ?_
 refine t_then ?_
 refine tri_ret ?_
 refine tri_end1 Tryd.results71 (.tmp rfl) ?_
 exact congrArg (fun x : Bool => AV.v (.bool x)) ((ag_end hs1 (by omega) hs0).symm)
 refine tri_region ?_
 refine t_op rfl (sp_move (.tmp 0) (strsA xs) rfl) ⟨I0, T0⟩ T0 T0 ?_
 refine t_op rfl (sp_lenSl (.tmp 6) rfl Tryd.underlying22) ⟨I0, T0⟩ T0 T0 ?_
 refine t_op rfl (sp_move (.tmp 1) (strsA ys) rfl) ⟨I0, T0⟩ T0 T0 ?_
 refine t_op rfl (sp_lenSl (.tmp 8) rfl Tryd.underlying22) ⟨I0, T0⟩ T0 T0 ?_
 refine t_op rfl (sp_neq rfl (dF' hs1)) ⟨I0, I0, T0⟩ T0 T0 ?_
 refine tri_nil ?_
 refine tri_wk (wk_keep [] [(0, strsA xs), (1, strsA ys), (4, bv false), (10, bv true)] (n := 26)) ?_
 refine t_then ?_
 refine t_condT rfl ?_
 refine tri_seq ?_
 refine tri_region ?_
 refine t_op rfl (sp_assign (.const (.bool false)) (bv false) rfl) ⟨I0, T0⟩ T0 T0 ?_
 refine tri_nil ?_
 refine tri_wk (wk_keep [] [(0, strsA xs), (1, strsA ys), (4, bv false)] (n := 26)) ?_
 refine t_then ?_
 refine tri_ret ?_
 refine t_then_ret ?_
 refine tri_end1 Tryd.results71 (.tmp rfl) ?_
 exact congrArg (fun x : Bool => AV.v (.bool x)) ((ag_len hs1).symm)
set_option linter.unusedSimpArgs false in
set_option linter.unusedVariables false in
set_option maxRecDepth 100000 in
set_option maxHeartbeats 6400000 in
theorem sameLinearsG (xs ys : List Ln) (hx : xs.length ≤ 9223372036854775807) (hy : ys.length ≤ 9223372036854775807) : Ctr Tryd.prog J 64 [slA 4 cLn xs, slA 4 cLn ys] (bv (decide (xs = ys))) := by
 refine ctr_of_tri Tryd.func64 rfl (by intro X hX; simp only [List.mem_cons, List.not_mem_nil, or_false] at hX; rcases hX with rfl | rfl; exact plain_sl plain_ln _; exact plain_sl plain_ln _) (n := 26) rfl (by simp) (fun w0 => ?_)
 refine tri_wk (wk_keep [] [(0, slA 4 cLn xs), (1, slA 4 cLn ys)] (n := 26)) ?_
 refine tri_seq ?_
 refine tri_region ?_
 refine t_op rfl (sp_assign (.const (.bool false)) (bv false) rfl) ⟨I0, T0⟩ T0 T0 ?_
 refine tri_nil ?_
 refine tri_wk (wk_keep [] [(0, slA 4 cLn xs), (1, slA 4 cLn ys), (4, bv false)] (n := 26)) ?_
 refine t_then ?_
 refine tri_seq ?_
 refine tri_seq ?_
 by_cases hs1 : ((xs.length : Nat) : Int) = ((ys.length : Nat) : Int)
 refine tri_region ?_
 refine t_op rfl (sp_move (.tmp 0) (slA 4 cLn xs) rfl) ⟨I0, T0⟩ T0 T0 ?_
 refine t_op rfl (sp_lenSl (.tmp 6) rfl Tryd.underlying23) ⟨I0, T0⟩ T0 T0 ?_
 refine t_op rfl (sp_move (.tmp 1) (slA 4 cLn ys) rfl) ⟨I0, T0⟩ T0 T0 ?_
 refine t_op rfl (sp_lenSl (.tmp 8) rfl Tryd.underlying23) ⟨I0, T0⟩ T0 T0 ?_
 refine t_op rfl (sp_neq rfl (dT' hs1)) ⟨I0, I0, T0⟩ T0 T0 ?_
 refine tri_nil ?_
 refine tri_wk (wk_keep [] [(0, slA 4 cLn xs), (1, slA 4 cLn ys), (4, bv false), (10, bv false)] (n := 26)) ?_
 refine t_then ?_
 refine t_condF rfl ?_
 refine tri_skip ?_
 refine t_then ?_
 refine tri_seq ?_
 refine tri_seq ?_
 refine tri_region ?_
 refine t_op rfl (sp_assign (.const (.int .i64 0)) (iv 0) rfl) ⟨I0, T0⟩ T0 T0 ?_
 refine tri_nil ?_
 refine tri_wk (wk_keep [] [(0, slA 4 cLn xs), (1, slA 4 cLn ys), (4, bv false), (5, iv 0)] (n := 26)) ?_
 refine t_then ?_
 refine tri_block ?_
 refine tri_loop (σ := {k : Nat // k ≤ xs.length ∧ agK xs ys k}) (fun s => (ofL [], ofT 26 [(0, slA 4 cLn xs), (1, slA 4 cLn ys), (5, iv s.1)])) (fun s => xs.length - s.1) ⟨0, Nat.zero_le _, agK_zero _ _⟩ (wk_keep [] _ rfl (by kernel_rfl) (by kernel_rfl)) (fun s => ?_)
 obtain ⟨k, hk0, hs0⟩ := s
 show ETri J w0 (ofL []) (ofT 26 [(0, slA 4 cLn xs), (1, slA 4 cLn ys), (5, iv k)]) _
 refine tri_seq ?_
 refine tri_seq ?_
 by_cases hs2 : ((k : Nat) : Int) < ((xs.length : Nat) : Int)
 refine tri_region ?_
 refine t_op rfl (sp_move (.tmp 5) (iv k) rfl) ⟨I0, T0⟩ T0 T0 ?_
 refine t_op rfl (sp_move (.tmp 0) (slA 4 cLn xs) rfl) ⟨I0, T0⟩ T0 T0 ?_
 refine t_op rfl (sp_lenSl (.tmp 12) rfl Tryd.underlying23) ⟨I0, T0⟩ T0 T0 ?_
 refine t_op rfl (sp_lss rfl (dT hs2)) ⟨I0, I0, T0⟩ T0 T0 ?_
 refine tri_nil ?_
 refine tri_wk (wk_keep [] [(0, slA 4 cLn xs), (1, slA 4 cLn ys), (5, iv k), (14, bv true)] (n := 26)) ?_
 refine t_then ?_
 refine t_condT rfl ?_
 refine tri_skip ?_
 refine t_then ?_
 refine tri_seq ?_
 refine tri_block ?_
 refine tri_seq ?_
 by_cases hs3 : (decide (xs[k] = ys[k])) = true
 refine tri_draw [⟨[(.tmp 0, slA 4 cLn xs)], [], slA 4 cLn xs, .no⟩, ⟨[(.tmp 5, iv k)], [], iv k, .no⟩, ⟨[(.tmp 17, slA 4 cLn xs), (.tmp 18, iv k)], [], .el (xs.flatMap cLn) (k * 4), .no⟩, ⟨[(.tmp 19, .el (xs.flatMap cLn) (k * 4))], [], .agg (cLn xs[k]), .no⟩, ⟨[(.tmp 1, slA 4 cLn ys)], [], slA 4 cLn ys, .no⟩, ⟨[(.tmp 5, iv k)], [], iv k, .no⟩, ⟨[(.tmp 21, slA 4 cLn ys), (.tmp 22, iv k)], [], .el (ys.flatMap cLn) (k * 4), .no⟩, ⟨[(.tmp 23, .el (ys.flatMap cLn) (k * 4))], [], .agg (cLn ys[k]), .no⟩, ⟨[(.tmp 20, .agg (cLn xs[k])), (.tmp 24, .agg (cLn ys[k]))], [], bv false, .no⟩] (by kernel_rfl) (by kernel_rfl) ?_
 refine ⟨app_yes rfl (sp_move (.tmp 0) (slA 4 cLn xs) rfl) ⟨I0, T0⟩ T0 T0, ?_⟩
 refine ⟨app_yes rfl (sp_move (.tmp 5) (iv k) rfl) ⟨I0, T0⟩ T0 T0, ?_⟩
 refine ⟨app_yes rfl (sp_indexSl (off := k * 4) (.tmp 17) (.tmp 18) rfl Tryd.underlying23 (by kernel_rfl) (by omega) (by omega) rfl) ⟨I0, I0, T0⟩ T0 T0, ?_⟩
 refine ⟨app_yes rfl (sp_loadElS (z := 4) (.tmp 19) rfl Tryd.underlying53 rfl (by kernel_rfl) (flat_take lenLn xs k (by omega)) rfl) ⟨I0, T0⟩ T0 T0, ?_⟩
 refine ⟨app_yes rfl (sp_move (.tmp 1) (slA 4 cLn ys) rfl) ⟨I0, T0⟩ T0 T0, ?_⟩
 refine ⟨app_yes rfl (sp_move (.tmp 5) (iv k) rfl) ⟨I0, T0⟩ T0 T0, ?_⟩
 refine ⟨app_yes rfl (sp_indexSl (off := k * 4) (.tmp 21) (.tmp 22) rfl Tryd.underlying23 (by kernel_rfl) (by omega) (by omega) rfl) ⟨I0, I0, T0⟩ T0 T0, ?_⟩
 refine ⟨app_yes rfl (sp_loadElS (z := 4) (.tmp 23) rfl Tryd.underlying53 rfl (by kernel_rfl) (flat_take lenLn ys k (by omega)) rfl) ⟨I0, T0⟩ T0 T0, ?_⟩
 refine ⟨app_yes rfl (sp_aggNeqG [.int .i64 xs[k].c, .int .i64 xs[k].n, .int .i64 xs[k].t, .int .i64 xs[k].f] [.int .i64 ys[k].c, .int .i64 ys[k].n, .int .i64 ys[k].t, .int .i64 ys[k].f] (r := false) rfl (by kernel_rfl) (fun w => (eqg_ln xs[k] ys[k] w).trans (by rw [hs3]; rfl)) rfl) ⟨I0, I0, T0⟩ T0 T0, ?_⟩
 show ETri J w0 _ _ _
 refine tri_wk (wk_keep [] [(0, slA 4 cLn xs), (1, slA 4 cLn ys), (5, iv k), (14, bv true), (25, bv false)] (n := 26)) ?_
 refine t_then ?_
 refine t_condF rfl ?_
 refine tri_skip ?_
 refine t_block ?_
 refine t_then ?_
 refine tri_region ?_
 refine t_op rfl (sp_move (.tmp 5) (iv k) rfl) ⟨I0, T0⟩ T0 T0 ?_
 refine t_op rfl (sp_add (c := ((k + 1 : Nat) : Int)) rfl (w64 (by omega) (by omega) (by omega))) ⟨I0, I0, T0⟩ T0 T0 ?_
 refine t_op rfl (sp_assign (.tmp 16) (iv (k + 1 : Nat)) rfl) ⟨I0, T0⟩ T0 T0 ?_
 refine tri_nil ?_
 refine tri_wk (wk_keep [] [(0, slA 4 cLn xs), (1, slA 4 cLn ys), (5, iv (k + 1 : Nat)), (14, bv true), (25, bv false)] (n := 26)) ?_
 refine t_then ?_
 refine tri_again ⟨k + 1, by omega, agK_succ (by omega) (by omega) hs0 (of_decide_eq_true hs3)⟩ (show xs.length - (k + 1) < xs.length - k by omega) ?_
 exact wk_keep [] _ rfl (by kernel_rfl) (by kernel_rfl)
 have hs3f : (decide (xs[k] = ys[k])) = false := by simpa using hs3
 refine tri_draw [⟨[(.tmp 0, slA 4 cLn xs)], [], slA 4 cLn xs, .no⟩, ⟨[(.tmp 5, iv k)], [], iv k, .no⟩, ⟨[(.tmp 17, slA 4 cLn xs), (.tmp 18, iv k)], [], .el (xs.flatMap cLn) (k * 4), .no⟩, ⟨[(.tmp 19, .el (xs.flatMap cLn) (k * 4))], [], .agg (cLn xs[k]), .no⟩, ⟨[(.tmp 1, slA 4 cLn ys)], [], slA 4 cLn ys, .no⟩, ⟨[(.tmp 5, iv k)], [], iv k, .no⟩, ⟨[(.tmp 21, slA 4 cLn ys), (.tmp 22, iv k)], [], .el (ys.flatMap cLn) (k * 4), .no⟩, ⟨[(.tmp 23, .el (ys.flatMap cLn) (k * 4))], [], .agg (cLn ys[k]), .no⟩, ⟨[(.tmp 20, .agg (cLn xs[k])), (.tmp 24, .agg (cLn ys[k]))], [], bv true, .no⟩] (by kernel_rfl) (by kernel_rfl) ?_
 refine ⟨app_yes rfl (sp_move (.tmp 0) (slA 4 cLn xs) rfl) ⟨I0, T0⟩ T0 T0, ?_⟩
 refine ⟨app_yes rfl (sp_move (.tmp 5) (iv k) rfl) ⟨I0, T0⟩ T0 T0, ?_⟩
 refine ⟨app_yes rfl (sp_indexSl (off := k * 4) (.tmp 17) (.tmp 18) rfl Tryd.underlying23 (by kernel_rfl) (by omega) (by omega) rfl) ⟨I0, I0, T0⟩ T0 T0, ?_⟩
 refine ⟨app_yes rfl (sp_loadElS (z := 4) (.tmp 19) rfl Tryd.underlying53 rfl (by kernel_rfl) (flat_take lenLn xs k (by omega)) rfl) ⟨I0, T0⟩ T0 T0, ?_⟩
 refine ⟨app_yes rfl (sp_move (.tmp 1) (slA 4 cLn ys) rfl) ⟨I0, T0⟩ T0 T0, ?_⟩
 refine ⟨app_yes rfl (sp_move (.tmp 5) (iv k) rfl) ⟨I0, T0⟩ T0 T0, ?_⟩
 refine ⟨app_yes rfl (sp_indexSl (off := k * 4) (.tmp 21) (.tmp 22) rfl Tryd.underlying23 (by kernel_rfl) (by omega) (by omega) rfl) ⟨I0, I0, T0⟩ T0 T0, ?_⟩
 refine ⟨app_yes rfl (sp_loadElS (z := 4) (.tmp 23) rfl Tryd.underlying53 rfl (by kernel_rfl) (flat_take lenLn ys k (by omega)) rfl) ⟨I0, T0⟩ T0 T0, ?_⟩
 refine ⟨app_yes rfl (sp_aggNeqG [.int .i64 xs[k].c, .int .i64 xs[k].n, .int .i64 xs[k].t, .int .i64 xs[k].f] [.int .i64 ys[k].c, .int .i64 ys[k].n, .int .i64 ys[k].t, .int .i64 ys[k].f] (r := true) rfl (by kernel_rfl) (fun w => (eqg_ln xs[k] ys[k] w).trans (by rw [hs3f]; rfl)) rfl) ⟨I0, I0, T0⟩ T0 T0, ?_⟩
 show ETri J w0 _ _ _
 refine tri_wk (wk_keep [] [(0, slA 4 cLn xs), (1, slA 4 cLn ys), (5, iv k), (14, bv true), (25, bv true)] (n := 26)) ?_
 refine t_then ?_
 refine t_condT rfl ?_
 refine tri_seq ?_
 refine tri_region ?_
 refine t_op rfl (sp_assign (.const (.bool false)) (bv false) rfl) ⟨I0, T0⟩ T0 T0 ?_
 refine tri_nil ?_
 refine tri_wk (wk_keep [] [(0, slA 4 cLn xs), (1, slA 4 cLn ys), (4, bv false), (5, iv k), (14, bv true), (25, bv true)] (n := 26)) ?_
 refine t_then ?_
 refine tri_ret ?_
 refine t_block_ret ?_
 refine t_then_ret ?_
 refine t_then_ret ?_
 refine t_block_ret ?_
 refine t_then_ret ?_
 refine tri_end1 Tryd.results64 (.tmp rfl) ?_
 exact congrArg (fun x : Bool => AV.v (.bool x)) ((ag_no (k := k) (by omega) (by omega) (of_decide_eq_false hs3f)).symm)
 refine tri_region ?_
 refine t_op rfl (sp_move (.tmp 5) (iv k) rfl) ⟨I0, T0⟩ T0 T0 ?_
 refine t_op rfl (sp_move (.tmp 0) (slA 4 cLn xs) rfl) ⟨I0, T0⟩ T0 T0 ?_
 refine t_op rfl (sp_lenSl (.tmp 12) rfl Tryd.underlying23) ⟨I0, T0⟩ T0 T0 ?_
 refine t_op rfl (sp_lss rfl (dF hs2)) ⟨I0, I0, T0⟩ T0 T0 ?_
 refine tri_nil ?_
 refine tri_wk (wk_keep [] [(0, slA 4 cLn xs), (1, slA 4 cLn ys), (5, iv k), (14, bv false)] (n := 26)) ?_
 refine t_then ?_
 refine t_condF rfl ?_
 refine tri_exit ?_
 refine t_then_exit ?_
 refine t_then_exit ?_
 refine t_hit ?_
 refine t_then ?_
 refine tri_seq ?_
 refine tri_region ?_
 refine t_op rfl (sp_assign (.const (.bool true)) (bv true) rfl) ⟨I0, T0⟩ T0 T0 ?_
 refine tri_nil ?_
 refine tri_wk (wk_keep [] [(4, bv true)] (n := 26)) ?_
 refine t_then ?_
 refine tri_ret ?_
 refine tri_end1 Tryd.results64 (.tmp rfl) ?_
 exact congrArg (fun x : Bool => AV.v (.bool x)) ((ag_end hs1 (by omega) hs0).symm)
 refine tri_region ?_
 refine t_op rfl (sp_move (.tmp 0) (slA 4 cLn xs) rfl) ⟨I0, T0⟩ T0 T0 ?_
 refine t_op rfl (sp_lenSl (.tmp 6) rfl Tryd.underlying23) ⟨I0, T0⟩ T0 T0 ?_
 refine t_op rfl (sp_move (.tmp 1) (slA 4 cLn ys) rfl) ⟨I0, T0⟩ T0 T0 ?_
 refine t_op rfl (sp_lenSl (.tmp 8) rfl Tryd.underlying23) ⟨I0, T0⟩ T0 T0 ?_
 refine t_op rfl (sp_neq rfl (dF' hs1)) ⟨I0, I0, T0⟩ T0 T0 ?_
 refine tri_nil ?_
 refine tri_wk (wk_keep [] [(0, slA 4 cLn xs), (1, slA 4 cLn ys), (4, bv false), (10, bv true)] (n := 26)) ?_
 refine t_then ?_
 refine t_condT rfl ?_
 refine tri_seq ?_
 refine tri_region ?_
 refine t_op rfl (sp_assign (.const (.bool false)) (bv false) rfl) ⟨I0, T0⟩ T0 T0 ?_
 refine tri_nil ?_
 refine tri_wk (wk_keep [] [(0, slA 4 cLn xs), (1, slA 4 cLn ys), (4, bv false)] (n := 26)) ?_
 refine t_then ?_
 refine tri_ret ?_
 refine t_then_ret ?_
 refine tri_end1 Tryd.results64 (.tmp rfl) ?_
 exact congrArg (fun x : Bool => AV.v (.bool x)) ((ag_len hs1).symm)
set_option linter.unusedSimpArgs false in
set_option linter.unusedVariables false in
set_option maxRecDepth 100000 in
set_option maxHeartbeats 6400000 in
theorem eqLinearsG (xs ys : List Ln) (hx : xs.length ≤ 9223372036854775807) (hy : ys.length ≤ 9223372036854775807) : Ctr Tryd.prog J 72 [slA 4 cLn xs, slA 4 cLn ys] (bv (decide (xs = ys))) := by
 refine ctr_of_tri Tryd.func72 rfl (by intro X hX; simp only [List.mem_cons, List.not_mem_nil, or_false] at hX; rcases hX with rfl | rfl; exact plain_sl plain_ln _; exact plain_sl plain_ln _) (n := 26) rfl (by simp) (fun w0 => ?_)
 refine tri_wk (wk_keep [] [(0, slA 4 cLn xs), (1, slA 4 cLn ys)] (n := 26)) ?_
 refine tri_seq ?_
 refine tri_region ?_
 refine t_op rfl (sp_assign (.const (.bool false)) (bv false) rfl) ⟨I0, T0⟩ T0 T0 ?_
 refine tri_nil ?_
 refine tri_wk (wk_keep [] [(0, slA 4 cLn xs), (1, slA 4 cLn ys), (4, bv false)] (n := 26)) ?_
 refine t_then ?_
 refine tri_seq ?_
 refine tri_seq ?_
 by_cases hs1 : ((xs.length : Nat) : Int) = ((ys.length : Nat) : Int)
 refine tri_region ?_
 refine t_op rfl (sp_move (.tmp 0) (slA 4 cLn xs) rfl) ⟨I0, T0⟩ T0 T0 ?_
 refine t_op rfl (sp_lenSl (.tmp 6) rfl Tryd.underlying23) ⟨I0, T0⟩ T0 T0 ?_
 refine t_op rfl (sp_move (.tmp 1) (slA 4 cLn ys) rfl) ⟨I0, T0⟩ T0 T0 ?_
 refine t_op rfl (sp_lenSl (.tmp 8) rfl Tryd.underlying23) ⟨I0, T0⟩ T0 T0 ?_
 refine t_op rfl (sp_neq rfl (dT' hs1)) ⟨I0, I0, T0⟩ T0 T0 ?_
 refine tri_nil ?_
 refine tri_wk (wk_keep [] [(0, slA 4 cLn xs), (1, slA 4 cLn ys), (4, bv false), (10, bv false)] (n := 26)) ?_
 refine t_then ?_
 refine t_condF rfl ?_
 refine tri_skip ?_
 refine t_then ?_
 refine tri_seq ?_
 refine tri_seq ?_
 refine tri_region ?_
 refine t_op rfl (sp_move (.tmp 0) (slA 4 cLn xs) rfl) ⟨I0, T0⟩ T0 T0 ?_
 refine t_op rfl (sp_lenSl (.tmp 11) rfl Tryd.underlying23) ⟨I0, T0⟩ T0 T0 ?_
 refine t_op rfl (sp_move (.const (.int .i64 0)) (iv 0) rfl) ⟨I0, T0⟩ T0 T0 ?_
 refine tri_nil ?_
 refine tri_wk (wk_keep [] [(0, slA 4 cLn xs), (1, slA 4 cLn ys), (4, bv false), (12, iv xs.length), (13, iv 0)] (n := 26)) ?_
 refine t_then ?_
 refine tri_block ?_
 refine tri_loop (σ := {k : Nat // k ≤ xs.length ∧ agK xs ys k}) (fun s => (ofL [], ofT 26 [(0, slA 4 cLn xs), (1, slA 4 cLn ys), (12, iv xs.length), (13, iv s.1)])) (fun s => xs.length - s.1) ⟨0, Nat.zero_le _, agK_zero _ _⟩ (wk_keep [] _ rfl (by kernel_rfl) (by kernel_rfl)) (fun s => ?_)
 obtain ⟨k, hk0, hs0⟩ := s
 show ETri J w0 (ofL []) (ofT 26 [(0, slA 4 cLn xs), (1, slA 4 cLn ys), (12, iv xs.length), (13, iv k)]) _
 refine tri_seq ?_
 by_cases hs2 : ((k : Nat) : Int) < ((xs.length : Nat) : Int)
 refine tri_region ?_
 refine t_op rfl (sp_lss rfl (dT hs2)) ⟨I0, I0, T0⟩ T0 T0 ?_
 refine tri_nil ?_
 refine tri_wk (wk_keep [] [(0, slA 4 cLn xs), (1, slA 4 cLn ys), (12, iv xs.length), (13, iv k), (14, bv true)] (n := 26)) ?_
 refine t_then ?_
 refine tri_seq ?_
 refine t_condT rfl ?_
 refine tri_skip ?_
 refine t_then ?_
 refine tri_seq ?_
 refine tri_block ?_
 refine tri_seq ?_
 refine tri_region ?_
 refine t_op rfl (sp_move (.tmp 13) (iv k) rfl) ⟨I0, T0⟩ T0 T0 ?_
 refine t_op rfl (sp_assign (.tmp 15) (iv k) rfl) ⟨I0, T0⟩ T0 T0 ?_
 refine tri_nil ?_
 refine tri_wk (wk_keep [] [(0, slA 4 cLn xs), (1, slA 4 cLn ys), (5, iv k), (12, iv xs.length), (13, iv k), (14, bv true)] (n := 26)) ?_
 refine t_then ?_
 refine tri_seq ?_
 by_cases hs3 : (decide (xs[k] = ys[k])) = true
 refine tri_draw [⟨[(.tmp 0, slA 4 cLn xs)], [], slA 4 cLn xs, .no⟩, ⟨[(.tmp 5, iv k)], [], iv k, .no⟩, ⟨[(.tmp 16, slA 4 cLn xs), (.tmp 17, iv k)], [], .el (xs.flatMap cLn) (k * 4), .no⟩, ⟨[(.tmp 18, .el (xs.flatMap cLn) (k * 4))], [], .agg (cLn xs[k]), .no⟩, ⟨[(.tmp 1, slA 4 cLn ys)], [], slA 4 cLn ys, .no⟩, ⟨[(.tmp 5, iv k)], [], iv k, .no⟩, ⟨[(.tmp 20, slA 4 cLn ys), (.tmp 21, iv k)], [], .el (ys.flatMap cLn) (k * 4), .no⟩, ⟨[(.tmp 22, .el (ys.flatMap cLn) (k * 4))], [], .agg (cLn ys[k]), .no⟩, ⟨[(.tmp 19, .agg (cLn xs[k])), (.tmp 23, .agg (cLn ys[k]))], [], bv false, .no⟩] (by kernel_rfl) (by kernel_rfl) ?_
 refine ⟨app_yes rfl (sp_move (.tmp 0) (slA 4 cLn xs) rfl) ⟨I0, T0⟩ T0 T0, ?_⟩
 refine ⟨app_yes rfl (sp_move (.tmp 5) (iv k) rfl) ⟨I0, T0⟩ T0 T0, ?_⟩
 refine ⟨app_yes rfl (sp_indexSl (off := k * 4) (.tmp 16) (.tmp 17) rfl Tryd.underlying23 (by kernel_rfl) (by omega) (by omega) rfl) ⟨I0, I0, T0⟩ T0 T0, ?_⟩
 refine ⟨app_yes rfl (sp_loadElS (z := 4) (.tmp 18) rfl Tryd.underlying53 rfl (by kernel_rfl) (flat_take lenLn xs k (by omega)) rfl) ⟨I0, T0⟩ T0 T0, ?_⟩
 refine ⟨app_yes rfl (sp_move (.tmp 1) (slA 4 cLn ys) rfl) ⟨I0, T0⟩ T0 T0, ?_⟩
 refine ⟨app_yes rfl (sp_move (.tmp 5) (iv k) rfl) ⟨I0, T0⟩ T0 T0, ?_⟩
 refine ⟨app_yes rfl (sp_indexSl (off := k * 4) (.tmp 20) (.tmp 21) rfl Tryd.underlying23 (by kernel_rfl) (by omega) (by omega) rfl) ⟨I0, I0, T0⟩ T0 T0, ?_⟩
 refine ⟨app_yes rfl (sp_loadElS (z := 4) (.tmp 22) rfl Tryd.underlying53 rfl (by kernel_rfl) (flat_take lenLn ys k (by omega)) rfl) ⟨I0, T0⟩ T0 T0, ?_⟩
 refine ⟨app_yes rfl (sp_aggNeqG [.int .i64 xs[k].c, .int .i64 xs[k].n, .int .i64 xs[k].t, .int .i64 xs[k].f] [.int .i64 ys[k].c, .int .i64 ys[k].n, .int .i64 ys[k].t, .int .i64 ys[k].f] (r := false) rfl (by kernel_rfl) (fun w => (eqg_ln xs[k] ys[k] w).trans (by rw [hs3]; rfl)) rfl) ⟨I0, I0, T0⟩ T0 T0, ?_⟩
 show ETri J w0 _ _ _
 refine tri_wk (wk_keep [] [(0, slA 4 cLn xs), (1, slA 4 cLn ys), (5, iv k), (12, iv xs.length), (13, iv k), (14, bv true), (24, bv false)] (n := 26)) ?_
 refine t_then ?_
 refine t_condF rfl ?_
 refine tri_skip ?_
 refine t_block ?_
 refine t_then ?_
 refine tri_region ?_
 refine t_op rfl (sp_add (c := ((k + 1 : Nat) : Int)) rfl (w64 (by omega) (by omega) (by omega))) ⟨I0, I0, T0⟩ T0 T0 ?_
 refine t_op rfl (sp_move (.tmp 25) (iv (k + 1 : Nat)) rfl) ⟨I0, T0⟩ T0 T0 ?_
 refine tri_nil ?_
 refine tri_wk (wk_keep [] [(0, slA 4 cLn xs), (1, slA 4 cLn ys), (5, iv k), (12, iv xs.length), (13, iv (k + 1 : Nat)), (14, bv true), (24, bv false)] (n := 26)) ?_
 refine t_then ?_
 refine tri_again ⟨k + 1, by omega, agK_succ (by omega) (by omega) hs0 (of_decide_eq_true hs3)⟩ (show xs.length - (k + 1) < xs.length - k by omega) ?_
 exact wk_keep [] _ rfl (by kernel_rfl) (by kernel_rfl)
 have hs3f : (decide (xs[k] = ys[k])) = false := by simpa using hs3
 refine tri_draw [⟨[(.tmp 0, slA 4 cLn xs)], [], slA 4 cLn xs, .no⟩, ⟨[(.tmp 5, iv k)], [], iv k, .no⟩, ⟨[(.tmp 16, slA 4 cLn xs), (.tmp 17, iv k)], [], .el (xs.flatMap cLn) (k * 4), .no⟩, ⟨[(.tmp 18, .el (xs.flatMap cLn) (k * 4))], [], .agg (cLn xs[k]), .no⟩, ⟨[(.tmp 1, slA 4 cLn ys)], [], slA 4 cLn ys, .no⟩, ⟨[(.tmp 5, iv k)], [], iv k, .no⟩, ⟨[(.tmp 20, slA 4 cLn ys), (.tmp 21, iv k)], [], .el (ys.flatMap cLn) (k * 4), .no⟩, ⟨[(.tmp 22, .el (ys.flatMap cLn) (k * 4))], [], .agg (cLn ys[k]), .no⟩, ⟨[(.tmp 19, .agg (cLn xs[k])), (.tmp 23, .agg (cLn ys[k]))], [], bv true, .no⟩] (by kernel_rfl) (by kernel_rfl) ?_
 refine ⟨app_yes rfl (sp_move (.tmp 0) (slA 4 cLn xs) rfl) ⟨I0, T0⟩ T0 T0, ?_⟩
 refine ⟨app_yes rfl (sp_move (.tmp 5) (iv k) rfl) ⟨I0, T0⟩ T0 T0, ?_⟩
 refine ⟨app_yes rfl (sp_indexSl (off := k * 4) (.tmp 16) (.tmp 17) rfl Tryd.underlying23 (by kernel_rfl) (by omega) (by omega) rfl) ⟨I0, I0, T0⟩ T0 T0, ?_⟩
 refine ⟨app_yes rfl (sp_loadElS (z := 4) (.tmp 18) rfl Tryd.underlying53 rfl (by kernel_rfl) (flat_take lenLn xs k (by omega)) rfl) ⟨I0, T0⟩ T0 T0, ?_⟩
 refine ⟨app_yes rfl (sp_move (.tmp 1) (slA 4 cLn ys) rfl) ⟨I0, T0⟩ T0 T0, ?_⟩
 refine ⟨app_yes rfl (sp_move (.tmp 5) (iv k) rfl) ⟨I0, T0⟩ T0 T0, ?_⟩
 refine ⟨app_yes rfl (sp_indexSl (off := k * 4) (.tmp 20) (.tmp 21) rfl Tryd.underlying23 (by kernel_rfl) (by omega) (by omega) rfl) ⟨I0, I0, T0⟩ T0 T0, ?_⟩
 refine ⟨app_yes rfl (sp_loadElS (z := 4) (.tmp 22) rfl Tryd.underlying53 rfl (by kernel_rfl) (flat_take lenLn ys k (by omega)) rfl) ⟨I0, T0⟩ T0 T0, ?_⟩
 refine ⟨app_yes rfl (sp_aggNeqG [.int .i64 xs[k].c, .int .i64 xs[k].n, .int .i64 xs[k].t, .int .i64 xs[k].f] [.int .i64 ys[k].c, .int .i64 ys[k].n, .int .i64 ys[k].t, .int .i64 ys[k].f] (r := true) rfl (by kernel_rfl) (fun w => (eqg_ln xs[k] ys[k] w).trans (by rw [hs3f]; rfl)) rfl) ⟨I0, I0, T0⟩ T0 T0, ?_⟩
 show ETri J w0 _ _ _
 refine tri_wk (wk_keep [] [(0, slA 4 cLn xs), (1, slA 4 cLn ys), (5, iv k), (12, iv xs.length), (13, iv k), (14, bv true), (24, bv true)] (n := 26)) ?_
 refine t_then ?_
 refine t_condT rfl ?_
 refine tri_seq ?_
 refine tri_region ?_
 refine t_op rfl (sp_assign (.const (.bool false)) (bv false) rfl) ⟨I0, T0⟩ T0 T0 ?_
 refine tri_nil ?_
 refine tri_wk (wk_keep [] [(0, slA 4 cLn xs), (1, slA 4 cLn ys), (4, bv false), (5, iv k), (12, iv xs.length), (13, iv k), (14, bv true), (24, bv true)] (n := 26)) ?_
 refine t_then ?_
 refine tri_ret ?_
 refine t_block_ret ?_
 refine t_then_ret ?_
 refine t_then_ret ?_
 refine t_block_ret ?_
 refine t_then_ret ?_
 refine tri_end1 Tryd.results72 (.tmp rfl) ?_
 exact congrArg (fun x : Bool => AV.v (.bool x)) ((ag_no (k := k) (by omega) (by omega) (of_decide_eq_false hs3f)).symm)
 refine tri_region ?_
 refine t_op rfl (sp_lss rfl (dF hs2)) ⟨I0, I0, T0⟩ T0 T0 ?_
 refine tri_nil ?_
 refine tri_wk (wk_keep [] [(0, slA 4 cLn xs), (1, slA 4 cLn ys), (12, iv xs.length), (13, iv k), (14, bv false)] (n := 26)) ?_
 refine t_then ?_
 refine tri_seq ?_
 refine t_condF rfl ?_
 refine tri_exit ?_
 refine t_then_exit ?_
 refine t_then_exit ?_
 refine t_hit ?_
 refine t_then ?_
 refine tri_seq ?_
 refine tri_region ?_
 refine t_op rfl (sp_assign (.const (.bool true)) (bv true) rfl) ⟨I0, T0⟩ T0 T0 ?_
 refine tri_nil ?_
 refine tri_wk (wk_keep [] [(4, bv true)] (n := 26)) ?_
 refine t_then ?_
 refine tri_ret ?_
 refine tri_end1 Tryd.results72 (.tmp rfl) ?_
 exact congrArg (fun x : Bool => AV.v (.bool x)) ((ag_end hs1 (by omega) hs0).symm)
 refine tri_region ?_
 refine t_op rfl (sp_move (.tmp 0) (slA 4 cLn xs) rfl) ⟨I0, T0⟩ T0 T0 ?_
 refine t_op rfl (sp_lenSl (.tmp 6) rfl Tryd.underlying23) ⟨I0, T0⟩ T0 T0 ?_
 refine t_op rfl (sp_move (.tmp 1) (slA 4 cLn ys) rfl) ⟨I0, T0⟩ T0 T0 ?_
 refine t_op rfl (sp_lenSl (.tmp 8) rfl Tryd.underlying23) ⟨I0, T0⟩ T0 T0 ?_
 refine t_op rfl (sp_neq rfl (dF' hs1)) ⟨I0, I0, T0⟩ T0 T0 ?_
 refine tri_nil ?_
 refine tri_wk (wk_keep [] [(0, slA 4 cLn xs), (1, slA 4 cLn ys), (4, bv false), (10, bv true)] (n := 26)) ?_
 refine t_then ?_
 refine t_condT rfl ?_
 refine tri_seq ?_
 refine tri_region ?_
 refine t_op rfl (sp_assign (.const (.bool false)) (bv false) rfl) ⟨I0, T0⟩ T0 T0 ?_
 refine tri_nil ?_
 refine tri_wk (wk_keep [] [(0, slA 4 cLn xs), (1, slA 4 cLn ys), (4, bv false)] (n := 26)) ?_
 refine t_then ?_
 refine tri_ret ?_
 refine t_then_ret ?_
 refine tri_end1 Tryd.results72 (.tmp rfl) ?_
 exact congrArg (fun x : Bool => AV.v (.bool x)) ((ag_len hs1).symm)
end Go.Proofs.YtmpbfdfjcfanoaaDoor
