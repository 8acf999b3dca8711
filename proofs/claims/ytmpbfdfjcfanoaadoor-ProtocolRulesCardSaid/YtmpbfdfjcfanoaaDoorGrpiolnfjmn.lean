import Derived.Test.YtmpbfdfjcfanoaaDoorProg
import Derived.Test.YtmpbfdfjcfanoaaDoorGrpdnpdcjbe
import Derived.Test.YtmpbfdfjcfanoaaDoorGrpmimdldbm
import Derived.Test.YtmpbfdfjcfanoaaDoorGrpcdpephbp
set_option linter.all false
/-
  Thresholds: PLAIN MATHEMATICS, and differentGuards in the new form.
-/
namespace Go.Proofs.YtmpbfdfjcfanoaaDoor
open Go.RowKit Go.Deep
variable {J : World → Prop}
theorem val_3 {q : Fm} (h : valE q = 0) : val3 q = 0 := by
  by_cases n : nameB q.nm.toList = true
  · by_cases a : argB q = true
    · rw [valE_ar n a] at h; cases h
    · by_cases s : ((q.states.length : Nat) : Int) = 0
      · rw [valE_st n (by simpa using a) s] at h; cases h
      · by_cases t : tooI q = true
        · rw [valE_tb n (by simpa using a) s t] at h; cases h
        · rw [valE_2 ⟨n, by simpa using a, s, by simpa using t⟩] at h
          unfold val2 at h
          split at h
          · cases h
          split at h
          · cases h
          split at h
          · cases h
          exact h
  · rw [valE_nm (by simpa using n)] at h; cases h
def thL (q : Fm) : List Th := if valE q = 0 then diffG q.rules else []
theorem thL_len (q : Fm) : (thL q).length ≤ 3 := by
  unfold thL
  split
  · rename_i h
    have h1 := (orE_zero_left (orE_zero_left (orE_zero_left (val_3 h)).2).2).2
    split at h1
    · cases h1
    · omega
  · simp
theorem thr_err {q : Fm} (h : ¬ valE q = 0) : AV.tup [.sl 6 0 [], iv (valE q)] = .tup [slA 6 cTh (thL q), iv (valE q)] := by
  unfold thL; rw [if_neg h]; rfl
theorem thr_ok {q : Fm} (h : valE q = 0) : AV.tup [slA 6 cTh (diffG q.rules), iv 0] = .tup [slA 6 cTh (thL q), iv (valE q)] := by
  unfold thL; rw [if_pos h, h]
theorem diff_c {q : Fm} (hq : FmOk q) (h8 : q.rules.length ≤ 8) (h2 : ∀ r ∈ q.rules, r.guards.length ≤ 2) : Ctr Tryd.prog J 54 [slA 18 cRu q.rules] (slA 6 cTh (diffG q.rules)) := ctr1 fun w v _ h =>
  (differentGuards_any (pu_slm lenRu lo0 RuOk hq.rules (fun _ _ hr hl hp => ru_of hr lo0 hl hp) h) h8 h2).mono fun _ _ ⟨v', he, ho, hb⟩ => ⟨v', he, sl_pu lenTh (fun _ h _ => h) th_pu ho.sl, hb⟩
end Go.Proofs.YtmpbfdfjcfanoaaDoor

/-
  COPIES OF THE REFERENCE.
-/
namespace Go.Proofs.YtmpbfdfjcfanoaaDoor
open Go.RowKit Go.Deep
variable {J : World → Prop}
set_option maxRecDepth 100000 in
set_option maxHeartbeats 6400000 in
theorem CopyInts_c (xs : List Int) (hx : xs.length ≤ 17592186044416) : Ctr Tryd.prog J 42 [intsA xs] (intsA xs) := by
  refine ctr_of_tri Tryd.func42 rfl (by intro X hX; simp at hX; subst hX; exact plain_ints _) (n := 6) rfl (by simp) (fun w0 => ?_)
  refine tri_wk (wk_keep [] [(0, intsA xs)] (n := 6) rfl (by kernel_rfl) (by kernel_rfl)) ?_
  refine tri_seq ?_
  refine tri_region ?_
  refine t_op rfl (sp_assign (.const (.slice none 0 0)) (.v (.slice none 0 0)) rfl) ⟨.inl rfl, trivial⟩ trivial trivial ?_
  refine tri_nil ?_
  refine tri_wk (wk_keep [] [(0, intsA xs), (2, .v (.slice none 0 0))] (n := 6) rfl (by kernel_rfl) (by kernel_rfl)) ?_
  refine t_then ?_
  refine tri_seq ?_
  refine tri_region ?_
  refine t_op rfl (sp_build0 (z := 1) (k := 1) true rfl Tryd.underlying24 (by kernel_rfl)) trivial trivial rfl ?_
  refine t_op rfl (sp_move (.tmp 0) (intsA xs) rfl) ⟨.inl rfl, trivial⟩ trivial trivial ?_
  refine t_op rfl (sp_append (⟨Tryd.underlying24, by kernel_rfl, by decide⟩ : Elt Tryd.prog 24 3 1 8) (.tmp 3) (.tmp 4) rfl (fun _ d hd => by obtain ⟨x, _, rfl⟩ := List.mem_map.1 hd; rfl) (by unfold maxLen; omega) (by omega) (fun d hd => by obtain ⟨x, _, rfl⟩ := List.mem_map.1 hd; rfl) (es := (xs.map iv)) (by rw [unfr_ints]; rfl)) ⟨.inl rfl, .inl rfl, trivial⟩ ⟨rfl, trivial⟩ rfl ?_
  refine t_op rfl (sp_assign (.tmp 5) (.own 1) rfl) ⟨.inl rfl, trivial⟩ trivial trivial ?_
  refine tri_nil ?_
  refine tri_wk (wk_keep [(1, .row true 3 1 (0 + xs.length) (xs.map iv))] [(2, .own 1)] (n := 6) rfl (by kernel_rfl) (by kernel_rfl)) ?_
  refine t_then ?_
  refine tri_ret ?_
  refine tri_end1 Tryd.results42 (.tmp rfl) ?_
  show AV.sl 1 (0 + xs.length) (xs.map iv) = intsA xs
  rw [Nat.zero_add]; rfl
/-- The lists of a rule, of a family, are not longer than memory. -/
structure RuLen (r : Ru) : Prop where
  resp : r.resp.length ≤ 17592186044416
  guards : r.guards.length ≤ 1000000000
  ex : r.ex.length ≤ 17592186044416
  fa : r.fa.length ≤ 17592186044416
  send : r.send.length ≤ 17592186044416
  left : r.left.length ≤ 17592186044416
  right : r.right.length ≤ 17592186044416
  parent : r.parent.length ≤ 17592186044416
set_option maxRecDepth 100000 in
set_option maxHeartbeats 6400000 in
theorem CopyRule_c (r : Ru) (H : RuLen r) : Ctr Tryd.prog J 43 [.agg (cRu r)] (.agg (cRu r)) := by
  have hg := H.guards
  refine ctr_of_tri Tryd.func43 rfl (by intro X hX; simp at hX; subst hX; exact plain_agg (plain_ru r)) (n := 39) rfl (by simp) (fun w0 => ?_)
  refine tri_wk (wk_keep [] [(0, .agg (cRu r))] (n := 39) rfl (by kernel_rfl) (by kernel_rfl)) ?_
  refine tri_seq ?_
  refine tri_region ?_
  refine t_op rfl (sp_box (X := .agg (cRu r)) (k := 1) (.tmp 0) rfl rfl) ⟨.inl rfl, trivial⟩ trivial rfl ?_
  refine t_op rfl (sp_alloc (z := .agg #[.string (⟨#[]⟩), .int .i64 0, .int .i64 0, .int .i64 0, .int .i64 0, .int .i64 0, .slice none 0 0, .slice none 0 0, .slice none 0 0, .slice none 0 0, .int .i64 0, .int .i64 0, .slice none 0 0, .int .i64 0, .slice none 0 0, .slice none 0 0, .slice none 0 0, .int .i64 0]) (k := 2) rfl (by kernel_rfl)) trivial trivial rfl ?_
  refine tri_nil ?_
  refine tri_wk (wk_keep [(1, .box 76 (cRu r)), (2, .box 76 [.v (.string (⟨#[]⟩)), .v (.int .i64 0), .v (.int .i64 0), .v (.int .i64 0), .v (.int .i64 0), .v (.int .i64 0), .v (.slice none 0 0), .v (.slice none 0 0), .v (.slice none 0 0), .v (.slice none 0 0), .v (.int .i64 0), .v (.int .i64 0), .v (.slice none 0 0), .v (.int .i64 0), .v (.slice none 0 0), .v (.slice none 0 0), .v (.slice none 0 0), .v (.int .i64 0)])] [(1, .box 1 0), (2, .box 2 0)] (n := 39) rfl (by kernel_rfl) (by kernel_rfl)) ?_
  refine t_then ?_
  refine tri_seq ?_
  refine tri_region ?_
  refine t_op rfl (sp_loadBoxS (Y := .box 76 (cRu r)) (ds := cRu r) (z := 18) (.tmp 1) rfl Tryd.underlying76 rfl (by kernel_rfl) (by decide) (by kernel_rfl) (by kernel_rfl)) ⟨.inl rfl, trivial⟩ ⟨rfl, trivial⟩ trivial ?_
  refine t_op rfl (sp_alloc (z := .agg #[.string (⟨#[]⟩), .int .i64 0, .int .i64 0, .int .i64 0, .int .i64 0, .int .i64 0, .slice none 0 0, .slice none 0 0, .slice none 0 0, .slice none 0 0, .int .i64 0, .int .i64 0, .slice none 0 0, .int .i64 0, .slice none 0 0, .slice none 0 0, .slice none 0 0, .int .i64 0]) (k := 3) rfl (by kernel_rfl)) trivial trivial rfl ?_
  refine t_op rfl (sp_storeBox (T0 := 76) (X := .agg (cRu r)) (cs := [.v (.string (⟨#[]⟩)), .v (.int .i64 0), .v (.int .i64 0), .v (.int .i64 0), .v (.int .i64 0), .v (.int .i64 0), .v (.slice none 0 0), .v (.slice none 0 0), .v (.slice none 0 0), .v (.slice none 0 0), .v (.int .i64 0), .v (.int .i64 0), .v (.slice none 0 0), .v (.int .i64 0), .v (.slice none 0 0), .v (.slice none 0 0), .v (.slice none 0 0), .v (.int .i64 0)]) (ds := cRu r) (z := 18) (.tmp 3) (.tmp 4) rfl (by kernel_rfl) (by kernel_rfl) (by kernel_rfl) (of_decide_eq_true (by kernel_rfl)) (by kernel_rfl)) ⟨.inl rfl, .inl rfl, trivial⟩ ⟨rfl, trivial⟩ rfl ?_
  refine tri_nil ?_
  refine tri_wk (wk_keep [(1, .box 76 (cRu r)), (2, .box 76 [.v (.string (⟨#[]⟩)), .v (.int .i64 0), .v (.int .i64 0), .v (.int .i64 0), .v (.int .i64 0), .v (.int .i64 0), .v (.slice none 0 0), .v (.slice none 0 0), .v (.slice none 0 0), .v (.slice none 0 0), .v (.int .i64 0), .v (.int .i64 0), .v (.slice none 0 0), .v (.int .i64 0), .v (.slice none 0 0), .v (.slice none 0 0), .v (.slice none 0 0), .v (.int .i64 0)]), (3, .box 76 (cRu r))] [(1, .box 1 0), (2, .box 2 0), (3, .box 3 0)] (n := 39) rfl (by kernel_rfl) (by kernel_rfl)) ?_
  refine t_then ?_
  refine tri_seq ?_
  refine tri_region ?_
  refine t_op rfl (sp_fieldBox (off' := 6) (.tmp 1) rfl Tryd.underlying76 rfl (z := 1) (by kernel_rfl) (by decide) rfl) ⟨.inl rfl, trivial⟩ trivial trivial ?_
  refine t_op rfl (sp_loadBox1 (Y := .box 76 (cRu r)) (X := intsA r.resp) (.tmp 5) rfl Tryd.underlying24 rfl rfl) ⟨.inl rfl, trivial⟩ ⟨rfl, trivial⟩ trivial ?_
  refine t_op rfl (sp_call [] (CopyInts_c r.resp H.resp) rfl (by kernel_rfl) rfl (Xs := [intsA r.resp]) rfl rfl rfl) ⟨.inl rfl, .inl rfl, trivial⟩ trivial trivial ?_
  refine t_op rfl (sp_fieldBox (off' := 6) (.tmp 3) rfl Tryd.underlying76 rfl (z := 1) (by kernel_rfl) (by decide) rfl) ⟨.inl rfl, trivial⟩ trivial trivial ?_
  refine t_op rfl (sp_storeBox (T0 := 76) (X := .fr (intsA r.resp)) (cs := cRu r) (ds := [.v (.string r.nm), .v (.int .i64 r.kind), .v (.int .i64 r.frm), .v (.int .i64 r.to), .v (.int .i64 r.pf), .v (.int .i64 r.pt), .fr (intsA r.resp), slA 6 cTh r.guards, intsA r.ex, intsA r.fa, .v (.int .i64 r.rd), .v (.int .i64 r.wr), intsA r.send, .v (.int .i64 r.pos), intsA r.left, intsA r.right, intsA r.parent, .v (.int .i64 r.dir)]) (z := 1) (.tmp 8) (.tmp 7) rfl (by kernel_rfl) (by kernel_rfl) (by kernel_rfl) (of_decide_eq_true (by kernel_rfl)) (by kernel_rfl)) ⟨.inl rfl, .inl rfl, trivial⟩ ⟨rfl, trivial⟩ rfl ?_
  refine tri_nil ?_
  refine tri_wk (wk_keep [(1, .box 76 (cRu r)), (2, .box 76 [.v (.string (⟨#[]⟩)), .v (.int .i64 0), .v (.int .i64 0), .v (.int .i64 0), .v (.int .i64 0), .v (.int .i64 0), .v (.slice none 0 0), .v (.slice none 0 0), .v (.slice none 0 0), .v (.slice none 0 0), .v (.int .i64 0), .v (.int .i64 0), .v (.slice none 0 0), .v (.int .i64 0), .v (.slice none 0 0), .v (.slice none 0 0), .v (.slice none 0 0), .v (.int .i64 0)]), (3, .box 76 [.v (.string r.nm), .v (.int .i64 r.kind), .v (.int .i64 r.frm), .v (.int .i64 r.to), .v (.int .i64 r.pf), .v (.int .i64 r.pt), .fr (intsA r.resp), slA 6 cTh r.guards, intsA r.ex, intsA r.fa, .v (.int .i64 r.rd), .v (.int .i64 r.wr), intsA r.send, .v (.int .i64 r.pos), intsA r.left, intsA r.right, intsA r.parent, .v (.int .i64 r.dir)])] [(1, .box 1 0), (2, .box 2 0), (3, .box 3 0)] (n := 39) rfl (by kernel_rfl) (by kernel_rfl)) ?_
  refine t_then ?_
  refine tri_seq ?_
  refine tri_region ?_
  refine t_op rfl (sp_build0 (z := 6) (k := 4) true rfl Tryd.underlying49 (by kernel_rfl)) trivial trivial rfl ?_
  refine t_op rfl (sp_fieldBox (off' := 7) (.tmp 1) rfl Tryd.underlying76 rfl (z := 1) (by kernel_rfl) (by decide) rfl) ⟨.inl rfl, trivial⟩ trivial trivial ?_
  refine t_op rfl (sp_loadBox1 (Y := .box 76 (cRu r)) (X := slA 6 cTh r.guards) (.tmp 10) rfl Tryd.underlying49 rfl rfl) ⟨.inl rfl, trivial⟩ ⟨rfl, trivial⟩ trivial ?_
  refine t_op rfl (sp_append (⟨Tryd.underlying49, by kernel_rfl, by decide⟩ : Elt Tryd.prog 49 55 6 48) (.tmp 9) (.tmp 11) rfl (fun _ => new_cTh _) (by unfold maxLen; omega) (by omega) (cell_cTh _) (es := (r.guards.flatMap cTh)) (by rw [unfr_cTh]; rfl)) ⟨.inl rfl, .inl rfl, trivial⟩ ⟨rfl, trivial⟩ rfl ?_
  refine t_op rfl (sp_fieldBox (off' := 7) (.tmp 3) rfl Tryd.underlying76 rfl (z := 1) (by kernel_rfl) (by decide) rfl) ⟨.inl rfl, trivial⟩ trivial trivial ?_
  refine t_op rfl (sp_storeBox (T0 := 76) (X := .own 4) (cs := [.v (.string r.nm), .v (.int .i64 r.kind), .v (.int .i64 r.frm), .v (.int .i64 r.to), .v (.int .i64 r.pf), .v (.int .i64 r.pt), .fr (intsA r.resp), slA 6 cTh r.guards, intsA r.ex, intsA r.fa, .v (.int .i64 r.rd), .v (.int .i64 r.wr), intsA r.send, .v (.int .i64 r.pos), intsA r.left, intsA r.right, intsA r.parent, .v (.int .i64 r.dir)]) (ds := [.v (.string r.nm), .v (.int .i64 r.kind), .v (.int .i64 r.frm), .v (.int .i64 r.to), .v (.int .i64 r.pf), .v (.int .i64 r.pt), .fr (intsA r.resp), .own 4, intsA r.ex, intsA r.fa, .v (.int .i64 r.rd), .v (.int .i64 r.wr), intsA r.send, .v (.int .i64 r.pos), intsA r.left, intsA r.right, intsA r.parent, .v (.int .i64 r.dir)]) (z := 1) (.tmp 13) (.tmp 12) rfl (by kernel_rfl) (by kernel_rfl) (by kernel_rfl) (of_decide_eq_true (by kernel_rfl)) (by kernel_rfl)) ⟨.inl rfl, .inl rfl, trivial⟩ ⟨rfl, trivial⟩ rfl ?_
  refine tri_nil ?_
  refine tri_wk (wk_keep [(1, .box 76 (cRu r)), (2, .box 76 [.v (.string (⟨#[]⟩)), .v (.int .i64 0), .v (.int .i64 0), .v (.int .i64 0), .v (.int .i64 0), .v (.int .i64 0), .v (.slice none 0 0), .v (.slice none 0 0), .v (.slice none 0 0), .v (.slice none 0 0), .v (.int .i64 0), .v (.int .i64 0), .v (.slice none 0 0), .v (.int .i64 0), .v (.slice none 0 0), .v (.slice none 0 0), .v (.slice none 0 0), .v (.int .i64 0)]), (3, .box 76 [.v (.string r.nm), .v (.int .i64 r.kind), .v (.int .i64 r.frm), .v (.int .i64 r.to), .v (.int .i64 r.pf), .v (.int .i64 r.pt), .fr (intsA r.resp), .own 4, intsA r.ex, intsA r.fa, .v (.int .i64 r.rd), .v (.int .i64 r.wr), intsA r.send, .v (.int .i64 r.pos), intsA r.left, intsA r.right, intsA r.parent, .v (.int .i64 r.dir)]), (4, .row true 55 6 (0 + r.guards.length) (r.guards.flatMap cTh))] [(1, .box 1 0), (2, .box 2 0), (3, .box 3 0)] (n := 39) rfl (by kernel_rfl) (by kernel_rfl)) ?_
  refine t_then ?_
  refine tri_seq ?_
  refine tri_region ?_
  refine t_op rfl (sp_fieldBox (off' := 8) (.tmp 1) rfl Tryd.underlying76 rfl (z := 1) (by kernel_rfl) (by decide) rfl) ⟨.inl rfl, trivial⟩ trivial trivial ?_
  refine t_op rfl (sp_loadBox1 (Y := .box 76 (cRu r)) (X := intsA r.ex) (.tmp 14) rfl Tryd.underlying24 rfl rfl) ⟨.inl rfl, trivial⟩ ⟨rfl, trivial⟩ trivial ?_
  refine t_op rfl (sp_call [] (CopyInts_c r.ex H.ex) rfl (by kernel_rfl) rfl (Xs := [intsA r.ex]) rfl rfl rfl) ⟨.inl rfl, .inl rfl, trivial⟩ trivial trivial ?_
  refine t_op rfl (sp_fieldBox (off' := 8) (.tmp 3) rfl Tryd.underlying76 rfl (z := 1) (by kernel_rfl) (by decide) rfl) ⟨.inl rfl, trivial⟩ trivial trivial ?_
  refine t_op rfl (sp_storeBox (T0 := 76) (X := .fr (intsA r.ex)) (cs := [.v (.string r.nm), .v (.int .i64 r.kind), .v (.int .i64 r.frm), .v (.int .i64 r.to), .v (.int .i64 r.pf), .v (.int .i64 r.pt), .fr (intsA r.resp), .own 4, intsA r.ex, intsA r.fa, .v (.int .i64 r.rd), .v (.int .i64 r.wr), intsA r.send, .v (.int .i64 r.pos), intsA r.left, intsA r.right, intsA r.parent, .v (.int .i64 r.dir)]) (ds := [.v (.string r.nm), .v (.int .i64 r.kind), .v (.int .i64 r.frm), .v (.int .i64 r.to), .v (.int .i64 r.pf), .v (.int .i64 r.pt), .fr (intsA r.resp), .own 4, .fr (intsA r.ex), intsA r.fa, .v (.int .i64 r.rd), .v (.int .i64 r.wr), intsA r.send, .v (.int .i64 r.pos), intsA r.left, intsA r.right, intsA r.parent, .v (.int .i64 r.dir)]) (z := 1) (.tmp 17) (.tmp 16) rfl (by kernel_rfl) (by kernel_rfl) (by kernel_rfl) (of_decide_eq_true (by kernel_rfl)) (by kernel_rfl)) ⟨.inl rfl, .inl rfl, trivial⟩ ⟨rfl, trivial⟩ rfl ?_
  refine tri_nil ?_
  refine tri_wk (wk_keep [(1, .box 76 (cRu r)), (2, .box 76 [.v (.string (⟨#[]⟩)), .v (.int .i64 0), .v (.int .i64 0), .v (.int .i64 0), .v (.int .i64 0), .v (.int .i64 0), .v (.slice none 0 0), .v (.slice none 0 0), .v (.slice none 0 0), .v (.slice none 0 0), .v (.int .i64 0), .v (.int .i64 0), .v (.slice none 0 0), .v (.int .i64 0), .v (.slice none 0 0), .v (.slice none 0 0), .v (.slice none 0 0), .v (.int .i64 0)]), (3, .box 76 [.v (.string r.nm), .v (.int .i64 r.kind), .v (.int .i64 r.frm), .v (.int .i64 r.to), .v (.int .i64 r.pf), .v (.int .i64 r.pt), .fr (intsA r.resp), .own 4, .fr (intsA r.ex), intsA r.fa, .v (.int .i64 r.rd), .v (.int .i64 r.wr), intsA r.send, .v (.int .i64 r.pos), intsA r.left, intsA r.right, intsA r.parent, .v (.int .i64 r.dir)]), (4, .row true 55 6 (0 + r.guards.length) (r.guards.flatMap cTh))] [(1, .box 1 0), (2, .box 2 0), (3, .box 3 0)] (n := 39) rfl (by kernel_rfl) (by kernel_rfl)) ?_
  refine t_then ?_
  refine tri_seq ?_
  refine tri_region ?_
  refine t_op rfl (sp_fieldBox (off' := 9) (.tmp 1) rfl Tryd.underlying76 rfl (z := 1) (by kernel_rfl) (by decide) rfl) ⟨.inl rfl, trivial⟩ trivial trivial ?_
  refine t_op rfl (sp_loadBox1 (Y := .box 76 (cRu r)) (X := intsA r.fa) (.tmp 18) rfl Tryd.underlying24 rfl rfl) ⟨.inl rfl, trivial⟩ ⟨rfl, trivial⟩ trivial ?_
  refine t_op rfl (sp_call [] (CopyInts_c r.fa H.fa) rfl (by kernel_rfl) rfl (Xs := [intsA r.fa]) rfl rfl rfl) ⟨.inl rfl, .inl rfl, trivial⟩ trivial trivial ?_
  refine t_op rfl (sp_fieldBox (off' := 9) (.tmp 3) rfl Tryd.underlying76 rfl (z := 1) (by kernel_rfl) (by decide) rfl) ⟨.inl rfl, trivial⟩ trivial trivial ?_
  refine t_op rfl (sp_storeBox (T0 := 76) (X := .fr (intsA r.fa)) (cs := [.v (.string r.nm), .v (.int .i64 r.kind), .v (.int .i64 r.frm), .v (.int .i64 r.to), .v (.int .i64 r.pf), .v (.int .i64 r.pt), .fr (intsA r.resp), .own 4, .fr (intsA r.ex), intsA r.fa, .v (.int .i64 r.rd), .v (.int .i64 r.wr), intsA r.send, .v (.int .i64 r.pos), intsA r.left, intsA r.right, intsA r.parent, .v (.int .i64 r.dir)]) (ds := [.v (.string r.nm), .v (.int .i64 r.kind), .v (.int .i64 r.frm), .v (.int .i64 r.to), .v (.int .i64 r.pf), .v (.int .i64 r.pt), .fr (intsA r.resp), .own 4, .fr (intsA r.ex), .fr (intsA r.fa), .v (.int .i64 r.rd), .v (.int .i64 r.wr), intsA r.send, .v (.int .i64 r.pos), intsA r.left, intsA r.right, intsA r.parent, .v (.int .i64 r.dir)]) (z := 1) (.tmp 21) (.tmp 20) rfl (by kernel_rfl) (by kernel_rfl) (by kernel_rfl) (of_decide_eq_true (by kernel_rfl)) (by kernel_rfl)) ⟨.inl rfl, .inl rfl, trivial⟩ ⟨rfl, trivial⟩ rfl ?_
  refine tri_nil ?_
  refine tri_wk (wk_keep [(1, .box 76 (cRu r)), (2, .box 76 [.v (.string (⟨#[]⟩)), .v (.int .i64 0), .v (.int .i64 0), .v (.int .i64 0), .v (.int .i64 0), .v (.int .i64 0), .v (.slice none 0 0), .v (.slice none 0 0), .v (.slice none 0 0), .v (.slice none 0 0), .v (.int .i64 0), .v (.int .i64 0), .v (.slice none 0 0), .v (.int .i64 0), .v (.slice none 0 0), .v (.slice none 0 0), .v (.slice none 0 0), .v (.int .i64 0)]), (3, .box 76 [.v (.string r.nm), .v (.int .i64 r.kind), .v (.int .i64 r.frm), .v (.int .i64 r.to), .v (.int .i64 r.pf), .v (.int .i64 r.pt), .fr (intsA r.resp), .own 4, .fr (intsA r.ex), .fr (intsA r.fa), .v (.int .i64 r.rd), .v (.int .i64 r.wr), intsA r.send, .v (.int .i64 r.pos), intsA r.left, intsA r.right, intsA r.parent, .v (.int .i64 r.dir)]), (4, .row true 55 6 (0 + r.guards.length) (r.guards.flatMap cTh))] [(1, .box 1 0), (2, .box 2 0), (3, .box 3 0)] (n := 39) rfl (by kernel_rfl) (by kernel_rfl)) ?_
  refine t_then ?_
  refine tri_seq ?_
  refine tri_region ?_
  refine t_op rfl (sp_fieldBox (off' := 12) (.tmp 1) rfl Tryd.underlying76 rfl (z := 1) (by kernel_rfl) (by decide) rfl) ⟨.inl rfl, trivial⟩ trivial trivial ?_
  refine t_op rfl (sp_loadBox1 (Y := .box 76 (cRu r)) (X := intsA r.send) (.tmp 22) rfl Tryd.underlying24 rfl rfl) ⟨.inl rfl, trivial⟩ ⟨rfl, trivial⟩ trivial ?_
  refine t_op rfl (sp_call [] (CopyInts_c r.send H.send) rfl (by kernel_rfl) rfl (Xs := [intsA r.send]) rfl rfl rfl) ⟨.inl rfl, .inl rfl, trivial⟩ trivial trivial ?_
  refine t_op rfl (sp_fieldBox (off' := 12) (.tmp 3) rfl Tryd.underlying76 rfl (z := 1) (by kernel_rfl) (by decide) rfl) ⟨.inl rfl, trivial⟩ trivial trivial ?_
  refine t_op rfl (sp_storeBox (T0 := 76) (X := .fr (intsA r.send)) (cs := [.v (.string r.nm), .v (.int .i64 r.kind), .v (.int .i64 r.frm), .v (.int .i64 r.to), .v (.int .i64 r.pf), .v (.int .i64 r.pt), .fr (intsA r.resp), .own 4, .fr (intsA r.ex), .fr (intsA r.fa), .v (.int .i64 r.rd), .v (.int .i64 r.wr), intsA r.send, .v (.int .i64 r.pos), intsA r.left, intsA r.right, intsA r.parent, .v (.int .i64 r.dir)]) (ds := [.v (.string r.nm), .v (.int .i64 r.kind), .v (.int .i64 r.frm), .v (.int .i64 r.to), .v (.int .i64 r.pf), .v (.int .i64 r.pt), .fr (intsA r.resp), .own 4, .fr (intsA r.ex), .fr (intsA r.fa), .v (.int .i64 r.rd), .v (.int .i64 r.wr), .fr (intsA r.send), .v (.int .i64 r.pos), intsA r.left, intsA r.right, intsA r.parent, .v (.int .i64 r.dir)]) (z := 1) (.tmp 25) (.tmp 24) rfl (by kernel_rfl) (by kernel_rfl) (by kernel_rfl) (of_decide_eq_true (by kernel_rfl)) (by kernel_rfl)) ⟨.inl rfl, .inl rfl, trivial⟩ ⟨rfl, trivial⟩ rfl ?_
  refine tri_nil ?_
  refine tri_wk (wk_keep [(1, .box 76 (cRu r)), (2, .box 76 [.v (.string (⟨#[]⟩)), .v (.int .i64 0), .v (.int .i64 0), .v (.int .i64 0), .v (.int .i64 0), .v (.int .i64 0), .v (.slice none 0 0), .v (.slice none 0 0), .v (.slice none 0 0), .v (.slice none 0 0), .v (.int .i64 0), .v (.int .i64 0), .v (.slice none 0 0), .v (.int .i64 0), .v (.slice none 0 0), .v (.slice none 0 0), .v (.slice none 0 0), .v (.int .i64 0)]), (3, .box 76 [.v (.string r.nm), .v (.int .i64 r.kind), .v (.int .i64 r.frm), .v (.int .i64 r.to), .v (.int .i64 r.pf), .v (.int .i64 r.pt), .fr (intsA r.resp), .own 4, .fr (intsA r.ex), .fr (intsA r.fa), .v (.int .i64 r.rd), .v (.int .i64 r.wr), .fr (intsA r.send), .v (.int .i64 r.pos), intsA r.left, intsA r.right, intsA r.parent, .v (.int .i64 r.dir)]), (4, .row true 55 6 (0 + r.guards.length) (r.guards.flatMap cTh))] [(1, .box 1 0), (2, .box 2 0), (3, .box 3 0)] (n := 39) rfl (by kernel_rfl) (by kernel_rfl)) ?_
  refine t_then ?_
  refine tri_seq ?_
  refine tri_region ?_
  refine t_op rfl (sp_fieldBox (off' := 14) (.tmp 1) rfl Tryd.underlying76 rfl (z := 1) (by kernel_rfl) (by decide) rfl) ⟨.inl rfl, trivial⟩ trivial trivial ?_
  refine t_op rfl (sp_loadBox1 (Y := .box 76 (cRu r)) (X := intsA r.left) (.tmp 26) rfl Tryd.underlying24 rfl rfl) ⟨.inl rfl, trivial⟩ ⟨rfl, trivial⟩ trivial ?_
  refine t_op rfl (sp_call [] (CopyInts_c r.left H.left) rfl (by kernel_rfl) rfl (Xs := [intsA r.left]) rfl rfl rfl) ⟨.inl rfl, .inl rfl, trivial⟩ trivial trivial ?_
  refine t_op rfl (sp_fieldBox (off' := 14) (.tmp 3) rfl Tryd.underlying76 rfl (z := 1) (by kernel_rfl) (by decide) rfl) ⟨.inl rfl, trivial⟩ trivial trivial ?_
  refine t_op rfl (sp_storeBox (T0 := 76) (X := .fr (intsA r.left)) (cs := [.v (.string r.nm), .v (.int .i64 r.kind), .v (.int .i64 r.frm), .v (.int .i64 r.to), .v (.int .i64 r.pf), .v (.int .i64 r.pt), .fr (intsA r.resp), .own 4, .fr (intsA r.ex), .fr (intsA r.fa), .v (.int .i64 r.rd), .v (.int .i64 r.wr), .fr (intsA r.send), .v (.int .i64 r.pos), intsA r.left, intsA r.right, intsA r.parent, .v (.int .i64 r.dir)]) (ds := [.v (.string r.nm), .v (.int .i64 r.kind), .v (.int .i64 r.frm), .v (.int .i64 r.to), .v (.int .i64 r.pf), .v (.int .i64 r.pt), .fr (intsA r.resp), .own 4, .fr (intsA r.ex), .fr (intsA r.fa), .v (.int .i64 r.rd), .v (.int .i64 r.wr), .fr (intsA r.send), .v (.int .i64 r.pos), .fr (intsA r.left), intsA r.right, intsA r.parent, .v (.int .i64 r.dir)]) (z := 1) (.tmp 29) (.tmp 28) rfl (by kernel_rfl) (by kernel_rfl) (by kernel_rfl) (of_decide_eq_true (by kernel_rfl)) (by kernel_rfl)) ⟨.inl rfl, .inl rfl, trivial⟩ ⟨rfl, trivial⟩ rfl ?_
  refine tri_nil ?_
  refine tri_wk (wk_keep [(1, .box 76 (cRu r)), (2, .box 76 [.v (.string (⟨#[]⟩)), .v (.int .i64 0), .v (.int .i64 0), .v (.int .i64 0), .v (.int .i64 0), .v (.int .i64 0), .v (.slice none 0 0), .v (.slice none 0 0), .v (.slice none 0 0), .v (.slice none 0 0), .v (.int .i64 0), .v (.int .i64 0), .v (.slice none 0 0), .v (.int .i64 0), .v (.slice none 0 0), .v (.slice none 0 0), .v (.slice none 0 0), .v (.int .i64 0)]), (3, .box 76 [.v (.string r.nm), .v (.int .i64 r.kind), .v (.int .i64 r.frm), .v (.int .i64 r.to), .v (.int .i64 r.pf), .v (.int .i64 r.pt), .fr (intsA r.resp), .own 4, .fr (intsA r.ex), .fr (intsA r.fa), .v (.int .i64 r.rd), .v (.int .i64 r.wr), .fr (intsA r.send), .v (.int .i64 r.pos), .fr (intsA r.left), intsA r.right, intsA r.parent, .v (.int .i64 r.dir)]), (4, .row true 55 6 (0 + r.guards.length) (r.guards.flatMap cTh))] [(1, .box 1 0), (2, .box 2 0), (3, .box 3 0)] (n := 39) rfl (by kernel_rfl) (by kernel_rfl)) ?_
  refine t_then ?_
  refine tri_seq ?_
  refine tri_region ?_
  refine t_op rfl (sp_fieldBox (off' := 15) (.tmp 1) rfl Tryd.underlying76 rfl (z := 1) (by kernel_rfl) (by decide) rfl) ⟨.inl rfl, trivial⟩ trivial trivial ?_
  refine t_op rfl (sp_loadBox1 (Y := .box 76 (cRu r)) (X := intsA r.right) (.tmp 30) rfl Tryd.underlying24 rfl rfl) ⟨.inl rfl, trivial⟩ ⟨rfl, trivial⟩ trivial ?_
  refine t_op rfl (sp_call [] (CopyInts_c r.right H.right) rfl (by kernel_rfl) rfl (Xs := [intsA r.right]) rfl rfl rfl) ⟨.inl rfl, .inl rfl, trivial⟩ trivial trivial ?_
  refine t_op rfl (sp_fieldBox (off' := 15) (.tmp 3) rfl Tryd.underlying76 rfl (z := 1) (by kernel_rfl) (by decide) rfl) ⟨.inl rfl, trivial⟩ trivial trivial ?_
  refine t_op rfl (sp_storeBox (T0 := 76) (X := .fr (intsA r.right)) (cs := [.v (.string r.nm), .v (.int .i64 r.kind), .v (.int .i64 r.frm), .v (.int .i64 r.to), .v (.int .i64 r.pf), .v (.int .i64 r.pt), .fr (intsA r.resp), .own 4, .fr (intsA r.ex), .fr (intsA r.fa), .v (.int .i64 r.rd), .v (.int .i64 r.wr), .fr (intsA r.send), .v (.int .i64 r.pos), .fr (intsA r.left), intsA r.right, intsA r.parent, .v (.int .i64 r.dir)]) (ds := [.v (.string r.nm), .v (.int .i64 r.kind), .v (.int .i64 r.frm), .v (.int .i64 r.to), .v (.int .i64 r.pf), .v (.int .i64 r.pt), .fr (intsA r.resp), .own 4, .fr (intsA r.ex), .fr (intsA r.fa), .v (.int .i64 r.rd), .v (.int .i64 r.wr), .fr (intsA r.send), .v (.int .i64 r.pos), .fr (intsA r.left), .fr (intsA r.right), intsA r.parent, .v (.int .i64 r.dir)]) (z := 1) (.tmp 33) (.tmp 32) rfl (by kernel_rfl) (by kernel_rfl) (by kernel_rfl) (of_decide_eq_true (by kernel_rfl)) (by kernel_rfl)) ⟨.inl rfl, .inl rfl, trivial⟩ ⟨rfl, trivial⟩ rfl ?_
  refine tri_nil ?_
  refine tri_wk (wk_keep [(1, .box 76 (cRu r)), (2, .box 76 [.v (.string (⟨#[]⟩)), .v (.int .i64 0), .v (.int .i64 0), .v (.int .i64 0), .v (.int .i64 0), .v (.int .i64 0), .v (.slice none 0 0), .v (.slice none 0 0), .v (.slice none 0 0), .v (.slice none 0 0), .v (.int .i64 0), .v (.int .i64 0), .v (.slice none 0 0), .v (.int .i64 0), .v (.slice none 0 0), .v (.slice none 0 0), .v (.slice none 0 0), .v (.int .i64 0)]), (3, .box 76 [.v (.string r.nm), .v (.int .i64 r.kind), .v (.int .i64 r.frm), .v (.int .i64 r.to), .v (.int .i64 r.pf), .v (.int .i64 r.pt), .fr (intsA r.resp), .own 4, .fr (intsA r.ex), .fr (intsA r.fa), .v (.int .i64 r.rd), .v (.int .i64 r.wr), .fr (intsA r.send), .v (.int .i64 r.pos), .fr (intsA r.left), .fr (intsA r.right), intsA r.parent, .v (.int .i64 r.dir)]), (4, .row true 55 6 (0 + r.guards.length) (r.guards.flatMap cTh))] [(1, .box 1 0), (2, .box 2 0), (3, .box 3 0)] (n := 39) rfl (by kernel_rfl) (by kernel_rfl)) ?_
  refine t_then ?_
  refine tri_seq ?_
  refine tri_region ?_
  refine t_op rfl (sp_fieldBox (off' := 16) (.tmp 1) rfl Tryd.underlying76 rfl (z := 1) (by kernel_rfl) (by decide) rfl) ⟨.inl rfl, trivial⟩ trivial trivial ?_
  refine t_op rfl (sp_loadBox1 (Y := .box 76 (cRu r)) (X := intsA r.parent) (.tmp 34) rfl Tryd.underlying24 rfl rfl) ⟨.inl rfl, trivial⟩ ⟨rfl, trivial⟩ trivial ?_
  refine t_op rfl (sp_call [] (CopyInts_c r.parent H.parent) rfl (by kernel_rfl) rfl (Xs := [intsA r.parent]) rfl rfl rfl) ⟨.inl rfl, .inl rfl, trivial⟩ trivial trivial ?_
  refine t_op rfl (sp_fieldBox (off' := 16) (.tmp 3) rfl Tryd.underlying76 rfl (z := 1) (by kernel_rfl) (by decide) rfl) ⟨.inl rfl, trivial⟩ trivial trivial ?_
  refine t_op rfl (sp_storeBox (T0 := 76) (X := .fr (intsA r.parent)) (cs := [.v (.string r.nm), .v (.int .i64 r.kind), .v (.int .i64 r.frm), .v (.int .i64 r.to), .v (.int .i64 r.pf), .v (.int .i64 r.pt), .fr (intsA r.resp), .own 4, .fr (intsA r.ex), .fr (intsA r.fa), .v (.int .i64 r.rd), .v (.int .i64 r.wr), .fr (intsA r.send), .v (.int .i64 r.pos), .fr (intsA r.left), .fr (intsA r.right), intsA r.parent, .v (.int .i64 r.dir)]) (ds := [.v (.string r.nm), .v (.int .i64 r.kind), .v (.int .i64 r.frm), .v (.int .i64 r.to), .v (.int .i64 r.pf), .v (.int .i64 r.pt), .fr (intsA r.resp), .own 4, .fr (intsA r.ex), .fr (intsA r.fa), .v (.int .i64 r.rd), .v (.int .i64 r.wr), .fr (intsA r.send), .v (.int .i64 r.pos), .fr (intsA r.left), .fr (intsA r.right), .fr (intsA r.parent), .v (.int .i64 r.dir)]) (z := 1) (.tmp 37) (.tmp 36) rfl (by kernel_rfl) (by kernel_rfl) (by kernel_rfl) (of_decide_eq_true (by kernel_rfl)) (by kernel_rfl)) ⟨.inl rfl, .inl rfl, trivial⟩ ⟨rfl, trivial⟩ rfl ?_
  refine tri_nil ?_
  refine tri_wk (wk_keep [(1, .box 76 (cRu r)), (2, .box 76 [.v (.string (⟨#[]⟩)), .v (.int .i64 0), .v (.int .i64 0), .v (.int .i64 0), .v (.int .i64 0), .v (.int .i64 0), .v (.slice none 0 0), .v (.slice none 0 0), .v (.slice none 0 0), .v (.slice none 0 0), .v (.int .i64 0), .v (.int .i64 0), .v (.slice none 0 0), .v (.int .i64 0), .v (.slice none 0 0), .v (.slice none 0 0), .v (.slice none 0 0), .v (.int .i64 0)]), (3, .box 76 [.v (.string r.nm), .v (.int .i64 r.kind), .v (.int .i64 r.frm), .v (.int .i64 r.to), .v (.int .i64 r.pf), .v (.int .i64 r.pt), .fr (intsA r.resp), .own 4, .fr (intsA r.ex), .fr (intsA r.fa), .v (.int .i64 r.rd), .v (.int .i64 r.wr), .fr (intsA r.send), .v (.int .i64 r.pos), .fr (intsA r.left), .fr (intsA r.right), .fr (intsA r.parent), .v (.int .i64 r.dir)]), (4, .row true 55 6 (0 + r.guards.length) (r.guards.flatMap cTh))] [(1, .box 1 0), (2, .box 2 0), (3, .box 3 0)] (n := 39) rfl (by kernel_rfl) (by kernel_rfl)) ?_
  refine t_then ?_
  refine tri_seq ?_
  refine tri_region ?_
  refine t_op rfl (sp_loadBoxS (Y := .box 76 [.v (.string r.nm), .v (.int .i64 r.kind), .v (.int .i64 r.frm), .v (.int .i64 r.to), .v (.int .i64 r.pf), .v (.int .i64 r.pt), .fr (intsA r.resp), .own 4, .fr (intsA r.ex), .fr (intsA r.fa), .v (.int .i64 r.rd), .v (.int .i64 r.wr), .fr (intsA r.send), .v (.int .i64 r.pos), .fr (intsA r.left), .fr (intsA r.right), .fr (intsA r.parent), .v (.int .i64 r.dir)]) (ds := [.v (.string r.nm), .v (.int .i64 r.kind), .v (.int .i64 r.frm), .v (.int .i64 r.to), .v (.int .i64 r.pf), .v (.int .i64 r.pt), .fr (intsA r.resp), .own 4, .fr (intsA r.ex), .fr (intsA r.fa), .v (.int .i64 r.rd), .v (.int .i64 r.wr), .fr (intsA r.send), .v (.int .i64 r.pos), .fr (intsA r.left), .fr (intsA r.right), .fr (intsA r.parent), .v (.int .i64 r.dir)]) (z := 18) (.tmp 3) rfl Tryd.underlying76 rfl (by kernel_rfl) (by decide) (by kernel_rfl) (by kernel_rfl)) ⟨.inl rfl, trivial⟩ ⟨rfl, trivial⟩ trivial ?_
  refine t_op rfl (sp_storeBox (T0 := 76) (X := .agg [.v (.string r.nm), .v (.int .i64 r.kind), .v (.int .i64 r.frm), .v (.int .i64 r.to), .v (.int .i64 r.pf), .v (.int .i64 r.pt), .fr (intsA r.resp), .own 4, .fr (intsA r.ex), .fr (intsA r.fa), .v (.int .i64 r.rd), .v (.int .i64 r.wr), .fr (intsA r.send), .v (.int .i64 r.pos), .fr (intsA r.left), .fr (intsA r.right), .fr (intsA r.parent), .v (.int .i64 r.dir)]) (cs := [.v (.string (⟨#[]⟩)), .v (.int .i64 0), .v (.int .i64 0), .v (.int .i64 0), .v (.int .i64 0), .v (.int .i64 0), .v (.slice none 0 0), .v (.slice none 0 0), .v (.slice none 0 0), .v (.slice none 0 0), .v (.int .i64 0), .v (.int .i64 0), .v (.slice none 0 0), .v (.int .i64 0), .v (.slice none 0 0), .v (.slice none 0 0), .v (.slice none 0 0), .v (.int .i64 0)]) (ds := [.v (.string r.nm), .v (.int .i64 r.kind), .v (.int .i64 r.frm), .v (.int .i64 r.to), .v (.int .i64 r.pf), .v (.int .i64 r.pt), .fr (intsA r.resp), .own 4, .fr (intsA r.ex), .fr (intsA r.fa), .v (.int .i64 r.rd), .v (.int .i64 r.wr), .fr (intsA r.send), .v (.int .i64 r.pos), .fr (intsA r.left), .fr (intsA r.right), .fr (intsA r.parent), .v (.int .i64 r.dir)]) (z := 18) (.tmp 2) (.tmp 38) rfl (by kernel_rfl) (by kernel_rfl) (by kernel_rfl) (of_decide_eq_true (by kernel_rfl)) (by kernel_rfl)) ⟨.inl rfl, .inl rfl, trivial⟩ ⟨rfl, trivial⟩ rfl ?_
  refine tri_nil ?_
  refine tri_wk (wk_keep [(1, .box 76 (cRu r)), (2, .box 76 [.v (.string r.nm), .v (.int .i64 r.kind), .v (.int .i64 r.frm), .v (.int .i64 r.to), .v (.int .i64 r.pf), .v (.int .i64 r.pt), .fr (intsA r.resp), .own 4, .fr (intsA r.ex), .fr (intsA r.fa), .v (.int .i64 r.rd), .v (.int .i64 r.wr), .fr (intsA r.send), .v (.int .i64 r.pos), .fr (intsA r.left), .fr (intsA r.right), .fr (intsA r.parent), .v (.int .i64 r.dir)]), (3, .box 76 [.v (.string r.nm), .v (.int .i64 r.kind), .v (.int .i64 r.frm), .v (.int .i64 r.to), .v (.int .i64 r.pf), .v (.int .i64 r.pt), .fr (intsA r.resp), .own 4, .fr (intsA r.ex), .fr (intsA r.fa), .v (.int .i64 r.rd), .v (.int .i64 r.wr), .fr (intsA r.send), .v (.int .i64 r.pos), .fr (intsA r.left), .fr (intsA r.right), .fr (intsA r.parent), .v (.int .i64 r.dir)]), (4, .row true 55 6 (0 + r.guards.length) (r.guards.flatMap cTh))] [(1, .box 1 0), (2, .box 2 0), (3, .box 3 0)] (n := 39) rfl (by kernel_rfl) (by kernel_rfl)) ?_
  refine t_then ?_
  refine tri_ret ?_
  refine tri_end1 Tryd.results43 (.cellS rfl rfl Tryd.underlying76 rfl (z := 18) (by kernel_rfl) rfl (by decide)) ?_
  show AV.agg [sv r.nm, iv r.kind, iv r.frm, iv r.to, iv r.pf, iv r.pt, intsA r.resp, .sl 6 (0 + r.guards.length) (r.guards.flatMap cTh), intsA r.ex, intsA r.fa, iv r.rd, iv r.wr, intsA r.send, iv r.pos, intsA r.left, intsA r.right, intsA r.parent, iv r.dir] = .agg (cRu r)
  rw [Nat.zero_add]; rfl
end Go.Proofs.YtmpbfdfjcfanoaaDoor

/-
  A NIL SLICE IN A CELL IS TAKEN FOR ONE THAT THE CALL OWNS.
-/
namespace Go.Proofs.YtmpbfdfjcfanoaaDoor
open Go.RowKit Go.Deep
theorem wk_adoptB {h : AHeap} {t : ATm} (k0 i k : Nat) (fr : Bool) (e z : Nat) {T : TypeId} {cs ds : List AV} (hk : h k = none) (hb : h k0 = some (.box T cs)) (hi : cs[i]? = some (.v (.slice none 0 0))) (hd : cs.set i (.own k) = ds) :
    Wk h t (fun j => if j = k then some (.row fr e z 0 []) else if j = k0 then some (.box T ds) else h j) t := by
  subst hd
  intro J w0 ρ a w s
  have hρ := s.dom k hk
  have hkk : k0 ≠ k := by rintro rfl; rw [hb] at hk; cases hk
  refine ⟨upd ρ k .nil, ?_⟩
  have hok : ∀ b, okOf ρ b → okOf (upd ρ k .nil) b := fun b hb j c n hj => by
    by_cases e : j = k
    · subst e; rw [upd_same] at hj; cases hj
    · rw [upd_other e] at hj; exact hb _ _ _ hj
  have hn : ∀ j nm, ρ j = some nm → upd ρ k .nil j = some nm := fun j nm hj => by rw [upd_other (by rintro rfl; rw [hρ] at hj; cases hj)]; exact hj
  have hp : ∀ X x, Pu (w0.heap.size ≤ ·) w (okOf ρ) X x → Pu (w0.heap.size ≤ ·) w (okOf (upd ρ k .nil)) X x := fun X x hx => hx.weak hok
  have hat : ∀ j b c n, upd ρ k .nil j = some (.at b c n) → ρ j = some (.at b c n) := fun j b c n hj => by
    by_cases e : j = k
    · subst e; rw [upd_same] at hj; cases hj
    · rw [upd_other e] at hj; exact hj
  refine ⟨⟨fun j k b c d m n hj hk => s.wf.inj _ _ _ _ _ _ _ (hat _ _ _ _ hj) (hat _ _ _ _ hk), fun k b c n hk => s.wf.lo _ _ _ _ (hat _ _ _ _ hk)⟩, s.bel, s.inv, fun j X hj => ?_, fun j hj => ?_, s.tl, fun j hj => (s.tm j hj).keep hp hn, s.df⟩
  · by_cases e : j = k
    · subst e
      rw [if_pos rfl] at hj
      cases hj
      exact ⟨.nil, upd_same _ _ _, blk_nil _ _ _ _ _ _⟩
    · rw [if_neg e] at hj
      by_cases e0 : j = k0
      · subst e0
        rw [if_pos rfl] at hj
        cases hj
        obtain ⟨nm, g1, g2⟩ := s.hp j _ hb
        obtain ⟨b, c, n, vs, q0, q1, q2, q3⟩ := g2
        refine ⟨nm, hn _ _ g1, b, c, n, vs, q0, q1, by simpa using q2, fun l hl => ?_⟩
        have hl' : l < cs.length := by simpa using hl
        rw [List.getElem_set]
        split
        · rename_i e1
          subst e1
          have h1 := q3 i hl'
          have h2 : cs[i] = .v (.slice none 0 0) := by
            rw [List.getElem?_eq_getElem hl'] at hi
            exact Option.some.inj hi
          rw [h2] at h1
          rw [h1.v_inv]
          exact .own (nm := .nil) (upd_same _ _ _)
        · exact (q3 l hl').keep hp hn
      · rw [if_neg e0] at hj
        obtain ⟨nm, g1, g2⟩ := s.hp j X hj
        exact ⟨nm, hn _ _ g1, g2.keep (fun fr X x hx => hx.weak fun b hb => ⟨hok _ hb.1, hb.2⟩) hp hn fun _ _ _ _ => rfl⟩
  · by_cases e : j = k
    · rw [if_pos e] at hj; cases hj
    · rw [if_neg e] at hj
      rw [upd_other e]
      by_cases e0 : j = k0
      · rw [if_pos e0] at hj; cases hj
      · rw [if_neg e0] at hj; exact s.dom j hj
end Go.Proofs.YtmpbfdfjcfanoaaDoor

/-
  THE COPY OF A FAMILY: plain facts.
-/
namespace Go.Proofs.YtmpbfdfjcfanoaaDoor
open Go.RowKit Go.Deep
/-- What is not big. -/
structure FamLen (q : Fm) : Prop where
  states : q.states.length ≤ 60
  msgs : q.msgs.length ≤ 60
  vals : q.vals.length ≤ 60
  res : q.res.length ≤ 60
  init : q.init.length ≤ 60
  leader : q.leader.length ≤ 60
  lrules : q.rules.length ≤ 30
  rules : ∀ r ∈ q.rules, RuLen r
theorem famLen {q : Fm} (h : bigF q = false) : FamLen q := by
  unfold bigF at h
  simp only [Bool.or_eq_false_iff, decide_eq_false_iff_not] at h
  obtain ⟨⟨⟨⟨⟨⟨⟨⟨⟨⟨⟨h0, h1⟩, h2⟩, h3⟩, h4⟩, h5⟩, h6⟩, h7⟩, h8⟩, _⟩, _⟩, _⟩ := h
  refine ⟨by omega, by omega, by omega, by omega, by omega, by omega, by omega, fun r hr => ?_⟩
  unfold bigRk at h8
  rw [List.take_length, List.any_eq_false] at h8
  have h9 := h8 r hr
  have h10 : bigR r = false := by simpa using h9
  unfold bigR at h10
  simp only [Bool.or_eq_false_iff, decide_eq_false_iff_not] at h10
  obtain ⟨⟨⟨⟨⟨⟨⟨⟨_, a1⟩, a2⟩, a3⟩, a4⟩, a5⟩, a6⟩, a7⟩, a8⟩ := h10
  exact ⟨by omega, by omega, by omega, by omega, by omega, by omega, by omega, by omega⟩
theorem newRu (r : Ru) : ∀ d ∈ (cRu r).map AV.mkFr, d.isNew = true := fun d hd => by
  obtain ⟨x, _, rfl⟩ := List.mem_map.1 hd
  cases x <;> rfl
theorem cellRu (r : Ru) : ∀ d ∈ (cRu r).map AV.mkFr, d.cell = true := fun d hd => by
  simp only [cRu, List.map_cons, List.map_nil, List.mem_cons, List.not_mem_nil, or_false] at hd
  rcases hd with rfl | rfl | rfl | rfl | rfl | rfl | rfl | rfl | rfl | rfl | rfl | rfl | rfl | rfl | rfl | rfl | rfl | rfl <;> rfl
theorem snocRu {rs : List Ru} {k : Nat} (h : k < rs.length) : (rs.take k).flatMap cRu ++ rowCells true ((cRu rs[k]).map AV.mkFr) = (rs.take (k + 1)).flatMap cRu := by
  rw [List.take_succ_eq_append_getElem h, List.flatMap_append]
  congr 1
end Go.Proofs.YtmpbfdfjcfanoaaDoor

/-
  THE FIRST RULES OF A VALID FAMILY: plain mathematics; conversions of numbers.
-/
namespace Go.Proofs.YtmpbfdfjcfanoaaDoor
open Go.RowKit Go.Deep
section
variable {P : Program} {J : World → Prop} {o : Oper}
theorem sp_conv {src dst : TypeId} {x : Operand} {k k' : IntKind} {n c : Int} {d : TypeDesc} (ho : o.op = .convert src dst x) (hs : P.underlying src = some d) (hd : P.underlying dst = some (.int k')) (hc : k'.wrap n = c) : ASpec P J o [(x, .v (.int k n))] [] (.v (.int k' c)) .no :=
  aspec_val fun ρ B a w _ ha _ => by
    subst hc
    have h1 := (ha (x, .v (.int k n)) (by simp)).v_inv
    refine ⟨_, ?_, .pu (.v _)⟩
    simp only [execOp, ho, h1]
    exact run_val (by simp [convert, run_underlying hs, run_underlying hd, Conv.intToInt])
end
def uN (n : Int) : Int := IntKind.u64.wrap n
theorem uN_nonneg (n : Int) : 0 ≤ uN n := Int.emod_nonneg _ (by decide)
theorem u64_small {x : Nat} (h : x ≤ 100) : IntKind.u64.wrap (x : Int) = x := by
  show (x : Int) % 18446744073709551616 = x; omega
theorem i64_small {x : Nat} (h : x ≤ 100) : IntKind.i64.wrap (x : Int) = x := by
  show (if (true && decide ((x : Int) % 18446744073709551616 ≥ 9223372036854775808)) = true then (x : Int) % 18446744073709551616 - 18446744073709551616 else (x : Int) % 18446744073709551616) = x
  rw [if_neg (by simp; omega)]; omega
def cutN (n : Int) (l : Nat) : Nat := (uN n).toNat % (l + 1)
theorem cutN_le (n : Int) (l : Nat) : cutN n l ≤ l := by unfold cutN; have := Nat.mod_lt (uN n).toNat (show 0 < l + 1 by omega); omega
theorem cutN_rem (n : Int) (l : Nat) : (uN n).tmod ((l + 1 : Nat) : Int) = (cutN n l : Nat) := by
  have h := uN_nonneg n
  rw [Int.tmod_eq_emod_of_nonneg h]
  unfold cutN
  rw [Int.natCast_emod, Int.toNat_of_nonneg h]
theorem addT_le (l : List Th) (g : Th) : l.length ≤ (addT l g).length := by unfold addT; split <;> simp
theorem fold_le : ∀ (gs l : List Th), l.length ≤ (gs.foldl addT l).length
  | [], _ => Nat.le_refl _
  | g :: gs, l => Nat.le_trans (addT_le l g) (fold_le gs (addT l g))
theorem diff_le : ∀ (rs : List Ru) (l : List Th), l.length ≤ (rs.foldl (fun l r => r.guards.foldl addT l) l).length
  | [], _ => Nat.le_refl _
  | r :: rs, l => Nat.le_trans (fold_le r.guards l) (diff_le rs _)
theorem diffG_take (rs : List Ru) (m : Nat) : (diffG (rs.take m)).length ≤ (diffG rs).length := by
  have e : diffG rs = (rs.drop m).foldl (fun l r => r.guards.foldl addT l) (diffG (rs.take m)) := by
    unfold diffG; rw [← List.foldl_append, List.take_append_drop]
  rw [e]; exact diff_le _ _
def cutF (q : Fm) (m : Nat) : Fm := { q with rules := q.rules.take m }
theorem rule_cut {q : Fm} {m k : Nat} (h : k ≤ m) (r : Ru) : ruleE (cutF q m) k r = ruleE q k r := by
  have e : (cutF q m).rules.take k = q.rules.take k := by
    show (q.rules.take m).take k = _; rw [List.take_take, Nat.min_eq_left h]
  unfold ruleE
  rw [e]; rfl
theorem rulesE_all {q : Fm} : ∀ (f i : Nat), rulesE q i f = 0 → ∀ k, i ≤ k → k < i + f → ruleE q k (q.rules.getD k default) = 0
  | 0, i, _, k, a, b => absurd b (by omega)
  | f + 1, i, e, k, a, b => by
    unfold rulesE at e
    split at e
    · rename_i e1
      by_cases x : i = k
      · subst x; exact e1
      · exact rulesE_all f (i + 1) e k (by omega) (by omega)
    · exact absurd e (by assumption)
theorem val_cut {q : Fm} {m : Nat} (hm : m ≤ q.rules.length) (h : valE q = 0) : valE (cutF q m) = 0 := by
  have h3 := val_3 h
  by_cases n : nameB q.nm.toList = true
  · by_cases a : argB q = true
    · rw [valE_ar n a] at h; cases h
    · by_cases s : ((q.states.length : Nat) : Int) = 0
      · rw [valE_st n (by simpa using a) s] at h; cases h
      · by_cases t : tooI q = true
        · rw [valE_tb n (by simpa using a) s t] at h; cases h
        · have t0 : tooI q = false := by simpa using t
          have t1 := tooI_no t0
          have hl : (q.rules.take m).length ≤ 8 := by rw [List.length_take]; omega
          have t2 : tooI (cutF q m) = false := by
            unfold tooI
            simp only [Bool.or_eq_false_iff, decide_eq_false_iff_not]
            show (((¬ (6 : Int) < q.states.length ∧ ¬ (3 : Int) < q.msgs.length) ∧ ¬ (3 : Int) < q.vals.length) ∧ ¬ (4 : Int) < q.res.length) ∧ ¬ (8 : Int) < (q.rules.take m).length
            omega
          rw [valE_2 ⟨n, by simpa using a, s, t0⟩] at h
          rw [valE_2 (q := cutF q m) ⟨n, (by simpa using a : argB q = false), s, t2⟩]
          unfold val2 at h ⊢
          split at h
          · cases h
          rename_i g1
          split at h
          · cases h
          rename_i g2
          split at h
          · cases h
          rename_i g3
          rw [if_neg (show ¬ nmOk (nmA (cutF q m)) (nmA (cutF q m)).length = false from g1), if_neg (show ¬ misB (cutF q m) = true from g2), if_neg (show ¬ resB2 (cutF q m) (cutF q m).res.length = true from g3)]
          have a1 := orE_zero_left h3
          have a2 := orE_zero_left a1.2
          have a3 := orE_zero_left a2.2
          unfold val3
          rw [show (if (cutF q m).init.length = 0 then 1 else setE (cutF q m).states.length (cutF q m).init) = 0 from a1.1, orE_zero, show setE (cutF q m).states.length (cutF q m).leader = 0 from a2.1, orE_zero]
          have a4 := rulesE_all _ _ a3.1
          have a5 : rulesE (cutF q m) 0 (cutF q m).rules.length = 0 := by
            refine rulesE_zero _ _ fun k _ hk => ?_
            have hk2 : k < (q.rules.take m).length := by simpa [cutF] using hk
            have hk3 : k < m ∧ k < q.rules.length := by rw [List.length_take] at hk2; omega
            have e : (cutF q m).rules.getD k default = q.rules.getD k default := by
              show (q.rules.take m).getD k default = _
              simp [List.getD, List.getElem?_take, hk3.1]
            rw [e, rule_cut (by omega)]
            exact a4 k (by omega) (by omega)
          rw [a5, orE_zero]
          have a6 := a3.2
          split at a6
          · cases a6
          · rename_i g4
            rw [if_neg]
            have := diffG_take q.rules m
            show ¬ 3 < (diffG (q.rules.take m)).length
            omega
  · rw [valE_nm (by simpa using n)] at h; cases h
theorem cut_ok {q : Fm} (h : FmOk q) (m : Nat) : FmOk (cutF q m) :=
  { h with rules := fun r hr => h.rules r (List.mem_of_mem_take hr), lrules := by show (q.rules.take m).length ≤ _; rw [List.length_take]; have := h.lrules; omega }
variable {J : World → Prop}
theorem qValidate_cut {q : Fm} (hq : FmOk q) {m : Nat} (hm : m ≤ q.rules.length) : Ctr Tryd.prog J 16 [.agg [sv q.nm, iv q.top, strsA q.states, strsA q.msgs, strsA q.vals, iv q.fault, slA 4 cLn q.res, intsA q.init, intsA q.leader, .sl 18 (m - 0) ((q.rules.take m).flatMap cRu)]] (iv (valE (cutF q m))) := by
  have e : AV.sl 18 (m - 0) ((q.rules.take m).flatMap cRu) = slA 18 cRu (cutF q m).rules := by
    show _ = AV.sl 18 (q.rules.take m).length ((q.rules.take m).flatMap cRu)
    rw [List.length_take, Nat.min_eq_left hm]; rfl
  rw [e]
  exact qValidate_c (cut_ok hq m)
theorem flat_cut {q : Fm} {m : Nat} (hm : m ≤ q.rules.length) : (((q.rules.flatMap cRu).drop (0 * 18)).take ((m - 0) * 18)) = (q.rules.take m).flatMap cRu := by
  rw [Nat.zero_mul, List.drop_zero, Nat.sub_zero]
  exact flat_pre lenRu q.rules m hm
end Go.Proofs.YtmpbfdfjcfanoaaDoor

/-
  THE COPY OF A FAMILY, OF THE REFERENCE.
-/
namespace Go.Proofs.YtmpbfdfjcfanoaaDoor
open Go.RowKit Go.Deep
variable {J : World → Prop}
set_option linter.unusedSimpArgs false in
set_option linter.unusedVariables false in
set_option maxRecDepth 100000 in
set_option maxHeartbeats 6400000 in
theorem rCopy_c {q : Fm} (H : FamLen q) : Ctr Tryd.prog J 15 [.agg (cFm q)] (.agg (cFm q)) := by
 have l1 := H.states
 have l2 := H.msgs
 have l3 := H.vals
 have l4 := H.res
 have l5 := H.lrules
 refine ctr_of_tri Tryd.func15 rfl (by intro X hX; simp only [List.mem_cons, List.not_mem_nil, or_false] at hX; rcases hX with rfl; exact plain_agg (plain_fm q)) (n := 54) rfl (by simp) (fun w0 => ?_)
 refine tri_wk (wk_keep [] [(0, .agg (cFm q))] (n := 54) rfl (by kernel_rfl) (by kernel_rfl)) ?_
 refine tri_seq ?_
 refine tri_region ?_
 refine t_op rfl (sp_box (X := .agg (cFm q)) (k := 1) (.tmp 0) rfl rfl) ⟨.inl rfl, trivial⟩ trivial rfl ?_
 refine t_op rfl (sp_alloc (z := .agg #[.string (⟨#[]⟩), .int .i64 0, .slice none 0 0, .slice none 0 0, .slice none 0 0, .int .i64 0, .slice none 0 0, .slice none 0 0, .slice none 0 0, .slice none 0 0]) (k := 2) rfl (by kernel_rfl)) trivial trivial rfl ?_
 refine tri_nil ?_
 refine tri_wk (wk_keep [(1, .box 27 (cFm q)), (2, .box 27 [sv (⟨#[]⟩), iv 0, .v (.slice none 0 0), .v (.slice none 0 0), .v (.slice none 0 0), iv 0, .v (.slice none 0 0), .v (.slice none 0 0), .v (.slice none 0 0), .v (.slice none 0 0)])] [(1, .box 1 0), (2, .box 2 0)] (n := 54) rfl (by kernel_rfl) (by kernel_rfl)) ?_
 refine t_then ?_
 refine tri_seq ?_
 refine tri_region ?_
 refine t_op rfl (sp_loadBoxS (Y := .box 27 (cFm q)) (ds := cFm q) (z := 10) (.tmp 1) rfl Tryd.underlying27 rfl (by kernel_rfl) (by decide) (by kernel_rfl) (by kernel_rfl)) ⟨.inl rfl, trivial⟩ ⟨rfl, trivial⟩ trivial ?_
 refine t_op rfl (sp_alloc (z := .agg #[.string (⟨#[]⟩), .int .i64 0, .slice none 0 0, .slice none 0 0, .slice none 0 0, .int .i64 0, .slice none 0 0, .slice none 0 0, .slice none 0 0, .slice none 0 0]) (k := 3) rfl (by kernel_rfl)) trivial trivial rfl ?_
 refine t_op rfl (sp_storeBox (T0 := 27) (X := .agg (cFm q)) (cs := [sv (⟨#[]⟩), iv 0, .v (.slice none 0 0), .v (.slice none 0 0), .v (.slice none 0 0), iv 0, .v (.slice none 0 0), .v (.slice none 0 0), .v (.slice none 0 0), .v (.slice none 0 0)]) (ds := cFm q) (z := 10) (.tmp 3) (.tmp 5) rfl (by kernel_rfl) (by kernel_rfl) (by kernel_rfl) (of_decide_eq_true (by kernel_rfl)) (by kernel_rfl)) ⟨.inl rfl, .inl rfl, trivial⟩ ⟨rfl, trivial⟩ rfl ?_
 refine tri_nil ?_
 refine tri_wk (wk_keep [(1, .box 27 (cFm q)), (2, .box 27 [sv (⟨#[]⟩), iv 0, .v (.slice none 0 0), .v (.slice none 0 0), .v (.slice none 0 0), iv 0, .v (.slice none 0 0), .v (.slice none 0 0), .v (.slice none 0 0), .v (.slice none 0 0)]), (3, .box 27 (cFm q))] [(1, .box 1 0), (2, .box 2 0), (3, .box 3 0)] (n := 54) rfl (by kernel_rfl) (by kernel_rfl)) ?_
 refine t_then ?_
 refine tri_seq ?_
 refine tri_region ?_
 refine t_op rfl (sp_build0 (z := 1) (k := 4) true rfl Tryd.underlying22 (by kernel_rfl)) trivial trivial rfl ?_
 refine t_op rfl (sp_fieldBox (off' := 2) (.tmp 1) rfl Tryd.underlying27 rfl (z := 1) (by kernel_rfl) (by decide) rfl) ⟨.inl rfl, trivial⟩ trivial trivial ?_
 refine t_op rfl (sp_loadBox1 (Y := .box 27 (cFm q)) (X := strsA q.states) (.tmp 7) rfl Tryd.underlying22 rfl rfl) ⟨.inl rfl, trivial⟩ ⟨rfl, trivial⟩ trivial ?_
 refine t_op rfl (sp_append (n := 0) (cs := []) (fr := true) (m := q.states.length) (ds := (q.states.map sv)) (⟨Tryd.underlying22, by kernel_rfl, by decide⟩ : Elt Tryd.prog 22 9 1 16) (.tmp 6) (.tmp 8) rfl (fun _ d hd => by obtain ⟨x, _, rfl⟩ := List.mem_map.1 hd; rfl) (by unfold maxLen; omega) (by omega) (fun d hd => by obtain ⟨x, _, rfl⟩ := List.mem_map.1 hd; rfl) (es := (q.states.map sv)) (by rw [unfr_strs]; rfl)) ⟨.inl rfl, .inl rfl, trivial⟩ ⟨rfl, trivial⟩ rfl ?_
 refine t_op rfl (sp_fieldBox (off' := 2) (.tmp 3) rfl Tryd.underlying27 rfl (z := 1) (by kernel_rfl) (by decide) rfl) ⟨.inl rfl, trivial⟩ trivial trivial ?_
 refine t_op rfl (sp_storeBox (T0 := 27) (X := .own 4) (cs := cFm q) (ds := [sv q.nm, iv q.top, .own 4, strsA q.msgs, strsA q.vals, iv q.fault, slA 4 cLn q.res, intsA q.init, intsA q.leader, slA 18 cRu q.rules]) (z := 1) (.tmp 10) (.tmp 9) rfl (by kernel_rfl) (by kernel_rfl) (by kernel_rfl) (of_decide_eq_true (by kernel_rfl)) (by kernel_rfl)) ⟨.inl rfl, .inl rfl, trivial⟩ ⟨rfl, trivial⟩ rfl ?_
 refine tri_nil ?_
 refine tri_wk (wk_keep [(1, .box 27 (cFm q)), (2, .box 27 [sv (⟨#[]⟩), iv 0, .v (.slice none 0 0), .v (.slice none 0 0), .v (.slice none 0 0), iv 0, .v (.slice none 0 0), .v (.slice none 0 0), .v (.slice none 0 0), .v (.slice none 0 0)]), (3, .box 27 [sv q.nm, iv q.top, .own 4, strsA q.msgs, strsA q.vals, iv q.fault, slA 4 cLn q.res, intsA q.init, intsA q.leader, slA 18 cRu q.rules]), (4, .row true 9 1 (0 + q.states.length) (q.states.map sv))] [(1, .box 1 0), (2, .box 2 0), (3, .box 3 0)] (n := 54) rfl (by kernel_rfl) (by kernel_rfl)) ?_
 refine t_then ?_
 refine tri_seq ?_
 refine tri_region ?_
 refine t_op rfl (sp_build0 (z := 1) (k := 5) true rfl Tryd.underlying22 (by kernel_rfl)) trivial trivial rfl ?_
 refine t_op rfl (sp_fieldBox (off' := 3) (.tmp 1) rfl Tryd.underlying27 rfl (z := 1) (by kernel_rfl) (by decide) rfl) ⟨.inl rfl, trivial⟩ trivial trivial ?_
 refine t_op rfl (sp_loadBox1 (Y := .box 27 (cFm q)) (X := strsA q.msgs) (.tmp 12) rfl Tryd.underlying22 rfl rfl) ⟨.inl rfl, trivial⟩ ⟨rfl, trivial⟩ trivial ?_
 refine t_op rfl (sp_append (n := 0) (cs := []) (fr := true) (m := q.msgs.length) (ds := (q.msgs.map sv)) (⟨Tryd.underlying22, by kernel_rfl, by decide⟩ : Elt Tryd.prog 22 9 1 16) (.tmp 11) (.tmp 13) rfl (fun _ d hd => by obtain ⟨x, _, rfl⟩ := List.mem_map.1 hd; rfl) (by unfold maxLen; omega) (by omega) (fun d hd => by obtain ⟨x, _, rfl⟩ := List.mem_map.1 hd; rfl) (es := (q.msgs.map sv)) (by rw [unfr_strs]; rfl)) ⟨.inl rfl, .inl rfl, trivial⟩ ⟨rfl, trivial⟩ rfl ?_
 refine t_op rfl (sp_fieldBox (off' := 3) (.tmp 3) rfl Tryd.underlying27 rfl (z := 1) (by kernel_rfl) (by decide) rfl) ⟨.inl rfl, trivial⟩ trivial trivial ?_
 refine t_op rfl (sp_storeBox (T0 := 27) (X := .own 5) (cs := [sv q.nm, iv q.top, .own 4, strsA q.msgs, strsA q.vals, iv q.fault, slA 4 cLn q.res, intsA q.init, intsA q.leader, slA 18 cRu q.rules]) (ds := [sv q.nm, iv q.top, .own 4, .own 5, strsA q.vals, iv q.fault, slA 4 cLn q.res, intsA q.init, intsA q.leader, slA 18 cRu q.rules]) (z := 1) (.tmp 15) (.tmp 14) rfl (by kernel_rfl) (by kernel_rfl) (by kernel_rfl) (of_decide_eq_true (by kernel_rfl)) (by kernel_rfl)) ⟨.inl rfl, .inl rfl, trivial⟩ ⟨rfl, trivial⟩ rfl ?_
 refine tri_nil ?_
 refine tri_wk (wk_keep [(1, .box 27 (cFm q)), (2, .box 27 [sv (⟨#[]⟩), iv 0, .v (.slice none 0 0), .v (.slice none 0 0), .v (.slice none 0 0), iv 0, .v (.slice none 0 0), .v (.slice none 0 0), .v (.slice none 0 0), .v (.slice none 0 0)]), (3, .box 27 [sv q.nm, iv q.top, .own 4, .own 5, strsA q.vals, iv q.fault, slA 4 cLn q.res, intsA q.init, intsA q.leader, slA 18 cRu q.rules]), (4, .row true 9 1 (0 + q.states.length) (q.states.map sv)), (5, .row true 9 1 (0 + q.msgs.length) (q.msgs.map sv))] [(1, .box 1 0), (2, .box 2 0), (3, .box 3 0)] (n := 54) rfl (by kernel_rfl) (by kernel_rfl)) ?_
 refine t_then ?_
 refine tri_seq ?_
 refine tri_region ?_
 refine t_op rfl (sp_build0 (z := 1) (k := 6) true rfl Tryd.underlying22 (by kernel_rfl)) trivial trivial rfl ?_
 refine t_op rfl (sp_fieldBox (off' := 4) (.tmp 1) rfl Tryd.underlying27 rfl (z := 1) (by kernel_rfl) (by decide) rfl) ⟨.inl rfl, trivial⟩ trivial trivial ?_
 refine t_op rfl (sp_loadBox1 (Y := .box 27 (cFm q)) (X := strsA q.vals) (.tmp 17) rfl Tryd.underlying22 rfl rfl) ⟨.inl rfl, trivial⟩ ⟨rfl, trivial⟩ trivial ?_
 refine t_op rfl (sp_append (n := 0) (cs := []) (fr := true) (m := q.vals.length) (ds := (q.vals.map sv)) (⟨Tryd.underlying22, by kernel_rfl, by decide⟩ : Elt Tryd.prog 22 9 1 16) (.tmp 16) (.tmp 18) rfl (fun _ d hd => by obtain ⟨x, _, rfl⟩ := List.mem_map.1 hd; rfl) (by unfold maxLen; omega) (by omega) (fun d hd => by obtain ⟨x, _, rfl⟩ := List.mem_map.1 hd; rfl) (es := (q.vals.map sv)) (by rw [unfr_strs]; rfl)) ⟨.inl rfl, .inl rfl, trivial⟩ ⟨rfl, trivial⟩ rfl ?_
 refine t_op rfl (sp_fieldBox (off' := 4) (.tmp 3) rfl Tryd.underlying27 rfl (z := 1) (by kernel_rfl) (by decide) rfl) ⟨.inl rfl, trivial⟩ trivial trivial ?_
 refine t_op rfl (sp_storeBox (T0 := 27) (X := .own 6) (cs := [sv q.nm, iv q.top, .own 4, .own 5, strsA q.vals, iv q.fault, slA 4 cLn q.res, intsA q.init, intsA q.leader, slA 18 cRu q.rules]) (ds := [sv q.nm, iv q.top, .own 4, .own 5, .own 6, iv q.fault, slA 4 cLn q.res, intsA q.init, intsA q.leader, slA 18 cRu q.rules]) (z := 1) (.tmp 20) (.tmp 19) rfl (by kernel_rfl) (by kernel_rfl) (by kernel_rfl) (of_decide_eq_true (by kernel_rfl)) (by kernel_rfl)) ⟨.inl rfl, .inl rfl, trivial⟩ ⟨rfl, trivial⟩ rfl ?_
 refine tri_nil ?_
 refine tri_wk (wk_keep [(1, .box 27 (cFm q)), (2, .box 27 [sv (⟨#[]⟩), iv 0, .v (.slice none 0 0), .v (.slice none 0 0), .v (.slice none 0 0), iv 0, .v (.slice none 0 0), .v (.slice none 0 0), .v (.slice none 0 0), .v (.slice none 0 0)]), (3, .box 27 [sv q.nm, iv q.top, .own 4, .own 5, .own 6, iv q.fault, slA 4 cLn q.res, intsA q.init, intsA q.leader, slA 18 cRu q.rules]), (4, .row true 9 1 (0 + q.states.length) (q.states.map sv)), (5, .row true 9 1 (0 + q.msgs.length) (q.msgs.map sv)), (6, .row true 9 1 (0 + q.vals.length) (q.vals.map sv))] [(1, .box 1 0), (2, .box 2 0), (3, .box 3 0)] (n := 54) rfl (by kernel_rfl) (by kernel_rfl)) ?_
 refine t_then ?_
 refine tri_seq ?_
 refine tri_region ?_
 refine t_op rfl (sp_build0 (z := 4) (k := 7) true rfl Tryd.underlying23 (by kernel_rfl)) trivial trivial rfl ?_
 refine t_op rfl (sp_fieldBox (off' := 6) (.tmp 1) rfl Tryd.underlying27 rfl (z := 1) (by kernel_rfl) (by decide) rfl) ⟨.inl rfl, trivial⟩ trivial trivial ?_
 refine t_op rfl (sp_loadBox1 (Y := .box 27 (cFm q)) (X := slA 4 cLn q.res) (.tmp 22) rfl Tryd.underlying23 rfl rfl) ⟨.inl rfl, trivial⟩ ⟨rfl, trivial⟩ trivial ?_
 refine t_op rfl (sp_append (n := 0) (cs := []) (fr := true) (m := q.res.length) (ds := (q.res.flatMap cLn)) (⟨Tryd.underlying23, by kernel_rfl, by decide⟩ : Elt Tryd.prog 23 53 4 32) (.tmp 21) (.tmp 23) rfl (fun _ => new_cLn _) (by unfold maxLen; omega) (by omega) (cell_cLn _) (es := (q.res.flatMap cLn)) (by rw [unfr_cLn]; rfl)) ⟨.inl rfl, .inl rfl, trivial⟩ ⟨rfl, trivial⟩ rfl ?_
 refine t_op rfl (sp_fieldBox (off' := 6) (.tmp 3) rfl Tryd.underlying27 rfl (z := 1) (by kernel_rfl) (by decide) rfl) ⟨.inl rfl, trivial⟩ trivial trivial ?_
 refine t_op rfl (sp_storeBox (T0 := 27) (X := .own 7) (cs := [sv q.nm, iv q.top, .own 4, .own 5, .own 6, iv q.fault, slA 4 cLn q.res, intsA q.init, intsA q.leader, slA 18 cRu q.rules]) (ds := [sv q.nm, iv q.top, .own 4, .own 5, .own 6, iv q.fault, .own 7, intsA q.init, intsA q.leader, slA 18 cRu q.rules]) (z := 1) (.tmp 25) (.tmp 24) rfl (by kernel_rfl) (by kernel_rfl) (by kernel_rfl) (of_decide_eq_true (by kernel_rfl)) (by kernel_rfl)) ⟨.inl rfl, .inl rfl, trivial⟩ ⟨rfl, trivial⟩ rfl ?_
 refine tri_nil ?_
 refine tri_wk (wk_keep [(1, .box 27 (cFm q)), (2, .box 27 [sv (⟨#[]⟩), iv 0, .v (.slice none 0 0), .v (.slice none 0 0), .v (.slice none 0 0), iv 0, .v (.slice none 0 0), .v (.slice none 0 0), .v (.slice none 0 0), .v (.slice none 0 0)]), (3, .box 27 [sv q.nm, iv q.top, .own 4, .own 5, .own 6, iv q.fault, .own 7, intsA q.init, intsA q.leader, slA 18 cRu q.rules]), (4, .row true 9 1 (0 + q.states.length) (q.states.map sv)), (5, .row true 9 1 (0 + q.msgs.length) (q.msgs.map sv)), (6, .row true 9 1 (0 + q.vals.length) (q.vals.map sv)), (7, .row true 53 4 (0 + q.res.length) (q.res.flatMap cLn))] [(1, .box 1 0), (2, .box 2 0), (3, .box 3 0)] (n := 54) rfl (by kernel_rfl) (by kernel_rfl)) ?_
 refine t_then ?_
 refine tri_seq ?_
 refine tri_region ?_
 refine t_op rfl (sp_fieldBox (off' := 7) (.tmp 1) rfl Tryd.underlying27 rfl (z := 1) (by kernel_rfl) (by decide) rfl) ⟨.inl rfl, trivial⟩ trivial trivial ?_
 refine t_op rfl (sp_loadBox1 (Y := .box 27 (cFm q)) (X := intsA q.init) (.tmp 26) rfl Tryd.underlying24 rfl rfl) ⟨.inl rfl, trivial⟩ ⟨rfl, trivial⟩ trivial ?_
 refine t_op rfl (sp_call (c := .func 42) (xs := #[.tmp 27]) [] (CopyInts_c q.init (Nat.le_trans H.init (by decide))) rfl (by kernel_rfl) rfl (Xs := [intsA q.init]) rfl rfl rfl) ⟨.inl rfl, .inl rfl, trivial⟩ trivial trivial ?_
 refine t_op rfl (sp_fieldBox (off' := 7) (.tmp 3) rfl Tryd.underlying27 rfl (z := 1) (by kernel_rfl) (by decide) rfl) ⟨.inl rfl, trivial⟩ trivial trivial ?_
 refine t_op rfl (sp_storeBox (T0 := 27) (X := .fr (intsA q.init)) (cs := [sv q.nm, iv q.top, .own 4, .own 5, .own 6, iv q.fault, .own 7, intsA q.init, intsA q.leader, slA 18 cRu q.rules]) (ds := [sv q.nm, iv q.top, .own 4, .own 5, .own 6, iv q.fault, .own 7, .fr (intsA q.init), intsA q.leader, slA 18 cRu q.rules]) (z := 1) (.tmp 29) (.tmp 28) rfl (by kernel_rfl) (by kernel_rfl) (by kernel_rfl) (of_decide_eq_true (by kernel_rfl)) (by kernel_rfl)) ⟨.inl rfl, .inl rfl, trivial⟩ ⟨rfl, trivial⟩ rfl ?_
 refine tri_nil ?_
 refine tri_wk (wk_keep [(1, .box 27 (cFm q)), (2, .box 27 [sv (⟨#[]⟩), iv 0, .v (.slice none 0 0), .v (.slice none 0 0), .v (.slice none 0 0), iv 0, .v (.slice none 0 0), .v (.slice none 0 0), .v (.slice none 0 0), .v (.slice none 0 0)]), (3, .box 27 [sv q.nm, iv q.top, .own 4, .own 5, .own 6, iv q.fault, .own 7, .fr (intsA q.init), intsA q.leader, slA 18 cRu q.rules]), (4, .row true 9 1 (0 + q.states.length) (q.states.map sv)), (5, .row true 9 1 (0 + q.msgs.length) (q.msgs.map sv)), (6, .row true 9 1 (0 + q.vals.length) (q.vals.map sv)), (7, .row true 53 4 (0 + q.res.length) (q.res.flatMap cLn))] [(1, .box 1 0), (2, .box 2 0), (3, .box 3 0)] (n := 54) rfl (by kernel_rfl) (by kernel_rfl)) ?_
 refine t_then ?_
 refine tri_seq ?_
 refine tri_region ?_
 refine t_op rfl (sp_fieldBox (off' := 8) (.tmp 1) rfl Tryd.underlying27 rfl (z := 1) (by kernel_rfl) (by decide) rfl) ⟨.inl rfl, trivial⟩ trivial trivial ?_
 refine t_op rfl (sp_loadBox1 (Y := .box 27 (cFm q)) (X := intsA q.leader) (.tmp 30) rfl Tryd.underlying24 rfl rfl) ⟨.inl rfl, trivial⟩ ⟨rfl, trivial⟩ trivial ?_
 refine t_op rfl (sp_call (c := .func 42) (xs := #[.tmp 31]) [] (CopyInts_c q.leader (Nat.le_trans H.leader (by decide))) rfl (by kernel_rfl) rfl (Xs := [intsA q.leader]) rfl rfl rfl) ⟨.inl rfl, .inl rfl, trivial⟩ trivial trivial ?_
 refine t_op rfl (sp_fieldBox (off' := 8) (.tmp 3) rfl Tryd.underlying27 rfl (z := 1) (by kernel_rfl) (by decide) rfl) ⟨.inl rfl, trivial⟩ trivial trivial ?_
 refine t_op rfl (sp_storeBox (T0 := 27) (X := .fr (intsA q.leader)) (cs := [sv q.nm, iv q.top, .own 4, .own 5, .own 6, iv q.fault, .own 7, .fr (intsA q.init), intsA q.leader, slA 18 cRu q.rules]) (ds := [sv q.nm, iv q.top, .own 4, .own 5, .own 6, iv q.fault, .own 7, .fr (intsA q.init), .fr (intsA q.leader), slA 18 cRu q.rules]) (z := 1) (.tmp 33) (.tmp 32) rfl (by kernel_rfl) (by kernel_rfl) (by kernel_rfl) (of_decide_eq_true (by kernel_rfl)) (by kernel_rfl)) ⟨.inl rfl, .inl rfl, trivial⟩ ⟨rfl, trivial⟩ rfl ?_
 refine tri_nil ?_
 refine tri_wk (wk_keep [(1, .box 27 (cFm q)), (2, .box 27 [sv (⟨#[]⟩), iv 0, .v (.slice none 0 0), .v (.slice none 0 0), .v (.slice none 0 0), iv 0, .v (.slice none 0 0), .v (.slice none 0 0), .v (.slice none 0 0), .v (.slice none 0 0)]), (3, .box 27 [sv q.nm, iv q.top, .own 4, .own 5, .own 6, iv q.fault, .own 7, .fr (intsA q.init), .fr (intsA q.leader), slA 18 cRu q.rules]), (4, .row true 9 1 (0 + q.states.length) (q.states.map sv)), (5, .row true 9 1 (0 + q.msgs.length) (q.msgs.map sv)), (6, .row true 9 1 (0 + q.vals.length) (q.vals.map sv)), (7, .row true 53 4 (0 + q.res.length) (q.res.flatMap cLn))] [(1, .box 1 0), (2, .box 2 0), (3, .box 3 0)] (n := 54) rfl (by kernel_rfl) (by kernel_rfl)) ?_
 refine t_then ?_
 refine tri_seq ?_
 refine tri_region ?_
 refine t_op rfl (sp_fieldBox (off' := 9) (.tmp 3) rfl Tryd.underlying27 rfl (z := 1) (by kernel_rfl) (by decide) rfl) ⟨.inl rfl, trivial⟩ trivial trivial ?_
 refine t_op rfl (sp_storeBox (T0 := 27) (X := .v (.slice none 0 0)) (cs := [sv q.nm, iv q.top, .own 4, .own 5, .own 6, iv q.fault, .own 7, .fr (intsA q.init), .fr (intsA q.leader), slA 18 cRu q.rules]) (ds := [sv q.nm, iv q.top, .own 4, .own 5, .own 6, iv q.fault, .own 7, .fr (intsA q.init), .fr (intsA q.leader), .v (.slice none 0 0)]) (z := 1) (.tmp 34) (.const (.slice none 0 0)) rfl (by kernel_rfl) (by kernel_rfl) (by kernel_rfl) (of_decide_eq_true (by kernel_rfl)) (by kernel_rfl)) ⟨.inl rfl, .inl rfl, trivial⟩ ⟨rfl, trivial⟩ rfl ?_
 refine tri_nil ?_
 refine tri_wk (wk_keep [(1, .box 27 (cFm q)), (2, .box 27 [sv (⟨#[]⟩), iv 0, .v (.slice none 0 0), .v (.slice none 0 0), .v (.slice none 0 0), iv 0, .v (.slice none 0 0), .v (.slice none 0 0), .v (.slice none 0 0), .v (.slice none 0 0)]), (3, .box 27 [sv q.nm, iv q.top, .own 4, .own 5, .own 6, iv q.fault, .own 7, .fr (intsA q.init), .fr (intsA q.leader), .v (.slice none 0 0)]), (4, .row true 9 1 (0 + q.states.length) (q.states.map sv)), (5, .row true 9 1 (0 + q.msgs.length) (q.msgs.map sv)), (6, .row true 9 1 (0 + q.vals.length) (q.vals.map sv)), (7, .row true 53 4 (0 + q.res.length) (q.res.flatMap cLn))] [(1, .box 1 0), (2, .box 2 0), (3, .box 3 0)] (n := 54) rfl (by kernel_rfl) (by kernel_rfl)) ?_
 refine t_then ?_
 refine tri_seq ?_
 refine tri_seq ?_
 refine tri_region ?_
 refine t_op rfl (sp_assign (.const (.int .i64 0)) (iv 0) rfl) ⟨.inl rfl, trivial⟩ trivial trivial ?_
 refine tri_nil ?_
 refine tri_wk (wk_keep [(1, .box 27 (cFm q)), (2, .box 27 [sv (⟨#[]⟩), iv 0, .v (.slice none 0 0), .v (.slice none 0 0), .v (.slice none 0 0), iv 0, .v (.slice none 0 0), .v (.slice none 0 0), .v (.slice none 0 0), .v (.slice none 0 0)]), (3, .box 27 [sv q.nm, iv q.top, .own 4, .own 5, .own 6, iv q.fault, .own 7, .fr (intsA q.init), .fr (intsA q.leader), .v (.slice none 0 0)]), (4, .row true 9 1 (0 + q.states.length) (q.states.map sv)), (5, .row true 9 1 (0 + q.msgs.length) (q.msgs.map sv)), (6, .row true 9 1 (0 + q.vals.length) (q.vals.map sv)), (7, .row true 53 4 (0 + q.res.length) (q.res.flatMap cLn))] [(1, .box 1 0), (2, .box 2 0), (3, .box 3 0), (4, iv 0)] (n := 54) rfl (by kernel_rfl) (by kernel_rfl)) ?_
 refine t_then ?_
 refine tri_block ?_
 refine tri_wk (wk_adoptB 3 9 8 true 76 18 rfl rfl rfl rfl) ?_
 refine tri_loop (σ := {k : Nat // k ≤ q.rules.length}) (fun s => (ofL [(1, .box 27 (cFm q)), (2, .box 27 [sv (⟨#[]⟩), iv 0, .v (.slice none 0 0), .v (.slice none 0 0), .v (.slice none 0 0), iv 0, .v (.slice none 0 0), .v (.slice none 0 0), .v (.slice none 0 0), .v (.slice none 0 0)]), (3, .box 27 [sv q.nm, iv q.top, .own 4, .own 5, .own 6, iv q.fault, .own 7, .fr (intsA q.init), .fr (intsA q.leader), .own 8]), (4, .row true 9 1 (0 + q.states.length) (q.states.map sv)), (5, .row true 9 1 (0 + q.msgs.length) (q.msgs.map sv)), (6, .row true 9 1 (0 + q.vals.length) (q.vals.map sv)), (7, .row true 53 4 (0 + q.res.length) (q.res.flatMap cLn)), (8, .row true 76 18 s.1 ((q.rules.take s.1).flatMap cRu))], ofT 54 [(1, .box 1 0), (2, .box 2 0), (3, .box 3 0), (4, iv s.1)])) (fun s => q.rules.length - s.1) ⟨0, Nat.zero_le _⟩ (wk_keep _ _ rfl (by kernel_rfl) (by kernel_rfl)) (fun s => ?_)
 obtain ⟨k, hk0⟩ := s
 show ETri J w0 (ofL [(1, .box 27 (cFm q)), (2, .box 27 [sv (⟨#[]⟩), iv 0, .v (.slice none 0 0), .v (.slice none 0 0), .v (.slice none 0 0), iv 0, .v (.slice none 0 0), .v (.slice none 0 0), .v (.slice none 0 0), .v (.slice none 0 0)]), (3, .box 27 [sv q.nm, iv q.top, .own 4, .own 5, .own 6, iv q.fault, .own 7, .fr (intsA q.init), .fr (intsA q.leader), .own 8]), (4, .row true 9 1 (0 + q.states.length) (q.states.map sv)), (5, .row true 9 1 (0 + q.msgs.length) (q.msgs.map sv)), (6, .row true 9 1 (0 + q.vals.length) (q.vals.map sv)), (7, .row true 53 4 (0 + q.res.length) (q.res.flatMap cLn)), (8, .row true 76 18 k ((q.rules.take k).flatMap cRu))]) (ofT 54 [(1, .box 1 0), (2, .box 2 0), (3, .box 3 0), (4, iv k)]) _
 refine tri_seq ?_
 refine tri_seq ?_
 by_cases hs1 : ((k : Nat) : Int) < ((q.rules.length : Nat) : Int)
 refine tri_region ?_
 refine t_op rfl (sp_move (.tmp 4) (iv k) rfl) ⟨.inl rfl, trivial⟩ trivial trivial ?_
 refine t_op rfl (sp_fieldBox (off' := 9) (.tmp 1) rfl Tryd.underlying27 rfl (z := 1) (by kernel_rfl) (by decide) rfl) ⟨.inl rfl, trivial⟩ trivial trivial ?_
 refine t_op rfl (sp_loadBox1 (Y := .box 27 (cFm q)) (X := slA 18 cRu q.rules) (.tmp 36) rfl Tryd.underlying25 rfl rfl) ⟨.inl rfl, trivial⟩ ⟨rfl, trivial⟩ trivial ?_
 refine t_op rfl (sp_lenSl (.tmp 37) rfl Tryd.underlying25) ⟨.inl rfl, trivial⟩ trivial trivial ?_
 refine t_op rfl (sp_lss rfl (dT hs1)) ⟨.inl rfl, .inl rfl, trivial⟩ trivial trivial ?_
 refine tri_nil ?_
 refine tri_wk (wk_keep [(1, .box 27 (cFm q)), (2, .box 27 [sv (⟨#[]⟩), iv 0, .v (.slice none 0 0), .v (.slice none 0 0), .v (.slice none 0 0), iv 0, .v (.slice none 0 0), .v (.slice none 0 0), .v (.slice none 0 0), .v (.slice none 0 0)]), (3, .box 27 [sv q.nm, iv q.top, .own 4, .own 5, .own 6, iv q.fault, .own 7, .fr (intsA q.init), .fr (intsA q.leader), .own 8]), (4, .row true 9 1 (0 + q.states.length) (q.states.map sv)), (5, .row true 9 1 (0 + q.msgs.length) (q.msgs.map sv)), (6, .row true 9 1 (0 + q.vals.length) (q.vals.map sv)), (7, .row true 53 4 (0 + q.res.length) (q.res.flatMap cLn)), (8, .row true 76 18 k ((q.rules.take k).flatMap cRu))] [(1, .box 1 0), (2, .box 2 0), (3, .box 3 0), (4, iv k), (39, bv true)] (n := 54) rfl (by kernel_rfl) (by kernel_rfl)) ?_
 refine t_then ?_
 refine t_condT rfl ?_
 refine tri_skip ?_
 refine t_then ?_
 refine tri_seq ?_
 refine tri_block ?_
 refine tri_draw [⟨[(.tmp 3, .box 3 0)], [], .box 3 9, .no⟩, ⟨[(.tmp 42, .box 3 9)], [(3, .box 27 [sv q.nm, iv q.top, .own 4, .own 5, .own 6, iv q.fault, .own 7, .fr (intsA q.init), .fr (intsA q.leader), .own 8])], .own 8, .no⟩, ⟨[(.tmp 1, .box 1 0)], [], .box 1 9, .no⟩, ⟨[(.tmp 44, .box 1 9)], [(1, .box 27 (cFm q))], slA 18 cRu q.rules, .no⟩, ⟨[(.tmp 4, iv k)], [], iv k, .no⟩, ⟨[(.tmp 45, slA 18 cRu q.rules), (.tmp 46, iv k)], [], .el (q.rules.flatMap cRu) (k * 18), .no⟩, ⟨[(.tmp 47, .el (q.rules.flatMap cRu) (k * 18))], [], .agg (cRu q.rules[k]), .no⟩, ⟨[(.func 43, .v (.func (.func 43) #[] #[])), (.tmp 48, .agg (cRu q.rules[k]))], [], .fr (.agg (cRu q.rules[k])), .no⟩, ⟨[(.tmp 49, .agg [sv q.rules[k].nm, iv q.rules[k].kind, iv q.rules[k].frm, iv q.rules[k].to, iv q.rules[k].pf, iv q.rules[k].pt, .fr (intsA q.rules[k].resp), .fr (slA 6 cTh q.rules[k].guards), .fr (intsA q.rules[k].ex), .fr (intsA q.rules[k].fa), iv q.rules[k].rd, iv q.rules[k].wr, .fr (intsA q.rules[k].send), iv q.rules[k].pos, .fr (intsA q.rules[k].left), .fr (intsA q.rules[k].right), .fr (intsA q.rules[k].parent), iv q.rules[k].dir])], [], .own 9, .new 9 (.row false 76 18 1 ([sv q.rules[k].nm, iv q.rules[k].kind, iv q.rules[k].frm, iv q.rules[k].to, iv q.rules[k].pf, iv q.rules[k].pt, .fr (intsA q.rules[k].resp), .fr (slA 6 cTh q.rules[k].guards), .fr (intsA q.rules[k].ex), .fr (intsA q.rules[k].fa), iv q.rules[k].rd, iv q.rules[k].wr, .fr (intsA q.rules[k].send), iv q.rules[k].pos, .fr (intsA q.rules[k].left), .fr (intsA q.rules[k].right), .fr (intsA q.rules[k].parent), iv q.rules[k].dir]))⟩, ⟨[(.tmp 43, .own 8), (.tmp 50, .own 9)], [(8, .row true 76 18 k ((q.rules.take k).flatMap cRu)), (9, .row false 76 18 1 ([sv q.rules[k].nm, iv q.rules[k].kind, iv q.rules[k].frm, iv q.rules[k].to, iv q.rules[k].pf, iv q.rules[k].pt, .fr (intsA q.rules[k].resp), .fr (slA 6 cTh q.rules[k].guards), .fr (intsA q.rules[k].ex), .fr (intsA q.rules[k].fa), iv q.rules[k].rd, iv q.rules[k].wr, .fr (intsA q.rules[k].send), iv q.rules[k].pos, .fr (intsA q.rules[k].left), .fr (intsA q.rules[k].right), .fr (intsA q.rules[k].parent), iv q.rules[k].dir]))], .own 8, .ap 8 (.row true 76 18 (k + 1) ((q.rules.take (k + 1)).flatMap cRu))⟩, ⟨[(.tmp 3, .box 3 0)], [], .box 3 9, .no⟩, ⟨[(.tmp 52, .box 3 9), (.tmp 51, .own 8)], [(3, .box 27 [sv q.nm, iv q.top, .own 4, .own 5, .own 6, iv q.fault, .own 7, .fr (intsA q.init), .fr (intsA q.leader), .any])], .v undef, .st 3 (.box 27 [sv q.nm, iv q.top, .own 4, .own 5, .own 6, iv q.fault, .own 7, .fr (intsA q.init), .fr (intsA q.leader), .own 8])⟩] (by kernel_rfl) (by kernel_rfl) ?_
 refine ⟨app_yes rfl (sp_fieldBox (off' := 9) (.tmp 3) rfl Tryd.underlying27 rfl (z := 1) (by kernel_rfl) (by decide) rfl) ⟨.inl rfl, trivial⟩ trivial trivial, ?_⟩
 refine ⟨app_yes rfl (sp_loadBox1 (Y := .box 27 [sv q.nm, iv q.top, .own 4, .own 5, .own 6, iv q.fault, .own 7, .fr (intsA q.init), .fr (intsA q.leader), .own 8]) (X := .own 8) (.tmp 42) rfl Tryd.underlying25 rfl rfl) ⟨.inl rfl, trivial⟩ ⟨rfl, trivial⟩ trivial, ?_⟩
 refine ⟨app_yes rfl (sp_fieldBox (off' := 9) (.tmp 1) rfl Tryd.underlying27 rfl (z := 1) (by kernel_rfl) (by decide) rfl) ⟨.inl rfl, trivial⟩ trivial trivial, ?_⟩
 refine ⟨app_yes rfl (sp_loadBox1 (Y := .box 27 (cFm q)) (X := slA 18 cRu q.rules) (.tmp 44) rfl Tryd.underlying25 rfl rfl) ⟨.inl rfl, trivial⟩ ⟨rfl, trivial⟩ trivial, ?_⟩
 refine ⟨app_yes rfl (sp_move (.tmp 4) (iv k) rfl) ⟨.inl rfl, trivial⟩ trivial trivial, ?_⟩
 refine ⟨app_yes rfl (sp_indexSl (off := k * 18) (.tmp 45) (.tmp 46) rfl Tryd.underlying25 (by kernel_rfl) (by omega) (by omega) rfl) ⟨.inl rfl, .inl rfl, trivial⟩ trivial trivial, ?_⟩
 refine ⟨app_yes rfl (sp_loadElS (z := 18) (.tmp 47) rfl Tryd.underlying76 rfl (by kernel_rfl) (flat_take lenRu q.rules k (by omega)) rfl) ⟨.inl rfl, trivial⟩ trivial trivial, ?_⟩
 refine ⟨app_yes rfl (sp_call (c := .func 43) (xs := #[.tmp 48]) [] (CopyRule_c q.rules[k] (H.rules _ (List.getElem_mem (by omega)))) rfl (by kernel_rfl) rfl (Xs := [.agg (cRu q.rules[k])]) rfl rfl rfl) ⟨.inl rfl, .inl rfl, trivial⟩ trivial trivial, ?_⟩
 refine ⟨app_yes rfl (sp_build (z := 18) (k := 9) (fr := false) (cs := [sv q.rules[k].nm, iv q.rules[k].kind, iv q.rules[k].frm, iv q.rules[k].to, iv q.rules[k].pf, iv q.rules[k].pt, .fr (intsA q.rules[k].resp), .fr (slA 6 cTh q.rules[k].guards), .fr (intsA q.rules[k].ex), .fr (intsA q.rules[k].fa), iv q.rules[k].rd, iv q.rules[k].wr, .fr (intsA q.rules[k].send), iv q.rules[k].pos, .fr (intsA q.rules[k].left), .fr (intsA q.rules[k].right), .fr (intsA q.rules[k].parent), iv q.rules[k].dir]) [.tmp 49] [.agg [sv q.rules[k].nm, iv q.rules[k].kind, iv q.rules[k].frm, iv q.rules[k].to, iv q.rules[k].pf, iv q.rules[k].pt, .fr (intsA q.rules[k].resp), .fr (slA 6 cTh q.rules[k].guards), .fr (intsA q.rules[k].ex), .fr (intsA q.rules[k].fa), iv q.rules[k].rd, iv q.rules[k].wr, .fr (intsA q.rules[k].send), iv q.rules[k].pos, .fr (intsA q.rules[k].left), .fr (intsA q.rules[k].right), .fr (intsA q.rules[k].parent), iv q.rules[k].dir]] rfl Tryd.underlying25 (by kernel_rfl) (by decide) (by decide) rfl rfl rfl (by kernel_rfl) (by decide) (fun h => Bool.noConfusion h) (by kernel_rfl)) ⟨.inr (.inr ⟨_, rfl, rfl⟩), trivial⟩ trivial rfl, ?_⟩
 refine ⟨app_yes rfl (sp_appendOwn (n := k) (cs := ((q.rules.take k).flatMap cRu)) (fr := true) (m := 1) (ds := [sv q.rules[k].nm, iv q.rules[k].kind, iv q.rules[k].frm, iv q.rules[k].to, iv q.rules[k].pf, iv q.rules[k].pt, .fr (intsA q.rules[k].resp), .fr (slA 6 cTh q.rules[k].guards), .fr (intsA q.rules[k].ex), .fr (intsA q.rules[k].fa), iv q.rules[k].rd, iv q.rules[k].wr, .fr (intsA q.rules[k].send), iv q.rules[k].pos, .fr (intsA q.rules[k].left), .fr (intsA q.rules[k].right), .fr (intsA q.rules[k].parent), iv q.rules[k].dir]) (⟨Tryd.underlying25, by kernel_rfl, by decide⟩ : Elt Tryd.prog 25 76 18 280) (.tmp 43) (.tmp 50) rfl (fun _ => newRu q.rules[k]) (by unfold maxLen; omega) (by omega) (cellRu q.rules[k]) (es := ((q.rules.take (k + 1)).flatMap cRu)) (snocRu (by omega))) ⟨.inl rfl, .inl rfl, trivial⟩ ⟨rfl, rfl, trivial⟩ rfl, ?_⟩
 refine ⟨app_yes rfl (sp_fieldBox (off' := 9) (.tmp 3) rfl Tryd.underlying27 rfl (z := 1) (by kernel_rfl) (by decide) rfl) ⟨.inl rfl, trivial⟩ trivial trivial, ?_⟩
 refine ⟨app_yes rfl (sp_storeBox (T0 := 27) (X := .own 8) (cs := [sv q.nm, iv q.top, .own 4, .own 5, .own 6, iv q.fault, .own 7, .fr (intsA q.init), .fr (intsA q.leader), .any]) (ds := [sv q.nm, iv q.top, .own 4, .own 5, .own 6, iv q.fault, .own 7, .fr (intsA q.init), .fr (intsA q.leader), .own 8]) (z := 1) (.tmp 52) (.tmp 51) rfl (by kernel_rfl) (by kernel_rfl) (by kernel_rfl) (of_decide_eq_true (by kernel_rfl)) (by kernel_rfl)) ⟨.inl rfl, .inl rfl, trivial⟩ ⟨rfl, trivial⟩ rfl, ?_⟩
 show ETri J w0 _ _ _
 refine tri_wk (wk_keep [(1, .box 27 (cFm q)), (2, .box 27 [sv (⟨#[]⟩), iv 0, .v (.slice none 0 0), .v (.slice none 0 0), .v (.slice none 0 0), iv 0, .v (.slice none 0 0), .v (.slice none 0 0), .v (.slice none 0 0), .v (.slice none 0 0)]), (3, .box 27 [sv q.nm, iv q.top, .own 4, .own 5, .own 6, iv q.fault, .own 7, .fr (intsA q.init), .fr (intsA q.leader), .own 8]), (4, .row true 9 1 (0 + q.states.length) (q.states.map sv)), (5, .row true 9 1 (0 + q.msgs.length) (q.msgs.map sv)), (6, .row true 9 1 (0 + q.vals.length) (q.vals.map sv)), (7, .row true 53 4 (0 + q.res.length) (q.res.flatMap cLn)), (8, .row true 76 18 (k + 1) ((q.rules.take (k + 1)).flatMap cRu))] [(1, .box 1 0), (2, .box 2 0), (3, .box 3 0), (4, iv k), (39, bv true)] (n := 54) rfl (by kernel_rfl) (by kernel_rfl)) ?_
 refine t_block ?_
 refine t_then ?_
 refine tri_region ?_
 refine t_op rfl (sp_move (.tmp 4) (iv k) rfl) ⟨.inl rfl, trivial⟩ trivial trivial ?_
 refine t_op rfl (sp_add (c := ((k + 1 : Nat) : Int)) rfl (w64 (by omega) (by omega) (by omega))) ⟨.inl rfl, .inl rfl, trivial⟩ trivial trivial ?_
 refine t_op rfl (sp_assign (.tmp 41) (iv (k + 1 : Nat)) rfl) ⟨.inl rfl, trivial⟩ trivial trivial ?_
 refine tri_nil ?_
 refine tri_wk (wk_keep [(1, .box 27 (cFm q)), (2, .box 27 [sv (⟨#[]⟩), iv 0, .v (.slice none 0 0), .v (.slice none 0 0), .v (.slice none 0 0), iv 0, .v (.slice none 0 0), .v (.slice none 0 0), .v (.slice none 0 0), .v (.slice none 0 0)]), (3, .box 27 [sv q.nm, iv q.top, .own 4, .own 5, .own 6, iv q.fault, .own 7, .fr (intsA q.init), .fr (intsA q.leader), .own 8]), (4, .row true 9 1 (0 + q.states.length) (q.states.map sv)), (5, .row true 9 1 (0 + q.msgs.length) (q.msgs.map sv)), (6, .row true 9 1 (0 + q.vals.length) (q.vals.map sv)), (7, .row true 53 4 (0 + q.res.length) (q.res.flatMap cLn)), (8, .row true 76 18 (k + 1) ((q.rules.take (k + 1)).flatMap cRu))] [(1, .box 1 0), (2, .box 2 0), (3, .box 3 0), (4, iv (k + 1 : Nat)), (39, bv true)] (n := 54) rfl (by kernel_rfl) (by kernel_rfl)) ?_
 refine t_then ?_
 refine tri_again ⟨k + 1, by omega⟩ (show q.rules.length - (k + 1) < q.rules.length - k by omega) ?_
 exact wk_keep _ _ rfl (by kernel_rfl) (by kernel_rfl)
 refine tri_region ?_
 refine t_op rfl (sp_move (.tmp 4) (iv k) rfl) ⟨.inl rfl, trivial⟩ trivial trivial ?_
 refine t_op rfl (sp_fieldBox (off' := 9) (.tmp 1) rfl Tryd.underlying27 rfl (z := 1) (by kernel_rfl) (by decide) rfl) ⟨.inl rfl, trivial⟩ trivial trivial ?_
 refine t_op rfl (sp_loadBox1 (Y := .box 27 (cFm q)) (X := slA 18 cRu q.rules) (.tmp 36) rfl Tryd.underlying25 rfl rfl) ⟨.inl rfl, trivial⟩ ⟨rfl, trivial⟩ trivial ?_
 refine t_op rfl (sp_lenSl (.tmp 37) rfl Tryd.underlying25) ⟨.inl rfl, trivial⟩ trivial trivial ?_
 refine t_op rfl (sp_lss rfl (dF hs1)) ⟨.inl rfl, .inl rfl, trivial⟩ trivial trivial ?_
 refine tri_nil ?_
 refine tri_wk (wk_keep [(1, .box 27 (cFm q)), (2, .box 27 [sv (⟨#[]⟩), iv 0, .v (.slice none 0 0), .v (.slice none 0 0), .v (.slice none 0 0), iv 0, .v (.slice none 0 0), .v (.slice none 0 0), .v (.slice none 0 0), .v (.slice none 0 0)]), (3, .box 27 [sv q.nm, iv q.top, .own 4, .own 5, .own 6, iv q.fault, .own 7, .fr (intsA q.init), .fr (intsA q.leader), .own 8]), (4, .row true 9 1 (0 + q.states.length) (q.states.map sv)), (5, .row true 9 1 (0 + q.msgs.length) (q.msgs.map sv)), (6, .row true 9 1 (0 + q.vals.length) (q.vals.map sv)), (7, .row true 53 4 (0 + q.res.length) (q.res.flatMap cLn)), (8, .row true 76 18 k ((q.rules.take k).flatMap cRu))] [(1, .box 1 0), (2, .box 2 0), (3, .box 3 0), (4, iv k), (39, bv false)] (n := 54) rfl (by kernel_rfl) (by kernel_rfl)) ?_
 refine t_then ?_
 refine t_condF rfl ?_
 refine tri_exit ?_
 refine t_then_exit ?_
 refine t_then_exit ?_
 refine t_hit ?_
 refine t_then ?_
 refine tri_seq ?_
 refine tri_region ?_
 refine t_op rfl (sp_loadBoxS (Y := .box 27 [sv q.nm, iv q.top, .own 4, .own 5, .own 6, iv q.fault, .own 7, .fr (intsA q.init), .fr (intsA q.leader), .own 8]) (ds := [sv q.nm, iv q.top, .own 4, .own 5, .own 6, iv q.fault, .own 7, .fr (intsA q.init), .fr (intsA q.leader), .own 8]) (z := 10) (.tmp 3) rfl Tryd.underlying27 rfl (by kernel_rfl) (by decide) (by kernel_rfl) (by kernel_rfl)) ⟨.inl rfl, trivial⟩ ⟨rfl, trivial⟩ trivial ?_
 refine t_op rfl (sp_storeBox (T0 := 27) (X := .agg [sv q.nm, iv q.top, .own 4, .own 5, .own 6, iv q.fault, .own 7, .fr (intsA q.init), .fr (intsA q.leader), .own 8]) (cs := [sv (⟨#[]⟩), iv 0, .v (.slice none 0 0), .v (.slice none 0 0), .v (.slice none 0 0), iv 0, .v (.slice none 0 0), .v (.slice none 0 0), .v (.slice none 0 0), .v (.slice none 0 0)]) (ds := [sv q.nm, iv q.top, .own 4, .own 5, .own 6, iv q.fault, .own 7, .fr (intsA q.init), .fr (intsA q.leader), .own 8]) (z := 10) (.tmp 2) (.tmp 53) rfl (by kernel_rfl) (by kernel_rfl) (by kernel_rfl) (of_decide_eq_true (by kernel_rfl)) (by kernel_rfl)) ⟨.inl rfl, .inl rfl, trivial⟩ ⟨rfl, trivial⟩ rfl ?_
 refine tri_nil ?_
 refine tri_wk (wk_keep [(2, .box 27 [sv q.nm, iv q.top, .own 4, .own 5, .own 6, iv q.fault, .own 7, .fr (intsA q.init), .fr (intsA q.leader), .own 8]), (4, .row true 9 1 (0 + q.states.length) (q.states.map sv)), (5, .row true 9 1 (0 + q.msgs.length) (q.msgs.map sv)), (6, .row true 9 1 (0 + q.vals.length) (q.vals.map sv)), (7, .row true 53 4 (0 + q.res.length) (q.res.flatMap cLn)), (8, .row true 76 18 k ((q.rules.take k).flatMap cRu))] [(2, .box 2 0)] (n := 54) rfl (by kernel_rfl) (by kernel_rfl)) ?_
 refine t_then ?_
 refine tri_ret ?_
 refine tri_end1 Tryd.results15 (.cellS rfl rfl Tryd.underlying27 rfl (z := 10) (by kernel_rfl) rfl (by decide)) ?_
 have hk : k = q.rules.length := by omega
 subst hk
 show AV.agg [sv q.nm, iv q.top, .sl 1 (0 + q.states.length) (q.states.map sv), .sl 1 (0 + q.msgs.length) (q.msgs.map sv), .sl 1 (0 + q.vals.length) (q.vals.map sv), iv q.fault, .sl 4 (0 + q.res.length) (q.res.flatMap cLn), intsA q.init, intsA q.leader, .sl 18 q.rules.length ((q.rules.take q.rules.length).flatMap cRu)] = .agg (cFm q)
 rw [List.take_length, Nat.zero_add, Nat.zero_add, Nat.zero_add, Nat.zero_add]; rfl
end Go.Proofs.YtmpbfdfjcfanoaaDoor

/-
  THE WALK OF ProtocolRules.
-/
namespace Go.Proofs.YtmpbfdfjcfanoaaDoor
open Go.RowKit Go.Deep
variable {J : World → Prop}
theorem ctr_iv {P : Program} {J : World → Prop} {f : FuncId} {args : List AV} {a b : Int} (h : Ctr P J f args (iv a)) (e : a = b) : Ctr P J f args (iv b) := e ▸ h
theorem big_many {q : Fm} (h : ¬ q.rules.length ≤ 30) : bigF q = true := by
  cases e : bigF q with
  | true => rfl
  | false => exact absurd (famLen e).lrules h
set_option linter.unusedSimpArgs false in
set_option linter.unusedVariables false in
set_option maxRecDepth 100000 in
set_option maxHeartbeats 6400000 in
theorem lawRules_big {q : Fm} (HQ : FmOk q) (n : Int) (hl : ¬ q.rules.length ≤ 30) : Ctr Tryd.prog TabW 4 [.agg (cFm q), iv n] (bv true) := by
 refine ctr_of_tri Tryd.func4 rfl (by intro X hX; simp only [List.mem_cons, List.not_mem_nil, or_false] at hX; rcases hX with rfl | rfl; exact plain_agg (plain_fm q); exact .v _) (n := 35) rfl (by simp) (fun w0 => ?_)
 refine tri_wk (wk_keep [] [(0, .agg (cFm q)), (1, iv n)] (n := 35) rfl (by kernel_rfl) (by kernel_rfl)) ?_
 refine tri_seq ?_
 refine tri_region ?_
 refine t_op rfl (sp_box (X := .agg (cFm q)) (k := 1) (.tmp 0) rfl rfl) ⟨.inl rfl, trivial⟩ trivial rfl ?_
 refine t_op rfl (sp_assign (.const (.bool false)) (bv false) rfl) ⟨.inl rfl, trivial⟩ trivial trivial ?_
 refine tri_nil ?_
 refine tri_wk (wk_keep [(1, .box 27 (cFm q))] [(1, iv n), (2, .box 1 0), (4, bv false)] (n := 35) rfl (by kernel_rfl) (by kernel_rfl)) ?_
 refine t_then ?_
 refine tri_seq ?_
 refine tri_seq ?_
 refine tri_region ?_
 refine t_op rfl (sp_loadBoxS (Y := .box 27 (cFm q)) (ds := cFm q) (z := 10) (.tmp 2) rfl Tryd.underlying27 rfl (by kernel_rfl) (by decide) (by kernel_rfl) (by kernel_rfl)) ⟨.inl rfl, trivial⟩ ⟨rfl, trivial⟩ trivial ?_
 refine t_op rfl (sp_call (c := .func 13) (xs := #[.tmp 6]) [] (ctr_b (Big_c HQ) (big_many hl)) rfl (by kernel_rfl) rfl (Xs := [.agg (cFm q)]) rfl rfl rfl) ⟨.inl rfl, .inl rfl, trivial⟩ trivial trivial ?_
 refine t_op rfl (sp_move (.tmp 7) (bv true) rfl) ⟨.inl rfl, trivial⟩ trivial trivial ?_
 refine t_skip rfl ?_
 refine t_skip rfl ?_
 refine t_skip rfl ?_
 refine t_op rfl (sp_pick (.tmp 8) (.const (.bool true)) (.tmp 11) true (bv true) (.v (.tuple #[])) rfl) ⟨.inl rfl, .inl rfl, .inl rfl, trivial⟩ trivial trivial ?_
 refine tri_nil ?_
 refine tri_wk (wk_keep [(1, .box 27 (cFm q))] [(1, iv n), (2, .box 1 0), (4, bv false), (12, bv true)] (n := 35) rfl (by kernel_rfl) (by kernel_rfl)) ?_
 refine t_then ?_
 refine t_condT rfl ?_
 refine tri_seq ?_
 refine tri_region ?_
 refine t_op rfl (sp_call (c := .func 14) (xs := #[]) [] known_c rfl (by kernel_rfl) rfl (Xs := []) rfl rfl rfl) ⟨.inl rfl, trivial⟩ trivial trivial ?_
 refine t_op rfl (sp_assign (.tmp 13) (bv true) rfl) ⟨.inl rfl, trivial⟩ trivial trivial ?_
 refine tri_nil ?_
 refine tri_wk (wk_keep [(1, .box 27 (cFm q))] [(1, iv n), (2, .box 1 0), (4, bv true)] (n := 35) rfl (by kernel_rfl) (by kernel_rfl)) ?_
 refine t_then ?_
 refine tri_ret ?_
 refine t_then_ret ?_
 refine tri_end1 Tryd.results4 (.tmp rfl) ?_
 exact rfl
set_option linter.unusedSimpArgs false in
set_option linter.unusedVariables false in
set_option maxRecDepth 100000 in
set_option maxHeartbeats 6400000 in
theorem lawRules_c {q : Fm} (HQ : FmOk q) (n : Int) : Ctr Tryd.prog TabW 4 [.agg (cFm q), iv n] (bv true) := by
 rcases Nat.lt_or_ge 30 q.rules.length with hl | hl
 exact lawRules_big HQ n (by omega)
 refine ctr_of_tri Tryd.func4 rfl (by intro X hX; simp only [List.mem_cons, List.not_mem_nil, or_false] at hX; rcases hX with rfl | rfl; exact plain_agg (plain_fm q); exact .v _) (n := 35) rfl (by simp) (fun w0 => ?_)
 refine tri_wk (wk_keep [] [(0, .agg (cFm q)), (1, iv n)] (n := 35) rfl (by kernel_rfl) (by kernel_rfl)) ?_
 refine tri_seq ?_
 refine tri_region ?_
 refine t_op rfl (sp_box (X := .agg (cFm q)) (k := 1) (.tmp 0) rfl rfl) ⟨.inl rfl, trivial⟩ trivial rfl ?_
 refine t_op rfl (sp_assign (.const (.bool false)) (bv false) rfl) ⟨.inl rfl, trivial⟩ trivial trivial ?_
 refine tri_nil ?_
 refine tri_wk (wk_keep [(1, .box 27 (cFm q))] [(1, iv n), (2, .box 1 0), (4, bv false)] (n := 35) rfl (by kernel_rfl) (by kernel_rfl)) ?_
 refine t_then ?_
 refine tri_seq ?_
 refine tri_seq ?_
 by_cases hs1 : (bigF q) = true
 refine tri_region ?_
 refine t_op rfl (sp_loadBoxS (Y := .box 27 (cFm q)) (ds := cFm q) (z := 10) (.tmp 2) rfl Tryd.underlying27 rfl (by kernel_rfl) (by decide) (by kernel_rfl) (by kernel_rfl)) ⟨.inl rfl, trivial⟩ ⟨rfl, trivial⟩ trivial ?_
 refine t_op rfl (sp_call (c := .func 13) (xs := #[.tmp 6]) [] (ctr_b (Big_c HQ) hs1) rfl (by kernel_rfl) rfl (Xs := [.agg (cFm q)]) rfl rfl rfl) ⟨.inl rfl, .inl rfl, trivial⟩ trivial trivial ?_
 refine t_op rfl (sp_move (.tmp 7) (bv true) rfl) ⟨.inl rfl, trivial⟩ trivial trivial ?_
 refine t_skip rfl ?_
 refine t_skip rfl ?_
 refine t_skip rfl ?_
 refine t_op rfl (sp_pick (.tmp 8) (.const (.bool true)) (.tmp 11) true (bv true) (.v (.tuple #[])) rfl) ⟨.inl rfl, .inl rfl, .inl rfl, trivial⟩ trivial trivial ?_
 refine tri_nil ?_
 refine tri_wk (wk_keep [(1, .box 27 (cFm q))] [(1, iv n), (2, .box 1 0), (4, bv false), (12, bv true)] (n := 35) rfl (by kernel_rfl) (by kernel_rfl)) ?_
 refine t_then ?_
 refine t_condT rfl ?_
 refine tri_seq ?_
 refine tri_region ?_
 refine t_op rfl (sp_call (c := .func 14) (xs := #[]) [] known_c rfl (by kernel_rfl) rfl (Xs := []) rfl rfl rfl) ⟨.inl rfl, trivial⟩ trivial trivial ?_
 refine t_op rfl (sp_assign (.tmp 13) (bv true) rfl) ⟨.inl rfl, trivial⟩ trivial trivial ?_
 refine tri_nil ?_
 refine tri_wk (wk_keep [(1, .box 27 (cFm q))] [(1, iv n), (2, .box 1 0), (4, bv true)] (n := 35) rfl (by kernel_rfl) (by kernel_rfl)) ?_
 refine t_then ?_
 refine tri_ret ?_
 refine t_then_ret ?_
 refine tri_end1 Tryd.results4 (.tmp rfl) ?_
 exact rfl
 have hs1f : (bigF q) = false := by simpa using hs1
 by_cases hs2 : valE q = 0
 refine tri_region ?_
 refine t_op rfl (sp_loadBoxS (Y := .box 27 (cFm q)) (ds := cFm q) (z := 10) (.tmp 2) rfl Tryd.underlying27 rfl (by kernel_rfl) (by decide) (by kernel_rfl) (by kernel_rfl)) ⟨.inl rfl, trivial⟩ ⟨rfl, trivial⟩ trivial ?_
 refine t_op rfl (sp_call (c := .func 13) (xs := #[.tmp 6]) [] (ctr_b (Big_c HQ) hs1f) rfl (by kernel_rfl) rfl (Xs := [.agg (cFm q)]) rfl rfl rfl) ⟨.inl rfl, .inl rfl, trivial⟩ trivial trivial ?_
 refine t_op rfl (sp_move (.tmp 7) (bv false) rfl) ⟨.inl rfl, trivial⟩ trivial trivial ?_
 refine t_opG rfl (sp_loadBoxS (Y := .box 27 (cFm q)) (ds := cFm q) (z := 10) (.tmp 2) rfl Tryd.underlying27 rfl (by kernel_rfl) (by decide) (by kernel_rfl) (by kernel_rfl)) ⟨.inl rfl, trivial⟩ ⟨rfl, trivial⟩ trivial ?_
 refine t_opG rfl (sp_call (c := .func 16) (xs := #[.tmp 9]) [] (qValidate_c HQ) rfl (by kernel_rfl) rfl (Xs := [.agg (cFm q)]) rfl rfl rfl) ⟨.inl rfl, .inl rfl, trivial⟩ trivial trivial ?_
 refine t_opG rfl (sp_neq rfl (dT' hs2)) ⟨.inl rfl, .inl rfl, trivial⟩ trivial trivial ?_
 refine t_op rfl (sp_pick (.tmp 8) (.const (.bool true)) (.tmp 11) false (bv true) (bv false) rfl) ⟨.inl rfl, .inl rfl, .inl rfl, trivial⟩ trivial trivial ?_
 refine tri_nil ?_
 refine tri_wk (wk_keep [(1, .box 27 (cFm q))] [(1, iv n), (2, .box 1 0), (4, bv false), (12, bv false)] (n := 35) rfl (by kernel_rfl) (by kernel_rfl)) ?_
 refine t_then ?_
 refine t_condF rfl ?_
 refine tri_skip ?_
 refine t_then ?_
 refine tri_seq ?_
 refine tri_region ?_
 refine t_op rfl (sp_loadBoxS (Y := .box 27 (cFm q)) (ds := cFm q) (z := 10) (.tmp 2) rfl Tryd.underlying27 rfl (by kernel_rfl) (by decide) (by kernel_rfl) (by kernel_rfl)) ⟨.inl rfl, trivial⟩ ⟨rfl, trivial⟩ trivial ?_
 refine t_op rfl (sp_call (c := .func 15) (xs := #[.tmp 14]) [] (rCopy_c (famLen hs1f)) rfl (by kernel_rfl) rfl (Xs := [.agg (cFm q)]) rfl rfl rfl) ⟨.inl rfl, .inl rfl, trivial⟩ trivial trivial ?_
 refine t_op rfl (sp_alloc (z := .agg #[.string (⟨#[]⟩), .int .i64 0, .slice none 0 0, .slice none 0 0, .slice none 0 0, .int .i64 0, .slice none 0 0, .slice none 0 0, .slice none 0 0, .slice none 0 0]) (k := 2) rfl (by kernel_rfl)) trivial trivial rfl ?_
 refine t_op rfl (sp_storeBox (T0 := 27) (X := .agg [sv q.nm, iv q.top, .fr (strsA q.states), .fr (strsA q.msgs), .fr (strsA q.vals), iv q.fault, .fr (slA 4 cLn q.res), .fr (intsA q.init), .fr (intsA q.leader), .fr (slA 18 cRu q.rules)]) (cs := [sv (⟨#[]⟩), iv 0, .v (.slice none 0 0), .v (.slice none 0 0), .v (.slice none 0 0), iv 0, .v (.slice none 0 0), .v (.slice none 0 0), .v (.slice none 0 0), .v (.slice none 0 0)]) (ds := [sv q.nm, iv q.top, .fr (strsA q.states), .fr (strsA q.msgs), .fr (strsA q.vals), iv q.fault, .fr (slA 4 cLn q.res), .fr (intsA q.init), .fr (intsA q.leader), .fr (slA 18 cRu q.rules)]) (z := 10) (.tmp 5) (.tmp 15) rfl (by kernel_rfl) (by kernel_rfl) (by kernel_rfl) (of_decide_eq_true (by kernel_rfl)) (by kernel_rfl)) ⟨.inl rfl, .inr (.inr ⟨_, rfl, rfl⟩), trivial⟩ ⟨rfl, trivial⟩ rfl ?_
 refine tri_nil ?_
 refine tri_wk (wk_keep [(1, .box 27 (cFm q)), (2, .box 27 [sv q.nm, iv q.top, .fr (strsA q.states), .fr (strsA q.msgs), .fr (strsA q.vals), iv q.fault, .fr (slA 4 cLn q.res), .fr (intsA q.init), .fr (intsA q.leader), .fr (slA 18 cRu q.rules)])] [(1, iv n), (2, .box 1 0), (4, bv false), (5, .box 2 0)] (n := 35) rfl (by kernel_rfl) (by kernel_rfl)) ?_
 refine t_then ?_
 refine tri_seq ?_
 refine tri_draw [⟨[(.tmp 5, .box 2 0)], [], .box 2 9, .no⟩, ⟨[(.tmp 16, .box 2 9)], [(2, .box 27 [sv q.nm, iv q.top, .fr (strsA q.states), .fr (strsA q.msgs), .fr (strsA q.vals), iv q.fault, .fr (slA 4 cLn q.res), .fr (intsA q.init), .fr (intsA q.leader), .fr (slA 18 cRu q.rules)])], .fr (slA 18 cRu q.rules), .no⟩, ⟨[(.tmp 1, iv n)], [], iv n, .no⟩, ⟨[(.tmp 18, iv n)], [], .v (.int .u64 (uN n)), .no⟩, ⟨[(.tmp 2, .box 1 0)], [], .box 1 9, .no⟩, ⟨[(.tmp 20, .box 1 9)], [(1, .box 27 (cFm q))], slA 18 cRu q.rules, .no⟩, ⟨[(.tmp 21, slA 18 cRu q.rules)], [], iv q.rules.length, .no⟩, ⟨[(.tmp 22, iv q.rules.length), (.const (.int .i64 1), iv 1)], [], iv (q.rules.length + 1 : Nat), .no⟩, ⟨[(.tmp 23, iv (q.rules.length + 1 : Nat))], [], .v (.int .u64 ((q.rules.length + 1 : Nat) : Int)), .no⟩, ⟨[(.tmp 19, .v (.int .u64 (uN n))), (.tmp 24, .v (.int .u64 ((q.rules.length + 1 : Nat) : Int)))], [], .v (.int .u64 (((cutN n q.rules.length) : Nat) : Int)), .no⟩, ⟨[(.tmp 25, .v (.int .u64 (((cutN n q.rules.length) : Nat) : Int)))], [], iv ((cutN n q.rules.length) : Nat), .no⟩, ⟨[(.tmp 17, slA 18 cRu q.rules), (.tmp 26, iv ((cutN n q.rules.length) : Nat))], [], .sl 18 ((cutN n q.rules.length) - 0) ((q.rules.take (cutN n q.rules.length)).flatMap cRu), .no⟩, ⟨[(.tmp 5, .box 2 0)], [], .box 2 9, .no⟩, ⟨[(.tmp 28, .box 2 9), (.tmp 27, .sl 18 ((cutN n q.rules.length) - 0) ((q.rules.take (cutN n q.rules.length)).flatMap cRu))], [(2, .box 27 [sv q.nm, iv q.top, .fr (strsA q.states), .fr (strsA q.msgs), .fr (strsA q.vals), iv q.fault, .fr (slA 4 cLn q.res), .fr (intsA q.init), .fr (intsA q.leader), .fr (slA 18 cRu q.rules)])], .v undef, .st 2 (.box 27 [sv q.nm, iv q.top, .fr (strsA q.states), .fr (strsA q.msgs), .fr (strsA q.vals), iv q.fault, .fr (slA 4 cLn q.res), .fr (intsA q.init), .fr (intsA q.leader), .sl 18 ((cutN n q.rules.length) - 0) ((q.rules.take (cutN n q.rules.length)).flatMap cRu)])⟩] (by kernel_rfl) (by kernel_rfl) ?_
 refine ⟨app_yes rfl (sp_fieldBox (off' := 9) (.tmp 5) rfl Tryd.underlying27 rfl (z := 1) (by kernel_rfl) (by decide) rfl) ⟨.inl rfl, trivial⟩ trivial trivial, ?_⟩
 refine ⟨app_yes rfl (sp_loadBox1 (Y := .box 27 [sv q.nm, iv q.top, .fr (strsA q.states), .fr (strsA q.msgs), .fr (strsA q.vals), iv q.fault, .fr (slA 4 cLn q.res), .fr (intsA q.init), .fr (intsA q.leader), .fr (slA 18 cRu q.rules)]) (X := .fr (slA 18 cRu q.rules)) (.tmp 16) rfl Tryd.underlying25 rfl rfl) ⟨.inl rfl, trivial⟩ ⟨rfl, trivial⟩ trivial, ?_⟩
 refine ⟨app_yes rfl (sp_move (.tmp 1) (iv n) rfl) ⟨.inl rfl, trivial⟩ trivial trivial, ?_⟩
 refine ⟨app_yes rfl (sp_conv (c := uN n) rfl Tryd.underlying3 Tryd.underlying34 rfl) ⟨.inl rfl, trivial⟩ trivial trivial, ?_⟩
 refine ⟨app_yes rfl (sp_fieldBox (off' := 9) (.tmp 2) rfl Tryd.underlying27 rfl (z := 1) (by kernel_rfl) (by decide) rfl) ⟨.inl rfl, trivial⟩ trivial trivial, ?_⟩
 refine ⟨app_yes rfl (sp_loadBox1 (Y := .box 27 (cFm q)) (X := slA 18 cRu q.rules) (.tmp 20) rfl Tryd.underlying25 rfl rfl) ⟨.inl rfl, trivial⟩ ⟨rfl, trivial⟩ trivial, ?_⟩
 refine ⟨app_yes rfl (sp_lenSl (.tmp 21) rfl Tryd.underlying25) ⟨.inl rfl, trivial⟩ trivial trivial, ?_⟩
 refine ⟨app_yes rfl (sp_add (c := ((q.rules.length + 1 : Nat) : Int)) rfl (w64 (by omega) (by omega) (by omega))) ⟨.inl rfl, .inl rfl, trivial⟩ trivial trivial, ?_⟩
 refine ⟨app_yes rfl (sp_conv (c := ((q.rules.length + 1 : Nat) : Int)) rfl Tryd.underlying3 Tryd.underlying34 (u64_small (by omega))) ⟨.inl rfl, trivial⟩ trivial trivial, ?_⟩
 refine ⟨app_yes rfl (sp_rem (c := (((cutN n q.rules.length) : Nat) : Int)) rfl (by omega) (cutN_rem n _)) ⟨.inl rfl, .inl rfl, trivial⟩ trivial trivial, ?_⟩
 refine ⟨app_yes rfl (sp_conv (c := (((cutN n q.rules.length) : Nat) : Int)) rfl Tryd.underlying34 Tryd.underlying3 (i64_small (by have := cutN_le n q.rules.length; omega))) ⟨.inl rfl, trivial⟩ trivial trivial, ?_⟩
 refine ⟨app_yes rfl (sp_sliceSl (l := 0) (h := (cutN n q.rules.length)) (ds := ((q.rules.take (cutN n q.rules.length)).flatMap cRu)) (.tmp 17) none (some (.tmp 26)) rfl Tryd.underlying25 (by kernel_rfl) [] [(.tmp 26, iv ((cutN n q.rules.length) : Nat))] (.inl ⟨rfl, rfl, rfl⟩) (.inr ⟨_, _, rfl, rfl⟩) (Nat.zero_le _) (cutN_le n _) (flat_cut (cutN_le n _))) ⟨.inr (.inl rfl), .inl rfl, trivial⟩ trivial trivial, ?_⟩
 refine ⟨app_yes rfl (sp_fieldBox (off' := 9) (.tmp 5) rfl Tryd.underlying27 rfl (z := 1) (by kernel_rfl) (by decide) rfl) ⟨.inl rfl, trivial⟩ trivial trivial, ?_⟩
 refine ⟨app_yes rfl (sp_storeBox (T0 := 27) (X := .sl 18 ((cutN n q.rules.length) - 0) ((q.rules.take (cutN n q.rules.length)).flatMap cRu)) (cs := [sv q.nm, iv q.top, .fr (strsA q.states), .fr (strsA q.msgs), .fr (strsA q.vals), iv q.fault, .fr (slA 4 cLn q.res), .fr (intsA q.init), .fr (intsA q.leader), .fr (slA 18 cRu q.rules)]) (ds := [sv q.nm, iv q.top, .fr (strsA q.states), .fr (strsA q.msgs), .fr (strsA q.vals), iv q.fault, .fr (slA 4 cLn q.res), .fr (intsA q.init), .fr (intsA q.leader), .sl 18 ((cutN n q.rules.length) - 0) ((q.rules.take (cutN n q.rules.length)).flatMap cRu)]) (z := 1) (.tmp 28) (.tmp 27) rfl (by kernel_rfl) (by kernel_rfl) (by kernel_rfl) (of_decide_eq_true (by kernel_rfl)) (by kernel_rfl)) ⟨.inl rfl, .inl rfl, trivial⟩ ⟨rfl, trivial⟩ rfl, ?_⟩
 show ETri TabW w0 _ _ _
 refine tri_wk (wk_keep [(2, .box 27 [sv q.nm, iv q.top, .fr (strsA q.states), .fr (strsA q.msgs), .fr (strsA q.vals), iv q.fault, .fr (slA 4 cLn q.res), .fr (intsA q.init), .fr (intsA q.leader), .sl 18 ((cutN n q.rules.length) - 0) ((q.rules.take (cutN n q.rules.length)).flatMap cRu)])] [(4, bv false), (5, .box 2 0)] (n := 35) rfl (by kernel_rfl) (by kernel_rfl)) ?_
 refine t_then ?_
 refine tri_seq ?_
 refine tri_region ?_
 refine t_op rfl (sp_loadBoxS (Y := .box 27 [sv q.nm, iv q.top, .fr (strsA q.states), .fr (strsA q.msgs), .fr (strsA q.vals), iv q.fault, .fr (slA 4 cLn q.res), .fr (intsA q.init), .fr (intsA q.leader), .sl 18 ((cutN n q.rules.length) - 0) ((q.rules.take (cutN n q.rules.length)).flatMap cRu)]) (ds := [sv q.nm, iv q.top, .fr (strsA q.states), .fr (strsA q.msgs), .fr (strsA q.vals), iv q.fault, .fr (slA 4 cLn q.res), .fr (intsA q.init), .fr (intsA q.leader), .sl 18 ((cutN n q.rules.length) - 0) ((q.rules.take (cutN n q.rules.length)).flatMap cRu)]) (z := 10) (.tmp 5) rfl Tryd.underlying27 rfl (by kernel_rfl) (by decide) (by kernel_rfl) (by kernel_rfl)) ⟨.inl rfl, trivial⟩ ⟨rfl, trivial⟩ trivial ?_
 refine t_op rfl (sp_call (c := .func 16) (xs := #[.tmp 29]) [] (ctr_iv (qValidate_cut HQ (cutN_le n _)) (val_cut (cutN_le n _) hs2)) rfl (by kernel_rfl) rfl (Xs := [.agg [sv q.nm, iv q.top, .fr (strsA q.states), .fr (strsA q.msgs), .fr (strsA q.vals), iv q.fault, .fr (slA 4 cLn q.res), .fr (intsA q.init), .fr (intsA q.leader), .sl 18 ((cutN n q.rules.length) - 0) ((q.rules.take (cutN n q.rules.length)).flatMap cRu)]]) rfl rfl rfl) ⟨.inl rfl, .inl rfl, trivial⟩ trivial trivial ?_
 refine t_op rfl (sp_eql (r := true) rfl (by decide)) ⟨.inl rfl, .inl rfl, trivial⟩ trivial trivial ?_
 refine t_op rfl (sp_move (.tmp 31) (bv true) rfl) ⟨.inl rfl, trivial⟩ trivial trivial ?_
 refine t_opG rfl (sp_call (c := .func 14) (xs := #[]) [] known_c rfl (by kernel_rfl) rfl (Xs := []) rfl rfl rfl) ⟨.inl rfl, trivial⟩ trivial trivial ?_
 refine t_op rfl (sp_pick (.tmp 32) (.tmp 33) (.const (.bool false)) true (bv true) (bv false) rfl) ⟨.inl rfl, .inl rfl, .inl rfl, trivial⟩ trivial trivial ?_
 refine t_op rfl (sp_assign (.tmp 34) (bv true) rfl) ⟨.inl rfl, trivial⟩ trivial trivial ?_
 refine tri_nil ?_
 refine tri_wk (wk_keep [] [(4, bv true)] (n := 35) rfl (by kernel_rfl) (by kernel_rfl)) ?_
 refine t_then ?_
 refine tri_ret ?_
 refine tri_end1 Tryd.results4 (.tmp rfl) ?_
 exact rfl
 refine tri_region ?_
 refine t_op rfl (sp_loadBoxS (Y := .box 27 (cFm q)) (ds := cFm q) (z := 10) (.tmp 2) rfl Tryd.underlying27 rfl (by kernel_rfl) (by decide) (by kernel_rfl) (by kernel_rfl)) ⟨.inl rfl, trivial⟩ ⟨rfl, trivial⟩ trivial ?_
 refine t_op rfl (sp_call (c := .func 13) (xs := #[.tmp 6]) [] (ctr_b (Big_c HQ) hs1f) rfl (by kernel_rfl) rfl (Xs := [.agg (cFm q)]) rfl rfl rfl) ⟨.inl rfl, .inl rfl, trivial⟩ trivial trivial ?_
 refine t_op rfl (sp_move (.tmp 7) (bv false) rfl) ⟨.inl rfl, trivial⟩ trivial trivial ?_
 refine t_opG rfl (sp_loadBoxS (Y := .box 27 (cFm q)) (ds := cFm q) (z := 10) (.tmp 2) rfl Tryd.underlying27 rfl (by kernel_rfl) (by decide) (by kernel_rfl) (by kernel_rfl)) ⟨.inl rfl, trivial⟩ ⟨rfl, trivial⟩ trivial ?_
 refine t_opG rfl (sp_call (c := .func 16) (xs := #[.tmp 9]) [] (qValidate_c HQ) rfl (by kernel_rfl) rfl (Xs := [.agg (cFm q)]) rfl rfl rfl) ⟨.inl rfl, .inl rfl, trivial⟩ trivial trivial ?_
 refine t_opG rfl (sp_neq rfl (dF' hs2)) ⟨.inl rfl, .inl rfl, trivial⟩ trivial trivial ?_
 refine t_op rfl (sp_pick (.tmp 8) (.const (.bool true)) (.tmp 11) false (bv true) (bv true) rfl) ⟨.inl rfl, .inl rfl, .inl rfl, trivial⟩ trivial trivial ?_
 refine tri_nil ?_
 refine tri_wk (wk_keep [(1, .box 27 (cFm q))] [(1, iv n), (2, .box 1 0), (4, bv false), (12, bv true)] (n := 35) rfl (by kernel_rfl) (by kernel_rfl)) ?_
 refine t_then ?_
 refine t_condT rfl ?_
 refine tri_seq ?_
 refine tri_region ?_
 refine t_op rfl (sp_call (c := .func 14) (xs := #[]) [] known_c rfl (by kernel_rfl) rfl (Xs := []) rfl rfl rfl) ⟨.inl rfl, trivial⟩ trivial trivial ?_
 refine t_op rfl (sp_assign (.tmp 13) (bv true) rfl) ⟨.inl rfl, trivial⟩ trivial trivial ?_
 refine tri_nil ?_
 refine tri_wk (wk_keep [(1, .box 27 (cFm q))] [(1, iv n), (2, .box 1 0), (4, bv true)] (n := 35) rfl (by kernel_rfl) (by kernel_rfl)) ?_
 refine t_then ?_
 refine tri_ret ?_
 refine t_then_ret ?_
 refine tri_end1 Tryd.results4 (.tmp rfl) ?_
 exact rfl
theorem walk_Rules {v : Value} {q : Fm} {n : Int} (w : World) (hq : IsFam 0 w v q) (_ : I64 n) (ht : TabW w) :
    Calls Tryd.prog 4 #[v, .int .i64 n] w fun e w' => e = .returned (.bool true) ∧ Below w.heap.size w w' :=
  walk2 (lawRules_c hq.ok n) (famw hq) (.v _) ht
end Go.Proofs.YtmpbfdfjcfanoaaDoor
