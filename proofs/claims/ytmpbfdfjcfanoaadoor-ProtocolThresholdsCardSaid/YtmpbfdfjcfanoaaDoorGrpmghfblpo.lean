import Derived.Test.YtmpbfdfjcfanoaaDoorRows
import Derived.Lib.LaidTab
import Derived.LaidSub
import Derived.Test.YtmpbfdfjcfanoaaDoorGrpgdlckedd
import Derived.Test.YtmpbfdfjcfanoaaDoorGrpajjobmgg
import Derived.Test.YtmpbfdfjcfanoaaDoorGrplboogech
set_option linter.all false
/-
  Thresholds: PLAIN MATHEMATICS, and differentGuards in the new form.
-/
namespace Go.Proofs.YtmpbfdfjcfanoaaDoor
open Go.RowKit Go.Deep
variable {J : World → Prop}
theorem val_3 {q : Fm} (h : valE q = 0) : val3 q = 0 := by
  by_cases n : nameB q.nm.toList = true
  · by_cases a : argB q = true
    · rw [valE_ar n a] at h; cases h
    · by_cases s : ((q.states.length : Nat) : Int) = 0
      · rw [valE_st n (by simpa using a) s] at h; cases h
      · by_cases t : tooI q = true
        · rw [valE_tb n (by simpa using a) s t] at h; cases h
        · rw [valE_2 ⟨n, by simpa using a, s, by simpa using t⟩] at h
          unfold val2 at h
          split at h
          · cases h
          split at h
          · cases h
          split at h
          · cases h
          exact h
  · rw [valE_nm (by simpa using n)] at h; cases h
def thL (q : Fm) : List Th := if valE q = 0 then diffG q.rules else []
theorem thL_len (q : Fm) : (thL q).length ≤ 3 := by
  unfold thL
  split
  · rename_i h
    have h1 := (orE_zero_left (orE_zero_left (orE_zero_left (val_3 h)).2).2).2
    split at h1
    · cases h1
    · omega
  · simp
theorem thr_err {q : Fm} (h : ¬ valE q = 0) : AV.tup [.sl 6 0 [], iv (valE q)] = .tup [slA 6 cTh (thL q), iv (valE q)] := by
  unfold thL; rw [if_neg h]; rfl
theorem thr_ok {q : Fm} (h : valE q = 0) : AV.tup [slA 6 cTh (diffG q.rules), iv 0] = .tup [slA 6 cTh (thL q), iv (valE q)] := by
  unfold thL; rw [if_pos h, h]
theorem diff_c {q : Fm} (hq : FmOk q) (h8 : q.rules.length ≤ 8) (h2 : ∀ r ∈ q.rules, r.guards.length ≤ 2) : Ctr Tryd.prog J 54 [slA 18 cRu q.rules] (slA 6 cTh (diffG q.rules)) := ctr1 fun w v _ h =>
  (differentGuards_any (pu_slm lenRu lo0 RuOk hq.rules (fun _ _ hr hl hp => ru_of hr lo0 hl hp) h) h8 h2).mono fun _ _ ⟨v', he, ho, hb⟩ => ⟨v', he, sl_pu lenTh (fun _ h _ => h) th_pu ho.sl, hb⟩
end Go.Proofs.YtmpbfdfjcfanoaaDoor

/-
  Thresholds OF BOTH SIDES; THE WALK OF ProtocolThresholds.
-/
namespace Go.Proofs.YtmpbfdfjcfanoaaDoor
open Go.RowKit Go.Deep
variable {J : World → Prop}
set_option linter.unusedSimpArgs false in
set_option linter.unusedVariables false in
set_option maxRecDepth 100000 in
set_option maxHeartbeats 6400000 in
theorem rThresholds_c {q : Fm} (HQ : FmOk q) : Ctr Tryd.prog J 26 [.agg (cFm q)] (.tup [slA 6 cTh (thL q), iv (valE q)]) := by
 refine ctr_of_tri Tryd.func26 rfl (by intro X hX; simp only [List.mem_cons, List.not_mem_nil, or_false] at hX; rcases hX with rfl; exact plain_agg (plain_fm q)) (n := 12) rfl (by simp) (fun w0 => ?_)
 refine tri_wk (wk_keep [] [(0, .agg (cFm q))] (n := 12) rfl (by kernel_rfl) (by kernel_rfl)) ?_
 refine tri_seq ?_
 refine tri_region ?_
 refine t_op rfl (sp_box (X := .agg (cFm q)) (k := 1) (.tmp 0) rfl rfl) ⟨.inl rfl, trivial⟩ trivial rfl ?_
 refine t_op rfl (sp_assign (.const (.slice none 0 0)) (.v (.slice none 0 0)) rfl) ⟨.inl rfl, trivial⟩ trivial trivial ?_
 refine t_op rfl (sp_assign (.const (.int .i64 0)) (iv 0) rfl) ⟨.inl rfl, trivial⟩ trivial trivial ?_
 refine tri_nil ?_
 refine tri_wk (wk_keep [(1, .box 27 (cFm q))] [(1, .box 1 0), (2, .v (.slice none 0 0)), (3, iv 0)] (n := 12) rfl (by kernel_rfl) (by kernel_rfl)) ?_
 refine t_then ?_
 refine tri_seq ?_
 refine tri_seq ?_
 refine tri_region ?_
 refine t_op rfl (sp_loadBoxS (Y := .box 27 (cFm q)) (ds := cFm q) (z := 10) (.tmp 1) rfl Tryd.underlying27 rfl (by kernel_rfl) (by decide) (by kernel_rfl) (by kernel_rfl)) ⟨.inl rfl, trivial⟩ ⟨rfl, trivial⟩ trivial ?_
 refine t_op rfl (sp_call (c := .func 17) (xs := #[.tmp 5]) [] (rValidate_c HQ) rfl (by kernel_rfl) rfl (Xs := [.agg (cFm q)]) rfl rfl rfl) ⟨.inl rfl, .inl rfl, trivial⟩ trivial trivial ?_
 refine t_op rfl (sp_assign (.tmp 6) (iv (valE q)) rfl) ⟨.inl rfl, trivial⟩ trivial trivial ?_
 refine tri_nil ?_
 refine tri_wk (wk_keep [(1, .box 27 (cFm q))] [(1, .box 1 0), (2, .v (.slice none 0 0)), (3, iv 0), (4, iv (valE q))] (n := 12) rfl (by kernel_rfl) (by kernel_rfl)) ?_
 refine t_then ?_
 refine tri_seq ?_
 by_cases hs1 : valE q = 0
 refine tri_region ?_
 refine t_op rfl (sp_move (.tmp 4) (iv (valE q)) rfl) ⟨.inl rfl, trivial⟩ trivial trivial ?_
 refine t_op rfl (sp_neq rfl (dT' hs1)) ⟨.inl rfl, .inl rfl, trivial⟩ trivial trivial ?_
 refine tri_nil ?_
 refine tri_wk (wk_keep [(1, .box 27 (cFm q))] [(1, .box 1 0), (2, .v (.slice none 0 0)), (3, iv 0), (4, iv (valE q)), (8, bv false)] (n := 12) rfl (by kernel_rfl) (by kernel_rfl)) ?_
 refine t_then ?_
 refine t_condF rfl ?_
 refine tri_skip ?_
 refine t_then ?_
 refine tri_seq ?_
 refine tri_region ?_
 refine t_op rfl (sp_loadBoxS (Y := .box 27 (cFm q)) (ds := cFm q) (z := 10) (.tmp 1) rfl Tryd.underlying27 rfl (by kernel_rfl) (by decide) (by kernel_rfl) (by kernel_rfl)) ⟨.inl rfl, trivial⟩ ⟨rfl, trivial⟩ trivial ?_
 refine t_op rfl (sp_call (c := .func 61) (xs := #[.tmp 10]) [] (distinct_c HQ (val_small hs1).1 (val_small hs1).2) rfl (by kernel_rfl) rfl (Xs := [.agg (cFm q)]) rfl rfl rfl) ⟨.inl rfl, .inl rfl, trivial⟩ trivial trivial ?_
 refine t_op rfl (sp_assign (.tmp 11) (.fr (slA 6 cTh (diffG q.rules))) rfl) ⟨.inl rfl, trivial⟩ trivial trivial ?_
 refine t_op rfl (sp_assign (.const (.int .i64 0)) (iv 0) rfl) ⟨.inl rfl, trivial⟩ trivial trivial ?_
 refine tri_nil ?_
 refine tri_wk (wk_keep [] [(2, .fr (slA 6 cTh (diffG q.rules))), (3, iv 0)] (n := 12) rfl (by kernel_rfl) (by kernel_rfl)) ?_
 refine t_then ?_
 refine tri_ret ?_
 refine tri_end2 Tryd.results26 (.tmp rfl) (.tmp rfl) ?_
 exact thr_ok hs1
 refine tri_region ?_
 refine t_op rfl (sp_move (.tmp 4) (iv (valE q)) rfl) ⟨.inl rfl, trivial⟩ trivial trivial ?_
 refine t_op rfl (sp_neq rfl (dF' hs1)) ⟨.inl rfl, .inl rfl, trivial⟩ trivial trivial ?_
 refine tri_nil ?_
 refine tri_wk (wk_keep [(1, .box 27 (cFm q))] [(1, .box 1 0), (2, .v (.slice none 0 0)), (3, iv 0), (4, iv (valE q)), (8, bv true)] (n := 12) rfl (by kernel_rfl) (by kernel_rfl)) ?_
 refine t_then ?_
 refine t_condT rfl ?_
 refine tri_seq ?_
 refine tri_region ?_
 refine t_op rfl (sp_move (.tmp 4) (iv (valE q)) rfl) ⟨.inl rfl, trivial⟩ trivial trivial ?_
 refine t_op rfl (sp_assign (.const (.slice none 0 0)) (.v (.slice none 0 0)) rfl) ⟨.inl rfl, trivial⟩ trivial trivial ?_
 refine t_op rfl (sp_assign (.tmp 9) (iv (valE q)) rfl) ⟨.inl rfl, trivial⟩ trivial trivial ?_
 refine tri_nil ?_
 refine tri_wk (wk_keep [(1, .box 27 (cFm q))] [(1, .box 1 0), (2, .v (.slice none 0 0)), (3, iv (valE q))] (n := 12) rfl (by kernel_rfl) (by kernel_rfl)) ?_
 refine t_then ?_
 refine tri_ret ?_
 refine t_then_ret ?_
 refine tri_wk (wk_adopt 2 2 true 55 6 rfl rfl rfl) ?_
 refine tri_end2 Tryd.results26 (.tmp rfl) (.tmp rfl) ?_
 exact thr_err hs1
set_option linter.unusedSimpArgs false in
set_option linter.unusedVariables false in
set_option maxRecDepth 100000 in
set_option maxHeartbeats 6400000 in
theorem qThresholds_c {q : Fm} (HQ : FmOk q) : Ctr Tryd.prog J 25 [.agg (cFm q)] (.tup [slA 6 cTh (thL q), iv (valE q)]) := by
 refine ctr_of_tri Tryd.func25 rfl (by intro X hX; simp only [List.mem_cons, List.not_mem_nil, or_false] at hX; rcases hX with rfl; exact plain_agg (plain_fm q)) (n := 13) rfl (by simp) (fun w0 => ?_)
 refine tri_wk (wk_keep [] [(0, .agg (cFm q))] (n := 13) rfl (by kernel_rfl) (by kernel_rfl)) ?_
 refine tri_seq ?_
 refine tri_region ?_
 refine t_op rfl (sp_box (X := .agg (cFm q)) (k := 1) (.tmp 0) rfl rfl) ⟨.inl rfl, trivial⟩ trivial rfl ?_
 refine t_op rfl (sp_assign (.const (.slice none 0 0)) (.v (.slice none 0 0)) rfl) ⟨.inl rfl, trivial⟩ trivial trivial ?_
 refine t_op rfl (sp_assign (.const (.int .i64 0)) (iv 0) rfl) ⟨.inl rfl, trivial⟩ trivial trivial ?_
 refine tri_nil ?_
 refine tri_wk (wk_keep [(1, .box 27 (cFm q))] [(1, .box 1 0), (2, .v (.slice none 0 0)), (3, iv 0)] (n := 13) rfl (by kernel_rfl) (by kernel_rfl)) ?_
 refine t_then ?_
 refine tri_seq ?_
 refine tri_seq ?_
 refine tri_region ?_
 refine t_op rfl (sp_loadBoxS (Y := .box 27 (cFm q)) (ds := cFm q) (z := 10) (.tmp 1) rfl Tryd.underlying27 rfl (by kernel_rfl) (by decide) (by kernel_rfl) (by kernel_rfl)) ⟨.inl rfl, trivial⟩ ⟨rfl, trivial⟩ trivial ?_
 refine t_op rfl (sp_call (c := .func 16) (xs := #[.tmp 5]) [] (qValidate_c HQ) rfl (by kernel_rfl) rfl (Xs := [.agg (cFm q)]) rfl rfl rfl) ⟨.inl rfl, .inl rfl, trivial⟩ trivial trivial ?_
 refine t_op rfl (sp_assign (.tmp 6) (iv (valE q)) rfl) ⟨.inl rfl, trivial⟩ trivial trivial ?_
 refine tri_nil ?_
 refine tri_wk (wk_keep [(1, .box 27 (cFm q))] [(1, .box 1 0), (2, .v (.slice none 0 0)), (3, iv 0), (4, iv (valE q))] (n := 13) rfl (by kernel_rfl) (by kernel_rfl)) ?_
 refine t_then ?_
 refine tri_seq ?_
 by_cases hs1 : valE q = 0
 refine tri_region ?_
 refine t_op rfl (sp_move (.tmp 4) (iv (valE q)) rfl) ⟨.inl rfl, trivial⟩ trivial trivial ?_
 refine t_op rfl (sp_neq rfl (dT' hs1)) ⟨.inl rfl, .inl rfl, trivial⟩ trivial trivial ?_
 refine tri_nil ?_
 refine tri_wk (wk_keep [(1, .box 27 (cFm q))] [(1, .box 1 0), (2, .v (.slice none 0 0)), (3, iv 0), (4, iv (valE q)), (8, bv false)] (n := 13) rfl (by kernel_rfl) (by kernel_rfl)) ?_
 refine t_then ?_
 refine t_condF rfl ?_
 refine tri_skip ?_
 refine t_then ?_
 refine tri_seq ?_
 refine tri_region ?_
 refine t_op rfl (sp_fieldBox (off' := 9) (.tmp 1) rfl Tryd.underlying27 rfl (z := 1) (by kernel_rfl) (by decide) rfl) ⟨.inl rfl, trivial⟩ trivial trivial ?_
 refine t_op rfl (sp_loadBox1 (Y := .box 27 (cFm q)) (X := slA 18 cRu q.rules) (.tmp 10) rfl Tryd.underlying25 rfl rfl) ⟨.inl rfl, trivial⟩ ⟨rfl, trivial⟩ trivial ?_
 refine t_op rfl (sp_call (c := .func 54) (xs := #[.tmp 11]) [] (diff_c HQ (val_small hs1).1 (val_small hs1).2) rfl (by kernel_rfl) rfl (Xs := [slA 18 cRu q.rules]) rfl rfl rfl) ⟨.inl rfl, .inl rfl, trivial⟩ trivial trivial ?_
 refine t_op rfl (sp_assign (.tmp 12) (.fr (slA 6 cTh (diffG q.rules))) rfl) ⟨.inl rfl, trivial⟩ trivial trivial ?_
 refine t_op rfl (sp_assign (.const (.int .i64 0)) (iv 0) rfl) ⟨.inl rfl, trivial⟩ trivial trivial ?_
 refine tri_nil ?_
 refine tri_wk (wk_keep [] [(2, .fr (slA 6 cTh (diffG q.rules))), (3, iv 0)] (n := 13) rfl (by kernel_rfl) (by kernel_rfl)) ?_
 refine t_then ?_
 refine tri_ret ?_
 refine tri_end2 Tryd.results25 (.tmp rfl) (.tmp rfl) ?_
 exact thr_ok hs1
 refine tri_region ?_
 refine t_op rfl (sp_move (.tmp 4) (iv (valE q)) rfl) ⟨.inl rfl, trivial⟩ trivial trivial ?_
 refine t_op rfl (sp_neq rfl (dF' hs1)) ⟨.inl rfl, .inl rfl, trivial⟩ trivial trivial ?_
 refine tri_nil ?_
 refine tri_wk (wk_keep [(1, .box 27 (cFm q))] [(1, .box 1 0), (2, .v (.slice none 0 0)), (3, iv 0), (4, iv (valE q)), (8, bv true)] (n := 13) rfl (by kernel_rfl) (by kernel_rfl)) ?_
 refine t_then ?_
 refine t_condT rfl ?_
 refine tri_seq ?_
 refine tri_region ?_
 refine t_op rfl (sp_move (.tmp 4) (iv (valE q)) rfl) ⟨.inl rfl, trivial⟩ trivial trivial ?_
 refine t_op rfl (sp_assign (.const (.slice none 0 0)) (.v (.slice none 0 0)) rfl) ⟨.inl rfl, trivial⟩ trivial trivial ?_
 refine t_op rfl (sp_assign (.tmp 9) (iv (valE q)) rfl) ⟨.inl rfl, trivial⟩ trivial trivial ?_
 refine tri_nil ?_
 refine tri_wk (wk_keep [(1, .box 27 (cFm q))] [(1, .box 1 0), (2, .v (.slice none 0 0)), (3, iv (valE q))] (n := 13) rfl (by kernel_rfl) (by kernel_rfl)) ?_
 refine t_then ?_
 refine tri_ret ?_
 refine t_then_ret ?_
 refine tri_wk (wk_adopt 2 2 true 55 6 rfl rfl rfl) ?_
 refine tri_end2 Tryd.results25 (.tmp rfl) (.tmp rfl) ?_
 exact thr_err hs1
set_option linter.unusedSimpArgs false in
set_option linter.unusedVariables false in
set_option maxRecDepth 100000 in
set_option maxHeartbeats 6400000 in
theorem lawThresholds_c {q : Fm} (HQ : FmOk q) : Ctr Tryd.prog TabW 8 [.agg (cFm q)] (bv true) := by
 have hl := thL_len q
 refine ctr_of_tri Tryd.func8 rfl (by intro X hX; simp only [List.mem_cons, List.not_mem_nil, or_false] at hX; rcases hX with rfl; exact plain_agg (plain_fm q)) (n := 47) rfl (by simp) (fun w0 => ?_)
 refine tri_wk (wk_keep [] [(0, .agg (cFm q))] (n := 47) rfl (by kernel_rfl) (by kernel_rfl)) ?_
 refine tri_seq ?_
 refine tri_region ?_
 refine t_op rfl (sp_box (X := .agg (cFm q)) (k := 1) (.tmp 0) rfl rfl) ⟨.inl rfl, trivial⟩ trivial rfl ?_
 refine t_op rfl (sp_assign (.const (.bool false)) (bv false) rfl) ⟨.inl rfl, trivial⟩ trivial trivial ?_
 refine tri_nil ?_
 refine tri_wk (wk_keep [(1, .box 27 (cFm q))] [(1, .box 1 0), (2, bv false)] (n := 47) rfl (by kernel_rfl) (by kernel_rfl)) ?_
 refine t_then ?_
 refine tri_seq ?_
 refine tri_seq ?_
 by_cases hs1 : (bigF q) = true
 refine tri_region ?_
 refine t_op rfl (sp_loadBoxS (Y := .box 27 (cFm q)) (ds := cFm q) (z := 10) (.tmp 1) rfl Tryd.underlying27 rfl (by kernel_rfl) (by decide) (by kernel_rfl) (by kernel_rfl)) ⟨.inl rfl, trivial⟩ ⟨rfl, trivial⟩ trivial ?_
 refine t_op rfl (sp_call (c := .func 13) (xs := #[.tmp 8]) [] (ctr_b (Big_c HQ) hs1) rfl (by kernel_rfl) rfl (Xs := [.agg (cFm q)]) rfl rfl rfl) ⟨.inl rfl, .inl rfl, trivial⟩ trivial trivial ?_
 refine tri_nil ?_
 refine tri_wk (wk_keep [(1, .box 27 (cFm q))] [(1, .box 1 0), (2, bv false), (9, bv true)] (n := 47) rfl (by kernel_rfl) (by kernel_rfl)) ?_
 refine t_then ?_
 refine t_condT rfl ?_
 refine tri_seq ?_
 refine tri_region ?_
 refine t_op rfl (sp_call (c := .func 14) (xs := #[]) [] known_c rfl (by kernel_rfl) rfl (Xs := []) rfl rfl rfl) ⟨.inl rfl, trivial⟩ trivial trivial ?_
 refine t_op rfl (sp_assign (.tmp 10) (bv true) rfl) ⟨.inl rfl, trivial⟩ trivial trivial ?_
 refine tri_nil ?_
 refine tri_wk (wk_keep [(1, .box 27 (cFm q))] [(1, .box 1 0), (2, bv true)] (n := 47) rfl (by kernel_rfl) (by kernel_rfl)) ?_
 refine t_then ?_
 refine tri_ret ?_
 refine t_then_ret ?_
 refine tri_end1 Tryd.results8 (.tmp rfl) ?_
 exact rfl
 have hs1f : (bigF q) = false := by simpa using hs1
 refine tri_region ?_
 refine t_op rfl (sp_loadBoxS (Y := .box 27 (cFm q)) (ds := cFm q) (z := 10) (.tmp 1) rfl Tryd.underlying27 rfl (by kernel_rfl) (by decide) (by kernel_rfl) (by kernel_rfl)) ⟨.inl rfl, trivial⟩ ⟨rfl, trivial⟩ trivial ?_
 refine t_op rfl (sp_call (c := .func 13) (xs := #[.tmp 8]) [] (ctr_b (Big_c HQ) hs1f) rfl (by kernel_rfl) rfl (Xs := [.agg (cFm q)]) rfl rfl rfl) ⟨.inl rfl, .inl rfl, trivial⟩ trivial trivial ?_
 refine tri_nil ?_
 refine tri_wk (wk_keep [(1, .box 27 (cFm q))] [(1, .box 1 0), (2, bv false), (9, bv false)] (n := 47) rfl (by kernel_rfl) (by kernel_rfl)) ?_
 refine t_then ?_
 refine t_condF rfl ?_
 refine tri_skip ?_
 refine t_then ?_
 refine tri_seq ?_
 refine tri_region ?_
 refine t_op rfl (sp_loadBoxS (Y := .box 27 (cFm q)) (ds := cFm q) (z := 10) (.tmp 1) rfl Tryd.underlying27 rfl (by kernel_rfl) (by decide) (by kernel_rfl) (by kernel_rfl)) ⟨.inl rfl, trivial⟩ ⟨rfl, trivial⟩ trivial ?_
 refine t_op rfl (sp_call (c := .func 25) (xs := #[.tmp 12]) [] (qThresholds_c HQ) rfl (by kernel_rfl) rfl (Xs := [.agg (cFm q)]) rfl rfl rfl) ⟨.inl rfl, .inl rfl, trivial⟩ trivial trivial ?_
 refine t_op rfl (sp_move (.tmp 13) (.tup [.fr (slA 6 cTh (thL q)), iv (valE q)]) rfl) ⟨.inl rfl, trivial⟩ trivial trivial ?_
 refine t_op rfl (sp_extract (X := .fr (slA 6 cTh (thL q))) (.tmp 11) rfl rfl) ⟨.inl rfl, trivial⟩ trivial trivial ?_
 refine t_op rfl (sp_extract (X := iv (valE q)) (.tmp 11) rfl rfl) ⟨.inl rfl, trivial⟩ trivial trivial ?_
 refine t_op rfl (sp_assign (.tmp 14) (.fr (slA 6 cTh (thL q))) rfl) ⟨.inl rfl, trivial⟩ trivial trivial ?_
 refine t_op rfl (sp_assign (.tmp 15) (iv (valE q)) rfl) ⟨.inl rfl, trivial⟩ trivial trivial ?_
 refine tri_nil ?_
 refine tri_wk (wk_keep [(1, .box 27 (cFm q))] [(1, .box 1 0), (2, bv false), (3, .fr (slA 6 cTh (thL q))), (4, iv (valE q))] (n := 47) rfl (by kernel_rfl) (by kernel_rfl)) ?_
 refine t_then ?_
 refine tri_seq ?_
 refine tri_region ?_
 refine t_op rfl (sp_loadBoxS (Y := .box 27 (cFm q)) (ds := cFm q) (z := 10) (.tmp 1) rfl Tryd.underlying27 rfl (by kernel_rfl) (by decide) (by kernel_rfl) (by kernel_rfl)) ⟨.inl rfl, trivial⟩ ⟨rfl, trivial⟩ trivial ?_
 refine t_op rfl (sp_call (c := .func 26) (xs := #[.tmp 17]) [] (rThresholds_c HQ) rfl (by kernel_rfl) rfl (Xs := [.agg (cFm q)]) rfl rfl rfl) ⟨.inl rfl, .inl rfl, trivial⟩ trivial trivial ?_
 refine t_op rfl (sp_move (.tmp 18) (.tup [.fr (slA 6 cTh (thL q)), iv (valE q)]) rfl) ⟨.inl rfl, trivial⟩ trivial trivial ?_
 refine t_op rfl (sp_extract (X := .fr (slA 6 cTh (thL q))) (.tmp 16) rfl rfl) ⟨.inl rfl, trivial⟩ trivial trivial ?_
 refine t_op rfl (sp_extract (X := iv (valE q)) (.tmp 16) rfl rfl) ⟨.inl rfl, trivial⟩ trivial trivial ?_
 refine t_op rfl (sp_assign (.tmp 19) (.fr (slA 6 cTh (thL q))) rfl) ⟨.inl rfl, trivial⟩ trivial trivial ?_
 refine t_op rfl (sp_assign (.tmp 20) (iv (valE q)) rfl) ⟨.inl rfl, trivial⟩ trivial trivial ?_
 refine tri_nil ?_
 refine tri_wk (wk_keep [] [(2, bv false), (3, .fr (slA 6 cTh (thL q))), (4, iv (valE q)), (5, .fr (slA 6 cTh (thL q))), (6, iv (valE q))] (n := 47) rfl (by kernel_rfl) (by kernel_rfl)) ?_
 refine t_then ?_
 refine tri_seq ?_
 refine tri_seq ?_
 refine tri_region ?_
 refine t_op rfl (sp_move (.tmp 4) (iv (valE q)) rfl) ⟨.inl rfl, trivial⟩ trivial trivial ?_
 refine t_op rfl (sp_move (.tmp 6) (iv (valE q)) rfl) ⟨.inl rfl, trivial⟩ trivial trivial ?_
 refine t_op rfl (sp_neq rfl (dT' rfl)) ⟨.inl rfl, .inl rfl, trivial⟩ trivial trivial ?_
 refine t_op rfl (sp_move (.tmp 23) (bv false) rfl) ⟨.inl rfl, trivial⟩ trivial trivial ?_
 refine t_opG rfl (sp_move (.tmp 3) (.fr (slA 6 cTh (thL q))) rfl) ⟨.inl rfl, trivial⟩ trivial trivial ?_
 refine t_opG rfl (sp_lenSl (.tmp 25) rfl Tryd.underlying49) ⟨.inr (.inl rfl), trivial⟩ trivial trivial ?_
 refine t_opG rfl (sp_move (.tmp 5) (.fr (slA 6 cTh (thL q))) rfl) ⟨.inl rfl, trivial⟩ trivial trivial ?_
 refine t_opG rfl (sp_lenSl (.tmp 27) rfl Tryd.underlying49) ⟨.inr (.inl rfl), trivial⟩ trivial trivial ?_
 refine t_opG rfl (sp_neq rfl (dT' rfl)) ⟨.inl rfl, .inl rfl, trivial⟩ trivial trivial ?_
 refine t_op rfl (sp_pick (.tmp 24) (.const (.bool true)) (.tmp 29) false (bv true) (bv false) rfl) ⟨.inl rfl, .inl rfl, .inl rfl, trivial⟩ trivial trivial ?_
 refine tri_nil ?_
 refine tri_wk (wk_keep [] [(2, bv false), (3, .fr (slA 6 cTh (thL q))), (5, .fr (slA 6 cTh (thL q))), (30, bv false)] (n := 47) rfl (by kernel_rfl) (by kernel_rfl)) ?_
 refine t_then ?_
 refine t_condF rfl ?_
 refine tri_skip ?_
 refine t_then ?_
 refine tri_seq ?_
 refine tri_seq ?_
 refine tri_region ?_
 refine t_op rfl (sp_assign (.const (.int .i64 0)) (iv 0) rfl) ⟨.inl rfl, trivial⟩ trivial trivial ?_
 refine tri_nil ?_
 refine tri_wk (wk_keep [] [(2, bv false), (3, .fr (slA 6 cTh (thL q))), (5, .fr (slA 6 cTh (thL q))), (7, iv 0)] (n := 47) rfl (by kernel_rfl) (by kernel_rfl)) ?_
 refine t_then ?_
 refine tri_block ?_
 refine tri_loop (σ := {k : Nat // k ≤ (thL q).length}) (fun s => (ofL [], ofT 47 [(3, .fr (slA 6 cTh (thL q))), (5, .fr (slA 6 cTh (thL q))), (7, iv s.1)])) (fun s => (thL q).length - s.1) ⟨0, Nat.zero_le _⟩ (wk_keep [] _ rfl (by kernel_rfl) (by kernel_rfl)) (fun s => ?_)
 obtain ⟨k, hk0⟩ := s
 show ETri TabW w0 (ofL []) (ofT 47 [(3, .fr (slA 6 cTh (thL q))), (5, .fr (slA 6 cTh (thL q))), (7, iv k)]) _
 refine tri_seq ?_
 refine tri_seq ?_
 by_cases hs2 : ((k : Nat) : Int) < (((thL q).length : Nat) : Int)
 refine tri_region ?_
 refine t_op rfl (sp_move (.tmp 7) (iv k) rfl) ⟨.inl rfl, trivial⟩ trivial trivial ?_
 refine t_op rfl (sp_move (.tmp 3) (.fr (slA 6 cTh (thL q))) rfl) ⟨.inl rfl, trivial⟩ trivial trivial ?_
 refine t_op rfl (sp_lenSl (.tmp 32) rfl Tryd.underlying49) ⟨.inr (.inl rfl), trivial⟩ trivial trivial ?_
 refine t_op rfl (sp_lss rfl (dT hs2)) ⟨.inl rfl, .inl rfl, trivial⟩ trivial trivial ?_
 refine tri_nil ?_
 refine tri_wk (wk_keep [] [(3, .fr (slA 6 cTh (thL q))), (5, .fr (slA 6 cTh (thL q))), (7, iv k), (34, bv true)] (n := 47) rfl (by kernel_rfl) (by kernel_rfl)) ?_
 refine t_then ?_
 refine t_condT rfl ?_
 refine tri_skip ?_
 refine t_then ?_
 refine tri_seq ?_
 refine tri_block ?_
 refine tri_seq ?_
 refine tri_draw [⟨[(.tmp 3, .fr (slA 6 cTh (thL q)))], [], .fr (slA 6 cTh (thL q)), .no⟩, ⟨[(.tmp 7, iv k)], [], iv k, .no⟩, ⟨[(.tmp 37, slA 6 cTh (thL q)), (.tmp 38, iv k)], [], .el ((thL q).flatMap cTh) (k * 6), .no⟩, ⟨[(.tmp 39, .el ((thL q).flatMap cTh) (k * 6))], [], .agg (cTh (thL q)[k]), .no⟩, ⟨[(.tmp 5, .fr (slA 6 cTh (thL q)))], [], .fr (slA 6 cTh (thL q)), .no⟩, ⟨[(.tmp 7, iv k)], [], iv k, .no⟩, ⟨[(.tmp 41, slA 6 cTh (thL q)), (.tmp 42, iv k)], [], .el ((thL q).flatMap cTh) (k * 6), .no⟩, ⟨[(.tmp 43, .el ((thL q).flatMap cTh) (k * 6))], [], .agg (cTh (thL q)[k]), .no⟩, ⟨[(.tmp 40, .agg (cTh (thL q)[k])), (.tmp 44, .agg (cTh (thL q)[k]))], [], bv false, .no⟩] (by kernel_rfl) (by kernel_rfl) ?_
 refine ⟨app_yes rfl (sp_move (.tmp 3) (.fr (slA 6 cTh (thL q))) rfl) ⟨.inl rfl, trivial⟩ trivial trivial, ?_⟩
 refine ⟨app_yes rfl (sp_move (.tmp 7) (iv k) rfl) ⟨.inl rfl, trivial⟩ trivial trivial, ?_⟩
 refine ⟨app_yes rfl (sp_indexSl (off := k * 6) (.tmp 37) (.tmp 38) rfl Tryd.underlying49 (by kernel_rfl) (by omega) (by omega) rfl) ⟨.inr (.inl rfl), .inl rfl, trivial⟩ trivial trivial, ?_⟩
 refine ⟨app_yes rfl (sp_loadElS (z := 6) (.tmp 39) rfl Tryd.underlying55 rfl (by kernel_rfl) (flat_take lenTh (thL q) k (by omega)) rfl) ⟨.inl rfl, trivial⟩ trivial trivial, ?_⟩
 refine ⟨app_yes rfl (sp_move (.tmp 5) (.fr (slA 6 cTh (thL q))) rfl) ⟨.inl rfl, trivial⟩ trivial trivial, ?_⟩
 refine ⟨app_yes rfl (sp_move (.tmp 7) (iv k) rfl) ⟨.inl rfl, trivial⟩ trivial trivial, ?_⟩
 refine ⟨app_yes rfl (sp_indexSl (off := k * 6) (.tmp 41) (.tmp 42) rfl Tryd.underlying49 (by kernel_rfl) (by omega) (by omega) rfl) ⟨.inr (.inl rfl), .inl rfl, trivial⟩ trivial trivial, ?_⟩
 refine ⟨app_yes rfl (sp_loadElS (z := 6) (.tmp 43) rfl Tryd.underlying55 rfl (by kernel_rfl) (flat_take lenTh (thL q) k (by omega)) rfl) ⟨.inl rfl, trivial⟩ trivial trivial, ?_⟩
 refine ⟨app_yes rfl (sp_aggNeq [.int .i64 ((thL q)[k].msg), .int .i64 ((thL q)[k].coef), .int .i64 ((thL q)[k].bd.c), .int .i64 ((thL q)[k].bd.n), .int .i64 ((thL q)[k].bd.t), .int .i64 ((thL q)[k].bd.f)] rfl (by kernel_rfl) (fun w => eqn_th _ _ _ _ _ _ w)) ⟨.inl rfl, .inl rfl, trivial⟩ trivial trivial, ?_⟩
 show ETri TabW w0 _ _ _
 refine tri_wk (wk_keep [] [(3, .fr (slA 6 cTh (thL q))), (5, .fr (slA 6 cTh (thL q))), (7, iv k), (34, bv true), (45, bv false)] (n := 47) rfl (by kernel_rfl) (by kernel_rfl)) ?_
 refine t_then ?_
 refine t_condF rfl ?_
 refine tri_skip ?_
 refine t_block ?_
 refine t_then ?_
 refine tri_region ?_
 refine t_op rfl (sp_move (.tmp 7) (iv k) rfl) ⟨.inl rfl, trivial⟩ trivial trivial ?_
 refine t_op rfl (sp_add (c := ((k + 1 : Nat) : Int)) rfl (w64 (by omega) (by omega) (by omega))) ⟨.inl rfl, .inl rfl, trivial⟩ trivial trivial ?_
 refine t_op rfl (sp_assign (.tmp 36) (iv (k + 1 : Nat)) rfl) ⟨.inl rfl, trivial⟩ trivial trivial ?_
 refine tri_nil ?_
 refine tri_wk (wk_keep [] [(3, .fr (slA 6 cTh (thL q))), (5, .fr (slA 6 cTh (thL q))), (7, iv (k + 1 : Nat)), (34, bv true), (45, bv false)] (n := 47) rfl (by kernel_rfl) (by kernel_rfl)) ?_
 refine t_then ?_
 refine tri_again ⟨k + 1, by omega⟩ (show (thL q).length - (k + 1) < (thL q).length - k by omega) ?_
 exact wk_keep [] _ rfl (by kernel_rfl) (by kernel_rfl)
 refine tri_region ?_
 refine t_op rfl (sp_move (.tmp 7) (iv k) rfl) ⟨.inl rfl, trivial⟩ trivial trivial ?_
 refine t_op rfl (sp_move (.tmp 3) (.fr (slA 6 cTh (thL q))) rfl) ⟨.inl rfl, trivial⟩ trivial trivial ?_
 refine t_op rfl (sp_lenSl (.tmp 32) rfl Tryd.underlying49) ⟨.inr (.inl rfl), trivial⟩ trivial trivial ?_
 refine t_op rfl (sp_lss rfl (dF hs2)) ⟨.inl rfl, .inl rfl, trivial⟩ trivial trivial ?_
 refine tri_nil ?_
 refine tri_wk (wk_keep [] [(3, .fr (slA 6 cTh (thL q))), (5, .fr (slA 6 cTh (thL q))), (7, iv k), (34, bv false)] (n := 47) rfl (by kernel_rfl) (by kernel_rfl)) ?_
 refine t_then ?_
 refine t_condF rfl ?_
 refine tri_exit ?_
 refine t_then_exit ?_
 refine t_then_exit ?_
 refine t_hit ?_
 refine t_then ?_
 refine tri_seq ?_
 refine tri_region ?_
 refine t_op rfl (sp_call (c := .func 14) (xs := #[]) [] known_c rfl (by kernel_rfl) rfl (Xs := []) rfl rfl rfl) ⟨.inl rfl, trivial⟩ trivial trivial ?_
 refine t_op rfl (sp_assign (.tmp 46) (bv true) rfl) ⟨.inl rfl, trivial⟩ trivial trivial ?_
 refine tri_nil ?_
 refine tri_wk (wk_keep [] [(2, bv true)] (n := 47) rfl (by kernel_rfl) (by kernel_rfl)) ?_
 refine t_then ?_
 refine tri_ret ?_
 refine tri_end1 Tryd.results8 (.tmp rfl) ?_
 exact rfl
theorem walk_Thresholds {v : Value} {q : Fm} (w : World) (hq : IsFam 0 w v q) (ht : TabW w) :
    Calls Tryd.prog 8 #[v] w fun e w' => e = .returned (.bool true) ∧ Below w.heap.size w w' :=
  walk1 (lawThresholds_c hq.ok) (famw hq) ht
end Go.Proofs.YtmpbfdfjcfanoaaDoor

/-
  THE TABLE THAT strconv READS, out of a row's condition on the listed variables.
-/
namespace Go.Proofs.YtmpbfdfjcfanoaaDoor
open Go.RowKit Go.Deep

theorem tab_of_laid {W : World} (h : laidMetH Tryd.prog [("math/bits.deBruijn32tab", Rows.laid_math_bits_deBruijn32tab), ("math/bits.deBruijn64tab", Rows.laid_math_bits_deBruijn64tab), ("internal/strconv.uint64pow10", Rows.laid_internal_strconv_uint64pow10)] W) : TabW W := by
  have h1 := h.filter fun x => x.1 == "internal/strconv.uint64pow10"
  have h2 := (laidMetH_iff.1 h1).1
  have e : ((([("math/bits.deBruijn32tab", Rows.laid_math_bits_deBruijn32tab), ("math/bits.deBruijn64tab", Rows.laid_math_bits_deBruijn64tab), ("internal/strconv.uint64pow10", Rows.laid_internal_strconv_uint64pow10)] : List (String × DataW Unit)).filter fun x => x.1 == "internal/strconv.uint64pow10").filter fun x => x.2.handleName?.isNone) = [("internal/strconv.uint64pow10", Go.Lib.tabData .u64 Go.Lib.pow10Tab)] := by kernel_rfl
  rw [e] at h2
  exact Go.Lib.tabIs_of_head (g := 0) (t := 142) (e := 134) (n := 20) (by kernel_rfl) (by kernel_rfl) Tryd.underlying142 Tryd.underlying134 (by kernel_rfl) (by kernel_rfl) h2
end Go.Proofs.YtmpbfdfjcfanoaaDoor
