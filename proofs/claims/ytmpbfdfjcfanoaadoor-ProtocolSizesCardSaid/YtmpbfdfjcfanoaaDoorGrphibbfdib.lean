import Derived.Test.YtmpbfdfjcfanoaaDoorRows
import Derived.Lib.LaidTab
import Derived.LaidSub
import Derived.Test.YtmpbfdfjcfanoaaDoorGrpgdlckedd
import Derived.Test.YtmpbfdfjcfanoaaDoorGrpajjobmgg
import Derived.Test.YtmpbfdfjcfanoaaDoorGrplboogech
set_option linter.all false
/-
  Sizes: PLAIN MATHEMATICS, and the program's contract in the new form.
-/
namespace Go.Proofs.YtmpbfdfjcfanoaaDoor
open Go.RowKit Go.Deep
variable {J : World → Prop}
def cS (s : Sz) : List AV := cSz s.n s.t s.f
theorem lenS (s : Sz) : (cS s).length = 3 := rfl
theorem szel_pu {F ok : Nat → Prop} {lo : Nat} {w : World} (s : Sz) (vs : List Value) (h : SzEl lo w vs s) : ∀ j (hj : j < (cS s).length), Pu F w ok (cS s)[j] (vs.getD j undef) := by
  obtain ⟨rfl, _⟩ := h
  intro j hj
  match j, hj with
  | 0, _ => exact .v _
  | 1, _ => exact .v _
  | 2, _ => exact .v _
theorem qSizes_c {q : Fm} (hq : FmOk q) (n : Int) : Ctr Tryd.prog J 23 [.agg (cFm q), iv n] (.tup [slA 3 cS (szL q n), iv (szE q n)]) := ctr2 fun w v v' _ h h' => by
  rw [h'.v_inv]
  exact (Sizes_any n (fam_of hq lo0 h)).mono fun _ _ ⟨v', he, ho, hb⟩ => ⟨_, he, .tup rfl fun j hj => (match j, hj with
    | 0, _ => sl_pu lenS (fun _ h _ => h) szel_pu ho.sl
    | 1, _ => .v _), hb⟩
theorem rowS_len (q : Fm) (n f : Int) (T : Nat) : (rowS q n f T).length ≤ T := by
  unfold rowS; exact Nat.le_trans (List.length_filter_le _ _) (by simp)
theorem allS_len (q : Fm) (n : Int) (m : Nat) : ∀ F : Nat, (allS q n m F).length ≤ F * m
  | 0 => by unfold allS; simp
  | F + 1 => by
    rw [allS_succ, List.length_append]
    have h1 := allS_len q n m F
    have h2 := rowS_len q n F m
    rw [Nat.succ_mul]; omega
theorem szL_len (q : Fm) (n : Int) : (szL q n).length ≤ 81 := by
  unfold szL
  split
  · rename_i h
    unfold szE at h
    split at h
    · rename_i h1; exact absurd h h1
    · split at h
      · cases h
      · rename_i h2
        have h3 : inB 1 8 n = true := by simpa using h2
        unfold inB at h3; simp only [Bool.and_eq_true, decide_eq_true_eq] at h3
        refine Nat.le_trans (allS_len q n _ _) ?_
        have h4 : n.toNat + 1 ≤ 9 := by omega
        exact Nat.le_trans (Nat.mul_le_mul h4 h4) (by decide)
  · simp
theorem siz_e1 {q : Fm} {n : Int} (h : ¬ valE q = 0) : AV.tup [.sl 3 0 [], iv (valE q)] = .tup [slA 3 cS (szL q n), iv (szE q n)] := by
  have e : szE q n = valE q := by unfold szE; rw [if_pos h]
  unfold szL; rw [e, if_neg h]; rfl
theorem siz_e2 {q : Fm} {n : Int} (h : valE q = 0) (h2 : inB 1 8 n = false) : AV.tup [.sl 3 0 [], iv 1] = .tup [slA 3 cS (szL q n), iv (szE q n)] := by
  have e : szE q n = 1 := by unfold szE; rw [if_neg (by simp [h]), if_pos h2]
  unfold szL; rw [e, if_neg (by decide)]; rfl
theorem siz_ok {q : Fm} {n : Int} (h : valE q = 0) (h2 : inB 1 8 n = true) {l : List Sz} (hl : l = allS q n (n.toNat + 1) (n.toNat + 1)) : AV.tup [.sl 3 l.length (l.flatMap cS), iv 0] = .tup [slA 3 cS (szL q n), iv (szE q n)] := by
  have e : szE q n = 0 := by unfold szE; rw [if_neg (by simp [h]), if_neg (by simp [h2])]
  unfold szL; rw [e, if_pos rfl, ← hl]; rfl
theorem snocS {l : List Sz} {n : Int} {T F : Nat} : l.flatMap cS ++ rowCells true [iv n, iv T, iv F] = (l ++ [(⟨n, T, F⟩ : Sz)]).flatMap cS := by
  rw [List.flatMap_append]; rfl
theorem snocL {l : List Sz} {x : Sz} : (l ++ [x]).length = l.length + 1 := by simp
theorem newS {n : Int} {T F : Nat} : ∀ d ∈ [iv n, iv T, iv F], d.isNew = true := fun d hd => by
  simp only [List.mem_cons, List.not_mem_nil, or_false] at hd; rcases hd with rfl | rfl | rfl <;> rfl
theorem cellS {n : Int} {T F : Nat} : ∀ d ∈ [iv n, iv T, iv F], d.cell = true := fun d hd => by
  simp only [List.mem_cons, List.not_mem_nil, or_false] at hd; rcases hd with rfl | rfl | rfl <;> rfl
theorem in18 {n : Int} (h : inB 1 8 n = true) : 1 ≤ n ∧ n ≤ 8 := by unfold inB at h; simpa using h
end Go.Proofs.YtmpbfdfjcfanoaaDoor

/-
  admissible, Admissible OF THE REFERENCE; THE WALK OF ProtocolAdmits.
-/
namespace Go.Proofs.YtmpbfdfjcfanoaaDoor
open Go.RowKit Go.Deep
variable {J : World → Prop}
theorem plain_sz (n t f : Int) : ∀ X ∈ cSz n t f, Plain X := by
  intro X hX; simp only [cSz, List.mem_cons, List.not_mem_nil, or_false] at hX
  rcases hX with rfl | rfl | rfl <;> exact .v _
set_option linter.unusedSimpArgs false in
set_option linter.unusedVariables false in
set_option maxRecDepth 100000 in
set_option maxHeartbeats 6400000 in
theorem radmissible_c {q : Fm} (HQ : FmOk q) (n t f : Int) : Ctr Tryd.prog J 70 [.agg (cFm q), .agg (cSz n t f)] (bv (admB q n t f)) := by
 have l5 := HQ.lres
 refine ctr_of_tri Tryd.func70 rfl (by intro X hX; simp only [List.mem_cons, List.not_mem_nil, or_false] at hX; rcases hX with rfl | rfl; exact plain_agg (plain_fm q); exact plain_agg (plain_sz n t f)) (n := 63) rfl (by simp) (fun w0 => ?_)
 refine tri_wk (wk_keep [] [(0, .agg (cFm q)), (1, .agg (cSz n t f))] (n := 63) rfl (by kernel_rfl) (by kernel_rfl)) ?_
 refine tri_seq ?_
 refine tri_region ?_
 refine t_op rfl (sp_box (X := .agg (cFm q)) (k := 1) (.tmp 0) rfl rfl) ⟨.inl rfl, trivial⟩ trivial rfl ?_
 refine t_op rfl (sp_box (X := .agg (cSz n t f)) (k := 2) (.tmp 1) rfl rfl) ⟨.inl rfl, trivial⟩ trivial rfl ?_
 refine t_op rfl (sp_assign (.const (.bool false)) (bv false) rfl) ⟨.inl rfl, trivial⟩ trivial trivial ?_
 refine tri_nil ?_
 refine tri_wk (wk_keep [(1, .box 27 (cFm q)), (2, .box 44 (cSz n t f))] [(2, .box 1 0), (3, .box 2 0), (4, bv false)] (n := 63) rfl (by kernel_rfl) (by kernel_rfl)) ?_
 refine t_then ?_
 refine tri_seq ?_
 refine tri_seq ?_
 refine t_cut (True) (ofL [(1, .box 27 (cFm q)), (2, .box 44 (cSz n t f))]) (ofT 63 [(2, .box 1 0), (3, .box 2 0), (4, bv false), (25, bv (radA n t f))]) ?_ (fun _ => ?_)
 by_cases hs1 : (inB 1 1048576 n) = true
 by_cases hs2 : (inB 0 n t) = true
 by_cases hs3 : (inB 0 n f) = true
 refine tri_region ?_
 refine t_op rfl (sp_fieldBox (off' := 0) (.tmp 3) rfl Tryd.underlying44 rfl (z := 1) (by kernel_rfl) (by decide) rfl) ⟨.inl rfl, trivial⟩ trivial trivial ?_
 refine t_op rfl (sp_loadBox1 (Y := .box 44 (cSz n t f)) (X := iv n) (.tmp 6) rfl Tryd.underlying3 rfl rfl) ⟨.inl rfl, trivial⟩ ⟨rfl, trivial⟩ trivial ?_
 refine t_op rfl (sp_call (c := .func 56) (xs := #[.tmp 7, .const (.int .i64 1), .const (.int .i64 1048576)]) [] (ctr_b (within_c n 1 1048576) hs1) rfl (by kernel_rfl) rfl (Xs := [iv n, iv 1, iv 1048576]) rfl rfl rfl) ⟨.inl rfl, .inl rfl, .inl rfl, .inl rfl, trivial⟩ trivial trivial ?_
 refine t_op rfl (sp_not rfl rfl) ⟨.inl rfl, trivial⟩ trivial trivial ?_
 refine t_op rfl (sp_move (.tmp 9) (bv false) rfl) ⟨.inl rfl, trivial⟩ trivial trivial ?_
 refine t_opG rfl (sp_fieldBox (off' := 1) (.tmp 3) rfl Tryd.underlying44 rfl (z := 1) (by kernel_rfl) (by decide) rfl) ⟨.inl rfl, trivial⟩ trivial trivial ?_
 refine t_opG rfl (sp_loadBox1 (Y := .box 44 (cSz n t f)) (X := iv t) (.tmp 11) rfl Tryd.underlying3 rfl rfl) ⟨.inl rfl, trivial⟩ ⟨rfl, trivial⟩ trivial ?_
 refine t_opG rfl (sp_fieldBox (off' := 0) (.tmp 3) rfl Tryd.underlying44 rfl (z := 1) (by kernel_rfl) (by decide) rfl) ⟨.inl rfl, trivial⟩ trivial trivial ?_
 refine t_opG rfl (sp_loadBox1 (Y := .box 44 (cSz n t f)) (X := iv n) (.tmp 13) rfl Tryd.underlying3 rfl rfl) ⟨.inl rfl, trivial⟩ ⟨rfl, trivial⟩ trivial ?_
 refine t_opG rfl (sp_call (c := .func 56) (xs := #[.tmp 12, .const (.int .i64 0), .tmp 14]) [] (ctr_b (within_c t 0 n) hs2) rfl (by kernel_rfl) rfl (Xs := [iv t, iv 0, iv n]) rfl rfl rfl) ⟨.inl rfl, .inl rfl, .inl rfl, .inl rfl, trivial⟩ trivial trivial ?_
 refine t_opG rfl (sp_not rfl rfl) ⟨.inl rfl, trivial⟩ trivial trivial ?_
 refine t_op rfl (sp_pick (.tmp 10) (.const (.bool true)) (.tmp 16) false (bv true) (bv false) rfl) ⟨.inl rfl, .inl rfl, .inl rfl, trivial⟩ trivial trivial ?_
 refine t_op rfl (sp_move (.tmp 17) (bv false) rfl) ⟨.inl rfl, trivial⟩ trivial trivial ?_
 refine t_opG rfl (sp_fieldBox (off' := 2) (.tmp 3) rfl Tryd.underlying44 rfl (z := 1) (by kernel_rfl) (by decide) rfl) ⟨.inl rfl, trivial⟩ trivial trivial ?_
 refine t_opG rfl (sp_loadBox1 (Y := .box 44 (cSz n t f)) (X := iv f) (.tmp 19) rfl Tryd.underlying3 rfl rfl) ⟨.inl rfl, trivial⟩ ⟨rfl, trivial⟩ trivial ?_
 refine t_opG rfl (sp_fieldBox (off' := 0) (.tmp 3) rfl Tryd.underlying44 rfl (z := 1) (by kernel_rfl) (by decide) rfl) ⟨.inl rfl, trivial⟩ trivial trivial ?_
 refine t_opG rfl (sp_loadBox1 (Y := .box 44 (cSz n t f)) (X := iv n) (.tmp 21) rfl Tryd.underlying3 rfl rfl) ⟨.inl rfl, trivial⟩ ⟨rfl, trivial⟩ trivial ?_
 refine t_opG rfl (sp_call (c := .func 56) (xs := #[.tmp 20, .const (.int .i64 0), .tmp 22]) [] (ctr_b (within_c f 0 n) hs3) rfl (by kernel_rfl) rfl (Xs := [iv f, iv 0, iv n]) rfl rfl rfl) ⟨.inl rfl, .inl rfl, .inl rfl, .inl rfl, trivial⟩ trivial trivial ?_
 refine t_opG rfl (sp_not rfl rfl) ⟨.inl rfl, trivial⟩ trivial trivial ?_
 refine t_op rfl (sp_pick (.tmp 18) (.const (.bool true)) (.tmp 24) false (bv true) (bv false) rfl) ⟨.inl rfl, .inl rfl, .inl rfl, trivial⟩ trivial trivial ?_
 refine tri_nil ?_
 refine tri_wk (wk_keep [(1, .box 27 (cFm q)), (2, .box 44 (cSz n t f))] [(2, .box 1 0), (3, .box 2 0), (4, bv false), (25, bv false)] (n := 63) rfl (by kernel_rfl) (by kernel_rfl)) ?_
 rw [show (radA n t f) = false by simp only [radA, Bool.or_true, Bool.true_or, Bool.or_false, Bool.false_or, Bool.and_true, Bool.true_and, Bool.and_false, Bool.false_and, Bool.not_true, Bool.not_false, hs1, hs2, hs3]]
 exact t_meet trivial (wk_keep _ _ rfl (by kernel_rfl) (by kernel_rfl))
 have hs3f : (inB 0 n f) = false := by simpa using hs3
 refine tri_region ?_
 refine t_op rfl (sp_fieldBox (off' := 0) (.tmp 3) rfl Tryd.underlying44 rfl (z := 1) (by kernel_rfl) (by decide) rfl) ⟨.inl rfl, trivial⟩ trivial trivial ?_
 refine t_op rfl (sp_loadBox1 (Y := .box 44 (cSz n t f)) (X := iv n) (.tmp 6) rfl Tryd.underlying3 rfl rfl) ⟨.inl rfl, trivial⟩ ⟨rfl, trivial⟩ trivial ?_
 refine t_op rfl (sp_call (c := .func 56) (xs := #[.tmp 7, .const (.int .i64 1), .const (.int .i64 1048576)]) [] (ctr_b (within_c n 1 1048576) hs1) rfl (by kernel_rfl) rfl (Xs := [iv n, iv 1, iv 1048576]) rfl rfl rfl) ⟨.inl rfl, .inl rfl, .inl rfl, .inl rfl, trivial⟩ trivial trivial ?_
 refine t_op rfl (sp_not rfl rfl) ⟨.inl rfl, trivial⟩ trivial trivial ?_
 refine t_op rfl (sp_move (.tmp 9) (bv false) rfl) ⟨.inl rfl, trivial⟩ trivial trivial ?_
 refine t_opG rfl (sp_fieldBox (off' := 1) (.tmp 3) rfl Tryd.underlying44 rfl (z := 1) (by kernel_rfl) (by decide) rfl) ⟨.inl rfl, trivial⟩ trivial trivial ?_
 refine t_opG rfl (sp_loadBox1 (Y := .box 44 (cSz n t f)) (X := iv t) (.tmp 11) rfl Tryd.underlying3 rfl rfl) ⟨.inl rfl, trivial⟩ ⟨rfl, trivial⟩ trivial ?_
 refine t_opG rfl (sp_fieldBox (off' := 0) (.tmp 3) rfl Tryd.underlying44 rfl (z := 1) (by kernel_rfl) (by decide) rfl) ⟨.inl rfl, trivial⟩ trivial trivial ?_
 refine t_opG rfl (sp_loadBox1 (Y := .box 44 (cSz n t f)) (X := iv n) (.tmp 13) rfl Tryd.underlying3 rfl rfl) ⟨.inl rfl, trivial⟩ ⟨rfl, trivial⟩ trivial ?_
 refine t_opG rfl (sp_call (c := .func 56) (xs := #[.tmp 12, .const (.int .i64 0), .tmp 14]) [] (ctr_b (within_c t 0 n) hs2) rfl (by kernel_rfl) rfl (Xs := [iv t, iv 0, iv n]) rfl rfl rfl) ⟨.inl rfl, .inl rfl, .inl rfl, .inl rfl, trivial⟩ trivial trivial ?_
 refine t_opG rfl (sp_not rfl rfl) ⟨.inl rfl, trivial⟩ trivial trivial ?_
 refine t_op rfl (sp_pick (.tmp 10) (.const (.bool true)) (.tmp 16) false (bv true) (bv false) rfl) ⟨.inl rfl, .inl rfl, .inl rfl, trivial⟩ trivial trivial ?_
 refine t_op rfl (sp_move (.tmp 17) (bv false) rfl) ⟨.inl rfl, trivial⟩ trivial trivial ?_
 refine t_opG rfl (sp_fieldBox (off' := 2) (.tmp 3) rfl Tryd.underlying44 rfl (z := 1) (by kernel_rfl) (by decide) rfl) ⟨.inl rfl, trivial⟩ trivial trivial ?_
 refine t_opG rfl (sp_loadBox1 (Y := .box 44 (cSz n t f)) (X := iv f) (.tmp 19) rfl Tryd.underlying3 rfl rfl) ⟨.inl rfl, trivial⟩ ⟨rfl, trivial⟩ trivial ?_
 refine t_opG rfl (sp_fieldBox (off' := 0) (.tmp 3) rfl Tryd.underlying44 rfl (z := 1) (by kernel_rfl) (by decide) rfl) ⟨.inl rfl, trivial⟩ trivial trivial ?_
 refine t_opG rfl (sp_loadBox1 (Y := .box 44 (cSz n t f)) (X := iv n) (.tmp 21) rfl Tryd.underlying3 rfl rfl) ⟨.inl rfl, trivial⟩ ⟨rfl, trivial⟩ trivial ?_
 refine t_opG rfl (sp_call (c := .func 56) (xs := #[.tmp 20, .const (.int .i64 0), .tmp 22]) [] (ctr_b (within_c f 0 n) hs3f) rfl (by kernel_rfl) rfl (Xs := [iv f, iv 0, iv n]) rfl rfl rfl) ⟨.inl rfl, .inl rfl, .inl rfl, .inl rfl, trivial⟩ trivial trivial ?_
 refine t_opG rfl (sp_not rfl rfl) ⟨.inl rfl, trivial⟩ trivial trivial ?_
 refine t_op rfl (sp_pick (.tmp 18) (.const (.bool true)) (.tmp 24) false (bv true) (bv true) rfl) ⟨.inl rfl, .inl rfl, .inl rfl, trivial⟩ trivial trivial ?_
 refine tri_nil ?_
 refine tri_wk (wk_keep [(1, .box 27 (cFm q)), (2, .box 44 (cSz n t f))] [(2, .box 1 0), (3, .box 2 0), (4, bv false), (25, bv true)] (n := 63) rfl (by kernel_rfl) (by kernel_rfl)) ?_
 rw [show (radA n t f) = true by simp only [radA, Bool.or_true, Bool.true_or, Bool.or_false, Bool.false_or, Bool.and_true, Bool.true_and, Bool.and_false, Bool.false_and, Bool.not_true, Bool.not_false, hs1, hs2, hs3f]]
 exact t_meet trivial (wk_keep _ _ rfl (by kernel_rfl) (by kernel_rfl))
 have hs2f : (inB 0 n t) = false := by simpa using hs2
 refine tri_region ?_
 refine t_op rfl (sp_fieldBox (off' := 0) (.tmp 3) rfl Tryd.underlying44 rfl (z := 1) (by kernel_rfl) (by decide) rfl) ⟨.inl rfl, trivial⟩ trivial trivial ?_
 refine t_op rfl (sp_loadBox1 (Y := .box 44 (cSz n t f)) (X := iv n) (.tmp 6) rfl Tryd.underlying3 rfl rfl) ⟨.inl rfl, trivial⟩ ⟨rfl, trivial⟩ trivial ?_
 refine t_op rfl (sp_call (c := .func 56) (xs := #[.tmp 7, .const (.int .i64 1), .const (.int .i64 1048576)]) [] (ctr_b (within_c n 1 1048576) hs1) rfl (by kernel_rfl) rfl (Xs := [iv n, iv 1, iv 1048576]) rfl rfl rfl) ⟨.inl rfl, .inl rfl, .inl rfl, .inl rfl, trivial⟩ trivial trivial ?_
 refine t_op rfl (sp_not rfl rfl) ⟨.inl rfl, trivial⟩ trivial trivial ?_
 refine t_op rfl (sp_move (.tmp 9) (bv false) rfl) ⟨.inl rfl, trivial⟩ trivial trivial ?_
 refine t_opG rfl (sp_fieldBox (off' := 1) (.tmp 3) rfl Tryd.underlying44 rfl (z := 1) (by kernel_rfl) (by decide) rfl) ⟨.inl rfl, trivial⟩ trivial trivial ?_
 refine t_opG rfl (sp_loadBox1 (Y := .box 44 (cSz n t f)) (X := iv t) (.tmp 11) rfl Tryd.underlying3 rfl rfl) ⟨.inl rfl, trivial⟩ ⟨rfl, trivial⟩ trivial ?_
 refine t_opG rfl (sp_fieldBox (off' := 0) (.tmp 3) rfl Tryd.underlying44 rfl (z := 1) (by kernel_rfl) (by decide) rfl) ⟨.inl rfl, trivial⟩ trivial trivial ?_
 refine t_opG rfl (sp_loadBox1 (Y := .box 44 (cSz n t f)) (X := iv n) (.tmp 13) rfl Tryd.underlying3 rfl rfl) ⟨.inl rfl, trivial⟩ ⟨rfl, trivial⟩ trivial ?_
 refine t_opG rfl (sp_call (c := .func 56) (xs := #[.tmp 12, .const (.int .i64 0), .tmp 14]) [] (ctr_b (within_c t 0 n) hs2f) rfl (by kernel_rfl) rfl (Xs := [iv t, iv 0, iv n]) rfl rfl rfl) ⟨.inl rfl, .inl rfl, .inl rfl, .inl rfl, trivial⟩ trivial trivial ?_
 refine t_opG rfl (sp_not rfl rfl) ⟨.inl rfl, trivial⟩ trivial trivial ?_
 refine t_op rfl (sp_pick (.tmp 10) (.const (.bool true)) (.tmp 16) false (bv true) (bv true) rfl) ⟨.inl rfl, .inl rfl, .inl rfl, trivial⟩ trivial trivial ?_
 refine t_op rfl (sp_move (.tmp 17) (bv true) rfl) ⟨.inl rfl, trivial⟩ trivial trivial ?_
 refine t_skip rfl ?_
 refine t_skip rfl ?_
 refine t_skip rfl ?_
 refine t_skip rfl ?_
 refine t_skip rfl ?_
 refine t_skip rfl ?_
 refine t_op rfl (sp_pick (.tmp 18) (.const (.bool true)) (.tmp 24) true (bv true) (.v (.tuple #[])) rfl) ⟨.inl rfl, .inl rfl, .inl rfl, trivial⟩ trivial trivial ?_
 refine tri_nil ?_
 refine tri_wk (wk_keep [(1, .box 27 (cFm q)), (2, .box 44 (cSz n t f))] [(2, .box 1 0), (3, .box 2 0), (4, bv false), (25, bv true)] (n := 63) rfl (by kernel_rfl) (by kernel_rfl)) ?_
 rw [show (radA n t f) = true by simp only [radA, Bool.or_true, Bool.true_or, Bool.or_false, Bool.false_or, Bool.and_true, Bool.true_and, Bool.and_false, Bool.false_and, Bool.not_true, Bool.not_false, hs1, hs2f]]
 exact t_meet trivial (wk_keep _ _ rfl (by kernel_rfl) (by kernel_rfl))
 have hs1f : (inB 1 1048576 n) = false := by simpa using hs1
 refine tri_region ?_
 refine t_op rfl (sp_fieldBox (off' := 0) (.tmp 3) rfl Tryd.underlying44 rfl (z := 1) (by kernel_rfl) (by decide) rfl) ⟨.inl rfl, trivial⟩ trivial trivial ?_
 refine t_op rfl (sp_loadBox1 (Y := .box 44 (cSz n t f)) (X := iv n) (.tmp 6) rfl Tryd.underlying3 rfl rfl) ⟨.inl rfl, trivial⟩ ⟨rfl, trivial⟩ trivial ?_
 refine t_op rfl (sp_call (c := .func 56) (xs := #[.tmp 7, .const (.int .i64 1), .const (.int .i64 1048576)]) [] (ctr_b (within_c n 1 1048576) hs1f) rfl (by kernel_rfl) rfl (Xs := [iv n, iv 1, iv 1048576]) rfl rfl rfl) ⟨.inl rfl, .inl rfl, .inl rfl, .inl rfl, trivial⟩ trivial trivial ?_
 refine t_op rfl (sp_not rfl rfl) ⟨.inl rfl, trivial⟩ trivial trivial ?_
 refine t_op rfl (sp_move (.tmp 9) (bv true) rfl) ⟨.inl rfl, trivial⟩ trivial trivial ?_
 refine t_skip rfl ?_
 refine t_skip rfl ?_
 refine t_skip rfl ?_
 refine t_skip rfl ?_
 refine t_skip rfl ?_
 refine t_skip rfl ?_
 refine t_op rfl (sp_pick (.tmp 10) (.const (.bool true)) (.tmp 16) true (bv true) (.v (.tuple #[])) rfl) ⟨.inl rfl, .inl rfl, .inl rfl, trivial⟩ trivial trivial ?_
 refine t_op rfl (sp_move (.tmp 17) (bv true) rfl) ⟨.inl rfl, trivial⟩ trivial trivial ?_
 refine t_skip rfl ?_
 refine t_skip rfl ?_
 refine t_skip rfl ?_
 refine t_skip rfl ?_
 refine t_skip rfl ?_
 refine t_skip rfl ?_
 refine t_op rfl (sp_pick (.tmp 18) (.const (.bool true)) (.tmp 24) true (bv true) (.v (.tuple #[])) rfl) ⟨.inl rfl, .inl rfl, .inl rfl, trivial⟩ trivial trivial ?_
 refine tri_nil ?_
 refine tri_wk (wk_keep [(1, .box 27 (cFm q)), (2, .box 44 (cSz n t f))] [(2, .box 1 0), (3, .box 2 0), (4, bv false), (25, bv true)] (n := 63) rfl (by kernel_rfl) (by kernel_rfl)) ?_
 rw [show (radA n t f) = true by simp only [radA, Bool.or_true, Bool.true_or, Bool.or_false, Bool.false_or, Bool.and_true, Bool.true_and, Bool.and_false, Bool.false_and, Bool.not_true, Bool.not_false, hs1f]]
 exact t_meet trivial (wk_keep _ _ rfl (by kernel_rfl) (by kernel_rfl))
 refine t_then ?_
 by_cases hs4 : (radA n t f) = true
 rw [hs4]
 refine tri_wk (wk_keep [(1, .box 27 (cFm q)), (2, .box 44 (cSz n t f))] [(2, .box 1 0), (3, .box 2 0), (4, bv false), (25, bv true)] (n := 63) rfl (by kernel_rfl) (by kernel_rfl)) ?_
 refine t_condT rfl ?_
 refine tri_seq ?_
 refine tri_region ?_
 refine t_op rfl (sp_assign (.const (.bool false)) (bv false) rfl) ⟨.inl rfl, trivial⟩ trivial trivial ?_
 refine tri_nil ?_
 refine tri_wk (wk_keep [(1, .box 27 (cFm q)), (2, .box 44 (cSz n t f))] [(2, .box 1 0), (3, .box 2 0), (4, bv false)] (n := 63) rfl (by kernel_rfl) (by kernel_rfl)) ?_
 refine t_then ?_
 refine tri_ret ?_
 refine t_then_ret ?_
 refine tri_end1 Tryd.results70 (.tmp rfl) ?_
 exact congrArg (fun x : Bool => AV.v (.bool x)) ((adm_a hs4).symm)
 have hs4f : (radA n t f) = false := by simpa using hs4
 rw [hs4f]
 refine tri_wk (wk_keep [(1, .box 27 (cFm q)), (2, .box 44 (cSz n t f))] [(2, .box 1 0), (3, .box 2 0), (4, bv false), (25, bv false)] (n := 63) rfl (by kernel_rfl) (by kernel_rfl)) ?_
 refine t_condF rfl ?_
 refine tri_skip ?_
 refine t_then ?_
 refine tri_seq ?_
 refine tri_seq ?_
 refine tri_region ?_
 refine t_op rfl (sp_assign (.const (.int .i64 0)) (iv 0) rfl) ⟨.inl rfl, trivial⟩ trivial trivial ?_
 refine tri_nil ?_
 refine tri_wk (wk_keep [(1, .box 27 (cFm q)), (2, .box 44 (cSz n t f))] [(2, .box 1 0), (3, .box 2 0), (4, bv false), (5, iv 0)] (n := 63) rfl (by kernel_rfl) (by kernel_rfl)) ?_
 refine t_then ?_
 refine t_cut (resvK q n t f q.res.length = true) (ofL [(1, .box 27 (cFm q)), (2, .box 44 (cSz n t f))]) (ofT 63 [(2, .box 1 0), (3, .box 2 0)]) ?_ (fun RES => ?_)
 refine tri_block ?_
 refine tri_loop (σ := {k : Nat // k ≤ q.res.length ∧ resvK q n t f k = true}) (fun s => (ofL [(1, .box 27 (cFm q)), (2, .box 44 (cSz n t f))], ofT 63 [(2, .box 1 0), (3, .box 2 0), (5, iv s.1)])) (fun s => q.res.length - s.1) ⟨0, Nat.zero_le _, rfl⟩ (wk_keep _ _ rfl (by kernel_rfl) (by kernel_rfl)) (fun s => ?_)
 obtain ⟨k, hk0, hs0⟩ := s
 show ETri J w0 (ofL [(1, .box 27 (cFm q)), (2, .box 44 (cSz n t f))]) (ofT 63 [(2, .box 1 0), (3, .box 2 0), (5, iv k)]) _
 refine tri_seq ?_
 refine tri_seq ?_
 by_cases hs5 : ((k : Nat) : Int) < ((q.res.length : Nat) : Int)
 refine tri_region ?_
 refine t_op rfl (sp_move (.tmp 5) (iv k) rfl) ⟨.inl rfl, trivial⟩ trivial trivial ?_
 refine t_op rfl (sp_fieldBox (off' := 6) (.tmp 2) rfl Tryd.underlying27 rfl (z := 1) (by kernel_rfl) (by decide) rfl) ⟨.inl rfl, trivial⟩ trivial trivial ?_
 refine t_op rfl (sp_loadBox1 (Y := .box 27 (cFm q)) (X := slA 4 cLn q.res) (.tmp 27) rfl Tryd.underlying23 rfl rfl) ⟨.inl rfl, trivial⟩ ⟨rfl, trivial⟩ trivial ?_
 refine t_op rfl (sp_lenSl (.tmp 28) rfl Tryd.underlying23) ⟨.inl rfl, trivial⟩ trivial trivial ?_
 refine t_op rfl (sp_lss rfl (dT hs5)) ⟨.inl rfl, .inl rfl, trivial⟩ trivial trivial ?_
 refine tri_nil ?_
 refine tri_wk (wk_keep [(1, .box 27 (cFm q)), (2, .box 44 (cSz n t f))] [(2, .box 1 0), (3, .box 2 0), (5, iv k), (30, bv true)] (n := 63) rfl (by kernel_rfl) (by kernel_rfl)) ?_
 refine t_then ?_
 refine t_condT rfl ?_
 refine tri_skip ?_
 refine t_then ?_
 refine tri_seq ?_
 refine tri_block ?_
 refine tri_seq ?_
 by_cases hs6 : linV q.res[k].c q.res[k].n q.res[k].t q.res[k].f n t f < 0
 refine tri_draw [⟨[(.tmp 2, .box 1 0)], [], .box 1 6, .no⟩, ⟨[(.tmp 33, .box 1 6)], [(1, .box 27 (cFm q))], slA 4 cLn q.res, .no⟩, ⟨[(.tmp 5, iv k)], [], iv k, .no⟩, ⟨[(.tmp 34, slA 4 cLn q.res), (.tmp 35, iv k)], [], .el (q.res.flatMap cLn) (k * 4), .no⟩, ⟨[(.tmp 36, .el (q.res.flatMap cLn) (k * 4))], [], .agg (cLn q.res[k]), .no⟩, ⟨[(.tmp 3, .box 2 0)], [(2, .box 44 (cSz n t f))], .agg (cSz n t f), .no⟩, ⟨[(.func 106, .v (.func (.func 106) #[] #[])), (.tmp 37, .agg (cLn q.res[k])), (.tmp 38, .agg (cSz n t f))], [], iv (linV q.res[k].c q.res[k].n q.res[k].t q.res[k].f n t f), .no⟩, ⟨[(.tmp 39, iv (linV q.res[k].c q.res[k].n q.res[k].t q.res[k].f n t f)), (.const (.int .i64 0), iv 0)], [], bv true, .no⟩] (by kernel_rfl) (by kernel_rfl) ?_
 refine ⟨app_yes rfl (sp_fieldBox (off' := 6) (.tmp 2) rfl Tryd.underlying27 rfl (z := 1) (by kernel_rfl) (by decide) rfl) ⟨.inl rfl, trivial⟩ trivial trivial, ?_⟩
 refine ⟨app_yes rfl (sp_loadBox1 (Y := .box 27 (cFm q)) (X := slA 4 cLn q.res) (.tmp 33) rfl Tryd.underlying23 rfl rfl) ⟨.inl rfl, trivial⟩ ⟨rfl, trivial⟩ trivial, ?_⟩
 refine ⟨app_yes rfl (sp_move (.tmp 5) (iv k) rfl) ⟨.inl rfl, trivial⟩ trivial trivial, ?_⟩
 refine ⟨app_yes rfl (sp_indexSl (off := k * 4) (.tmp 34) (.tmp 35) rfl Tryd.underlying23 (by kernel_rfl) (by omega) (by omega) rfl) ⟨.inl rfl, .inl rfl, trivial⟩ trivial trivial, ?_⟩
 refine ⟨app_yes rfl (sp_loadElS (z := 4) (.tmp 36) rfl Tryd.underlying53 rfl (by kernel_rfl) (flat_take lenLn q.res k (by omega)) rfl) ⟨.inl rfl, trivial⟩ trivial trivial, ?_⟩
 refine ⟨app_yes rfl (sp_loadBoxS (Y := .box 44 (cSz n t f)) (ds := cSz n t f) (z := 3) (.tmp 3) rfl Tryd.underlying44 rfl (by kernel_rfl) (by decide) (by kernel_rfl) (by kernel_rfl)) ⟨.inl rfl, trivial⟩ ⟨rfl, trivial⟩ trivial, ?_⟩
 refine ⟨app_yes rfl (sp_call (c := .func 106) (xs := #[.tmp 37, .tmp 38]) [] (value_c q.res[k] n t f) rfl (by kernel_rfl) rfl (Xs := [.agg (cLn q.res[k]), .agg (cSz n t f)]) rfl rfl rfl) ⟨.inl rfl, .inl rfl, .inl rfl, trivial⟩ trivial trivial, ?_⟩
 refine ⟨app_yes rfl (sp_lss rfl (dT hs6)) ⟨.inl rfl, .inl rfl, trivial⟩ trivial trivial, ?_⟩
 show ETri J w0 _ _ _
 refine tri_wk (wk_keep [(1, .box 27 (cFm q)), (2, .box 44 (cSz n t f))] [(2, .box 1 0), (3, .box 2 0), (5, iv k), (30, bv true), (40, bv true)] (n := 63) rfl (by kernel_rfl) (by kernel_rfl)) ?_
 refine t_then ?_
 refine t_condT rfl ?_
 refine tri_seq ?_
 refine tri_region ?_
 refine t_op rfl (sp_assign (.const (.bool false)) (bv false) rfl) ⟨.inl rfl, trivial⟩ trivial trivial ?_
 refine tri_nil ?_
 refine tri_wk (wk_keep [(1, .box 27 (cFm q)), (2, .box 44 (cSz n t f))] [(2, .box 1 0), (3, .box 2 0), (4, bv false), (5, iv k), (30, bv true), (40, bv true)] (n := 63) rfl (by kernel_rfl) (by kernel_rfl)) ?_
 refine t_then ?_
 refine tri_ret ?_
 refine t_block_ret ?_
 refine t_then_ret ?_
 refine t_then_ret ?_
 refine t_block_ret ?_
 refine t_cut_ret ?_
 refine t_then_ret ?_
 refine tri_end1 Tryd.results70 (.tmp rfl) ?_
 exact congrArg (fun x : Bool => AV.v (.bool x)) ((adm_r (k := k) (by omega) hs6).symm)
 refine tri_draw [⟨[(.tmp 2, .box 1 0)], [], .box 1 6, .no⟩, ⟨[(.tmp 33, .box 1 6)], [(1, .box 27 (cFm q))], slA 4 cLn q.res, .no⟩, ⟨[(.tmp 5, iv k)], [], iv k, .no⟩, ⟨[(.tmp 34, slA 4 cLn q.res), (.tmp 35, iv k)], [], .el (q.res.flatMap cLn) (k * 4), .no⟩, ⟨[(.tmp 36, .el (q.res.flatMap cLn) (k * 4))], [], .agg (cLn q.res[k]), .no⟩, ⟨[(.tmp 3, .box 2 0)], [(2, .box 44 (cSz n t f))], .agg (cSz n t f), .no⟩, ⟨[(.func 106, .v (.func (.func 106) #[] #[])), (.tmp 37, .agg (cLn q.res[k])), (.tmp 38, .agg (cSz n t f))], [], iv (linV q.res[k].c q.res[k].n q.res[k].t q.res[k].f n t f), .no⟩, ⟨[(.tmp 39, iv (linV q.res[k].c q.res[k].n q.res[k].t q.res[k].f n t f)), (.const (.int .i64 0), iv 0)], [], bv false, .no⟩] (by kernel_rfl) (by kernel_rfl) ?_
 refine ⟨app_yes rfl (sp_fieldBox (off' := 6) (.tmp 2) rfl Tryd.underlying27 rfl (z := 1) (by kernel_rfl) (by decide) rfl) ⟨.inl rfl, trivial⟩ trivial trivial, ?_⟩
 refine ⟨app_yes rfl (sp_loadBox1 (Y := .box 27 (cFm q)) (X := slA 4 cLn q.res) (.tmp 33) rfl Tryd.underlying23 rfl rfl) ⟨.inl rfl, trivial⟩ ⟨rfl, trivial⟩ trivial, ?_⟩
 refine ⟨app_yes rfl (sp_move (.tmp 5) (iv k) rfl) ⟨.inl rfl, trivial⟩ trivial trivial, ?_⟩
 refine ⟨app_yes rfl (sp_indexSl (off := k * 4) (.tmp 34) (.tmp 35) rfl Tryd.underlying23 (by kernel_rfl) (by omega) (by omega) rfl) ⟨.inl rfl, .inl rfl, trivial⟩ trivial trivial, ?_⟩
 refine ⟨app_yes rfl (sp_loadElS (z := 4) (.tmp 36) rfl Tryd.underlying53 rfl (by kernel_rfl) (flat_take lenLn q.res k (by omega)) rfl) ⟨.inl rfl, trivial⟩ trivial trivial, ?_⟩
 refine ⟨app_yes rfl (sp_loadBoxS (Y := .box 44 (cSz n t f)) (ds := cSz n t f) (z := 3) (.tmp 3) rfl Tryd.underlying44 rfl (by kernel_rfl) (by decide) (by kernel_rfl) (by kernel_rfl)) ⟨.inl rfl, trivial⟩ ⟨rfl, trivial⟩ trivial, ?_⟩
 refine ⟨app_yes rfl (sp_call (c := .func 106) (xs := #[.tmp 37, .tmp 38]) [] (value_c q.res[k] n t f) rfl (by kernel_rfl) rfl (Xs := [.agg (cLn q.res[k]), .agg (cSz n t f)]) rfl rfl rfl) ⟨.inl rfl, .inl rfl, .inl rfl, trivial⟩ trivial trivial, ?_⟩
 refine ⟨app_yes rfl (sp_lss rfl (dF hs6)) ⟨.inl rfl, .inl rfl, trivial⟩ trivial trivial, ?_⟩
 show ETri J w0 _ _ _
 refine tri_wk (wk_keep [(1, .box 27 (cFm q)), (2, .box 44 (cSz n t f))] [(2, .box 1 0), (3, .box 2 0), (5, iv k), (30, bv true), (40, bv false)] (n := 63) rfl (by kernel_rfl) (by kernel_rfl)) ?_
 refine t_then ?_
 refine t_condF rfl ?_
 refine tri_skip ?_
 refine t_block ?_
 refine t_then ?_
 refine tri_region ?_
 refine t_op rfl (sp_move (.tmp 5) (iv k) rfl) ⟨.inl rfl, trivial⟩ trivial trivial ?_
 refine t_op rfl (sp_add (c := ((k + 1 : Nat) : Int)) rfl (w64 (by omega) (by omega) (by omega))) ⟨.inl rfl, .inl rfl, trivial⟩ trivial trivial ?_
 refine t_op rfl (sp_assign (.tmp 32) (iv (k + 1 : Nat)) rfl) ⟨.inl rfl, trivial⟩ trivial trivial ?_
 refine tri_nil ?_
 refine tri_wk (wk_keep [(1, .box 27 (cFm q)), (2, .box 44 (cSz n t f))] [(2, .box 1 0), (3, .box 2 0), (5, iv (k + 1 : Nat)), (30, bv true), (40, bv false)] (n := 63) rfl (by kernel_rfl) (by kernel_rfl)) ?_
 refine t_then ?_
 refine tri_again ⟨k + 1, by omega, resvK_succ (by omega) hs0 hs6⟩ (show q.res.length - (k + 1) < q.res.length - k by omega) ?_
 exact wk_keep _ _ rfl (by kernel_rfl) (by kernel_rfl)
 refine tri_region ?_
 refine t_op rfl (sp_move (.tmp 5) (iv k) rfl) ⟨.inl rfl, trivial⟩ trivial trivial ?_
 refine t_op rfl (sp_fieldBox (off' := 6) (.tmp 2) rfl Tryd.underlying27 rfl (z := 1) (by kernel_rfl) (by decide) rfl) ⟨.inl rfl, trivial⟩ trivial trivial ?_
 refine t_op rfl (sp_loadBox1 (Y := .box 27 (cFm q)) (X := slA 4 cLn q.res) (.tmp 27) rfl Tryd.underlying23 rfl rfl) ⟨.inl rfl, trivial⟩ ⟨rfl, trivial⟩ trivial ?_
 refine t_op rfl (sp_lenSl (.tmp 28) rfl Tryd.underlying23) ⟨.inl rfl, trivial⟩ trivial trivial ?_
 refine t_op rfl (sp_lss rfl (dF hs5)) ⟨.inl rfl, .inl rfl, trivial⟩ trivial trivial ?_
 refine tri_nil ?_
 refine tri_wk (wk_keep [(1, .box 27 (cFm q)), (2, .box 44 (cSz n t f))] [(2, .box 1 0), (3, .box 2 0), (5, iv k), (30, bv false)] (n := 63) rfl (by kernel_rfl) (by kernel_rfl)) ?_
 refine t_then ?_
 refine t_condF rfl ?_
 refine tri_exit ?_
 refine t_then_exit ?_
 refine t_then_exit ?_
 refine t_hit ?_
 exact t_meet (by have : k = q.res.length := (by omega); subst this; exact hs0) (wk_keep _ _ rfl (by kernel_rfl) (by kernel_rfl))
 refine t_then ?_
 refine tri_seq ?_
 refine tri_seq ?_
 refine t_cut (True) (ofL [(1, .box 27 (cFm q)), (2, .box 44 (cSz n t f))]) (ofT 63 [(2, .box 1 0), (3, .box 2 0), (53, bv (nofB q t f))]) ?_ (fun _ => ?_)
 by_cases hs7 : q.fault = 0
 by_cases hs8 : t = 0
 by_cases hs9 : f = 0
 refine tri_region ?_
 refine t_op rfl (sp_fieldBox (off' := 5) (.tmp 2) rfl Tryd.underlying27 rfl (z := 1) (by kernel_rfl) (by decide) rfl) ⟨.inl rfl, trivial⟩ trivial trivial ?_
 refine t_op rfl (sp_loadBox1 (Y := .box 27 (cFm q)) (X := iv q.fault) (.tmp 41) rfl Tryd.underlying3 rfl rfl) ⟨.inl rfl, trivial⟩ ⟨rfl, trivial⟩ trivial ?_
 refine t_op rfl (sp_eql rfl (dT hs7)) ⟨.inl rfl, .inl rfl, trivial⟩ trivial trivial ?_
 refine t_op rfl (sp_move (.tmp 43) (bv true) rfl) ⟨.inl rfl, trivial⟩ trivial trivial ?_
 refine t_opG rfl (sp_fieldBox (off' := 1) (.tmp 3) rfl Tryd.underlying44 rfl (z := 1) (by kernel_rfl) (by decide) rfl) ⟨.inl rfl, trivial⟩ trivial trivial ?_
 refine t_opG rfl (sp_loadBox1 (Y := .box 44 (cSz n t f)) (X := iv t) (.tmp 45) rfl Tryd.underlying3 rfl rfl) ⟨.inl rfl, trivial⟩ ⟨rfl, trivial⟩ trivial ?_
 refine t_opG rfl (sp_neq rfl (dT' hs8)) ⟨.inl rfl, .inl rfl, trivial⟩ trivial trivial ?_
 refine t_opG rfl (sp_move (.tmp 47) (bv false) rfl) ⟨.inl rfl, trivial⟩ trivial trivial ?_
 refine t_opG rfl (sp_fieldBox (off' := 2) (.tmp 3) rfl Tryd.underlying44 rfl (z := 1) (by kernel_rfl) (by decide) rfl) ⟨.inl rfl, trivial⟩ trivial trivial ?_
 refine t_opG rfl (sp_loadBox1 (Y := .box 44 (cSz n t f)) (X := iv f) (.tmp 49) rfl Tryd.underlying3 rfl rfl) ⟨.inl rfl, trivial⟩ ⟨rfl, trivial⟩ trivial ?_
 refine t_opG rfl (sp_neq rfl (dT' hs9)) ⟨.inl rfl, .inl rfl, trivial⟩ trivial trivial ?_
 refine t_opG rfl (sp_pick (.tmp 48) (.const (.bool true)) (.tmp 51) false (bv true) (bv false) rfl) ⟨.inl rfl, .inl rfl, .inl rfl, trivial⟩ trivial trivial ?_
 refine t_op rfl (sp_pick (.tmp 44) (.tmp 52) (.const (.bool false)) true (bv false) (bv false) rfl) ⟨.inl rfl, .inl rfl, .inl rfl, trivial⟩ trivial trivial ?_
 refine tri_nil ?_
 refine tri_wk (wk_keep [(1, .box 27 (cFm q)), (2, .box 44 (cSz n t f))] [(2, .box 1 0), (3, .box 2 0), (53, bv false)] (n := 63) rfl (by kernel_rfl) (by kernel_rfl)) ?_
 rw [show (nofB q t f) = false by simp only [nofB, Bool.or_true, Bool.true_or, Bool.or_false, Bool.false_or, Bool.and_true, Bool.true_and, Bool.and_false, Bool.false_and, Bool.not_true, Bool.not_false, hs4f, decide_eq_true hs7, decide_eq_true hs8, decide_eq_true hs9]]
 exact t_meet trivial (wk_keep _ _ rfl (by kernel_rfl) (by kernel_rfl))
 refine tri_region ?_
 refine t_op rfl (sp_fieldBox (off' := 5) (.tmp 2) rfl Tryd.underlying27 rfl (z := 1) (by kernel_rfl) (by decide) rfl) ⟨.inl rfl, trivial⟩ trivial trivial ?_
 refine t_op rfl (sp_loadBox1 (Y := .box 27 (cFm q)) (X := iv q.fault) (.tmp 41) rfl Tryd.underlying3 rfl rfl) ⟨.inl rfl, trivial⟩ ⟨rfl, trivial⟩ trivial ?_
 refine t_op rfl (sp_eql rfl (dT hs7)) ⟨.inl rfl, .inl rfl, trivial⟩ trivial trivial ?_
 refine t_op rfl (sp_move (.tmp 43) (bv true) rfl) ⟨.inl rfl, trivial⟩ trivial trivial ?_
 refine t_opG rfl (sp_fieldBox (off' := 1) (.tmp 3) rfl Tryd.underlying44 rfl (z := 1) (by kernel_rfl) (by decide) rfl) ⟨.inl rfl, trivial⟩ trivial trivial ?_
 refine t_opG rfl (sp_loadBox1 (Y := .box 44 (cSz n t f)) (X := iv t) (.tmp 45) rfl Tryd.underlying3 rfl rfl) ⟨.inl rfl, trivial⟩ ⟨rfl, trivial⟩ trivial ?_
 refine t_opG rfl (sp_neq rfl (dT' hs8)) ⟨.inl rfl, .inl rfl, trivial⟩ trivial trivial ?_
 refine t_opG rfl (sp_move (.tmp 47) (bv false) rfl) ⟨.inl rfl, trivial⟩ trivial trivial ?_
 refine t_opG rfl (sp_fieldBox (off' := 2) (.tmp 3) rfl Tryd.underlying44 rfl (z := 1) (by kernel_rfl) (by decide) rfl) ⟨.inl rfl, trivial⟩ trivial trivial ?_
 refine t_opG rfl (sp_loadBox1 (Y := .box 44 (cSz n t f)) (X := iv f) (.tmp 49) rfl Tryd.underlying3 rfl rfl) ⟨.inl rfl, trivial⟩ ⟨rfl, trivial⟩ trivial ?_
 refine t_opG rfl (sp_neq rfl (dF' hs9)) ⟨.inl rfl, .inl rfl, trivial⟩ trivial trivial ?_
 refine t_opG rfl (sp_pick (.tmp 48) (.const (.bool true)) (.tmp 51) false (bv true) (bv true) rfl) ⟨.inl rfl, .inl rfl, .inl rfl, trivial⟩ trivial trivial ?_
 refine t_op rfl (sp_pick (.tmp 44) (.tmp 52) (.const (.bool false)) true (bv true) (bv false) rfl) ⟨.inl rfl, .inl rfl, .inl rfl, trivial⟩ trivial trivial ?_
 refine tri_nil ?_
 refine tri_wk (wk_keep [(1, .box 27 (cFm q)), (2, .box 44 (cSz n t f))] [(2, .box 1 0), (3, .box 2 0), (53, bv true)] (n := 63) rfl (by kernel_rfl) (by kernel_rfl)) ?_
 rw [show (nofB q t f) = true by simp only [nofB, Bool.or_true, Bool.true_or, Bool.or_false, Bool.false_or, Bool.and_true, Bool.true_and, Bool.and_false, Bool.false_and, Bool.not_true, Bool.not_false, hs4f, decide_eq_true hs7, decide_eq_true hs8, decide_eq_false hs9]]
 exact t_meet trivial (wk_keep _ _ rfl (by kernel_rfl) (by kernel_rfl))
 refine tri_region ?_
 refine t_op rfl (sp_fieldBox (off' := 5) (.tmp 2) rfl Tryd.underlying27 rfl (z := 1) (by kernel_rfl) (by decide) rfl) ⟨.inl rfl, trivial⟩ trivial trivial ?_
 refine t_op rfl (sp_loadBox1 (Y := .box 27 (cFm q)) (X := iv q.fault) (.tmp 41) rfl Tryd.underlying3 rfl rfl) ⟨.inl rfl, trivial⟩ ⟨rfl, trivial⟩ trivial ?_
 refine t_op rfl (sp_eql rfl (dT hs7)) ⟨.inl rfl, .inl rfl, trivial⟩ trivial trivial ?_
 refine t_op rfl (sp_move (.tmp 43) (bv true) rfl) ⟨.inl rfl, trivial⟩ trivial trivial ?_
 refine t_opG rfl (sp_fieldBox (off' := 1) (.tmp 3) rfl Tryd.underlying44 rfl (z := 1) (by kernel_rfl) (by decide) rfl) ⟨.inl rfl, trivial⟩ trivial trivial ?_
 refine t_opG rfl (sp_loadBox1 (Y := .box 44 (cSz n t f)) (X := iv t) (.tmp 45) rfl Tryd.underlying3 rfl rfl) ⟨.inl rfl, trivial⟩ ⟨rfl, trivial⟩ trivial ?_
 refine t_opG rfl (sp_neq rfl (dF' hs8)) ⟨.inl rfl, .inl rfl, trivial⟩ trivial trivial ?_
 refine t_opG rfl (sp_move (.tmp 47) (bv true) rfl) ⟨.inl rfl, trivial⟩ trivial trivial ?_
 refine t_skip rfl ?_
 refine t_skip rfl ?_
 refine t_skip rfl ?_
 refine t_opG rfl (sp_pick (.tmp 48) (.const (.bool true)) (.tmp 51) true (bv true) (.v (.tuple #[])) rfl) ⟨.inl rfl, .inl rfl, .inl rfl, trivial⟩ trivial trivial ?_
 refine t_op rfl (sp_pick (.tmp 44) (.tmp 52) (.const (.bool false)) true (bv true) (bv false) rfl) ⟨.inl rfl, .inl rfl, .inl rfl, trivial⟩ trivial trivial ?_
 refine tri_nil ?_
 refine tri_wk (wk_keep [(1, .box 27 (cFm q)), (2, .box 44 (cSz n t f))] [(2, .box 1 0), (3, .box 2 0), (53, bv true)] (n := 63) rfl (by kernel_rfl) (by kernel_rfl)) ?_
 rw [show (nofB q t f) = true by simp only [nofB, Bool.or_true, Bool.true_or, Bool.or_false, Bool.false_or, Bool.and_true, Bool.true_and, Bool.and_false, Bool.false_and, Bool.not_true, Bool.not_false, hs4f, decide_eq_true hs7, decide_eq_false hs8]]
 exact t_meet trivial (wk_keep _ _ rfl (by kernel_rfl) (by kernel_rfl))
 refine tri_region ?_
 refine t_op rfl (sp_fieldBox (off' := 5) (.tmp 2) rfl Tryd.underlying27 rfl (z := 1) (by kernel_rfl) (by decide) rfl) ⟨.inl rfl, trivial⟩ trivial trivial ?_
 refine t_op rfl (sp_loadBox1 (Y := .box 27 (cFm q)) (X := iv q.fault) (.tmp 41) rfl Tryd.underlying3 rfl rfl) ⟨.inl rfl, trivial⟩ ⟨rfl, trivial⟩ trivial ?_
 refine t_op rfl (sp_eql rfl (dF hs7)) ⟨.inl rfl, .inl rfl, trivial⟩ trivial trivial ?_
 refine t_op rfl (sp_move (.tmp 43) (bv false) rfl) ⟨.inl rfl, trivial⟩ trivial trivial ?_
 refine t_skip rfl ?_
 refine t_skip rfl ?_
 refine t_skip rfl ?_
 refine t_skip rfl ?_
 refine t_skip rfl ?_
 refine t_skip rfl ?_
 refine t_skip rfl ?_
 refine t_skip rfl ?_
 refine t_op rfl (sp_pick (.tmp 44) (.tmp 52) (.const (.bool false)) false (.v (.tuple #[])) (bv false) rfl) ⟨.inl rfl, .inl rfl, .inl rfl, trivial⟩ trivial trivial ?_
 refine tri_nil ?_
 refine tri_wk (wk_keep [(1, .box 27 (cFm q)), (2, .box 44 (cSz n t f))] [(2, .box 1 0), (3, .box 2 0), (53, bv false)] (n := 63) rfl (by kernel_rfl) (by kernel_rfl)) ?_
 rw [show (nofB q t f) = false by simp only [nofB, Bool.or_true, Bool.true_or, Bool.or_false, Bool.false_or, Bool.and_true, Bool.true_and, Bool.and_false, Bool.false_and, Bool.not_true, Bool.not_false, hs4f, decide_eq_false hs7]]
 exact t_meet trivial (wk_keep _ _ rfl (by kernel_rfl) (by kernel_rfl))
 refine t_then ?_
 by_cases hs10 : (nofB q t f) = true
 rw [hs10]
 refine tri_wk (wk_keep [(1, .box 27 (cFm q)), (2, .box 44 (cSz n t f))] [(2, .box 1 0), (3, .box 2 0), (53, bv true)] (n := 63) rfl (by kernel_rfl) (by kernel_rfl)) ?_
 refine t_condT rfl ?_
 refine tri_seq ?_
 refine tri_region ?_
 refine t_op rfl (sp_assign (.const (.bool false)) (bv false) rfl) ⟨.inl rfl, trivial⟩ trivial trivial ?_
 refine tri_nil ?_
 refine tri_wk (wk_keep [(1, .box 27 (cFm q)), (2, .box 44 (cSz n t f))] [(2, .box 1 0), (3, .box 2 0), (4, bv false)] (n := 63) rfl (by kernel_rfl) (by kernel_rfl)) ?_
 refine t_then ?_
 refine tri_ret ?_
 refine t_then_ret ?_
 refine tri_end1 Tryd.results70 (.tmp rfl) ?_
 exact congrArg (fun x : Bool => AV.v (.bool x)) ((adm_f hs10).symm)
 have hs10f : (nofB q t f) = false := by simpa using hs10
 rw [hs10f]
 refine tri_wk (wk_keep [(1, .box 27 (cFm q)), (2, .box 44 (cSz n t f))] [(2, .box 1 0), (3, .box 2 0), (53, bv false)] (n := 63) rfl (by kernel_rfl) (by kernel_rfl)) ?_
 refine t_condF rfl ?_
 refine tri_skip ?_
 refine t_then ?_
 refine tri_seq ?_
 by_cases hs11 : q.top = 4
 refine tri_region ?_
 refine t_op rfl (sp_fieldBox (off' := 1) (.tmp 2) rfl Tryd.underlying27 rfl (z := 1) (by kernel_rfl) (by decide) rfl) ⟨.inl rfl, trivial⟩ trivial trivial ?_
 refine t_op rfl (sp_loadBox1 (Y := .box 27 (cFm q)) (X := iv q.top) (.tmp 54) rfl Tryd.underlying3 rfl rfl) ⟨.inl rfl, trivial⟩ ⟨rfl, trivial⟩ trivial ?_
 refine t_op rfl (sp_neq rfl (dT' hs11)) ⟨.inl rfl, .inl rfl, trivial⟩ trivial trivial ?_
 refine t_op rfl (sp_move (.tmp 56) (bv false) rfl) ⟨.inl rfl, trivial⟩ trivial trivial ?_
 refine t_opG rfl (sp_fieldBox (off' := 0) (.tmp 3) rfl Tryd.underlying44 rfl (z := 1) (by kernel_rfl) (by decide) rfl) ⟨.inl rfl, trivial⟩ trivial trivial ?_
 refine t_opG rfl (sp_loadBox1 (Y := .box 44 (cSz n t f)) (X := iv n) (.tmp 58) rfl Tryd.underlying3 rfl rfl) ⟨.inl rfl, trivial⟩ ⟨rfl, trivial⟩ trivial ?_
 refine t_opG rfl (sp_rem rfl (by omega) (c := n.tmod 2) rfl) ⟨.inl rfl, .inl rfl, trivial⟩ trivial trivial ?_
 refine t_opG rfl (sp_eql rfl rfl) ⟨.inl rfl, .inl rfl, trivial⟩ trivial trivial ?_
 refine t_op rfl (sp_pick (.tmp 57) (.const (.bool true)) (.tmp 61) false (bv true) (bv (decide (n.tmod 2 = 1))) rfl) ⟨.inl rfl, .inl rfl, .inl rfl, trivial⟩ trivial trivial ?_
 refine t_op rfl (sp_assign (.tmp 62) (bv (decide (n.tmod 2 = 1))) rfl) ⟨.inl rfl, trivial⟩ trivial trivial ?_
 refine tri_nil ?_
 refine tri_wk (wk_keep [] [(4, bv (decide (n.tmod 2 = 1)))] (n := 63) rfl (by kernel_rfl) (by kernel_rfl)) ?_
 refine t_then ?_
 refine tri_ret ?_
 refine tri_end1 Tryd.results70 (.tmp rfl) ?_
 exact congrArg (fun x : Bool => AV.v (.bool x)) ((adm_1 hs4f RES hs10f hs11).symm)
 refine tri_region ?_
 refine t_op rfl (sp_fieldBox (off' := 1) (.tmp 2) rfl Tryd.underlying27 rfl (z := 1) (by kernel_rfl) (by decide) rfl) ⟨.inl rfl, trivial⟩ trivial trivial ?_
 refine t_op rfl (sp_loadBox1 (Y := .box 27 (cFm q)) (X := iv q.top) (.tmp 54) rfl Tryd.underlying3 rfl rfl) ⟨.inl rfl, trivial⟩ ⟨rfl, trivial⟩ trivial ?_
 refine t_op rfl (sp_neq rfl (dF' hs11)) ⟨.inl rfl, .inl rfl, trivial⟩ trivial trivial ?_
 refine t_op rfl (sp_move (.tmp 56) (bv true) rfl) ⟨.inl rfl, trivial⟩ trivial trivial ?_
 refine t_skip rfl ?_
 refine t_skip rfl ?_
 refine t_skip rfl ?_
 refine t_skip rfl ?_
 refine t_op rfl (sp_pick (.tmp 57) (.const (.bool true)) (.tmp 61) true (bv true) (.v (.tuple #[])) rfl) ⟨.inl rfl, .inl rfl, .inl rfl, trivial⟩ trivial trivial ?_
 refine t_op rfl (sp_assign (.tmp 62) (bv true) rfl) ⟨.inl rfl, trivial⟩ trivial trivial ?_
 refine tri_nil ?_
 refine tri_wk (wk_keep [] [(4, bv true)] (n := 63) rfl (by kernel_rfl) (by kernel_rfl)) ?_
 refine t_then ?_
 refine tri_ret ?_
 refine tri_end1 Tryd.results70 (.tmp rfl) ?_
 exact congrArg (fun x : Bool => AV.v (.bool x)) ((adm_0 hs4f RES hs10f hs11).symm)
set_option linter.unusedSimpArgs false in
set_option linter.unusedVariables false in
set_option maxRecDepth 100000 in
set_option maxHeartbeats 6400000 in
theorem rAdmissible_c {q : Fm} (HQ : FmOk q) (n t f : Int) : Ctr Tryd.prog J 22 [.agg (cFm q), .agg (cSz n t f)] (bv (decide (valE q = 0) && admB q n t f)) := by
 refine ctr_of_tri Tryd.func22 rfl (by intro X hX; simp only [List.mem_cons, List.not_mem_nil, or_false] at hX; rcases hX with rfl | rfl; exact plain_agg (plain_fm q); exact plain_agg (plain_sz n t f)) (n := 13) rfl (by simp) (fun w0 => ?_)
 refine tri_wk (wk_keep [] [(0, .agg (cFm q)), (1, .agg (cSz n t f))] (n := 13) rfl (by kernel_rfl) (by kernel_rfl)) ?_
 refine tri_seq ?_
 refine tri_region ?_
 refine t_op rfl (sp_box (X := .agg (cFm q)) (k := 1) (.tmp 0) rfl rfl) ⟨.inl rfl, trivial⟩ trivial rfl ?_
 refine t_op rfl (sp_box (X := .agg (cSz n t f)) (k := 2) (.tmp 1) rfl rfl) ⟨.inl rfl, trivial⟩ trivial rfl ?_
 refine t_op rfl (sp_assign (.const (.bool false)) (bv false) rfl) ⟨.inl rfl, trivial⟩ trivial trivial ?_
 refine tri_nil ?_
 refine tri_wk (wk_keep [(1, .box 27 (cFm q)), (2, .box 44 (cSz n t f))] [(2, .box 1 0), (3, .box 2 0), (4, bv false)] (n := 13) rfl (by kernel_rfl) (by kernel_rfl)) ?_
 refine t_then ?_
 refine tri_seq ?_
 by_cases hs1 : valE q = 0
 refine tri_region ?_
 refine t_op rfl (sp_loadBoxS (Y := .box 27 (cFm q)) (ds := cFm q) (z := 10) (.tmp 2) rfl Tryd.underlying27 rfl (by kernel_rfl) (by decide) (by kernel_rfl) (by kernel_rfl)) ⟨.inl rfl, trivial⟩ ⟨rfl, trivial⟩ trivial ?_
 refine t_op rfl (sp_call (c := .func 17) (xs := #[.tmp 5]) [] (rValidate_c HQ) rfl (by kernel_rfl) rfl (Xs := [.agg (cFm q)]) rfl rfl rfl) ⟨.inl rfl, .inl rfl, trivial⟩ trivial trivial ?_
 refine t_op rfl (sp_eql rfl (dT hs1)) ⟨.inl rfl, .inl rfl, trivial⟩ trivial trivial ?_
 refine t_op rfl (sp_move (.tmp 7) (bv true) rfl) ⟨.inl rfl, trivial⟩ trivial trivial ?_
 refine t_opG rfl (sp_loadBoxS (Y := .box 27 (cFm q)) (ds := cFm q) (z := 10) (.tmp 2) rfl Tryd.underlying27 rfl (by kernel_rfl) (by decide) (by kernel_rfl) (by kernel_rfl)) ⟨.inl rfl, trivial⟩ ⟨rfl, trivial⟩ trivial ?_
 refine t_opG rfl (sp_loadBoxS (Y := .box 44 (cSz n t f)) (ds := cSz n t f) (z := 3) (.tmp 3) rfl Tryd.underlying44 rfl (by kernel_rfl) (by decide) (by kernel_rfl) (by kernel_rfl)) ⟨.inl rfl, trivial⟩ ⟨rfl, trivial⟩ trivial ?_
 refine t_opG rfl (sp_call (c := .func 70) (xs := #[.tmp 9, .tmp 10]) [] (radmissible_c HQ n t f) rfl (by kernel_rfl) rfl (Xs := [.agg (cFm q), .agg (cSz n t f)]) rfl rfl rfl) ⟨.inl rfl, .inl rfl, .inl rfl, trivial⟩ trivial trivial ?_
 refine t_op rfl (sp_pick (.tmp 8) (.tmp 11) (.const (.bool false)) true (bv (admB q n t f)) (bv false) rfl) ⟨.inl rfl, .inl rfl, .inl rfl, trivial⟩ trivial trivial ?_
 refine t_op rfl (sp_assign (.tmp 12) (bv (admB q n t f)) rfl) ⟨.inl rfl, trivial⟩ trivial trivial ?_
 refine tri_nil ?_
 refine tri_wk (wk_keep [] [(4, bv (admB q n t f))] (n := 13) rfl (by kernel_rfl) (by kernel_rfl)) ?_
 refine t_then ?_
 refine tri_ret ?_
 refine tri_end1 Tryd.results22 (.tmp rfl) ?_
 exact congrArg (fun x : Bool => AV.v (.bool x)) (show admB q n t f = (decide (valE q = 0) && admB q n t f) by rw [decide_eq_true hs1, Bool.true_and])
 refine tri_region ?_
 refine t_op rfl (sp_loadBoxS (Y := .box 27 (cFm q)) (ds := cFm q) (z := 10) (.tmp 2) rfl Tryd.underlying27 rfl (by kernel_rfl) (by decide) (by kernel_rfl) (by kernel_rfl)) ⟨.inl rfl, trivial⟩ ⟨rfl, trivial⟩ trivial ?_
 refine t_op rfl (sp_call (c := .func 17) (xs := #[.tmp 5]) [] (rValidate_c HQ) rfl (by kernel_rfl) rfl (Xs := [.agg (cFm q)]) rfl rfl rfl) ⟨.inl rfl, .inl rfl, trivial⟩ trivial trivial ?_
 refine t_op rfl (sp_eql rfl (dF hs1)) ⟨.inl rfl, .inl rfl, trivial⟩ trivial trivial ?_
 refine t_op rfl (sp_move (.tmp 7) (bv false) rfl) ⟨.inl rfl, trivial⟩ trivial trivial ?_
 refine t_skip rfl ?_
 refine t_skip rfl ?_
 refine t_skip rfl ?_
 refine t_op rfl (sp_pick (.tmp 8) (.tmp 11) (.const (.bool false)) false (.v (.tuple #[])) (bv false) rfl) ⟨.inl rfl, .inl rfl, .inl rfl, trivial⟩ trivial trivial ?_
 refine t_op rfl (sp_assign (.tmp 12) (bv false) rfl) ⟨.inl rfl, trivial⟩ trivial trivial ?_
 refine tri_nil ?_
 refine tri_wk (wk_keep [] [(4, bv false)] (n := 13) rfl (by kernel_rfl) (by kernel_rfl)) ?_
 refine t_then ?_
 refine tri_ret ?_
 refine tri_end1 Tryd.results22 (.tmp rfl) ?_
 exact congrArg (fun x : Bool => AV.v (.bool x)) (show false = (decide (valE q = 0) && admB q n t f) by rw [decide_eq_false hs1, Bool.false_and])
set_option linter.unusedSimpArgs false in
set_option linter.unusedVariables false in
set_option maxRecDepth 100000 in
set_option maxHeartbeats 6400000 in
theorem lawAdmits_c {q : Fm} (HQ : FmOk q) (n t f : Int) : Ctr Tryd.prog TabW 6 [.agg (cFm q), .agg (cSz n t f)] (bv true) := by
 refine ctr_of_tri Tryd.func6 rfl (by intro X hX; simp only [List.mem_cons, List.not_mem_nil, or_false] at hX; rcases hX with rfl | rfl; exact plain_agg (plain_fm q); exact plain_agg (plain_sz n t f)) (n := 18) rfl (by simp) (fun w0 => ?_)
 refine tri_wk (wk_keep [] [(0, .agg (cFm q)), (1, .agg (cSz n t f))] (n := 18) rfl (by kernel_rfl) (by kernel_rfl)) ?_
 refine tri_seq ?_
 refine tri_region ?_
 refine t_op rfl (sp_box (X := .agg (cFm q)) (k := 1) (.tmp 0) rfl rfl) ⟨.inl rfl, trivial⟩ trivial rfl ?_
 refine t_op rfl (sp_box (X := .agg (cSz n t f)) (k := 2) (.tmp 1) rfl rfl) ⟨.inl rfl, trivial⟩ trivial rfl ?_
 refine t_op rfl (sp_assign (.const (.bool false)) (bv false) rfl) ⟨.inl rfl, trivial⟩ trivial trivial ?_
 refine tri_nil ?_
 refine tri_wk (wk_keep [(1, .box 27 (cFm q)), (2, .box 44 (cSz n t f))] [(2, .box 1 0), (3, .box 2 0), (4, bv false)] (n := 18) rfl (by kernel_rfl) (by kernel_rfl)) ?_
 refine t_then ?_
 refine tri_seq ?_
 refine tri_seq ?_
 by_cases hs1 : (bigF q) = true
 refine tri_region ?_
 refine t_op rfl (sp_loadBoxS (Y := .box 27 (cFm q)) (ds := cFm q) (z := 10) (.tmp 2) rfl Tryd.underlying27 rfl (by kernel_rfl) (by decide) (by kernel_rfl) (by kernel_rfl)) ⟨.inl rfl, trivial⟩ ⟨rfl, trivial⟩ trivial ?_
 refine t_op rfl (sp_call (c := .func 13) (xs := #[.tmp 5]) [] (ctr_b (Big_c HQ) hs1) rfl (by kernel_rfl) rfl (Xs := [.agg (cFm q)]) rfl rfl rfl) ⟨.inl rfl, .inl rfl, trivial⟩ trivial trivial ?_
 refine tri_nil ?_
 refine tri_wk (wk_keep [(1, .box 27 (cFm q)), (2, .box 44 (cSz n t f))] [(2, .box 1 0), (3, .box 2 0), (4, bv false), (6, bv true)] (n := 18) rfl (by kernel_rfl) (by kernel_rfl)) ?_
 refine t_then ?_
 refine t_condT rfl ?_
 refine tri_seq ?_
 refine tri_region ?_
 refine t_op rfl (sp_call (c := .func 14) (xs := #[]) [] known_c rfl (by kernel_rfl) rfl (Xs := []) rfl rfl rfl) ⟨.inl rfl, trivial⟩ trivial trivial ?_
 refine t_op rfl (sp_assign (.tmp 7) (bv true) rfl) ⟨.inl rfl, trivial⟩ trivial trivial ?_
 refine tri_nil ?_
 refine tri_wk (wk_keep [(1, .box 27 (cFm q)), (2, .box 44 (cSz n t f))] [(2, .box 1 0), (3, .box 2 0), (4, bv true)] (n := 18) rfl (by kernel_rfl) (by kernel_rfl)) ?_
 refine t_then ?_
 refine tri_ret ?_
 refine t_then_ret ?_
 refine tri_end1 Tryd.results6 (.tmp rfl) ?_
 exact rfl
 have hs1f : (bigF q) = false := by simpa using hs1
 refine tri_region ?_
 refine t_op rfl (sp_loadBoxS (Y := .box 27 (cFm q)) (ds := cFm q) (z := 10) (.tmp 2) rfl Tryd.underlying27 rfl (by kernel_rfl) (by decide) (by kernel_rfl) (by kernel_rfl)) ⟨.inl rfl, trivial⟩ ⟨rfl, trivial⟩ trivial ?_
 refine t_op rfl (sp_call (c := .func 13) (xs := #[.tmp 5]) [] (ctr_b (Big_c HQ) hs1f) rfl (by kernel_rfl) rfl (Xs := [.agg (cFm q)]) rfl rfl rfl) ⟨.inl rfl, .inl rfl, trivial⟩ trivial trivial ?_
 refine tri_nil ?_
 refine tri_wk (wk_keep [(1, .box 27 (cFm q)), (2, .box 44 (cSz n t f))] [(2, .box 1 0), (3, .box 2 0), (4, bv false), (6, bv false)] (n := 18) rfl (by kernel_rfl) (by kernel_rfl)) ?_
 refine t_then ?_
 refine t_condF rfl ?_
 refine tri_skip ?_
 refine t_then ?_
 refine tri_seq ?_
 refine tri_draw [⟨[(.tmp 2, .box 1 0)], [(1, .box 27 (cFm q))], .agg (cFm q), .no⟩, ⟨[(.tmp 3, .box 2 0)], [(2, .box 44 (cSz n t f))], .agg (cSz n t f), .no⟩, ⟨[(.func 21, .v (.func (.func 21) #[] #[])), (.tmp 8, .agg (cFm q)), (.tmp 9, .agg (cSz n t f))], [], bv (decide (valE q = 0) && admB q n t f), .no⟩, ⟨[(.tmp 2, .box 1 0)], [(1, .box 27 (cFm q))], .agg (cFm q), .no⟩, ⟨[(.tmp 3, .box 2 0)], [(2, .box 44 (cSz n t f))], .agg (cSz n t f), .no⟩, ⟨[(.func 22, .v (.func (.func 22) #[] #[])), (.tmp 11, .agg (cFm q)), (.tmp 12, .agg (cSz n t f))], [], bv (decide (valE q = 0) && admB q n t f), .no⟩, ⟨[(.tmp 10, bv (decide (valE q = 0) && admB q n t f)), (.tmp 13, bv (decide (valE q = 0) && admB q n t f))], [], bv true, .no⟩, ⟨[(.tmp 14, bv true)], [], bv true, .no⟩, ⟨[(.func 14, .v (.func (.func 14) #[] #[]))], [], bv true, .no⟩, ⟨[(.tmp 15, bv true), (.tmp 16, bv true), (.const (.bool false), bv false)], [], bv true, .no⟩, ⟨[(.tmp 17, bv true)], [], bv true, .no⟩] (by kernel_rfl) (by kernel_rfl) ?_
 refine ⟨app_yes rfl (sp_loadBoxS (Y := .box 27 (cFm q)) (ds := cFm q) (z := 10) (.tmp 2) rfl Tryd.underlying27 rfl (by kernel_rfl) (by decide) (by kernel_rfl) (by kernel_rfl)) ⟨.inl rfl, trivial⟩ ⟨rfl, trivial⟩ trivial, ?_⟩
 refine ⟨app_yes rfl (sp_loadBoxS (Y := .box 44 (cSz n t f)) (ds := cSz n t f) (z := 3) (.tmp 3) rfl Tryd.underlying44 rfl (by kernel_rfl) (by decide) (by kernel_rfl) (by kernel_rfl)) ⟨.inl rfl, trivial⟩ ⟨rfl, trivial⟩ trivial, ?_⟩
 refine ⟨app_yes rfl (sp_call (c := .func 21) (xs := #[.tmp 8, .tmp 9]) [] (qAdmissible_c HQ n t f) rfl (by kernel_rfl) rfl (Xs := [.agg (cFm q), .agg (cSz n t f)]) rfl rfl rfl) ⟨.inl rfl, .inl rfl, .inl rfl, trivial⟩ trivial trivial, ?_⟩
 refine ⟨app_yes rfl (sp_loadBoxS (Y := .box 27 (cFm q)) (ds := cFm q) (z := 10) (.tmp 2) rfl Tryd.underlying27 rfl (by kernel_rfl) (by decide) (by kernel_rfl) (by kernel_rfl)) ⟨.inl rfl, trivial⟩ ⟨rfl, trivial⟩ trivial, ?_⟩
 refine ⟨app_yes rfl (sp_loadBoxS (Y := .box 44 (cSz n t f)) (ds := cSz n t f) (z := 3) (.tmp 3) rfl Tryd.underlying44 rfl (by kernel_rfl) (by decide) (by kernel_rfl) (by kernel_rfl)) ⟨.inl rfl, trivial⟩ ⟨rfl, trivial⟩ trivial, ?_⟩
 refine ⟨app_yes rfl (sp_call (c := .func 22) (xs := #[.tmp 11, .tmp 12]) [] (rAdmissible_c HQ n t f) rfl (by kernel_rfl) rfl (Xs := [.agg (cFm q), .agg (cSz n t f)]) rfl rfl rfl) ⟨.inl rfl, .inl rfl, .inl rfl, trivial⟩ trivial trivial, ?_⟩
 refine ⟨app_yes rfl (sp_beql rfl Tryd.underlying4 (beq_self_eq_true _)) ⟨.inl rfl, .inl rfl, trivial⟩ trivial trivial, ?_⟩
 refine ⟨app_yes rfl (sp_move (.tmp 14) (bv true) rfl) ⟨.inl rfl, trivial⟩ trivial trivial, ?_⟩
 refine ⟨app_yes rfl (sp_call (c := .func 14) (xs := #[]) [] known_c rfl (by kernel_rfl) rfl (Xs := []) rfl rfl rfl) ⟨.inl rfl, trivial⟩ trivial trivial, ?_⟩
 refine ⟨app_yes rfl (sp_pick (.tmp 15) (.tmp 16) (.const (.bool false)) true (bv true) (bv false) rfl) ⟨.inl rfl, .inl rfl, .inl rfl, trivial⟩ trivial trivial, ?_⟩
 refine ⟨app_yes rfl (sp_assign (.tmp 17) (bv true) rfl) ⟨.inl rfl, trivial⟩ trivial trivial, ?_⟩
 show ETri TabW w0 _ _ _
 refine tri_wk (wk_keep [] [(4, bv true)] (n := 18) rfl (by kernel_rfl) (by kernel_rfl)) ?_
 refine t_then ?_
 refine tri_ret ?_
 refine tri_end1 Tryd.results6 (.tmp rfl) ?_
 exact rfl
theorem walk_Admits {v : Value} {q : Fm} {n t f : Int} (w : World) (hq : IsFam 0 w v q) (_ : I64 n) (_ : I64 t) (_ : I64 f) (ht : TabW w) :
    Calls Tryd.prog 6 #[v, .agg #[.int .i64 n, .int .i64 t, .int .i64 f]] w fun e w' => e = .returned (.bool true) ∧ Below w.heap.size w w' :=
  walk2 (lawAdmits_c hq.ok n t f) (famw hq) sz_pu ht
end Go.Proofs.YtmpbfdfjcfanoaaDoor

/-
  Sizes OF THE REFERENCE; THE WALK OF ProtocolSizes.
-/
namespace Go.Proofs.YtmpbfdfjcfanoaaDoor
open Go.RowKit Go.Deep
variable {J : World → Prop}
set_option linter.unusedSimpArgs false in
set_option linter.unusedVariables false in
set_option maxRecDepth 100000 in
set_option maxHeartbeats 6400000 in
theorem rSizes_c {q : Fm} (HQ : FmOk q) (n : Int) : Ctr Tryd.prog J 24 [.agg (cFm q), iv n] (.tup [slA 3 cS (szL q n), iv (szE q n)]) := by
 refine ctr_of_tri Tryd.func24 rfl (by intro X hX; simp only [List.mem_cons, List.not_mem_nil, or_false] at hX; rcases hX with rfl | rfl; exact plain_agg (plain_fm q); exact .v _) (n := 41) rfl (by simp) (fun w0 => ?_)
 refine tri_wk (wk_keep [] [(0, .agg (cFm q)), (1, iv n)] (n := 41) rfl (by kernel_rfl) (by kernel_rfl)) ?_
 refine tri_seq ?_
 refine tri_region ?_
 refine t_op rfl (sp_box (X := .agg (cFm q)) (k := 1) (.tmp 0) rfl rfl) ⟨.inl rfl, trivial⟩ trivial rfl ?_
 refine t_op rfl (sp_assign (.const (.slice none 0 0)) (.v (.slice none 0 0)) rfl) ⟨.inl rfl, trivial⟩ trivial trivial ?_
 refine t_op rfl (sp_assign (.const (.int .i64 0)) (iv 0) rfl) ⟨.inl rfl, trivial⟩ trivial trivial ?_
 refine tri_nil ?_
 refine tri_wk (wk_keep [(1, .box 27 (cFm q))] [(1, iv n), (2, .box 1 0), (4, .v (.slice none 0 0)), (5, iv 0)] (n := 41) rfl (by kernel_rfl) (by kernel_rfl)) ?_
 refine t_then ?_
 refine tri_seq ?_
 refine tri_seq ?_
 refine tri_region ?_
 refine t_op rfl (sp_loadBoxS (Y := .box 27 (cFm q)) (ds := cFm q) (z := 10) (.tmp 2) rfl Tryd.underlying27 rfl (by kernel_rfl) (by decide) (by kernel_rfl) (by kernel_rfl)) ⟨.inl rfl, trivial⟩ ⟨rfl, trivial⟩ trivial ?_
 refine t_op rfl (sp_call (c := .func 17) (xs := #[.tmp 11]) [] (rValidate_c HQ) rfl (by kernel_rfl) rfl (Xs := [.agg (cFm q)]) rfl rfl rfl) ⟨.inl rfl, .inl rfl, trivial⟩ trivial trivial ?_
 refine t_op rfl (sp_assign (.tmp 12) (iv (valE q)) rfl) ⟨.inl rfl, trivial⟩ trivial trivial ?_
 refine tri_nil ?_
 refine tri_wk (wk_keep [(1, .box 27 (cFm q))] [(1, iv n), (2, .box 1 0), (4, .v (.slice none 0 0)), (5, iv 0), (6, iv (valE q))] (n := 41) rfl (by kernel_rfl) (by kernel_rfl)) ?_
 refine t_then ?_
 refine tri_seq ?_
 by_cases hs1 : valE q = 0
 refine tri_region ?_
 refine t_op rfl (sp_move (.tmp 6) (iv (valE q)) rfl) ⟨.inl rfl, trivial⟩ trivial trivial ?_
 refine t_op rfl (sp_neq rfl (dT' hs1)) ⟨.inl rfl, .inl rfl, trivial⟩ trivial trivial ?_
 refine tri_nil ?_
 refine tri_wk (wk_keep [(1, .box 27 (cFm q))] [(1, iv n), (2, .box 1 0), (4, .v (.slice none 0 0)), (5, iv 0), (6, iv (valE q)), (14, bv false)] (n := 41) rfl (by kernel_rfl) (by kernel_rfl)) ?_
 refine t_then ?_
 refine t_condF rfl ?_
 refine tri_skip ?_
 refine t_then ?_
 refine tri_seq ?_
 refine tri_seq ?_
 by_cases hs2 : (inB 1 8 n) = true
 refine tri_region ?_
 refine t_op rfl (sp_move (.tmp 1) (iv n) rfl) ⟨.inl rfl, trivial⟩ trivial trivial ?_
 refine t_op rfl (sp_call (c := .func 56) (xs := #[.tmp 16, .const (.int .i64 1), .const (.int .i64 8)]) [] (ctr_b (within_c n 1 8) hs2) rfl (by kernel_rfl) rfl (Xs := [iv n, iv 1, iv 8]) rfl rfl rfl) ⟨.inl rfl, .inl rfl, .inl rfl, .inl rfl, trivial⟩ trivial trivial ?_
 refine t_op rfl (sp_not rfl rfl) ⟨.inl rfl, trivial⟩ trivial trivial ?_
 refine tri_nil ?_
 refine tri_wk (wk_keep [(1, .box 27 (cFm q))] [(1, iv n), (2, .box 1 0), (4, .v (.slice none 0 0)), (5, iv 0), (18, bv false)] (n := 41) rfl (by kernel_rfl) (by kernel_rfl)) ?_
 refine t_then ?_
 refine t_condF rfl ?_
 refine tri_skip ?_
 refine t_then ?_
 refine tri_seq ?_
 refine tri_region ?_
 refine t_op rfl (sp_assign (.const (.slice none 0 0)) (.v (.slice none 0 0)) rfl) ⟨.inl rfl, trivial⟩ trivial trivial ?_
 refine tri_nil ?_
 refine tri_wk (wk_keep [(1, .box 27 (cFm q))] [(1, iv n), (2, .box 1 0), (4, .v (.slice none 0 0)), (5, iv 0), (7, .v (.slice none 0 0))] (n := 41) rfl (by kernel_rfl) (by kernel_rfl)) ?_
 refine t_then ?_
 refine tri_seq ?_
 refine tri_seq ?_
 refine tri_region ?_
 refine t_op rfl (sp_assign (.const (.int .i64 0)) (iv 0) rfl) ⟨.inl rfl, trivial⟩ trivial trivial ?_
 refine tri_nil ?_
 refine tri_wk (wk_keep [(1, .box 27 (cFm q))] [(1, iv n), (2, .box 1 0), (4, .v (.slice none 0 0)), (5, iv 0), (7, .v (.slice none 0 0)), (8, iv 0)] (n := 41) rfl (by kernel_rfl) (by kernel_rfl)) ?_
 refine t_then ?_
 refine tri_block ?_
 have hn := in18 hs2
 refine tri_wk (wk_adopt 7 2 true 44 3 rfl rfl rfl) ?_
 refine tri_loop (σ := {p : Nat × List Sz // p.1 ≤ n.toNat + 1 ∧ (p.2 = allS q n (n.toNat + 1) p.1 ∧ p.2.length ≤ 9 * p.1)}) (fun s => (ofL [(1, .box 27 (cFm q)), (2, .row true 44 3 s.1.2.length (s.1.2.flatMap cS))], ofT 41 [(1, iv n), (2, .box 1 0), (4, .v (.slice none 0 0)), (5, iv 0), (7, .own 2), (8, iv s.1.1)])) (fun s => n.toNat + 1 - s.1.1) ⟨(0, []), Nat.zero_le _, rfl, Nat.zero_le _⟩ (wk_keep _ _ rfl (by kernel_rfl) (by kernel_rfl)) (fun s => ?_)
 obtain ⟨⟨F, L⟩, hF, hL, hLb⟩ := s
 show ETri J w0 (ofL [(1, .box 27 (cFm q)), (2, .row true 44 3 L.length (L.flatMap cS))]) (ofT 41 [(1, iv n), (2, .box 1 0), (4, .v (.slice none 0 0)), (5, iv 0), (7, .own 2), (8, iv F)]) _
 dsimp only at hF hL hLb
 refine tri_seq ?_
 refine tri_seq ?_
 by_cases hs3 : ((F : Nat) : Int) ≤ n
 refine tri_region ?_
 refine t_op rfl (sp_move (.tmp 8) (iv F) rfl) ⟨.inl rfl, trivial⟩ trivial trivial ?_
 refine t_op rfl (sp_move (.tmp 1) (iv n) rfl) ⟨.inl rfl, trivial⟩ trivial trivial ?_
 refine t_op rfl (sp_leq rfl (dT hs3)) ⟨.inl rfl, .inl rfl, trivial⟩ trivial trivial ?_
 refine tri_nil ?_
 refine tri_wk (wk_keep [(1, .box 27 (cFm q)), (2, .row true 44 3 L.length (L.flatMap cS))] [(1, iv n), (2, .box 1 0), (4, .v (.slice none 0 0)), (5, iv 0), (7, .own 2), (8, iv F), (21, bv true)] (n := 41) rfl (by kernel_rfl) (by kernel_rfl)) ?_
 refine t_then ?_
 refine t_condT rfl ?_
 refine tri_skip ?_
 refine t_then ?_
 refine tri_seq ?_
 refine tri_block ?_
 refine tri_seq ?_
 refine tri_region ?_
 refine t_op rfl (sp_assign (.const (.int .i64 0)) (iv 0) rfl) ⟨.inl rfl, trivial⟩ trivial trivial ?_
 refine tri_nil ?_
 refine tri_wk (wk_keep [(1, .box 27 (cFm q)), (2, .row true 44 3 L.length (L.flatMap cS))] [(1, iv n), (2, .box 1 0), (4, .v (.slice none 0 0)), (5, iv 0), (7, .own 2), (8, iv F), (9, iv 0), (21, bv true)] (n := 41) rfl (by kernel_rfl) (by kernel_rfl)) ?_
 refine t_then ?_
 refine tri_block ?_
 refine tri_loop (σ := {p : Nat × List Sz // p.1 ≤ n.toNat + 1 ∧ (p.2 = L ++ rowS q n F p.1 ∧ p.2.length ≤ L.length + p.1)}) (fun s => (ofL [(1, .box 27 (cFm q)), (2, .row true 44 3 s.1.2.length (s.1.2.flatMap cS))], ofT 41 [(1, iv n), (2, .box 1 0), (4, .v (.slice none 0 0)), (5, iv 0), (7, .own 2), (8, iv F), (9, iv s.1.1), (21, bv true)])) (fun s => n.toNat + 1 - s.1.1) ⟨(0, L), Nat.zero_le _, (List.append_nil L).symm, Nat.le_refl _⟩ (wk_keep _ _ rfl (by kernel_rfl) (by kernel_rfl)) (fun s => ?_)
 obtain ⟨⟨T, l⟩, hT, hl, hlb⟩ := s
 show ETri J w0 (ofL [(1, .box 27 (cFm q)), (2, .row true 44 3 l.length (l.flatMap cS))]) (ofT 41 [(1, iv n), (2, .box 1 0), (4, .v (.slice none 0 0)), (5, iv 0), (7, .own 2), (8, iv F), (9, iv T), (21, bv true)]) _
 dsimp only at hT hl hlb
 refine tri_seq ?_
 refine tri_seq ?_
 by_cases hs4 : ((T : Nat) : Int) ≤ n
 refine tri_region ?_
 refine t_op rfl (sp_move (.tmp 9) (iv T) rfl) ⟨.inl rfl, trivial⟩ trivial trivial ?_
 refine t_op rfl (sp_move (.tmp 1) (iv n) rfl) ⟨.inl rfl, trivial⟩ trivial trivial ?_
 refine t_op rfl (sp_leq rfl (dT hs4)) ⟨.inl rfl, .inl rfl, trivial⟩ trivial trivial ?_
 refine tri_nil ?_
 refine tri_wk (wk_keep [(1, .box 27 (cFm q)), (2, .row true 44 3 l.length (l.flatMap cS))] [(1, iv n), (2, .box 1 0), (4, .v (.slice none 0 0)), (5, iv 0), (7, .own 2), (8, iv F), (9, iv T), (21, bv true), (26, bv true)] (n := 41) rfl (by kernel_rfl) (by kernel_rfl)) ?_
 refine t_then ?_
 refine t_condT rfl ?_
 refine tri_skip ?_
 refine t_then ?_
 refine tri_seq ?_
 refine tri_block ?_
 refine tri_seq ?_
 refine tri_region ?_
 refine t_op rfl (sp_move (.tmp 1) (iv n) rfl) ⟨.inl rfl, trivial⟩ trivial trivial ?_
 refine t_op rfl (sp_move (.tmp 9) (iv T) rfl) ⟨.inl rfl, trivial⟩ trivial trivial ?_
 refine t_op rfl (sp_move (.tmp 8) (iv F) rfl) ⟨.inl rfl, trivial⟩ trivial trivial ?_
 refine t_op rfl (sp_bld [(.tmp 29, .int .i64 n), (.tmp 30, .int .i64 ((T : Nat) : Int)), (.tmp 31, .int .i64 ((F : Nat) : Int))] #[.int .i64 n, .int .i64 ((T : Nat) : Int), .int .i64 ((F : Nat) : Int)] rfl rfl (by kernel_rfl) rfl) ⟨.inl rfl, .inl rfl, .inl rfl, trivial⟩ trivial trivial ?_
 refine t_op rfl (sp_alloc (z := .agg #[.int .i64 0, .int .i64 0, .int .i64 0]) (k := 3) rfl (by kernel_rfl)) trivial trivial rfl ?_
 refine t_op rfl (sp_storeBox (T0 := 44) (X := .agg [iv n, iv T, iv F]) (cs := [iv 0, iv 0, iv 0]) (ds := [iv n, iv T, iv F]) (z := 3) (.tmp 10) (.tmp 32) rfl (by kernel_rfl) (by kernel_rfl) (by kernel_rfl) (of_decide_eq_true (by kernel_rfl)) (by kernel_rfl)) ⟨.inl rfl, .inl rfl, trivial⟩ ⟨rfl, trivial⟩ rfl ?_
 refine tri_nil ?_
 refine tri_wk (wk_keep [(1, .box 27 (cFm q)), (2, .row true 44 3 l.length (l.flatMap cS)), (3, .box 44 [iv n, iv T, iv F])] [(1, iv n), (2, .box 1 0), (4, .v (.slice none 0 0)), (5, iv 0), (7, .own 2), (8, iv F), (9, iv T), (10, .box 3 0), (21, bv true), (26, bv true)] (n := 41) rfl (by kernel_rfl) (by kernel_rfl)) ?_
 refine t_then ?_
 refine tri_seq ?_
 by_cases hs5 : (admB q n T F) = true
 refine tri_region ?_
 refine t_op rfl (sp_loadBoxS (Y := .box 27 (cFm q)) (ds := cFm q) (z := 10) (.tmp 2) rfl Tryd.underlying27 rfl (by kernel_rfl) (by decide) (by kernel_rfl) (by kernel_rfl)) ⟨.inl rfl, trivial⟩ ⟨rfl, trivial⟩ trivial ?_
 refine t_op rfl (sp_loadBoxS (Y := .box 44 [iv n, iv T, iv F]) (ds := [iv n, iv T, iv F]) (z := 3) (.tmp 10) rfl Tryd.underlying44 rfl (by kernel_rfl) (by decide) (by kernel_rfl) (by kernel_rfl)) ⟨.inl rfl, trivial⟩ ⟨rfl, trivial⟩ trivial ?_
 refine t_op rfl (sp_call (c := .func 70) (xs := #[.tmp 33, .tmp 34]) [] (ctr_b (radmissible_c HQ n T F) hs5) rfl (by kernel_rfl) rfl (Xs := [.agg (cFm q), .agg [iv n, iv T, iv F]]) rfl rfl rfl) ⟨.inl rfl, .inl rfl, .inl rfl, trivial⟩ trivial trivial ?_
 refine tri_nil ?_
 refine tri_wk (wk_keep [(1, .box 27 (cFm q)), (2, .row true 44 3 l.length (l.flatMap cS)), (3, .box 44 [iv n, iv T, iv F])] [(1, iv n), (2, .box 1 0), (4, .v (.slice none 0 0)), (5, iv 0), (7, .own 2), (8, iv F), (9, iv T), (10, .box 3 0), (21, bv true), (26, bv true), (35, bv true)] (n := 41) rfl (by kernel_rfl) (by kernel_rfl)) ?_
 refine t_then ?_
 refine t_condT rfl ?_
 refine tri_region ?_
 refine t_op rfl (sp_move (.tmp 7) (.own 2) rfl) ⟨.inl rfl, trivial⟩ trivial trivial ?_
 refine t_op rfl (sp_loadBoxS (Y := .box 44 [iv n, iv T, iv F]) (ds := [iv n, iv T, iv F]) (z := 3) (.tmp 10) rfl Tryd.underlying44 rfl (by kernel_rfl) (by decide) (by kernel_rfl) (by kernel_rfl)) ⟨.inl rfl, trivial⟩ ⟨rfl, trivial⟩ trivial ?_
 refine t_op rfl (sp_build (z := 3) (k := 4) (fr := true) (cs := [iv n, iv T, iv F]) [.tmp 37] [.agg [iv n, iv T, iv F]] rfl Tryd.underlying46 (by kernel_rfl) (by decide) (by decide) rfl rfl rfl (by kernel_rfl) (by decide) (fun _ => by simp [AV.cellsOf, AV.isNew, cLn, cTh]) (by kernel_rfl)) ⟨.inl rfl, trivial⟩ trivial rfl ?_
 refine t_op rfl (sp_appendOwn (n := l.length) (cs := (l.flatMap cS)) (fr := true) (m := 1) (ds := [iv n, iv T, iv F]) (⟨Tryd.underlying46, by kernel_rfl, by decide⟩ : Elt Tryd.prog 46 44 3 24) (.tmp 36) (.tmp 38) rfl (fun _ => newS) (by unfold maxLen; omega) (by omega) cellS (es := ((l ++ [(⟨n, T, F⟩ : Sz)]).flatMap cS)) snocS) ⟨.inl rfl, .inl rfl, trivial⟩ ⟨rfl, rfl, trivial⟩ rfl ?_
 refine t_op rfl (sp_assign (.tmp 39) (.own 2) rfl) ⟨.inl rfl, trivial⟩ trivial trivial ?_
 refine tri_nil ?_
 refine tri_wk (wk_keep [(1, .box 27 (cFm q)), (2, .row true 44 3 (l.length + 1) ((l ++ [(⟨n, T, F⟩ : Sz)]).flatMap cS)), (3, .box 44 [iv n, iv T, iv F])] [(1, iv n), (2, .box 1 0), (4, .v (.slice none 0 0)), (5, iv 0), (7, .own 2), (8, iv F), (9, iv T), (10, .box 3 0), (21, bv true), (26, bv true), (35, bv true)] (n := 41) rfl (by kernel_rfl) (by kernel_rfl)) ?_
 refine t_block ?_
 refine t_then ?_
 refine tri_region ?_
 refine t_op rfl (sp_move (.tmp 9) (iv T) rfl) ⟨.inl rfl, trivial⟩ trivial trivial ?_
 refine t_op rfl (sp_add (c := ((T + 1 : Nat) : Int)) rfl (w64 (by omega) (by omega) (by omega))) ⟨.inl rfl, .inl rfl, trivial⟩ trivial trivial ?_
 refine t_op rfl (sp_assign (.tmp 28) (iv (T + 1 : Nat)) rfl) ⟨.inl rfl, trivial⟩ trivial trivial ?_
 refine tri_nil ?_
 refine tri_wk (wk_keep [(1, .box 27 (cFm q)), (2, .row true 44 3 (l.length + 1) ((l ++ [(⟨n, T, F⟩ : Sz)]).flatMap cS)), (3, .box 44 [iv n, iv T, iv F])] [(1, iv n), (2, .box 1 0), (4, .v (.slice none 0 0)), (5, iv 0), (7, .own 2), (8, iv F), (9, iv (T + 1 : Nat)), (10, .box 3 0), (21, bv true), (26, bv true), (35, bv true)] (n := 41) rfl (by kernel_rfl) (by kernel_rfl)) ?_
 refine t_then ?_
 refine tri_again ⟨(T + 1, l ++ [(⟨n, T, F⟩ : Sz)]), by omega, (by rw [rowS_yes hs5, hl, List.append_assoc]), (by rw [snocL]; dsimp only; omega)⟩ (show n.toNat + 1 - (T + 1) < n.toNat + 1 - T by omega) ?_
 show Wk _ _ (ofL [(1, .box 27 (cFm q)), (2, .row true 44 3 ((l ++ [(⟨n, T, F⟩ : Sz)]).length) ((l ++ [(⟨n, T, F⟩ : Sz)]).flatMap cS))]) (ofT 41 [(1, iv n), (2, .box 1 0), (4, .v (.slice none 0 0)), (5, iv 0), (7, .own 2), (8, iv F), (9, iv ((T + 1) : Nat)), (21, bv true)])
 rw [snocL]
 exact wk_keep _ _ rfl (by kernel_rfl) (by kernel_rfl)
 have hs5f : (admB q n T F) = false := by simpa using hs5
 refine tri_region ?_
 refine t_op rfl (sp_loadBoxS (Y := .box 27 (cFm q)) (ds := cFm q) (z := 10) (.tmp 2) rfl Tryd.underlying27 rfl (by kernel_rfl) (by decide) (by kernel_rfl) (by kernel_rfl)) ⟨.inl rfl, trivial⟩ ⟨rfl, trivial⟩ trivial ?_
 refine t_op rfl (sp_loadBoxS (Y := .box 44 [iv n, iv T, iv F]) (ds := [iv n, iv T, iv F]) (z := 3) (.tmp 10) rfl Tryd.underlying44 rfl (by kernel_rfl) (by decide) (by kernel_rfl) (by kernel_rfl)) ⟨.inl rfl, trivial⟩ ⟨rfl, trivial⟩ trivial ?_
 refine t_op rfl (sp_call (c := .func 70) (xs := #[.tmp 33, .tmp 34]) [] (ctr_b (radmissible_c HQ n T F) hs5f) rfl (by kernel_rfl) rfl (Xs := [.agg (cFm q), .agg [iv n, iv T, iv F]]) rfl rfl rfl) ⟨.inl rfl, .inl rfl, .inl rfl, trivial⟩ trivial trivial ?_
 refine tri_nil ?_
 refine tri_wk (wk_keep [(1, .box 27 (cFm q)), (2, .row true 44 3 l.length (l.flatMap cS)), (3, .box 44 [iv n, iv T, iv F])] [(1, iv n), (2, .box 1 0), (4, .v (.slice none 0 0)), (5, iv 0), (7, .own 2), (8, iv F), (9, iv T), (10, .box 3 0), (21, bv true), (26, bv true), (35, bv false)] (n := 41) rfl (by kernel_rfl) (by kernel_rfl)) ?_
 refine t_then ?_
 refine t_condF rfl ?_
 refine tri_skip ?_
 refine t_block ?_
 refine t_then ?_
 refine tri_region ?_
 refine t_op rfl (sp_move (.tmp 9) (iv T) rfl) ⟨.inl rfl, trivial⟩ trivial trivial ?_
 refine t_op rfl (sp_add (c := ((T + 1 : Nat) : Int)) rfl (w64 (by omega) (by omega) (by omega))) ⟨.inl rfl, .inl rfl, trivial⟩ trivial trivial ?_
 refine t_op rfl (sp_assign (.tmp 28) (iv (T + 1 : Nat)) rfl) ⟨.inl rfl, trivial⟩ trivial trivial ?_
 refine tri_nil ?_
 refine tri_wk (wk_keep [(1, .box 27 (cFm q)), (2, .row true 44 3 l.length (l.flatMap cS)), (3, .box 44 [iv n, iv T, iv F])] [(1, iv n), (2, .box 1 0), (4, .v (.slice none 0 0)), (5, iv 0), (7, .own 2), (8, iv F), (9, iv (T + 1 : Nat)), (10, .box 3 0), (21, bv true), (26, bv true), (35, bv false)] (n := 41) rfl (by kernel_rfl) (by kernel_rfl)) ?_
 refine t_then ?_
 refine tri_again ⟨(T + 1, l), by omega, (by rw [rowS_no hs5f, hl]), by dsimp only; omega⟩ (show n.toNat + 1 - (T + 1) < n.toNat + 1 - T by omega) ?_
 exact wk_keep _ _ rfl (by kernel_rfl) (by kernel_rfl)
 refine tri_region ?_
 refine t_op rfl (sp_move (.tmp 9) (iv T) rfl) ⟨.inl rfl, trivial⟩ trivial trivial ?_
 refine t_op rfl (sp_move (.tmp 1) (iv n) rfl) ⟨.inl rfl, trivial⟩ trivial trivial ?_
 refine t_op rfl (sp_leq rfl (dF hs4)) ⟨.inl rfl, .inl rfl, trivial⟩ trivial trivial ?_
 refine tri_nil ?_
 refine tri_wk (wk_keep [(1, .box 27 (cFm q)), (2, .row true 44 3 l.length (l.flatMap cS))] [(1, iv n), (2, .box 1 0), (4, .v (.slice none 0 0)), (5, iv 0), (7, .own 2), (8, iv F), (9, iv T), (21, bv true), (26, bv false)] (n := 41) rfl (by kernel_rfl) (by kernel_rfl)) ?_
 refine t_then ?_
 refine t_condF rfl ?_
 refine tri_exit ?_
 refine t_then_exit ?_
 refine t_then_exit ?_
 refine t_hit ?_
 refine t_block ?_
 refine t_then ?_
 refine tri_region ?_
 refine t_op rfl (sp_move (.tmp 8) (iv F) rfl) ⟨.inl rfl, trivial⟩ trivial trivial ?_
 refine t_op rfl (sp_add (c := ((F + 1 : Nat) : Int)) rfl (w64 (by omega) (by omega) (by omega))) ⟨.inl rfl, .inl rfl, trivial⟩ trivial trivial ?_
 refine t_op rfl (sp_assign (.tmp 23) (iv (F + 1 : Nat)) rfl) ⟨.inl rfl, trivial⟩ trivial trivial ?_
 refine tri_nil ?_
 refine tri_wk (wk_keep [(1, .box 27 (cFm q)), (2, .row true 44 3 l.length (l.flatMap cS))] [(1, iv n), (2, .box 1 0), (4, .v (.slice none 0 0)), (5, iv 0), (7, .own 2), (8, iv (F + 1 : Nat)), (9, iv T), (21, bv true), (26, bv false)] (n := 41) rfl (by kernel_rfl) (by kernel_rfl)) ?_
 refine t_then ?_
 refine tri_again ⟨(F + 1, l), by omega, (by rw [allS_succ, hl, hL, show T = n.toNat + 1 by omega]), by dsimp only; omega⟩ (show n.toNat + 1 - (F + 1) < n.toNat + 1 - F by omega) ?_
 exact wk_keep _ _ rfl (by kernel_rfl) (by kernel_rfl)
 refine tri_region ?_
 refine t_op rfl (sp_move (.tmp 8) (iv F) rfl) ⟨.inl rfl, trivial⟩ trivial trivial ?_
 refine t_op rfl (sp_move (.tmp 1) (iv n) rfl) ⟨.inl rfl, trivial⟩ trivial trivial ?_
 refine t_op rfl (sp_leq rfl (dF hs3)) ⟨.inl rfl, .inl rfl, trivial⟩ trivial trivial ?_
 refine tri_nil ?_
 refine tri_wk (wk_keep [(1, .box 27 (cFm q)), (2, .row true 44 3 L.length (L.flatMap cS))] [(1, iv n), (2, .box 1 0), (4, .v (.slice none 0 0)), (5, iv 0), (7, .own 2), (8, iv F), (21, bv false)] (n := 41) rfl (by kernel_rfl) (by kernel_rfl)) ?_
 refine t_then ?_
 refine t_condF rfl ?_
 refine tri_exit ?_
 refine t_then_exit ?_
 refine t_then_exit ?_
 refine t_hit ?_
 refine t_then ?_
 refine tri_seq ?_
 refine tri_region ?_
 refine t_op rfl (sp_move (.tmp 7) (.own 2) rfl) ⟨.inl rfl, trivial⟩ trivial trivial ?_
 refine t_op rfl (sp_assign (.tmp 40) (.own 2) rfl) ⟨.inl rfl, trivial⟩ trivial trivial ?_
 refine t_op rfl (sp_assign (.const (.int .i64 0)) (iv 0) rfl) ⟨.inl rfl, trivial⟩ trivial trivial ?_
 refine tri_nil ?_
 refine tri_wk (wk_keep [(2, .row true 44 3 L.length (L.flatMap cS))] [(4, .own 2), (5, iv 0)] (n := 41) rfl (by kernel_rfl) (by kernel_rfl)) ?_
 refine t_then ?_
 refine tri_ret ?_
 refine tri_end2 Tryd.results24 (.tmp rfl) (.tmp rfl) ?_
 exact siz_ok hs1 hs2 (by rw [hL]; congr 1; omega)
 have hs2f : (inB 1 8 n) = false := by simpa using hs2
 refine tri_region ?_
 refine t_op rfl (sp_move (.tmp 1) (iv n) rfl) ⟨.inl rfl, trivial⟩ trivial trivial ?_
 refine t_op rfl (sp_call (c := .func 56) (xs := #[.tmp 16, .const (.int .i64 1), .const (.int .i64 8)]) [] (ctr_b (within_c n 1 8) hs2f) rfl (by kernel_rfl) rfl (Xs := [iv n, iv 1, iv 8]) rfl rfl rfl) ⟨.inl rfl, .inl rfl, .inl rfl, .inl rfl, trivial⟩ trivial trivial ?_
 refine t_op rfl (sp_not rfl rfl) ⟨.inl rfl, trivial⟩ trivial trivial ?_
 refine tri_nil ?_
 refine tri_wk (wk_keep [(1, .box 27 (cFm q))] [(1, iv n), (2, .box 1 0), (4, .v (.slice none 0 0)), (5, iv 0), (18, bv true)] (n := 41) rfl (by kernel_rfl) (by kernel_rfl)) ?_
 refine t_then ?_
 refine t_condT rfl ?_
 refine tri_seq ?_
 refine tri_region ?_
 refine t_op rfl (sp_assign (.const (.slice none 0 0)) (.v (.slice none 0 0)) rfl) ⟨.inl rfl, trivial⟩ trivial trivial ?_
 refine t_op rfl (sp_assign (.const (.int .i64 1)) (iv 1) rfl) ⟨.inl rfl, trivial⟩ trivial trivial ?_
 refine tri_nil ?_
 refine tri_wk (wk_keep [(1, .box 27 (cFm q))] [(1, iv n), (2, .box 1 0), (4, .v (.slice none 0 0)), (5, iv 1)] (n := 41) rfl (by kernel_rfl) (by kernel_rfl)) ?_
 refine t_then ?_
 refine tri_ret ?_
 refine t_then_ret ?_
 refine tri_wk (wk_adopt 4 2 true 44 3 rfl rfl rfl) ?_
 refine tri_end2 Tryd.results24 (.tmp rfl) (.tmp rfl) ?_
 exact siz_e2 hs1 hs2f
 refine tri_region ?_
 refine t_op rfl (sp_move (.tmp 6) (iv (valE q)) rfl) ⟨.inl rfl, trivial⟩ trivial trivial ?_
 refine t_op rfl (sp_neq rfl (dF' hs1)) ⟨.inl rfl, .inl rfl, trivial⟩ trivial trivial ?_
 refine tri_nil ?_
 refine tri_wk (wk_keep [(1, .box 27 (cFm q))] [(1, iv n), (2, .box 1 0), (4, .v (.slice none 0 0)), (5, iv 0), (6, iv (valE q)), (14, bv true)] (n := 41) rfl (by kernel_rfl) (by kernel_rfl)) ?_
 refine t_then ?_
 refine t_condT rfl ?_
 refine tri_seq ?_
 refine tri_region ?_
 refine t_op rfl (sp_move (.tmp 6) (iv (valE q)) rfl) ⟨.inl rfl, trivial⟩ trivial trivial ?_
 refine t_op rfl (sp_assign (.const (.slice none 0 0)) (.v (.slice none 0 0)) rfl) ⟨.inl rfl, trivial⟩ trivial trivial ?_
 refine t_op rfl (sp_assign (.tmp 15) (iv (valE q)) rfl) ⟨.inl rfl, trivial⟩ trivial trivial ?_
 refine tri_nil ?_
 refine tri_wk (wk_keep [(1, .box 27 (cFm q))] [(1, iv n), (2, .box 1 0), (4, .v (.slice none 0 0)), (5, iv (valE q))] (n := 41) rfl (by kernel_rfl) (by kernel_rfl)) ?_
 refine t_then ?_
 refine tri_ret ?_
 refine t_then_ret ?_
 refine tri_wk (wk_adopt 4 2 true 44 3 rfl rfl rfl) ?_
 refine tri_end2 Tryd.results24 (.tmp rfl) (.tmp rfl) ?_
 exact siz_e1 hs1
set_option linter.unusedSimpArgs false in
set_option linter.unusedVariables false in
set_option maxRecDepth 100000 in
set_option maxHeartbeats 6400000 in
theorem lawSizes_c {q : Fm} (HQ : FmOk q) (n : Int) : Ctr Tryd.prog TabW 7 [.agg (cFm q), iv n] (bv true) := by
 have hl := szL_len q n
 refine ctr_of_tri Tryd.func7 rfl (by intro X hX; simp only [List.mem_cons, List.not_mem_nil, or_false] at hX; rcases hX with rfl | rfl; exact plain_agg (plain_fm q); exact .v _) (n := 51) rfl (by simp) (fun w0 => ?_)
 refine tri_wk (wk_keep [] [(0, .agg (cFm q)), (1, iv n)] (n := 51) rfl (by kernel_rfl) (by kernel_rfl)) ?_
 refine tri_seq ?_
 refine tri_region ?_
 refine t_op rfl (sp_box (X := .agg (cFm q)) (k := 1) (.tmp 0) rfl rfl) ⟨.inl rfl, trivial⟩ trivial rfl ?_
 refine t_op rfl (sp_assign (.const (.bool false)) (bv false) rfl) ⟨.inl rfl, trivial⟩ trivial trivial ?_
 refine tri_nil ?_
 refine tri_wk (wk_keep [(1, .box 27 (cFm q))] [(1, iv n), (2, .box 1 0), (4, bv false)] (n := 51) rfl (by kernel_rfl) (by kernel_rfl)) ?_
 refine t_then ?_
 refine tri_seq ?_
 refine tri_seq ?_
 by_cases hs1 : (bigF q) = true
 refine tri_region ?_
 refine t_op rfl (sp_loadBoxS (Y := .box 27 (cFm q)) (ds := cFm q) (z := 10) (.tmp 2) rfl Tryd.underlying27 rfl (by kernel_rfl) (by decide) (by kernel_rfl) (by kernel_rfl)) ⟨.inl rfl, trivial⟩ ⟨rfl, trivial⟩ trivial ?_
 refine t_op rfl (sp_call (c := .func 13) (xs := #[.tmp 10]) [] (ctr_b (Big_c HQ) hs1) rfl (by kernel_rfl) rfl (Xs := [.agg (cFm q)]) rfl rfl rfl) ⟨.inl rfl, .inl rfl, trivial⟩ trivial trivial ?_
 refine tri_nil ?_
 refine tri_wk (wk_keep [(1, .box 27 (cFm q))] [(1, iv n), (2, .box 1 0), (4, bv false), (11, bv true)] (n := 51) rfl (by kernel_rfl) (by kernel_rfl)) ?_
 refine t_then ?_
 refine t_condT rfl ?_
 refine tri_seq ?_
 refine tri_region ?_
 refine t_op rfl (sp_call (c := .func 14) (xs := #[]) [] known_c rfl (by kernel_rfl) rfl (Xs := []) rfl rfl rfl) ⟨.inl rfl, trivial⟩ trivial trivial ?_
 refine t_op rfl (sp_assign (.tmp 12) (bv true) rfl) ⟨.inl rfl, trivial⟩ trivial trivial ?_
 refine tri_nil ?_
 refine tri_wk (wk_keep [(1, .box 27 (cFm q))] [(1, iv n), (2, .box 1 0), (4, bv true)] (n := 51) rfl (by kernel_rfl) (by kernel_rfl)) ?_
 refine t_then ?_
 refine tri_ret ?_
 refine t_then_ret ?_
 refine tri_end1 Tryd.results7 (.tmp rfl) ?_
 exact rfl
 have hs1f : (bigF q) = false := by simpa using hs1
 refine tri_region ?_
 refine t_op rfl (sp_loadBoxS (Y := .box 27 (cFm q)) (ds := cFm q) (z := 10) (.tmp 2) rfl Tryd.underlying27 rfl (by kernel_rfl) (by decide) (by kernel_rfl) (by kernel_rfl)) ⟨.inl rfl, trivial⟩ ⟨rfl, trivial⟩ trivial ?_
 refine t_op rfl (sp_call (c := .func 13) (xs := #[.tmp 10]) [] (ctr_b (Big_c HQ) hs1f) rfl (by kernel_rfl) rfl (Xs := [.agg (cFm q)]) rfl rfl rfl) ⟨.inl rfl, .inl rfl, trivial⟩ trivial trivial ?_
 refine tri_nil ?_
 refine tri_wk (wk_keep [(1, .box 27 (cFm q))] [(1, iv n), (2, .box 1 0), (4, bv false), (11, bv false)] (n := 51) rfl (by kernel_rfl) (by kernel_rfl)) ?_
 refine t_then ?_
 refine t_condF rfl ?_
 refine tri_skip ?_
 refine t_then ?_
 refine tri_seq ?_
 refine tri_region ?_
 refine t_op rfl (sp_loadBoxS (Y := .box 27 (cFm q)) (ds := cFm q) (z := 10) (.tmp 2) rfl Tryd.underlying27 rfl (by kernel_rfl) (by decide) (by kernel_rfl) (by kernel_rfl)) ⟨.inl rfl, trivial⟩ ⟨rfl, trivial⟩ trivial ?_
 refine t_op rfl (sp_move (.tmp 1) (iv n) rfl) ⟨.inl rfl, trivial⟩ trivial trivial ?_
 refine t_op rfl (sp_call (c := .func 23) (xs := #[.tmp 14, .tmp 15]) [] (qSizes_c HQ n) rfl (by kernel_rfl) rfl (Xs := [.agg (cFm q), iv n]) rfl rfl rfl) ⟨.inl rfl, .inl rfl, .inl rfl, trivial⟩ trivial trivial ?_
 refine t_op rfl (sp_move (.tmp 16) (.tup [.fr (slA 3 cS (szL q n)), iv (szE q n)]) rfl) ⟨.inl rfl, trivial⟩ trivial trivial ?_
 refine t_op rfl (sp_extract (X := .fr (slA 3 cS (szL q n))) (.tmp 13) rfl rfl) ⟨.inl rfl, trivial⟩ trivial trivial ?_
 refine t_op rfl (sp_extract (X := iv (szE q n)) (.tmp 13) rfl rfl) ⟨.inl rfl, trivial⟩ trivial trivial ?_
 refine t_op rfl (sp_assign (.tmp 17) (.fr (slA 3 cS (szL q n))) rfl) ⟨.inl rfl, trivial⟩ trivial trivial ?_
 refine t_op rfl (sp_assign (.tmp 18) (iv (szE q n)) rfl) ⟨.inl rfl, trivial⟩ trivial trivial ?_
 refine tri_nil ?_
 refine tri_wk (wk_keep [(1, .box 27 (cFm q))] [(1, iv n), (2, .box 1 0), (4, bv false), (5, .fr (slA 3 cS (szL q n))), (6, iv (szE q n))] (n := 51) rfl (by kernel_rfl) (by kernel_rfl)) ?_
 refine t_then ?_
 refine tri_seq ?_
 refine tri_region ?_
 refine t_op rfl (sp_loadBoxS (Y := .box 27 (cFm q)) (ds := cFm q) (z := 10) (.tmp 2) rfl Tryd.underlying27 rfl (by kernel_rfl) (by decide) (by kernel_rfl) (by kernel_rfl)) ⟨.inl rfl, trivial⟩ ⟨rfl, trivial⟩ trivial ?_
 refine t_op rfl (sp_move (.tmp 1) (iv n) rfl) ⟨.inl rfl, trivial⟩ trivial trivial ?_
 refine t_op rfl (sp_call (c := .func 24) (xs := #[.tmp 20, .tmp 21]) [] (rSizes_c HQ n) rfl (by kernel_rfl) rfl (Xs := [.agg (cFm q), iv n]) rfl rfl rfl) ⟨.inl rfl, .inl rfl, .inl rfl, trivial⟩ trivial trivial ?_
 refine t_op rfl (sp_move (.tmp 22) (.tup [.fr (slA 3 cS (szL q n)), iv (szE q n)]) rfl) ⟨.inl rfl, trivial⟩ trivial trivial ?_
 refine t_op rfl (sp_extract (X := .fr (slA 3 cS (szL q n))) (.tmp 19) rfl rfl) ⟨.inl rfl, trivial⟩ trivial trivial ?_
 refine t_op rfl (sp_extract (X := iv (szE q n)) (.tmp 19) rfl rfl) ⟨.inl rfl, trivial⟩ trivial trivial ?_
 refine t_op rfl (sp_assign (.tmp 23) (.fr (slA 3 cS (szL q n))) rfl) ⟨.inl rfl, trivial⟩ trivial trivial ?_
 refine t_op rfl (sp_assign (.tmp 24) (iv (szE q n)) rfl) ⟨.inl rfl, trivial⟩ trivial trivial ?_
 refine tri_nil ?_
 refine tri_wk (wk_keep [] [(4, bv false), (5, .fr (slA 3 cS (szL q n))), (6, iv (szE q n)), (7, .fr (slA 3 cS (szL q n))), (8, iv (szE q n))] (n := 51) rfl (by kernel_rfl) (by kernel_rfl)) ?_
 refine t_then ?_
 refine tri_seq ?_
 refine tri_seq ?_
 refine tri_region ?_
 refine t_op rfl (sp_move (.tmp 6) (iv (szE q n)) rfl) ⟨.inl rfl, trivial⟩ trivial trivial ?_
 refine t_op rfl (sp_move (.tmp 8) (iv (szE q n)) rfl) ⟨.inl rfl, trivial⟩ trivial trivial ?_
 refine t_op rfl (sp_neq rfl (dT' rfl)) ⟨.inl rfl, .inl rfl, trivial⟩ trivial trivial ?_
 refine t_op rfl (sp_move (.tmp 27) (bv false) rfl) ⟨.inl rfl, trivial⟩ trivial trivial ?_
 refine t_opG rfl (sp_move (.tmp 5) (.fr (slA 3 cS (szL q n))) rfl) ⟨.inl rfl, trivial⟩ trivial trivial ?_
 refine t_opG rfl (sp_lenSl (.tmp 29) rfl Tryd.underlying46) ⟨.inr (.inl rfl), trivial⟩ trivial trivial ?_
 refine t_opG rfl (sp_move (.tmp 7) (.fr (slA 3 cS (szL q n))) rfl) ⟨.inl rfl, trivial⟩ trivial trivial ?_
 refine t_opG rfl (sp_lenSl (.tmp 31) rfl Tryd.underlying46) ⟨.inr (.inl rfl), trivial⟩ trivial trivial ?_
 refine t_opG rfl (sp_neq rfl (dT' rfl)) ⟨.inl rfl, .inl rfl, trivial⟩ trivial trivial ?_
 refine t_op rfl (sp_pick (.tmp 28) (.const (.bool true)) (.tmp 33) false (bv true) (bv false) rfl) ⟨.inl rfl, .inl rfl, .inl rfl, trivial⟩ trivial trivial ?_
 refine tri_nil ?_
 refine tri_wk (wk_keep [] [(4, bv false), (5, .fr (slA 3 cS (szL q n))), (7, .fr (slA 3 cS (szL q n))), (34, bv false)] (n := 51) rfl (by kernel_rfl) (by kernel_rfl)) ?_
 refine t_then ?_
 refine t_condF rfl ?_
 refine tri_skip ?_
 refine t_then ?_
 refine tri_seq ?_
 refine tri_seq ?_
 refine tri_region ?_
 refine t_op rfl (sp_assign (.const (.int .i64 0)) (iv 0) rfl) ⟨.inl rfl, trivial⟩ trivial trivial ?_
 refine tri_nil ?_
 refine tri_wk (wk_keep [] [(4, bv false), (5, .fr (slA 3 cS (szL q n))), (7, .fr (slA 3 cS (szL q n))), (9, iv 0)] (n := 51) rfl (by kernel_rfl) (by kernel_rfl)) ?_
 refine t_then ?_
 refine tri_block ?_
 refine tri_loop (σ := {k : Nat // k ≤ (szL q n).length}) (fun s => (ofL [], ofT 51 [(5, .fr (slA 3 cS (szL q n))), (7, .fr (slA 3 cS (szL q n))), (9, iv s.1)])) (fun s => (szL q n).length - s.1) ⟨0, Nat.zero_le _⟩ (wk_keep [] _ rfl (by kernel_rfl) (by kernel_rfl)) (fun s => ?_)
 obtain ⟨k, hk0⟩ := s
 show ETri TabW w0 (ofL []) (ofT 51 [(5, .fr (slA 3 cS (szL q n))), (7, .fr (slA 3 cS (szL q n))), (9, iv k)]) _
 refine tri_seq ?_
 refine tri_seq ?_
 by_cases hs2 : ((k : Nat) : Int) < (((szL q n).length : Nat) : Int)
 refine tri_region ?_
 refine t_op rfl (sp_move (.tmp 9) (iv k) rfl) ⟨.inl rfl, trivial⟩ trivial trivial ?_
 refine t_op rfl (sp_move (.tmp 5) (.fr (slA 3 cS (szL q n))) rfl) ⟨.inl rfl, trivial⟩ trivial trivial ?_
 refine t_op rfl (sp_lenSl (.tmp 36) rfl Tryd.underlying46) ⟨.inr (.inl rfl), trivial⟩ trivial trivial ?_
 refine t_op rfl (sp_lss rfl (dT hs2)) ⟨.inl rfl, .inl rfl, trivial⟩ trivial trivial ?_
 refine tri_nil ?_
 refine tri_wk (wk_keep [] [(5, .fr (slA 3 cS (szL q n))), (7, .fr (slA 3 cS (szL q n))), (9, iv k), (38, bv true)] (n := 51) rfl (by kernel_rfl) (by kernel_rfl)) ?_
 refine t_then ?_
 refine t_condT rfl ?_
 refine tri_skip ?_
 refine t_then ?_
 refine tri_seq ?_
 refine tri_block ?_
 refine tri_seq ?_
 refine tri_draw [⟨[(.tmp 5, .fr (slA 3 cS (szL q n)))], [], .fr (slA 3 cS (szL q n)), .no⟩, ⟨[(.tmp 9, iv k)], [], iv k, .no⟩, ⟨[(.tmp 41, slA 3 cS (szL q n)), (.tmp 42, iv k)], [], .el ((szL q n).flatMap cS) (k * 3), .no⟩, ⟨[(.tmp 43, .el ((szL q n).flatMap cS) (k * 3))], [], .agg (cS (szL q n)[k]), .no⟩, ⟨[(.tmp 7, .fr (slA 3 cS (szL q n)))], [], .fr (slA 3 cS (szL q n)), .no⟩, ⟨[(.tmp 9, iv k)], [], iv k, .no⟩, ⟨[(.tmp 45, slA 3 cS (szL q n)), (.tmp 46, iv k)], [], .el ((szL q n).flatMap cS) (k * 3), .no⟩, ⟨[(.tmp 47, .el ((szL q n).flatMap cS) (k * 3))], [], .agg (cS (szL q n)[k]), .no⟩, ⟨[(.tmp 44, .agg (cS (szL q n)[k])), (.tmp 48, .agg (cS (szL q n)[k]))], [], bv false, .no⟩] (by kernel_rfl) (by kernel_rfl) ?_
 refine ⟨app_yes rfl (sp_move (.tmp 5) (.fr (slA 3 cS (szL q n))) rfl) ⟨.inl rfl, trivial⟩ trivial trivial, ?_⟩
 refine ⟨app_yes rfl (sp_move (.tmp 9) (iv k) rfl) ⟨.inl rfl, trivial⟩ trivial trivial, ?_⟩
 refine ⟨app_yes rfl (sp_indexSl (off := k * 3) (.tmp 41) (.tmp 42) rfl Tryd.underlying46 (by kernel_rfl) (by omega) (by omega) rfl) ⟨.inr (.inl rfl), .inl rfl, trivial⟩ trivial trivial, ?_⟩
 refine ⟨app_yes rfl (sp_loadElS (z := 3) (.tmp 43) rfl Tryd.underlying44 rfl (by kernel_rfl) (flat_take lenS (szL q n) k (by omega)) rfl) ⟨.inl rfl, trivial⟩ trivial trivial, ?_⟩
 refine ⟨app_yes rfl (sp_move (.tmp 7) (.fr (slA 3 cS (szL q n))) rfl) ⟨.inl rfl, trivial⟩ trivial trivial, ?_⟩
 refine ⟨app_yes rfl (sp_move (.tmp 9) (iv k) rfl) ⟨.inl rfl, trivial⟩ trivial trivial, ?_⟩
 refine ⟨app_yes rfl (sp_indexSl (off := k * 3) (.tmp 45) (.tmp 46) rfl Tryd.underlying46 (by kernel_rfl) (by omega) (by omega) rfl) ⟨.inr (.inl rfl), .inl rfl, trivial⟩ trivial trivial, ?_⟩
 refine ⟨app_yes rfl (sp_loadElS (z := 3) (.tmp 47) rfl Tryd.underlying44 rfl (by kernel_rfl) (flat_take lenS (szL q n) k (by omega)) rfl) ⟨.inl rfl, trivial⟩ trivial trivial, ?_⟩
 refine ⟨app_yes rfl (sp_aggNeq [.int .i64 ((szL q n)[k].n), .int .i64 ((szL q n)[k].t), .int .i64 ((szL q n)[k].f)] rfl (by kernel_rfl) (fun w => eqn_sz _ _ _ w)) ⟨.inl rfl, .inl rfl, trivial⟩ trivial trivial, ?_⟩
 show ETri TabW w0 _ _ _
 refine tri_wk (wk_keep [] [(5, .fr (slA 3 cS (szL q n))), (7, .fr (slA 3 cS (szL q n))), (9, iv k), (38, bv true), (49, bv false)] (n := 51) rfl (by kernel_rfl) (by kernel_rfl)) ?_
 refine t_then ?_
 refine t_condF rfl ?_
 refine tri_skip ?_
 refine t_block ?_
 refine t_then ?_
 refine tri_region ?_
 refine t_op rfl (sp_move (.tmp 9) (iv k) rfl) ⟨.inl rfl, trivial⟩ trivial trivial ?_
 refine t_op rfl (sp_add (c := ((k + 1 : Nat) : Int)) rfl (w64 (by omega) (by omega) (by omega))) ⟨.inl rfl, .inl rfl, trivial⟩ trivial trivial ?_
 refine t_op rfl (sp_assign (.tmp 40) (iv (k + 1 : Nat)) rfl) ⟨.inl rfl, trivial⟩ trivial trivial ?_
 refine tri_nil ?_
 refine tri_wk (wk_keep [] [(5, .fr (slA 3 cS (szL q n))), (7, .fr (slA 3 cS (szL q n))), (9, iv (k + 1 : Nat)), (38, bv true), (49, bv false)] (n := 51) rfl (by kernel_rfl) (by kernel_rfl)) ?_
 refine t_then ?_
 refine tri_again ⟨k + 1, by omega⟩ (show (szL q n).length - (k + 1) < (szL q n).length - k by omega) ?_
 exact wk_keep [] _ rfl (by kernel_rfl) (by kernel_rfl)
 refine tri_region ?_
 refine t_op rfl (sp_move (.tmp 9) (iv k) rfl) ⟨.inl rfl, trivial⟩ trivial trivial ?_
 refine t_op rfl (sp_move (.tmp 5) (.fr (slA 3 cS (szL q n))) rfl) ⟨.inl rfl, trivial⟩ trivial trivial ?_
 refine t_op rfl (sp_lenSl (.tmp 36) rfl Tryd.underlying46) ⟨.inr (.inl rfl), trivial⟩ trivial trivial ?_
 refine t_op rfl (sp_lss rfl (dF hs2)) ⟨.inl rfl, .inl rfl, trivial⟩ trivial trivial ?_
 refine tri_nil ?_
 refine tri_wk (wk_keep [] [(5, .fr (slA 3 cS (szL q n))), (7, .fr (slA 3 cS (szL q n))), (9, iv k), (38, bv false)] (n := 51) rfl (by kernel_rfl) (by kernel_rfl)) ?_
 refine t_then ?_
 refine t_condF rfl ?_
 refine tri_exit ?_
 refine t_then_exit ?_
 refine t_then_exit ?_
 refine t_hit ?_
 refine t_then ?_
 refine tri_seq ?_
 refine tri_region ?_
 refine t_op rfl (sp_call (c := .func 14) (xs := #[]) [] known_c rfl (by kernel_rfl) rfl (Xs := []) rfl rfl rfl) ⟨.inl rfl, trivial⟩ trivial trivial ?_
 refine t_op rfl (sp_assign (.tmp 50) (bv true) rfl) ⟨.inl rfl, trivial⟩ trivial trivial ?_
 refine tri_nil ?_
 refine tri_wk (wk_keep [] [(4, bv true)] (n := 51) rfl (by kernel_rfl) (by kernel_rfl)) ?_
 refine t_then ?_
 refine tri_ret ?_
 refine tri_end1 Tryd.results7 (.tmp rfl) ?_
 exact rfl
theorem walk_Sizes {v : Value} {q : Fm} {n : Int} (w : World) (hq : IsFam 0 w v q) (_ : I64 n) (ht : TabW w) :
    Calls Tryd.prog 7 #[v, .int .i64 n] w fun e w' => e = .returned (.bool true) ∧ Below w.heap.size w w' :=
  walk2 (lawSizes_c hq.ok n) (famw hq) (.v _) ht
end Go.Proofs.YtmpbfdfjcfanoaaDoor

/-
  THE TABLE THAT strconv READS, out of a row's condition on the listed variables.
-/
namespace Go.Proofs.YtmpbfdfjcfanoaaDoor
open Go.RowKit Go.Deep

theorem tab_of_laid {W : World} (h : laidMetH Tryd.prog [("math/bits.deBruijn32tab", Rows.laid_math_bits_deBruijn32tab), ("math/bits.deBruijn64tab", Rows.laid_math_bits_deBruijn64tab), ("internal/strconv.uint64pow10", Rows.laid_internal_strconv_uint64pow10)] W) : TabW W := by
  have h1 := h.filter fun x => x.1 == "internal/strconv.uint64pow10"
  have h2 := (laidMetH_iff.1 h1).1
  have e : ((([("math/bits.deBruijn32tab", Rows.laid_math_bits_deBruijn32tab), ("math/bits.deBruijn64tab", Rows.laid_math_bits_deBruijn64tab), ("internal/strconv.uint64pow10", Rows.laid_internal_strconv_uint64pow10)] : List (String × DataW Unit)).filter fun x => x.1 == "internal/strconv.uint64pow10").filter fun x => x.2.handleName?.isNone) = [("internal/strconv.uint64pow10", Go.Lib.tabData .u64 Go.Lib.pow10Tab)] := by kernel_rfl
  rw [e] at h2
  exact Go.Lib.tabIs_of_head (g := 0) (t := 142) (e := 134) (n := 20) (by kernel_rfl) (by kernel_rfl) Tryd.underlying142 Tryd.underlying134 (by kernel_rfl) (by kernel_rfl) h2
end Go.Proofs.YtmpbfdfjcfanoaaDoor
