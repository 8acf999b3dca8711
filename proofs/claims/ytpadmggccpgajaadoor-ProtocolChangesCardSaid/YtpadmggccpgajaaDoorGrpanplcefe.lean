import Derived.Test.YtpadmggccpgajaaDoorRows
import Derived.Lib.LaidTab
import Derived.LaidSub
import Derived.Test.YtpadmggccpgajaaDoorGrpkcbgacoe
import Derived.Test.YtpadmggccpgajaaDoorGrppbcncjnd
import Derived.Test.YtpadmggccpgajaaDoorGrpggjbikof
set_option linter.all false
namespace Go.Proofs.YtpadmggccpgajaaDoor
open Go.RowKit Go.Deep
variable {J : World → Prop}
set_option linter.unusedSimpArgs false in
set_option linter.unusedVariables false in
set_option maxRecDepth 100000 in
set_option maxHeartbeats 6400000 in
theorem lawChanges_c {a b : Fm} (HA : FmOk a) (HB : FmOk b) : Ctr Tryd.prog TabW 4 [.agg (cFm a), .agg (cFm b)] (bv true) := by
 refine ctr_of_tri Tryd.func4 rfl (by intro X hX; simp only [List.mem_cons, List.not_mem_nil, or_false] at hX; rcases hX with rfl | rfl; exact plain_agg (plain_fm a); exact plain_agg (plain_fm b)) (n := 55) rfl (by simp) (fun w0 => ?_)
 refine tri_wk (wk_keep [] [(0, .agg (cFm a)), (1, .agg (cFm b))] (n := 55)) ?_
 refine tri_seq ?_
 refine tri_region ?_
 refine t_op rfl (sp_box (X := .agg (cFm a)) (k := 1) (.tmp 0) rfl rfl) ⟨I0, T0⟩ T0 rfl ?_
 refine t_op rfl (sp_box (X := .agg (cFm b)) (k := 2) (.tmp 1) rfl rfl) ⟨I0, T0⟩ T0 rfl ?_
 refine t_op rfl (sp_assign (.const (.bool false)) (bv false) rfl) ⟨I0, T0⟩ T0 T0 ?_
 refine tri_nil ?_
 refine tri_wk (wk_keep [(1, .box 27 (cFm a)), (2, .box 27 (cFm b))] [(2, .box 1 0), (3, .box 2 0), (4, bv false)] (n := 55)) ?_
 refine t_then ?_
 refine tri_seq ?_
 refine tri_seq ?_
 by_cases hs1 : (bigF a) = true
 refine tri_region ?_
 refine t_op rfl (sp_loadBoxS (Y := .box 27 (cFm a)) (ds := cFm a) (z := 10) (.tmp 2) rfl Tryd.underlying27 rfl (by kernel_rfl) (by decide) (by kernel_rfl) (by kernel_rfl)) ⟨I0, T0⟩ ⟨rfl, T0⟩ T0 ?_
 refine t_op rfl (sp_call (c := .func 12) (xs := #[.tmp 9]) [] (ctr_b (Big_c HA) hs1) rfl (by kernel_rfl) rfl (Xs := [.agg (cFm a)]) rfl rfl rfl) ⟨I0, I0, T0⟩ T0 T0 ?_
 refine t_op rfl (sp_move (.tmp 10) (bv true) rfl) ⟨I0, T0⟩ T0 T0 ?_
 refine t_skip rfl ?_
 refine t_skip rfl ?_
 refine t_op rfl (sp_pick (.tmp 11) (.const (.bool true)) (.tmp 13) true (bv true) (.v (.tuple #[])) rfl) ⟨I0, I0, I0, T0⟩ T0 T0 ?_
 refine tri_nil ?_
 refine tri_wk (wk_keep [(1, .box 27 (cFm a)), (2, .box 27 (cFm b))] [(2, .box 1 0), (3, .box 2 0), (4, bv false), (14, bv true)] (n := 55)) ?_
 refine t_then ?_
 refine t_condT rfl ?_
 refine tri_seq ?_
 refine tri_region ?_
 refine t_op rfl (sp_call (c := .func 14) (xs := #[]) [] known_c rfl (by kernel_rfl) rfl (Xs := []) rfl rfl rfl) ⟨I0, T0⟩ T0 T0 ?_
 refine t_op rfl (sp_assign (.tmp 15) (bv true) rfl) ⟨I0, T0⟩ T0 T0 ?_
 refine tri_nil ?_
 refine tri_wk (wk_keep [(1, .box 27 (cFm a)), (2, .box 27 (cFm b))] [(2, .box 1 0), (3, .box 2 0), (4, bv true)] (n := 55)) ?_
 refine t_then ?_
 refine tri_ret ?_
 refine t_then_ret ?_
 refine tri_end1 Tryd.results4 (.tmp rfl) ?_
 exact rfl
 have hs1f : (bigF a) = false := by simpa using hs1
 by_cases hs2 : (bigF b) = true
 refine tri_region ?_
 refine t_op rfl (sp_loadBoxS (Y := .box 27 (cFm a)) (ds := cFm a) (z := 10) (.tmp 2) rfl Tryd.underlying27 rfl (by kernel_rfl) (by decide) (by kernel_rfl) (by kernel_rfl)) ⟨I0, T0⟩ ⟨rfl, T0⟩ T0 ?_
 refine t_op rfl (sp_call (c := .func 12) (xs := #[.tmp 9]) [] (ctr_b (Big_c HA) hs1f) rfl (by kernel_rfl) rfl (Xs := [.agg (cFm a)]) rfl rfl rfl) ⟨I0, I0, T0⟩ T0 T0 ?_
 refine t_op rfl (sp_move (.tmp 10) (bv false) rfl) ⟨I0, T0⟩ T0 T0 ?_
 refine t_opG rfl (sp_loadBoxS (Y := .box 27 (cFm b)) (ds := cFm b) (z := 10) (.tmp 3) rfl Tryd.underlying27 rfl (by kernel_rfl) (by decide) (by kernel_rfl) (by kernel_rfl)) ⟨I0, T0⟩ ⟨rfl, T0⟩ T0 ?_
 refine t_opG rfl (sp_call (c := .func 12) (xs := #[.tmp 12]) [] (ctr_b (Big_c HB) hs2) rfl (by kernel_rfl) rfl (Xs := [.agg (cFm b)]) rfl rfl rfl) ⟨I0, I0, T0⟩ T0 T0 ?_
 refine t_op rfl (sp_pick (.tmp 11) (.const (.bool true)) (.tmp 13) false (bv true) (bv true) rfl) ⟨I0, I0, I0, T0⟩ T0 T0 ?_
 refine tri_nil ?_
 refine tri_wk (wk_keep [(1, .box 27 (cFm a)), (2, .box 27 (cFm b))] [(2, .box 1 0), (3, .box 2 0), (4, bv false), (14, bv true)] (n := 55)) ?_
 refine t_then ?_
 refine t_condT rfl ?_
 refine tri_seq ?_
 refine tri_region ?_
 refine t_op rfl (sp_call (c := .func 14) (xs := #[]) [] known_c rfl (by kernel_rfl) rfl (Xs := []) rfl rfl rfl) ⟨I0, T0⟩ T0 T0 ?_
 refine t_op rfl (sp_assign (.tmp 15) (bv true) rfl) ⟨I0, T0⟩ T0 T0 ?_
 refine tri_nil ?_
 refine tri_wk (wk_keep [(1, .box 27 (cFm a)), (2, .box 27 (cFm b))] [(2, .box 1 0), (3, .box 2 0), (4, bv true)] (n := 55)) ?_
 refine t_then ?_
 refine tri_ret ?_
 refine t_then_ret ?_
 refine tri_end1 Tryd.results4 (.tmp rfl) ?_
 exact rfl
 have hs2f : (bigF b) = false := by simpa using hs2
 refine tri_region ?_
 refine t_op rfl (sp_loadBoxS (Y := .box 27 (cFm a)) (ds := cFm a) (z := 10) (.tmp 2) rfl Tryd.underlying27 rfl (by kernel_rfl) (by decide) (by kernel_rfl) (by kernel_rfl)) ⟨I0, T0⟩ ⟨rfl, T0⟩ T0 ?_
 refine t_op rfl (sp_call (c := .func 12) (xs := #[.tmp 9]) [] (ctr_b (Big_c HA) hs1f) rfl (by kernel_rfl) rfl (Xs := [.agg (cFm a)]) rfl rfl rfl) ⟨I0, I0, T0⟩ T0 T0 ?_
 refine t_op rfl (sp_move (.tmp 10) (bv false) rfl) ⟨I0, T0⟩ T0 T0 ?_
 refine t_opG rfl (sp_loadBoxS (Y := .box 27 (cFm b)) (ds := cFm b) (z := 10) (.tmp 3) rfl Tryd.underlying27 rfl (by kernel_rfl) (by decide) (by kernel_rfl) (by kernel_rfl)) ⟨I0, T0⟩ ⟨rfl, T0⟩ T0 ?_
 refine t_opG rfl (sp_call (c := .func 12) (xs := #[.tmp 12]) [] (ctr_b (Big_c HB) hs2f) rfl (by kernel_rfl) rfl (Xs := [.agg (cFm b)]) rfl rfl rfl) ⟨I0, I0, T0⟩ T0 T0 ?_
 refine t_op rfl (sp_pick (.tmp 11) (.const (.bool true)) (.tmp 13) false (bv true) (bv false) rfl) ⟨I0, I0, I0, T0⟩ T0 T0 ?_
 refine tri_nil ?_
 refine tri_wk (wk_keep [(1, .box 27 (cFm a)), (2, .box 27 (cFm b))] [(2, .box 1 0), (3, .box 2 0), (4, bv false), (14, bv false)] (n := 55)) ?_
 refine t_then ?_
 refine t_condF rfl ?_
 refine tri_skip ?_
 refine t_then ?_
 refine tri_seq ?_
 refine tri_region ?_
 refine t_op rfl (sp_loadBoxS (Y := .box 27 (cFm a)) (ds := cFm a) (z := 10) (.tmp 2) rfl Tryd.underlying27 rfl (by kernel_rfl) (by decide) (by kernel_rfl) (by kernel_rfl)) ⟨I0, T0⟩ ⟨rfl, T0⟩ T0 ?_
 refine t_op rfl (sp_loadBoxS (Y := .box 27 (cFm b)) (ds := cFm b) (z := 10) (.tmp 3) rfl Tryd.underlying27 rfl (by kernel_rfl) (by decide) (by kernel_rfl) (by kernel_rfl)) ⟨I0, T0⟩ ⟨rfl, T0⟩ T0 ?_
 refine t_op rfl (sp_call (c := .func 22) (xs := #[.tmp 17, .tmp 18]) [] (qChanged_c HA HB) rfl (by kernel_rfl) rfl (Xs := [.agg (cFm a), .agg (cFm b)]) rfl rfl rfl) ⟨I0, I0, I0, T0⟩ T0 T0 ?_
 refine t_op rfl (sp_move (.tmp 19) (.tup [.fr (.agg (chA a b)), iv (chE a b)]) rfl) ⟨I0, T0⟩ T0 T0 ?_
 refine t_op rfl (sp_extract (X := .fr (.agg (chA a b))) (.tmp 16) rfl rfl) ⟨I0, T0⟩ T0 T0 ?_
 refine t_op rfl (sp_extract (X := iv (chE a b)) (.tmp 16) rfl rfl) ⟨I0, T0⟩ T0 T0 ?_
 refine t_op rfl (sp_alloc (z := .agg #[.bool false, .bool false, .slice none 0 0]) (k := 3) rfl (by kernel_rfl)) T0 T0 rfl ?_
 refine t_op rfl (sp_storeBox (T0 := 44) (X := .agg [bv (chS a b), bv (chO a b), .fr (intsA (chR a b))]) (cs := [bv false, bv false, .v (.slice none 0 0)]) (ds := [bv (chS a b), bv (chO a b), .fr (intsA (chR a b))]) (z := 3) (.tmp 5) (.tmp 20) rfl (by kernel_rfl) (by kernel_rfl) (by kernel_rfl) (of_decide_eq_true (by kernel_rfl)) (by kernel_rfl)) ⟨I0, .inr (.inr ⟨_, rfl, rfl⟩), T0⟩ ⟨rfl, T0⟩ rfl ?_
 refine t_op rfl (sp_assign (.tmp 21) (iv (chE a b)) rfl) ⟨I0, T0⟩ T0 T0 ?_
 refine tri_nil ?_
 refine tri_wk (wk_keep [(1, .box 27 (cFm a)), (2, .box 27 (cFm b)), (3, .box 44 [bv (chS a b), bv (chO a b), .fr (intsA (chR a b))])] [(2, .box 1 0), (3, .box 2 0), (4, bv false), (5, .box 3 0), (6, iv (chE a b))] (n := 55)) ?_
 refine t_then ?_
 refine tri_seq ?_
 refine tri_region ?_
 refine t_op rfl (sp_loadBoxS (Y := .box 27 (cFm a)) (ds := cFm a) (z := 10) (.tmp 2) rfl Tryd.underlying27 rfl (by kernel_rfl) (by decide) (by kernel_rfl) (by kernel_rfl)) ⟨I0, T0⟩ ⟨rfl, T0⟩ T0 ?_
 refine t_op rfl (sp_loadBoxS (Y := .box 27 (cFm b)) (ds := cFm b) (z := 10) (.tmp 3) rfl Tryd.underlying27 rfl (by kernel_rfl) (by decide) (by kernel_rfl) (by kernel_rfl)) ⟨I0, T0⟩ ⟨rfl, T0⟩ T0 ?_
 refine t_op rfl (sp_call (c := .func 23) (xs := #[.tmp 23, .tmp 24]) [] (rChanged_c HA HB) rfl (by kernel_rfl) rfl (Xs := [.agg (cFm a), .agg (cFm b)]) rfl rfl rfl) ⟨I0, I0, I0, T0⟩ T0 T0 ?_
 refine t_op rfl (sp_move (.tmp 25) (.tup [.fr (.agg (chA a b)), iv (chE a b)]) rfl) ⟨I0, T0⟩ T0 T0 ?_
 refine t_op rfl (sp_extract (X := .fr (.agg (chA a b))) (.tmp 22) rfl rfl) ⟨I0, T0⟩ T0 T0 ?_
 refine t_op rfl (sp_extract (X := iv (chE a b)) (.tmp 22) rfl rfl) ⟨I0, T0⟩ T0 T0 ?_
 refine t_op rfl (sp_alloc (z := .agg #[.bool false, .bool false, .slice none 0 0]) (k := 4) rfl (by kernel_rfl)) T0 T0 rfl ?_
 refine t_op rfl (sp_storeBox (T0 := 47) (X := .agg [bv (chS a b), bv (chO a b), .fr (intsA (chR a b))]) (cs := [bv false, bv false, .v (.slice none 0 0)]) (ds := [bv (chS a b), bv (chO a b), .fr (intsA (chR a b))]) (z := 3) (.tmp 7) (.tmp 26) rfl (by kernel_rfl) (by kernel_rfl) (by kernel_rfl) (of_decide_eq_true (by kernel_rfl)) (by kernel_rfl)) ⟨I0, .inr (.inr ⟨_, rfl, rfl⟩), T0⟩ ⟨rfl, T0⟩ rfl ?_
 refine t_op rfl (sp_assign (.tmp 27) (iv (chE a b)) rfl) ⟨I0, T0⟩ T0 T0 ?_
 refine tri_nil ?_
 refine tri_wk (wk_keep [(3, .box 44 [bv (chS a b), bv (chO a b), .fr (intsA (chR a b))]), (4, .box 47 [bv (chS a b), bv (chO a b), .fr (intsA (chR a b))])] [(4, bv false), (5, .box 3 0), (6, iv (chE a b)), (7, .box 4 0), (8, iv (chE a b))] (n := 55)) ?_
 refine t_then ?_
 refine tri_seq ?_
 refine tri_region ?_
 refine t_op rfl (sp_move (.tmp 6) (iv (chE a b)) rfl) ⟨I0, T0⟩ T0 T0 ?_
 refine t_op rfl (sp_move (.tmp 8) (iv (chE a b)) rfl) ⟨I0, T0⟩ T0 T0 ?_
 refine t_op rfl (sp_eql rfl (dT rfl)) ⟨I0, I0, T0⟩ T0 T0 ?_
 refine t_op rfl (sp_move (.tmp 30) (bv true) rfl) ⟨I0, T0⟩ T0 T0 ?_
 refine t_opG rfl (sp_fieldBox (off' := 0) (.tmp 5) rfl Tryd.underlying44 rfl (z := 1) (by kernel_rfl) (by decide) rfl) ⟨I0, T0⟩ T0 T0 ?_
 refine t_opG rfl (sp_loadBox1 (Y := .box 44 [bv (chS a b), bv (chO a b), .fr (intsA (chR a b))]) (X := bv (chS a b)) (.tmp 32) rfl Tryd.underlying4 rfl rfl) ⟨I0, T0⟩ ⟨rfl, T0⟩ T0 ?_
 refine t_opG rfl (sp_fieldBox (off' := 0) (.tmp 7) rfl Tryd.underlying47 rfl (z := 1) (by kernel_rfl) (by decide) rfl) ⟨I0, T0⟩ T0 T0 ?_
 refine t_opG rfl (sp_loadBox1 (Y := .box 47 [bv (chS a b), bv (chO a b), .fr (intsA (chR a b))]) (X := bv (chS a b)) (.tmp 34) rfl Tryd.underlying4 rfl rfl) ⟨I0, T0⟩ ⟨rfl, T0⟩ T0 ?_
 refine t_opG rfl (sp_beql rfl Tryd.underlying4 (beq_self_eq_true _)) ⟨I0, I0, T0⟩ T0 T0 ?_
 refine t_op rfl (sp_pick (.tmp 31) (.tmp 36) (.const (.bool false)) true (bv true) (bv false) rfl) ⟨I0, I0, I0, T0⟩ T0 T0 ?_
 refine t_op rfl (sp_move (.tmp 37) (bv true) rfl) ⟨I0, T0⟩ T0 T0 ?_
 refine t_opG rfl (sp_fieldBox (off' := 1) (.tmp 5) rfl Tryd.underlying44 rfl (z := 1) (by kernel_rfl) (by decide) rfl) ⟨I0, T0⟩ T0 T0 ?_
 refine t_opG rfl (sp_loadBox1 (Y := .box 44 [bv (chS a b), bv (chO a b), .fr (intsA (chR a b))]) (X := bv (chO a b)) (.tmp 39) rfl Tryd.underlying4 rfl rfl) ⟨I0, T0⟩ ⟨rfl, T0⟩ T0 ?_
 refine t_opG rfl (sp_fieldBox (off' := 1) (.tmp 7) rfl Tryd.underlying47 rfl (z := 1) (by kernel_rfl) (by decide) rfl) ⟨I0, T0⟩ T0 T0 ?_
 refine t_opG rfl (sp_loadBox1 (Y := .box 47 [bv (chS a b), bv (chO a b), .fr (intsA (chR a b))]) (X := bv (chO a b)) (.tmp 41) rfl Tryd.underlying4 rfl rfl) ⟨I0, T0⟩ ⟨rfl, T0⟩ T0 ?_
 refine t_opG rfl (sp_beql rfl Tryd.underlying4 (beq_self_eq_true _)) ⟨I0, I0, T0⟩ T0 T0 ?_
 refine t_op rfl (sp_pick (.tmp 38) (.tmp 43) (.const (.bool false)) true (bv true) (bv false) rfl) ⟨I0, I0, I0, T0⟩ T0 T0 ?_
 refine t_op rfl (sp_move (.tmp 44) (bv true) rfl) ⟨I0, T0⟩ T0 T0 ?_
 refine t_opG rfl (sp_fieldBox (off' := 2) (.tmp 5) rfl Tryd.underlying44 rfl (z := 1) (by kernel_rfl) (by decide) rfl) ⟨I0, T0⟩ T0 T0 ?_
 refine t_opG rfl (sp_loadBox1 (Y := .box 44 [bv (chS a b), bv (chO a b), .fr (intsA (chR a b))]) (X := .fr (intsA (chR a b))) (.tmp 46) rfl Tryd.underlying24 rfl rfl) ⟨I0, T0⟩ ⟨rfl, T0⟩ T0 ?_
 refine t_opG rfl (sp_fieldBox (off' := 2) (.tmp 7) rfl Tryd.underlying47 rfl (z := 1) (by kernel_rfl) (by decide) rfl) ⟨I0, T0⟩ T0 T0 ?_
 refine t_opG rfl (sp_loadBox1 (Y := .box 47 [bv (chS a b), bv (chO a b), .fr (intsA (chR a b))]) (X := .fr (intsA (chR a b))) (.tmp 48) rfl Tryd.underlying24 rfl rfl) ⟨I0, T0⟩ ⟨rfl, T0⟩ T0 ?_
 refine t_opG rfl (sp_call (c := .func 19) (xs := #[.tmp 47, .tmp 49]) [] (ctr_b (sameIntsG (chR a b) (chR a b) (chR_ok HB.lrules) (chR_ok HB.lrules)) (dec_t rfl)) rfl (by kernel_rfl) rfl (Xs := [intsA (chR a b), intsA (chR a b)]) rfl rfl rfl) ⟨I0, .inr (.inl rfl), .inr (.inl rfl), T0⟩ T0 T0 ?_
 refine t_op rfl (sp_pick (.tmp 45) (.tmp 50) (.const (.bool false)) true (bv true) (bv false) rfl) ⟨I0, I0, I0, T0⟩ T0 T0 ?_
 refine t_op rfl (sp_move (.tmp 51) (bv true) rfl) ⟨I0, T0⟩ T0 T0 ?_
 refine t_opG rfl (sp_call (c := .func 14) (xs := #[]) [] known_c rfl (by kernel_rfl) rfl (Xs := []) rfl rfl rfl) ⟨I0, T0⟩ T0 T0 ?_
 refine t_op rfl (sp_pick (.tmp 52) (.tmp 53) (.const (.bool false)) true (bv true) (bv false) rfl) ⟨I0, I0, I0, T0⟩ T0 T0 ?_
 refine t_op rfl (sp_assign (.tmp 54) (bv true) rfl) ⟨I0, T0⟩ T0 T0 ?_
 refine tri_nil ?_
 refine tri_wk (wk_keep [] [(4, bv true)] (n := 55)) ?_
 refine t_then ?_
 refine tri_ret ?_
 refine tri_end1 Tryd.results4 (.tmp rfl) ?_
 exact rfl
theorem walk_Changes {v v' : Value} {a b : Fm} (w : World) (ha : IsFam 0 w v a) (hb : IsFam 0 w v' b) (ht : TabW w) :
    Calls Tryd.prog 4 #[v, v'] w fun e w' => e = .returned (.bool true) ∧ Below w.heap.size w w' :=
  walk2 (lawChanges_c ha.ok hb.ok) (famw ha) (famw hb) ht
end Go.Proofs.YtpadmggccpgajaaDoor

namespace Go.Proofs.YtpadmggccpgajaaDoor
open Go.RowKit Go.Deep

theorem tab_of_laid {W : World} (h : laidMetH Tryd.prog [("math/bits.deBruijn32tab", Rows.laid_math_bits_deBruijn32tab), ("math/bits.deBruijn64tab", Rows.laid_math_bits_deBruijn64tab), ("internal/strconv.uint64pow10", Rows.laid_internal_strconv_uint64pow10)] W) : TabW W := by
  have h1 := h.filter fun x => x.1 == "internal/strconv.uint64pow10"
  have h2 := (laidMetH_iff.1 h1).1
  have e : ((([("math/bits.deBruijn32tab", Rows.laid_math_bits_deBruijn32tab), ("math/bits.deBruijn64tab", Rows.laid_math_bits_deBruijn64tab), ("internal/strconv.uint64pow10", Rows.laid_internal_strconv_uint64pow10)] : List (String × DataW Unit)).filter fun x => x.1 == "internal/strconv.uint64pow10").filter fun x => x.2.handleName?.isNone) = [("internal/strconv.uint64pow10", Go.Lib.tabData .u64 Go.Lib.pow10Tab)] := by kernel_rfl
  rw [e] at h2
  exact Go.Lib.tabIs_of_head (g := 0) (t := 207) (e := 195) (n := 20) (by kernel_rfl) (by kernel_rfl) Tryd.underlying207 Tryd.underlying195 (by kernel_rfl) (by kernel_rfl) h2
end Go.Proofs.YtpadmggccpgajaaDoor
