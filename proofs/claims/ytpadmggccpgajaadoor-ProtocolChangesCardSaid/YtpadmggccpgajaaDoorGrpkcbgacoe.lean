import Derived.Test.YtpadmggccpgajaaDoorGrpdpdiaocm
import Derived.Test.YtpadmggccpgajaaDoorGrpbhhbcgpn
set_option linter.all false
namespace Go.Proofs.YtpadmggccpgajaaDoor
open Go.RowKit Go.Deep
variable {J : World → Prop}
set_option linter.unusedSimpArgs false in
set_option linter.unusedVariables false in
set_option maxRecDepth 100000 in
set_option maxHeartbeats 6400000 in
theorem rChanged_c {a b : Fm} (HA : FmOk a) (HB : FmOk b) : Ctr Tryd.prog J 23 [.agg (cFm a), .agg (cFm b)] (.tup [.agg (chA a b), iv (chE a b)]) := by
 have l1 := HA.lrules
 have l2 := HB.lrules
 refine ctr_of_tri Tryd.func23 rfl (by intro X hX; simp only [List.mem_cons, List.not_mem_nil, or_false] at hX; rcases hX with rfl | rfl; exact plain_agg (plain_fm a); exact plain_agg (plain_fm b)) (n := 156) rfl (by simp) (fun w0 => ?_)
 refine tri_wk (wk_keep [] [(0, .agg (cFm a)), (1, .agg (cFm b))] (n := 156)) ?_
 refine tri_seq ?_
 refine tri_region ?_
 refine t_op rfl (sp_box (X := .agg (cFm a)) (k := 1) (.tmp 0) rfl rfl) ⟨I0, T0⟩ T0 rfl ?_
 refine t_op rfl (sp_box (X := .agg (cFm b)) (k := 2) (.tmp 1) rfl rfl) ⟨I0, T0⟩ T0 rfl ?_
 refine t_op rfl (sp_alloc (z := .agg #[.bool false, .bool false, .slice none 0 0]) (k := 3) rfl (by kernel_rfl)) T0 T0 rfl ?_
 refine t_op rfl (sp_assign (.const (.int .i64 0)) (iv 0) rfl) ⟨I0, T0⟩ T0 T0 ?_
 refine tri_nil ?_
 refine tri_wk (wk_keep [(1, .box 27 (cFm a)), (2, .box 27 (cFm b)), (3, .box 47 [bv false, bv false, .v (.slice none 0 0)])] [(2, .box 1 0), (3, .box 2 0), (4, .box 3 0), (5, iv 0)] (n := 156)) ?_
 refine t_then ?_
 refine tri_seq ?_
 refine tri_seq ?_
 refine tri_region ?_
 refine t_op rfl (sp_loadBoxS (Y := .box 27 (cFm a)) (ds := cFm a) (z := 10) (.tmp 2) rfl Tryd.underlying27 rfl (by kernel_rfl) (by decide) (by kernel_rfl) (by kernel_rfl)) ⟨I0, T0⟩ ⟨rfl, T0⟩ T0 ?_
 refine t_op rfl (sp_call (c := .func 62) (xs := #[.tmp 12]) [] (rValidate_c HA) rfl (by kernel_rfl) rfl (Xs := [.agg (cFm a)]) rfl rfl rfl) ⟨I0, I0, T0⟩ T0 T0 ?_
 refine t_op rfl (sp_assign (.tmp 13) (iv (valE a)) rfl) ⟨I0, T0⟩ T0 T0 ?_
 refine tri_nil ?_
 refine tri_wk (wk_keep [(1, .box 27 (cFm a)), (2, .box 27 (cFm b)), (3, .box 47 [bv false, bv false, .v (.slice none 0 0)])] [(2, .box 1 0), (3, .box 2 0), (4, .box 3 0), (5, iv 0), (6, iv (valE a))] (n := 156)) ?_
 refine t_then ?_
 refine tri_seq ?_
 by_cases hs1 : valE a = 0
 refine tri_region ?_
 refine t_op rfl (sp_move (.tmp 6) (iv (valE a)) rfl) ⟨I0, T0⟩ T0 T0 ?_
 refine t_op rfl (sp_neq rfl (dT' hs1)) ⟨I0, I0, T0⟩ T0 T0 ?_
 refine tri_nil ?_
 refine tri_wk (wk_keep [(1, .box 27 (cFm a)), (2, .box 27 (cFm b)), (3, .box 47 [bv false, bv false, .v (.slice none 0 0)])] [(2, .box 1 0), (3, .box 2 0), (4, .box 3 0), (5, iv 0), (6, iv (valE a)), (15, bv false)] (n := 156)) ?_
 refine t_then ?_
 refine t_condF rfl ?_
 refine tri_skip ?_
 refine t_then ?_
 refine tri_seq ?_
 refine tri_seq ?_
 refine tri_region ?_
 refine t_op rfl (sp_loadBoxS (Y := .box 27 (cFm b)) (ds := cFm b) (z := 10) (.tmp 3) rfl Tryd.underlying27 rfl (by kernel_rfl) (by decide) (by kernel_rfl) (by kernel_rfl)) ⟨I0, T0⟩ ⟨rfl, T0⟩ T0 ?_
 refine t_op rfl (sp_call (c := .func 62) (xs := #[.tmp 18]) [] (rValidate_c HB) rfl (by kernel_rfl) rfl (Xs := [.agg (cFm b)]) rfl rfl rfl) ⟨I0, I0, T0⟩ T0 T0 ?_
 refine t_op rfl (sp_assign (.tmp 19) (iv (valE b)) rfl) ⟨I0, T0⟩ T0 T0 ?_
 refine tri_nil ?_
 refine tri_wk (wk_keep [(1, .box 27 (cFm a)), (2, .box 27 (cFm b)), (3, .box 47 [bv false, bv false, .v (.slice none 0 0)])] [(2, .box 1 0), (3, .box 2 0), (4, .box 3 0), (5, iv 0), (7, iv (valE b))] (n := 156)) ?_
 refine t_then ?_
 refine tri_seq ?_
 by_cases hs2 : valE b = 0
 refine tri_region ?_
 refine t_op rfl (sp_move (.tmp 7) (iv (valE b)) rfl) ⟨I0, T0⟩ T0 T0 ?_
 refine t_op rfl (sp_neq rfl (dT' hs2)) ⟨I0, I0, T0⟩ T0 T0 ?_
 refine tri_nil ?_
 refine tri_wk (wk_keep [(1, .box 27 (cFm a)), (2, .box 27 (cFm b)), (3, .box 47 [bv false, bv false, .v (.slice none 0 0)])] [(2, .box 1 0), (3, .box 2 0), (4, .box 3 0), (5, iv 0), (7, iv (valE b)), (21, bv false)] (n := 156)) ?_
 refine t_then ?_
 refine t_condF rfl ?_
 refine tri_skip ?_
 refine t_then ?_
 refine tri_seq ?_
 refine tri_region ?_
 refine t_op rfl (sp_bld [] #[.bool false, .bool false, .slice none 0 0] rfl rfl (by kernel_rfl) rfl) T0 T0 T0 ?_
 refine t_op rfl (sp_alloc (z := .agg #[.bool false, .bool false, .slice none 0 0]) (k := 4) rfl (by kernel_rfl)) T0 T0 rfl ?_
 refine t_op rfl (sp_storeBox (T0 := 47) (X := .agg [bv false, bv false, .v (.slice none 0 0)]) (cs := [bv false, bv false, .v (.slice none 0 0)]) (ds := [bv false, bv false, .v (.slice none 0 0)]) (z := 3) (.tmp 8) (.tmp 24) rfl (by kernel_rfl) (by kernel_rfl) (by kernel_rfl) (of_decide_eq_true (by kernel_rfl)) (by kernel_rfl)) ⟨I0, I0, T0⟩ ⟨rfl, T0⟩ rfl ?_
 refine tri_nil ?_
 refine tri_wk (wk_keep [(1, .box 27 (cFm a)), (2, .box 27 (cFm b)), (3, .box 47 [bv false, bv false, .v (.slice none 0 0)]), (4, .box 47 [bv false, bv false, .v (.slice none 0 0)])] [(2, .box 1 0), (3, .box 2 0), (4, .box 3 0), (5, iv 0), (8, .box 4 0)] (n := 156)) ?_
 refine t_then ?_
 refine tri_seq ?_
 refine t_cut (True) (ofL [(1, .box 27 (cFm a)), (2, .box 27 (cFm b)), (3, .box 47 [bv false, bv false, .v (.slice none 0 0)]), (4, .box 47 [bv false, bv (difB a b), .v (.slice none 0 0)])]) (ofT 156 [(2, .box 1 0), (3, .box 2 0), (4, .box 3 0), (5, iv 0), (8, .box 4 0)]) ?_ (fun _ => ?_)
 by_cases hs3 : a.top = b.top
 by_cases hs4 : ((a.states.length : Nat) : Int) = ((b.states.length : Nat) : Int)
 by_cases hs5 : ((a.msgs.length : Nat) : Int) = ((b.msgs.length : Nat) : Int)
 by_cases hs6 : ((a.vals.length : Nat) : Int) = ((b.vals.length : Nat) : Int)
 by_cases hs7 : a.fault = b.fault
 by_cases hs8 : (decide (a.res = b.res)) = true
 by_cases hs9 : (decide (a.init = b.init)) = true
 refine tri_region ?_
 refine t_op rfl (sp_fieldBox (off' := 1) (.tmp 2) rfl Tryd.underlying27 rfl (z := 1) (by kernel_rfl) (by decide) rfl) ⟨I0, T0⟩ T0 T0 ?_
 refine t_op rfl (sp_loadBox1 (Y := .box 27 (cFm a)) (X := iv a.top) (.tmp 25) rfl Tryd.underlying3 rfl rfl) ⟨I0, T0⟩ ⟨rfl, T0⟩ T0 ?_
 refine t_op rfl (sp_fieldBox (off' := 1) (.tmp 3) rfl Tryd.underlying27 rfl (z := 1) (by kernel_rfl) (by decide) rfl) ⟨I0, T0⟩ T0 T0 ?_
 refine t_op rfl (sp_loadBox1 (Y := .box 27 (cFm b)) (X := iv b.top) (.tmp 27) rfl Tryd.underlying3 rfl rfl) ⟨I0, T0⟩ ⟨rfl, T0⟩ T0 ?_
 refine t_op rfl (sp_neq rfl (dT' hs3)) ⟨I0, I0, T0⟩ T0 T0 ?_
 refine t_op rfl (sp_move (.tmp 29) (bv false) rfl) ⟨I0, T0⟩ T0 T0 ?_
 refine t_opG rfl (sp_fieldBox (off' := 2) (.tmp 2) rfl Tryd.underlying27 rfl (z := 1) (by kernel_rfl) (by decide) rfl) ⟨I0, T0⟩ T0 T0 ?_
 refine t_opG rfl (sp_loadBox1 (Y := .box 27 (cFm a)) (X := strsA a.states) (.tmp 31) rfl Tryd.underlying22 rfl rfl) ⟨I0, T0⟩ ⟨rfl, T0⟩ T0 ?_
 refine t_opG rfl (sp_lenSl (.tmp 32) rfl Tryd.underlying22) ⟨I0, T0⟩ T0 T0 ?_
 refine t_opG rfl (sp_fieldBox (off' := 2) (.tmp 3) rfl Tryd.underlying27 rfl (z := 1) (by kernel_rfl) (by decide) rfl) ⟨I0, T0⟩ T0 T0 ?_
 refine t_opG rfl (sp_loadBox1 (Y := .box 27 (cFm b)) (X := strsA b.states) (.tmp 34) rfl Tryd.underlying22 rfl rfl) ⟨I0, T0⟩ ⟨rfl, T0⟩ T0 ?_
 refine t_opG rfl (sp_lenSl (.tmp 35) rfl Tryd.underlying22) ⟨I0, T0⟩ T0 T0 ?_
 refine t_opG rfl (sp_neq rfl (dT' hs4)) ⟨I0, I0, T0⟩ T0 T0 ?_
 refine t_op rfl (sp_pick (.tmp 30) (.const (.bool true)) (.tmp 37) false (bv true) (bv false) rfl) ⟨I0, I0, I0, T0⟩ T0 T0 ?_
 refine t_op rfl (sp_move (.tmp 38) (bv false) rfl) ⟨I0, T0⟩ T0 T0 ?_
 refine t_opG rfl (sp_fieldBox (off' := 3) (.tmp 2) rfl Tryd.underlying27 rfl (z := 1) (by kernel_rfl) (by decide) rfl) ⟨I0, T0⟩ T0 T0 ?_
 refine t_opG rfl (sp_loadBox1 (Y := .box 27 (cFm a)) (X := strsA a.msgs) (.tmp 40) rfl Tryd.underlying22 rfl rfl) ⟨I0, T0⟩ ⟨rfl, T0⟩ T0 ?_
 refine t_opG rfl (sp_lenSl (.tmp 41) rfl Tryd.underlying22) ⟨I0, T0⟩ T0 T0 ?_
 refine t_opG rfl (sp_fieldBox (off' := 3) (.tmp 3) rfl Tryd.underlying27 rfl (z := 1) (by kernel_rfl) (by decide) rfl) ⟨I0, T0⟩ T0 T0 ?_
 refine t_opG rfl (sp_loadBox1 (Y := .box 27 (cFm b)) (X := strsA b.msgs) (.tmp 43) rfl Tryd.underlying22 rfl rfl) ⟨I0, T0⟩ ⟨rfl, T0⟩ T0 ?_
 refine t_opG rfl (sp_lenSl (.tmp 44) rfl Tryd.underlying22) ⟨I0, T0⟩ T0 T0 ?_
 refine t_opG rfl (sp_neq rfl (dT' hs5)) ⟨I0, I0, T0⟩ T0 T0 ?_
 refine t_op rfl (sp_pick (.tmp 39) (.const (.bool true)) (.tmp 46) false (bv true) (bv false) rfl) ⟨I0, I0, I0, T0⟩ T0 T0 ?_
 refine t_op rfl (sp_move (.tmp 47) (bv false) rfl) ⟨I0, T0⟩ T0 T0 ?_
 refine t_opG rfl (sp_fieldBox (off' := 4) (.tmp 2) rfl Tryd.underlying27 rfl (z := 1) (by kernel_rfl) (by decide) rfl) ⟨I0, T0⟩ T0 T0 ?_
 refine t_opG rfl (sp_loadBox1 (Y := .box 27 (cFm a)) (X := strsA a.vals) (.tmp 49) rfl Tryd.underlying22 rfl rfl) ⟨I0, T0⟩ ⟨rfl, T0⟩ T0 ?_
 refine t_opG rfl (sp_lenSl (.tmp 50) rfl Tryd.underlying22) ⟨I0, T0⟩ T0 T0 ?_
 refine t_opG rfl (sp_fieldBox (off' := 4) (.tmp 3) rfl Tryd.underlying27 rfl (z := 1) (by kernel_rfl) (by decide) rfl) ⟨I0, T0⟩ T0 T0 ?_
 refine t_opG rfl (sp_loadBox1 (Y := .box 27 (cFm b)) (X := strsA b.vals) (.tmp 52) rfl Tryd.underlying22 rfl rfl) ⟨I0, T0⟩ ⟨rfl, T0⟩ T0 ?_
 refine t_opG rfl (sp_lenSl (.tmp 53) rfl Tryd.underlying22) ⟨I0, T0⟩ T0 T0 ?_
 refine t_opG rfl (sp_neq rfl (dT' hs6)) ⟨I0, I0, T0⟩ T0 T0 ?_
 refine t_op rfl (sp_pick (.tmp 48) (.const (.bool true)) (.tmp 55) false (bv true) (bv false) rfl) ⟨I0, I0, I0, T0⟩ T0 T0 ?_
 refine t_op rfl (sp_move (.tmp 56) (bv false) rfl) ⟨I0, T0⟩ T0 T0 ?_
 refine t_opG rfl (sp_fieldBox (off' := 5) (.tmp 2) rfl Tryd.underlying27 rfl (z := 1) (by kernel_rfl) (by decide) rfl) ⟨I0, T0⟩ T0 T0 ?_
 refine t_opG rfl (sp_loadBox1 (Y := .box 27 (cFm a)) (X := iv a.fault) (.tmp 58) rfl Tryd.underlying3 rfl rfl) ⟨I0, T0⟩ ⟨rfl, T0⟩ T0 ?_
 refine t_opG rfl (sp_fieldBox (off' := 5) (.tmp 3) rfl Tryd.underlying27 rfl (z := 1) (by kernel_rfl) (by decide) rfl) ⟨I0, T0⟩ T0 T0 ?_
 refine t_opG rfl (sp_loadBox1 (Y := .box 27 (cFm b)) (X := iv b.fault) (.tmp 60) rfl Tryd.underlying3 rfl rfl) ⟨I0, T0⟩ ⟨rfl, T0⟩ T0 ?_
 refine t_opG rfl (sp_neq rfl (dT' hs7)) ⟨I0, I0, T0⟩ T0 T0 ?_
 refine t_op rfl (sp_pick (.tmp 57) (.const (.bool true)) (.tmp 62) false (bv true) (bv false) rfl) ⟨I0, I0, I0, T0⟩ T0 T0 ?_
 refine t_op rfl (sp_move (.tmp 63) (bv false) rfl) ⟨I0, T0⟩ T0 T0 ?_
 refine t_opG rfl (sp_fieldBox (off' := 6) (.tmp 2) rfl Tryd.underlying27 rfl (z := 1) (by kernel_rfl) (by decide) rfl) ⟨I0, T0⟩ T0 T0 ?_
 refine t_opG rfl (sp_loadBox1 (Y := .box 27 (cFm a)) (X := slA 4 cLn a.res) (.tmp 65) rfl Tryd.underlying23 rfl rfl) ⟨I0, T0⟩ ⟨rfl, T0⟩ T0 ?_
 refine t_opG rfl (sp_fieldBox (off' := 6) (.tmp 3) rfl Tryd.underlying27 rfl (z := 1) (by kernel_rfl) (by decide) rfl) ⟨I0, T0⟩ T0 T0 ?_
 refine t_opG rfl (sp_loadBox1 (Y := .box 27 (cFm b)) (X := slA 4 cLn b.res) (.tmp 67) rfl Tryd.underlying23 rfl rfl) ⟨I0, T0⟩ ⟨rfl, T0⟩ T0 ?_
 refine t_opG rfl (sp_call (c := .func 56) (xs := #[.tmp 66, .tmp 68]) [] (ctr_b (sameLinearsG a.res b.res HA.lres HB.lres) hs8) rfl (by kernel_rfl) rfl (Xs := [slA 4 cLn a.res, slA 4 cLn b.res]) rfl rfl rfl) ⟨I0, I0, I0, T0⟩ T0 T0 ?_
 refine t_opG rfl (sp_not rfl rfl) ⟨I0, T0⟩ T0 T0 ?_
 refine t_op rfl (sp_pick (.tmp 64) (.const (.bool true)) (.tmp 70) false (bv true) (bv false) rfl) ⟨I0, I0, I0, T0⟩ T0 T0 ?_
 refine t_op rfl (sp_move (.tmp 71) (bv false) rfl) ⟨I0, T0⟩ T0 T0 ?_
 refine t_opG rfl (sp_fieldBox (off' := 7) (.tmp 2) rfl Tryd.underlying27 rfl (z := 1) (by kernel_rfl) (by decide) rfl) ⟨I0, T0⟩ T0 T0 ?_
 refine t_opG rfl (sp_loadBox1 (Y := .box 27 (cFm a)) (X := intsA a.init) (.tmp 73) rfl Tryd.underlying24 rfl rfl) ⟨I0, T0⟩ ⟨rfl, T0⟩ T0 ?_
 refine t_opG rfl (sp_fieldBox (off' := 7) (.tmp 3) rfl Tryd.underlying27 rfl (z := 1) (by kernel_rfl) (by decide) rfl) ⟨I0, T0⟩ T0 T0 ?_
 refine t_opG rfl (sp_loadBox1 (Y := .box 27 (cFm b)) (X := intsA b.init) (.tmp 75) rfl Tryd.underlying24 rfl rfl) ⟨I0, T0⟩ ⟨rfl, T0⟩ T0 ?_
 refine t_opG rfl (sp_call (c := .func 19) (xs := #[.tmp 74, .tmp 76]) [] (ctr_b (sameIntsG a.init b.init HA.init HB.init) hs9) rfl (by kernel_rfl) rfl (Xs := [intsA a.init, intsA b.init]) rfl rfl rfl) ⟨I0, I0, I0, T0⟩ T0 T0 ?_
 refine t_opG rfl (sp_not rfl rfl) ⟨I0, T0⟩ T0 T0 ?_
 refine t_op rfl (sp_pick (.tmp 72) (.const (.bool true)) (.tmp 78) false (bv true) (bv false) rfl) ⟨I0, I0, I0, T0⟩ T0 T0 ?_
 refine t_op rfl (sp_move (.tmp 79) (bv false) rfl) ⟨I0, T0⟩ T0 T0 ?_
 refine t_opG rfl (sp_fieldBox (off' := 8) (.tmp 2) rfl Tryd.underlying27 rfl (z := 1) (by kernel_rfl) (by decide) rfl) ⟨I0, T0⟩ T0 T0 ?_
 refine t_opG rfl (sp_loadBox1 (Y := .box 27 (cFm a)) (X := intsA a.leader) (.tmp 81) rfl Tryd.underlying24 rfl rfl) ⟨I0, T0⟩ ⟨rfl, T0⟩ T0 ?_
 refine t_opG rfl (sp_fieldBox (off' := 8) (.tmp 3) rfl Tryd.underlying27 rfl (z := 1) (by kernel_rfl) (by decide) rfl) ⟨I0, T0⟩ T0 T0 ?_
 refine t_opG rfl (sp_loadBox1 (Y := .box 27 (cFm b)) (X := intsA b.leader) (.tmp 83) rfl Tryd.underlying24 rfl rfl) ⟨I0, T0⟩ ⟨rfl, T0⟩ T0 ?_
 refine t_opG rfl (sp_call (c := .func 19) (xs := #[.tmp 82, .tmp 84]) [] (sameIntsG a.leader b.leader HA.leader HB.leader) rfl (by kernel_rfl) rfl (Xs := [intsA a.leader, intsA b.leader]) rfl rfl rfl) ⟨I0, I0, I0, T0⟩ T0 T0 ?_
 refine t_opG rfl (sp_not rfl rfl) ⟨I0, T0⟩ T0 T0 ?_
 refine t_op rfl (sp_pick (.tmp 80) (.const (.bool true)) (.tmp 86) false (bv true) (bv (!(decide (a.leader = b.leader)))) rfl) ⟨I0, I0, I0, T0⟩ T0 T0 ?_
 refine t_op rfl (sp_fieldBox (off' := 1) (.tmp 8) rfl Tryd.underlying47 rfl (z := 1) (by kernel_rfl) (by decide) rfl) ⟨I0, T0⟩ T0 T0 ?_
 refine t_op rfl (sp_storeBox (T0 := 47) (X := bv (!(decide (a.leader = b.leader)))) (cs := [bv false, bv false, .v (.slice none 0 0)]) (ds := [bv false, bv (!(decide (a.leader = b.leader))), .v (.slice none 0 0)]) (z := 1) (.tmp 88) (.tmp 87) rfl (by kernel_rfl) (by kernel_rfl) (by kernel_rfl) (of_decide_eq_true (by kernel_rfl)) (by kernel_rfl)) ⟨I0, I0, T0⟩ ⟨rfl, T0⟩ rfl ?_
 refine tri_nil ?_
 refine tri_wk (wk_keep [(1, .box 27 (cFm a)), (2, .box 27 (cFm b)), (3, .box 47 [bv false, bv false, .v (.slice none 0 0)]), (4, .box 47 [bv false, bv (!(decide (a.leader = b.leader))), .v (.slice none 0 0)])] [(2, .box 1 0), (3, .box 2 0), (4, .box 3 0), (5, iv 0), (8, .box 4 0)] (n := 156)) ?_
 rw [show difB a b = (!(decide (a.leader = b.leader))) by simp only [difB, Bool.or_true, Bool.true_or, Bool.or_false, Bool.false_or, Bool.and_true, Bool.true_and, Bool.and_false, Bool.false_and, Bool.not_true, Bool.not_false, decide_eq_true hs1, decide_eq_true hs2, decide_eq_true hs3, decide_eq_true hs4, decide_eq_true hs5, decide_eq_true hs6, decide_eq_true hs7, hs8, hs9]]
 exact t_meet T0 (wk_keep _ _ rfl (by kernel_rfl) (by kernel_rfl))
 have hs9f : (decide (a.init = b.init)) = false := by simpa using hs9
 refine tri_region ?_
 refine t_op rfl (sp_fieldBox (off' := 1) (.tmp 2) rfl Tryd.underlying27 rfl (z := 1) (by kernel_rfl) (by decide) rfl) ⟨I0, T0⟩ T0 T0 ?_
 refine t_op rfl (sp_loadBox1 (Y := .box 27 (cFm a)) (X := iv a.top) (.tmp 25) rfl Tryd.underlying3 rfl rfl) ⟨I0, T0⟩ ⟨rfl, T0⟩ T0 ?_
 refine t_op rfl (sp_fieldBox (off' := 1) (.tmp 3) rfl Tryd.underlying27 rfl (z := 1) (by kernel_rfl) (by decide) rfl) ⟨I0, T0⟩ T0 T0 ?_
 refine t_op rfl (sp_loadBox1 (Y := .box 27 (cFm b)) (X := iv b.top) (.tmp 27) rfl Tryd.underlying3 rfl rfl) ⟨I0, T0⟩ ⟨rfl, T0⟩ T0 ?_
 refine t_op rfl (sp_neq rfl (dT' hs3)) ⟨I0, I0, T0⟩ T0 T0 ?_
 refine t_op rfl (sp_move (.tmp 29) (bv false) rfl) ⟨I0, T0⟩ T0 T0 ?_
 refine t_opG rfl (sp_fieldBox (off' := 2) (.tmp 2) rfl Tryd.underlying27 rfl (z := 1) (by kernel_rfl) (by decide) rfl) ⟨I0, T0⟩ T0 T0 ?_
 refine t_opG rfl (sp_loadBox1 (Y := .box 27 (cFm a)) (X := strsA a.states) (.tmp 31) rfl Tryd.underlying22 rfl rfl) ⟨I0, T0⟩ ⟨rfl, T0⟩ T0 ?_
 refine t_opG rfl (sp_lenSl (.tmp 32) rfl Tryd.underlying22) ⟨I0, T0⟩ T0 T0 ?_
 refine t_opG rfl (sp_fieldBox (off' := 2) (.tmp 3) rfl Tryd.underlying27 rfl (z := 1) (by kernel_rfl) (by decide) rfl) ⟨I0, T0⟩ T0 T0 ?_
 refine t_opG rfl (sp_loadBox1 (Y := .box 27 (cFm b)) (X := strsA b.states) (.tmp 34) rfl Tryd.underlying22 rfl rfl) ⟨I0, T0⟩ ⟨rfl, T0⟩ T0 ?_
 refine t_opG rfl (sp_lenSl (.tmp 35) rfl Tryd.underlying22) ⟨I0, T0⟩ T0 T0 ?_
 refine t_opG rfl (sp_neq rfl (dT' hs4)) ⟨I0, I0, T0⟩ T0 T0 ?_
 refine t_op rfl (sp_pick (.tmp 30) (.const (.bool true)) (.tmp 37) false (bv true) (bv false) rfl) ⟨I0, I0, I0, T0⟩ T0 T0 ?_
 refine t_op rfl (sp_move (.tmp 38) (bv false) rfl) ⟨I0, T0⟩ T0 T0 ?_
 refine t_opG rfl (sp_fieldBox (off' := 3) (.tmp 2) rfl Tryd.underlying27 rfl (z := 1) (by kernel_rfl) (by decide) rfl) ⟨I0, T0⟩ T0 T0 ?_
 refine t_opG rfl (sp_loadBox1 (Y := .box 27 (cFm a)) (X := strsA a.msgs) (.tmp 40) rfl Tryd.underlying22 rfl rfl) ⟨I0, T0⟩ ⟨rfl, T0⟩ T0 ?_
 refine t_opG rfl (sp_lenSl (.tmp 41) rfl Tryd.underlying22) ⟨I0, T0⟩ T0 T0 ?_
 refine t_opG rfl (sp_fieldBox (off' := 3) (.tmp 3) rfl Tryd.underlying27 rfl (z := 1) (by kernel_rfl) (by decide) rfl) ⟨I0, T0⟩ T0 T0 ?_
 refine t_opG rfl (sp_loadBox1 (Y := .box 27 (cFm b)) (X := strsA b.msgs) (.tmp 43) rfl Tryd.underlying22 rfl rfl) ⟨I0, T0⟩ ⟨rfl, T0⟩ T0 ?_
 refine t_opG rfl (sp_lenSl (.tmp 44) rfl Tryd.underlying22) ⟨I0, T0⟩ T0 T0 ?_
 refine t_opG rfl (sp_neq rfl (dT' hs5)) ⟨I0, I0, T0⟩ T0 T0 ?_
 refine t_op rfl (sp_pick (.tmp 39) (.const (.bool true)) (.tmp 46) false (bv true) (bv false) rfl) ⟨I0, I0, I0, T0⟩ T0 T0 ?_
 refine t_op rfl (sp_move (.tmp 47) (bv false) rfl) ⟨I0, T0⟩ T0 T0 ?_
 refine t_opG rfl (sp_fieldBox (off' := 4) (.tmp 2) rfl Tryd.underlying27 rfl (z := 1) (by kernel_rfl) (by decide) rfl) ⟨I0, T0⟩ T0 T0 ?_
 refine t_opG rfl (sp_loadBox1 (Y := .box 27 (cFm a)) (X := strsA a.vals) (.tmp 49) rfl Tryd.underlying22 rfl rfl) ⟨I0, T0⟩ ⟨rfl, T0⟩ T0 ?_
 refine t_opG rfl (sp_lenSl (.tmp 50) rfl Tryd.underlying22) ⟨I0, T0⟩ T0 T0 ?_
 refine t_opG rfl (sp_fieldBox (off' := 4) (.tmp 3) rfl Tryd.underlying27 rfl (z := 1) (by kernel_rfl) (by decide) rfl) ⟨I0, T0⟩ T0 T0 ?_
 refine t_opG rfl (sp_loadBox1 (Y := .box 27 (cFm b)) (X := strsA b.vals) (.tmp 52) rfl Tryd.underlying22 rfl rfl) ⟨I0, T0⟩ ⟨rfl, T0⟩ T0 ?_
 refine t_opG rfl (sp_lenSl (.tmp 53) rfl Tryd.underlying22) ⟨I0, T0⟩ T0 T0 ?_
 refine t_opG rfl (sp_neq rfl (dT' hs6)) ⟨I0, I0, T0⟩ T0 T0 ?_
 refine t_op rfl (sp_pick (.tmp 48) (.const (.bool true)) (.tmp 55) false (bv true) (bv false) rfl) ⟨I0, I0, I0, T0⟩ T0 T0 ?_
 refine t_op rfl (sp_move (.tmp 56) (bv false) rfl) ⟨I0, T0⟩ T0 T0 ?_
 refine t_opG rfl (sp_fieldBox (off' := 5) (.tmp 2) rfl Tryd.underlying27 rfl (z := 1) (by kernel_rfl) (by decide) rfl) ⟨I0, T0⟩ T0 T0 ?_
 refine t_opG rfl (sp_loadBox1 (Y := .box 27 (cFm a)) (X := iv a.fault) (.tmp 58) rfl Tryd.underlying3 rfl rfl) ⟨I0, T0⟩ ⟨rfl, T0⟩ T0 ?_
 refine t_opG rfl (sp_fieldBox (off' := 5) (.tmp 3) rfl Tryd.underlying27 rfl (z := 1) (by kernel_rfl) (by decide) rfl) ⟨I0, T0⟩ T0 T0 ?_
 refine t_opG rfl (sp_loadBox1 (Y := .box 27 (cFm b)) (X := iv b.fault) (.tmp 60) rfl Tryd.underlying3 rfl rfl) ⟨I0, T0⟩ ⟨rfl, T0⟩ T0 ?_
 refine t_opG rfl (sp_neq rfl (dT' hs7)) ⟨I0, I0, T0⟩ T0 T0 ?_
 refine t_op rfl (sp_pick (.tmp 57) (.const (.bool true)) (.tmp 62) false (bv true) (bv false) rfl) ⟨I0, I0, I0, T0⟩ T0 T0 ?_
 refine t_op rfl (sp_move (.tmp 63) (bv false) rfl) ⟨I0, T0⟩ T0 T0 ?_
 refine t_opG rfl (sp_fieldBox (off' := 6) (.tmp 2) rfl Tryd.underlying27 rfl (z := 1) (by kernel_rfl) (by decide) rfl) ⟨I0, T0⟩ T0 T0 ?_
 refine t_opG rfl (sp_loadBox1 (Y := .box 27 (cFm a)) (X := slA 4 cLn a.res) (.tmp 65) rfl Tryd.underlying23 rfl rfl) ⟨I0, T0⟩ ⟨rfl, T0⟩ T0 ?_
 refine t_opG rfl (sp_fieldBox (off' := 6) (.tmp 3) rfl Tryd.underlying27 rfl (z := 1) (by kernel_rfl) (by decide) rfl) ⟨I0, T0⟩ T0 T0 ?_
 refine t_opG rfl (sp_loadBox1 (Y := .box 27 (cFm b)) (X := slA 4 cLn b.res) (.tmp 67) rfl Tryd.underlying23 rfl rfl) ⟨I0, T0⟩ ⟨rfl, T0⟩ T0 ?_
 refine t_opG rfl (sp_call (c := .func 56) (xs := #[.tmp 66, .tmp 68]) [] (ctr_b (sameLinearsG a.res b.res HA.lres HB.lres) hs8) rfl (by kernel_rfl) rfl (Xs := [slA 4 cLn a.res, slA 4 cLn b.res]) rfl rfl rfl) ⟨I0, I0, I0, T0⟩ T0 T0 ?_
 refine t_opG rfl (sp_not rfl rfl) ⟨I0, T0⟩ T0 T0 ?_
 refine t_op rfl (sp_pick (.tmp 64) (.const (.bool true)) (.tmp 70) false (bv true) (bv false) rfl) ⟨I0, I0, I0, T0⟩ T0 T0 ?_
 refine t_op rfl (sp_move (.tmp 71) (bv false) rfl) ⟨I0, T0⟩ T0 T0 ?_
 refine t_opG rfl (sp_fieldBox (off' := 7) (.tmp 2) rfl Tryd.underlying27 rfl (z := 1) (by kernel_rfl) (by decide) rfl) ⟨I0, T0⟩ T0 T0 ?_
 refine t_opG rfl (sp_loadBox1 (Y := .box 27 (cFm a)) (X := intsA a.init) (.tmp 73) rfl Tryd.underlying24 rfl rfl) ⟨I0, T0⟩ ⟨rfl, T0⟩ T0 ?_
 refine t_opG rfl (sp_fieldBox (off' := 7) (.tmp 3) rfl Tryd.underlying27 rfl (z := 1) (by kernel_rfl) (by decide) rfl) ⟨I0, T0⟩ T0 T0 ?_
 refine t_opG rfl (sp_loadBox1 (Y := .box 27 (cFm b)) (X := intsA b.init) (.tmp 75) rfl Tryd.underlying24 rfl rfl) ⟨I0, T0⟩ ⟨rfl, T0⟩ T0 ?_
 refine t_opG rfl (sp_call (c := .func 19) (xs := #[.tmp 74, .tmp 76]) [] (ctr_b (sameIntsG a.init b.init HA.init HB.init) hs9f) rfl (by kernel_rfl) rfl (Xs := [intsA a.init, intsA b.init]) rfl rfl rfl) ⟨I0, I0, I0, T0⟩ T0 T0 ?_
 refine t_opG rfl (sp_not rfl rfl) ⟨I0, T0⟩ T0 T0 ?_
 refine t_op rfl (sp_pick (.tmp 72) (.const (.bool true)) (.tmp 78) false (bv true) (bv true) rfl) ⟨I0, I0, I0, T0⟩ T0 T0 ?_
 refine t_op rfl (sp_move (.tmp 79) (bv true) rfl) ⟨I0, T0⟩ T0 T0 ?_
 refine t_skip rfl ?_
 refine t_skip rfl ?_
 refine t_skip rfl ?_
 refine t_skip rfl ?_
 refine t_skip rfl ?_
 refine t_skip rfl ?_
 refine t_op rfl (sp_pick (.tmp 80) (.const (.bool true)) (.tmp 86) true (bv true) (.v (.tuple #[])) rfl) ⟨I0, I0, I0, T0⟩ T0 T0 ?_
 refine t_op rfl (sp_fieldBox (off' := 1) (.tmp 8) rfl Tryd.underlying47 rfl (z := 1) (by kernel_rfl) (by decide) rfl) ⟨I0, T0⟩ T0 T0 ?_
 refine t_op rfl (sp_storeBox (T0 := 47) (X := bv true) (cs := [bv false, bv false, .v (.slice none 0 0)]) (ds := [bv false, bv true, .v (.slice none 0 0)]) (z := 1) (.tmp 88) (.tmp 87) rfl (by kernel_rfl) (by kernel_rfl) (by kernel_rfl) (of_decide_eq_true (by kernel_rfl)) (by kernel_rfl)) ⟨I0, I0, T0⟩ ⟨rfl, T0⟩ rfl ?_
 refine tri_nil ?_
 refine tri_wk (wk_keep [(1, .box 27 (cFm a)), (2, .box 27 (cFm b)), (3, .box 47 [bv false, bv false, .v (.slice none 0 0)]), (4, .box 47 [bv false, bv true, .v (.slice none 0 0)])] [(2, .box 1 0), (3, .box 2 0), (4, .box 3 0), (5, iv 0), (8, .box 4 0)] (n := 156)) ?_
 rw [show difB a b = true by simp only [difB, Bool.or_true, Bool.true_or, Bool.or_false, Bool.false_or, Bool.and_true, Bool.true_and, Bool.and_false, Bool.false_and, Bool.not_true, Bool.not_false, decide_eq_true hs1, decide_eq_true hs2, decide_eq_true hs3, decide_eq_true hs4, decide_eq_true hs5, decide_eq_true hs6, decide_eq_true hs7, hs8, hs9f]]
 exact t_meet T0 (wk_keep _ _ rfl (by kernel_rfl) (by kernel_rfl))
 have hs8f : (decide (a.res = b.res)) = false := by simpa using hs8
 refine tri_region ?_
 refine t_op rfl (sp_fieldBox (off' := 1) (.tmp 2) rfl Tryd.underlying27 rfl (z := 1) (by kernel_rfl) (by decide) rfl) ⟨I0, T0⟩ T0 T0 ?_
 refine t_op rfl (sp_loadBox1 (Y := .box 27 (cFm a)) (X := iv a.top) (.tmp 25) rfl Tryd.underlying3 rfl rfl) ⟨I0, T0⟩ ⟨rfl, T0⟩ T0 ?_
 refine t_op rfl (sp_fieldBox (off' := 1) (.tmp 3) rfl Tryd.underlying27 rfl (z := 1) (by kernel_rfl) (by decide) rfl) ⟨I0, T0⟩ T0 T0 ?_
 refine t_op rfl (sp_loadBox1 (Y := .box 27 (cFm b)) (X := iv b.top) (.tmp 27) rfl Tryd.underlying3 rfl rfl) ⟨I0, T0⟩ ⟨rfl, T0⟩ T0 ?_
 refine t_op rfl (sp_neq rfl (dT' hs3)) ⟨I0, I0, T0⟩ T0 T0 ?_
 refine t_op rfl (sp_move (.tmp 29) (bv false) rfl) ⟨I0, T0⟩ T0 T0 ?_
 refine t_opG rfl (sp_fieldBox (off' := 2) (.tmp 2) rfl Tryd.underlying27 rfl (z := 1) (by kernel_rfl) (by decide) rfl) ⟨I0, T0⟩ T0 T0 ?_
 refine t_opG rfl (sp_loadBox1 (Y := .box 27 (cFm a)) (X := strsA a.states) (.tmp 31) rfl Tryd.underlying22 rfl rfl) ⟨I0, T0⟩ ⟨rfl, T0⟩ T0 ?_
 refine t_opG rfl (sp_lenSl (.tmp 32) rfl Tryd.underlying22) ⟨I0, T0⟩ T0 T0 ?_
 refine t_opG rfl (sp_fieldBox (off' := 2) (.tmp 3) rfl Tryd.underlying27 rfl (z := 1) (by kernel_rfl) (by decide) rfl) ⟨I0, T0⟩ T0 T0 ?_
 refine t_opG rfl (sp_loadBox1 (Y := .box 27 (cFm b)) (X := strsA b.states) (.tmp 34) rfl Tryd.underlying22 rfl rfl) ⟨I0, T0⟩ ⟨rfl, T0⟩ T0 ?_
 refine t_opG rfl (sp_lenSl (.tmp 35) rfl Tryd.underlying22) ⟨I0, T0⟩ T0 T0 ?_
 refine t_opG rfl (sp_neq rfl (dT' hs4)) ⟨I0, I0, T0⟩ T0 T0 ?_
 refine t_op rfl (sp_pick (.tmp 30) (.const (.bool true)) (.tmp 37) false (bv true) (bv false) rfl) ⟨I0, I0, I0, T0⟩ T0 T0 ?_
 refine t_op rfl (sp_move (.tmp 38) (bv false) rfl) ⟨I0, T0⟩ T0 T0 ?_
 refine t_opG rfl (sp_fieldBox (off' := 3) (.tmp 2) rfl Tryd.underlying27 rfl (z := 1) (by kernel_rfl) (by decide) rfl) ⟨I0, T0⟩ T0 T0 ?_
 refine t_opG rfl (sp_loadBox1 (Y := .box 27 (cFm a)) (X := strsA a.msgs) (.tmp 40) rfl Tryd.underlying22 rfl rfl) ⟨I0, T0⟩ ⟨rfl, T0⟩ T0 ?_
 refine t_opG rfl (sp_lenSl (.tmp 41) rfl Tryd.underlying22) ⟨I0, T0⟩ T0 T0 ?_
 refine t_opG rfl (sp_fieldBox (off' := 3) (.tmp 3) rfl Tryd.underlying27 rfl (z := 1) (by kernel_rfl) (by decide) rfl) ⟨I0, T0⟩ T0 T0 ?_
 refine t_opG rfl (sp_loadBox1 (Y := .box 27 (cFm b)) (X := strsA b.msgs) (.tmp 43) rfl Tryd.underlying22 rfl rfl) ⟨I0, T0⟩ ⟨rfl, T0⟩ T0 ?_
 refine t_opG rfl (sp_lenSl (.tmp 44) rfl Tryd.underlying22) ⟨I0, T0⟩ T0 T0 ?_
 refine t_opG rfl (sp_neq rfl (dT' hs5)) ⟨I0, I0, T0⟩ T0 T0 ?_
 refine t_op rfl (sp_pick (.tmp 39) (.const (.bool true)) (.tmp 46) false (bv true) (bv false) rfl) ⟨I0, I0, I0, T0⟩ T0 T0 ?_
 refine t_op rfl (sp_move (.tmp 47) (bv false) rfl) ⟨I0, T0⟩ T0 T0 ?_
 refine t_opG rfl (sp_fieldBox (off' := 4) (.tmp 2) rfl Tryd.underlying27 rfl (z := 1) (by kernel_rfl) (by decide) rfl) ⟨I0, T0⟩ T0 T0 ?_
 refine t_opG rfl (sp_loadBox1 (Y := .box 27 (cFm a)) (X := strsA a.vals) (.tmp 49) rfl Tryd.underlying22 rfl rfl) ⟨I0, T0⟩ ⟨rfl, T0⟩ T0 ?_
 refine t_opG rfl (sp_lenSl (.tmp 50) rfl Tryd.underlying22) ⟨I0, T0⟩ T0 T0 ?_
 refine t_opG rfl (sp_fieldBox (off' := 4) (.tmp 3) rfl Tryd.underlying27 rfl (z := 1) (by kernel_rfl) (by decide) rfl) ⟨I0, T0⟩ T0 T0 ?_
 refine t_opG rfl (sp_loadBox1 (Y := .box 27 (cFm b)) (X := strsA b.vals) (.tmp 52) rfl Tryd.underlying22 rfl rfl) ⟨I0, T0⟩ ⟨rfl, T0⟩ T0 ?_
 refine t_opG rfl (sp_lenSl (.tmp 53) rfl Tryd.underlying22) ⟨I0, T0⟩ T0 T0 ?_
 refine t_opG rfl (sp_neq rfl (dT' hs6)) ⟨I0, I0, T0⟩ T0 T0 ?_
 refine t_op rfl (sp_pick (.tmp 48) (.const (.bool true)) (.tmp 55) false (bv true) (bv false) rfl) ⟨I0, I0, I0, T0⟩ T0 T0 ?_
 refine t_op rfl (sp_move (.tmp 56) (bv false) rfl) ⟨I0, T0⟩ T0 T0 ?_
 refine t_opG rfl (sp_fieldBox (off' := 5) (.tmp 2) rfl Tryd.underlying27 rfl (z := 1) (by kernel_rfl) (by decide) rfl) ⟨I0, T0⟩ T0 T0 ?_
 refine t_opG rfl (sp_loadBox1 (Y := .box 27 (cFm a)) (X := iv a.fault) (.tmp 58) rfl Tryd.underlying3 rfl rfl) ⟨I0, T0⟩ ⟨rfl, T0⟩ T0 ?_
 refine t_opG rfl (sp_fieldBox (off' := 5) (.tmp 3) rfl Tryd.underlying27 rfl (z := 1) (by kernel_rfl) (by decide) rfl) ⟨I0, T0⟩ T0 T0 ?_
 refine t_opG rfl (sp_loadBox1 (Y := .box 27 (cFm b)) (X := iv b.fault) (.tmp 60) rfl Tryd.underlying3 rfl rfl) ⟨I0, T0⟩ ⟨rfl, T0⟩ T0 ?_
 refine t_opG rfl (sp_neq rfl (dT' hs7)) ⟨I0, I0, T0⟩ T0 T0 ?_
 refine t_op rfl (sp_pick (.tmp 57) (.const (.bool true)) (.tmp 62) false (bv true) (bv false) rfl) ⟨I0, I0, I0, T0⟩ T0 T0 ?_
 refine t_op rfl (sp_move (.tmp 63) (bv false) rfl) ⟨I0, T0⟩ T0 T0 ?_
 refine t_opG rfl (sp_fieldBox (off' := 6) (.tmp 2) rfl Tryd.underlying27 rfl (z := 1) (by kernel_rfl) (by decide) rfl) ⟨I0, T0⟩ T0 T0 ?_
 refine t_opG rfl (sp_loadBox1 (Y := .box 27 (cFm a)) (X := slA 4 cLn a.res) (.tmp 65) rfl Tryd.underlying23 rfl rfl) ⟨I0, T0⟩ ⟨rfl, T0⟩ T0 ?_
 refine t_opG rfl (sp_fieldBox (off' := 6) (.tmp 3) rfl Tryd.underlying27 rfl (z := 1) (by kernel_rfl) (by decide) rfl) ⟨I0, T0⟩ T0 T0 ?_
 refine t_opG rfl (sp_loadBox1 (Y := .box 27 (cFm b)) (X := slA 4 cLn b.res) (.tmp 67) rfl Tryd.underlying23 rfl rfl) ⟨I0, T0⟩ ⟨rfl, T0⟩ T0 ?_
 refine t_opG rfl (sp_call (c := .func 56) (xs := #[.tmp 66, .tmp 68]) [] (ctr_b (sameLinearsG a.res b.res HA.lres HB.lres) hs8f) rfl (by kernel_rfl) rfl (Xs := [slA 4 cLn a.res, slA 4 cLn b.res]) rfl rfl rfl) ⟨I0, I0, I0, T0⟩ T0 T0 ?_
 refine t_opG rfl (sp_not rfl rfl) ⟨I0, T0⟩ T0 T0 ?_
 refine t_op rfl (sp_pick (.tmp 64) (.const (.bool true)) (.tmp 70) false (bv true) (bv true) rfl) ⟨I0, I0, I0, T0⟩ T0 T0 ?_
 refine t_op rfl (sp_move (.tmp 71) (bv true) rfl) ⟨I0, T0⟩ T0 T0 ?_
 refine t_skip rfl ?_
 refine t_skip rfl ?_
 refine t_skip rfl ?_
 refine t_skip rfl ?_
 refine t_skip rfl ?_
 refine t_skip rfl ?_
 refine t_op rfl (sp_pick (.tmp 72) (.const (.bool true)) (.tmp 78) true (bv true) (.v (.tuple #[])) rfl) ⟨I0, I0, I0, T0⟩ T0 T0 ?_
 refine t_op rfl (sp_move (.tmp 79) (bv true) rfl) ⟨I0, T0⟩ T0 T0 ?_
 refine t_skip rfl ?_
 refine t_skip rfl ?_
 refine t_skip rfl ?_
 refine t_skip rfl ?_
 refine t_skip rfl ?_
 refine t_skip rfl ?_
 refine t_op rfl (sp_pick (.tmp 80) (.const (.bool true)) (.tmp 86) true (bv true) (.v (.tuple #[])) rfl) ⟨I0, I0, I0, T0⟩ T0 T0 ?_
 refine t_op rfl (sp_fieldBox (off' := 1) (.tmp 8) rfl Tryd.underlying47 rfl (z := 1) (by kernel_rfl) (by decide) rfl) ⟨I0, T0⟩ T0 T0 ?_
 refine t_op rfl (sp_storeBox (T0 := 47) (X := bv true) (cs := [bv false, bv false, .v (.slice none 0 0)]) (ds := [bv false, bv true, .v (.slice none 0 0)]) (z := 1) (.tmp 88) (.tmp 87) rfl (by kernel_rfl) (by kernel_rfl) (by kernel_rfl) (of_decide_eq_true (by kernel_rfl)) (by kernel_rfl)) ⟨I0, I0, T0⟩ ⟨rfl, T0⟩ rfl ?_
 refine tri_nil ?_
 refine tri_wk (wk_keep [(1, .box 27 (cFm a)), (2, .box 27 (cFm b)), (3, .box 47 [bv false, bv false, .v (.slice none 0 0)]), (4, .box 47 [bv false, bv true, .v (.slice none 0 0)])] [(2, .box 1 0), (3, .box 2 0), (4, .box 3 0), (5, iv 0), (8, .box 4 0)] (n := 156)) ?_
 rw [show difB a b = true by simp only [difB, Bool.or_true, Bool.true_or, Bool.or_false, Bool.false_or, Bool.and_true, Bool.true_and, Bool.and_false, Bool.false_and, Bool.not_true, Bool.not_false, decide_eq_true hs1, decide_eq_true hs2, decide_eq_true hs3, decide_eq_true hs4, decide_eq_true hs5, decide_eq_true hs6, decide_eq_true hs7, hs8f]]
 exact t_meet T0 (wk_keep _ _ rfl (by kernel_rfl) (by kernel_rfl))
 refine tri_region ?_
 refine t_op rfl (sp_fieldBox (off' := 1) (.tmp 2) rfl Tryd.underlying27 rfl (z := 1) (by kernel_rfl) (by decide) rfl) ⟨I0, T0⟩ T0 T0 ?_
 refine t_op rfl (sp_loadBox1 (Y := .box 27 (cFm a)) (X := iv a.top) (.tmp 25) rfl Tryd.underlying3 rfl rfl) ⟨I0, T0⟩ ⟨rfl, T0⟩ T0 ?_
 refine t_op rfl (sp_fieldBox (off' := 1) (.tmp 3) rfl Tryd.underlying27 rfl (z := 1) (by kernel_rfl) (by decide) rfl) ⟨I0, T0⟩ T0 T0 ?_
 refine t_op rfl (sp_loadBox1 (Y := .box 27 (cFm b)) (X := iv b.top) (.tmp 27) rfl Tryd.underlying3 rfl rfl) ⟨I0, T0⟩ ⟨rfl, T0⟩ T0 ?_
 refine t_op rfl (sp_neq rfl (dT' hs3)) ⟨I0, I0, T0⟩ T0 T0 ?_
 refine t_op rfl (sp_move (.tmp 29) (bv false) rfl) ⟨I0, T0⟩ T0 T0 ?_
 refine t_opG rfl (sp_fieldBox (off' := 2) (.tmp 2) rfl Tryd.underlying27 rfl (z := 1) (by kernel_rfl) (by decide) rfl) ⟨I0, T0⟩ T0 T0 ?_
 refine t_opG rfl (sp_loadBox1 (Y := .box 27 (cFm a)) (X := strsA a.states) (.tmp 31) rfl Tryd.underlying22 rfl rfl) ⟨I0, T0⟩ ⟨rfl, T0⟩ T0 ?_
 refine t_opG rfl (sp_lenSl (.tmp 32) rfl Tryd.underlying22) ⟨I0, T0⟩ T0 T0 ?_
 refine t_opG rfl (sp_fieldBox (off' := 2) (.tmp 3) rfl Tryd.underlying27 rfl (z := 1) (by kernel_rfl) (by decide) rfl) ⟨I0, T0⟩ T0 T0 ?_
 refine t_opG rfl (sp_loadBox1 (Y := .box 27 (cFm b)) (X := strsA b.states) (.tmp 34) rfl Tryd.underlying22 rfl rfl) ⟨I0, T0⟩ ⟨rfl, T0⟩ T0 ?_
 refine t_opG rfl (sp_lenSl (.tmp 35) rfl Tryd.underlying22) ⟨I0, T0⟩ T0 T0 ?_
 refine t_opG rfl (sp_neq rfl (dT' hs4)) ⟨I0, I0, T0⟩ T0 T0 ?_
 refine t_op rfl (sp_pick (.tmp 30) (.const (.bool true)) (.tmp 37) false (bv true) (bv false) rfl) ⟨I0, I0, I0, T0⟩ T0 T0 ?_
 refine t_op rfl (sp_move (.tmp 38) (bv false) rfl) ⟨I0, T0⟩ T0 T0 ?_
 refine t_opG rfl (sp_fieldBox (off' := 3) (.tmp 2) rfl Tryd.underlying27 rfl (z := 1) (by kernel_rfl) (by decide) rfl) ⟨I0, T0⟩ T0 T0 ?_
 refine t_opG rfl (sp_loadBox1 (Y := .box 27 (cFm a)) (X := strsA a.msgs) (.tmp 40) rfl Tryd.underlying22 rfl rfl) ⟨I0, T0⟩ ⟨rfl, T0⟩ T0 ?_
 refine t_opG rfl (sp_lenSl (.tmp 41) rfl Tryd.underlying22) ⟨I0, T0⟩ T0 T0 ?_
 refine t_opG rfl (sp_fieldBox (off' := 3) (.tmp 3) rfl Tryd.underlying27 rfl (z := 1) (by kernel_rfl) (by decide) rfl) ⟨I0, T0⟩ T0 T0 ?_
 refine t_opG rfl (sp_loadBox1 (Y := .box 27 (cFm b)) (X := strsA b.msgs) (.tmp 43) rfl Tryd.underlying22 rfl rfl) ⟨I0, T0⟩ ⟨rfl, T0⟩ T0 ?_
 refine t_opG rfl (sp_lenSl (.tmp 44) rfl Tryd.underlying22) ⟨I0, T0⟩ T0 T0 ?_
 refine t_opG rfl (sp_neq rfl (dT' hs5)) ⟨I0, I0, T0⟩ T0 T0 ?_
 refine t_op rfl (sp_pick (.tmp 39) (.const (.bool true)) (.tmp 46) false (bv true) (bv false) rfl) ⟨I0, I0, I0, T0⟩ T0 T0 ?_
 refine t_op rfl (sp_move (.tmp 47) (bv false) rfl) ⟨I0, T0⟩ T0 T0 ?_
 refine t_opG rfl (sp_fieldBox (off' := 4) (.tmp 2) rfl Tryd.underlying27 rfl (z := 1) (by kernel_rfl) (by decide) rfl) ⟨I0, T0⟩ T0 T0 ?_
 refine t_opG rfl (sp_loadBox1 (Y := .box 27 (cFm a)) (X := strsA a.vals) (.tmp 49) rfl Tryd.underlying22 rfl rfl) ⟨I0, T0⟩ ⟨rfl, T0⟩ T0 ?_
 refine t_opG rfl (sp_lenSl (.tmp 50) rfl Tryd.underlying22) ⟨I0, T0⟩ T0 T0 ?_
 refine t_opG rfl (sp_fieldBox (off' := 4) (.tmp 3) rfl Tryd.underlying27 rfl (z := 1) (by kernel_rfl) (by decide) rfl) ⟨I0, T0⟩ T0 T0 ?_
 refine t_opG rfl (sp_loadBox1 (Y := .box 27 (cFm b)) (X := strsA b.vals) (.tmp 52) rfl Tryd.underlying22 rfl rfl) ⟨I0, T0⟩ ⟨rfl, T0⟩ T0 ?_
 refine t_opG rfl (sp_lenSl (.tmp 53) rfl Tryd.underlying22) ⟨I0, T0⟩ T0 T0 ?_
 refine t_opG rfl (sp_neq rfl (dT' hs6)) ⟨I0, I0, T0⟩ T0 T0 ?_
 refine t_op rfl (sp_pick (.tmp 48) (.const (.bool true)) (.tmp 55) false (bv true) (bv false) rfl) ⟨I0, I0, I0, T0⟩ T0 T0 ?_
 refine t_op rfl (sp_move (.tmp 56) (bv false) rfl) ⟨I0, T0⟩ T0 T0 ?_
 refine t_opG rfl (sp_fieldBox (off' := 5) (.tmp 2) rfl Tryd.underlying27 rfl (z := 1) (by kernel_rfl) (by decide) rfl) ⟨I0, T0⟩ T0 T0 ?_
 refine t_opG rfl (sp_loadBox1 (Y := .box 27 (cFm a)) (X := iv a.fault) (.tmp 58) rfl Tryd.underlying3 rfl rfl) ⟨I0, T0⟩ ⟨rfl, T0⟩ T0 ?_
 refine t_opG rfl (sp_fieldBox (off' := 5) (.tmp 3) rfl Tryd.underlying27 rfl (z := 1) (by kernel_rfl) (by decide) rfl) ⟨I0, T0⟩ T0 T0 ?_
 refine t_opG rfl (sp_loadBox1 (Y := .box 27 (cFm b)) (X := iv b.fault) (.tmp 60) rfl Tryd.underlying3 rfl rfl) ⟨I0, T0⟩ ⟨rfl, T0⟩ T0 ?_
 refine t_opG rfl (sp_neq rfl (dF' hs7)) ⟨I0, I0, T0⟩ T0 T0 ?_
 refine t_op rfl (sp_pick (.tmp 57) (.const (.bool true)) (.tmp 62) false (bv true) (bv true) rfl) ⟨I0, I0, I0, T0⟩ T0 T0 ?_
 refine t_op rfl (sp_move (.tmp 63) (bv true) rfl) ⟨I0, T0⟩ T0 T0 ?_
 refine t_skip rfl ?_
 refine t_skip rfl ?_
 refine t_skip rfl ?_
 refine t_skip rfl ?_
 refine t_skip rfl ?_
 refine t_skip rfl ?_
 refine t_op rfl (sp_pick (.tmp 64) (.const (.bool true)) (.tmp 70) true (bv true) (.v (.tuple #[])) rfl) ⟨I0, I0, I0, T0⟩ T0 T0 ?_
 refine t_op rfl (sp_move (.tmp 71) (bv true) rfl) ⟨I0, T0⟩ T0 T0 ?_
 refine t_skip rfl ?_
 refine t_skip rfl ?_
 refine t_skip rfl ?_
 refine t_skip rfl ?_
 refine t_skip rfl ?_
 refine t_skip rfl ?_
 refine t_op rfl (sp_pick (.tmp 72) (.const (.bool true)) (.tmp 78) true (bv true) (.v (.tuple #[])) rfl) ⟨I0, I0, I0, T0⟩ T0 T0 ?_
 refine t_op rfl (sp_move (.tmp 79) (bv true) rfl) ⟨I0, T0⟩ T0 T0 ?_
 refine t_skip rfl ?_
 refine t_skip rfl ?_
 refine t_skip rfl ?_
 refine t_skip rfl ?_
 refine t_skip rfl ?_
 refine t_skip rfl ?_
 refine t_op rfl (sp_pick (.tmp 80) (.const (.bool true)) (.tmp 86) true (bv true) (.v (.tuple #[])) rfl) ⟨I0, I0, I0, T0⟩ T0 T0 ?_
 refine t_op rfl (sp_fieldBox (off' := 1) (.tmp 8) rfl Tryd.underlying47 rfl (z := 1) (by kernel_rfl) (by decide) rfl) ⟨I0, T0⟩ T0 T0 ?_
 refine t_op rfl (sp_storeBox (T0 := 47) (X := bv true) (cs := [bv false, bv false, .v (.slice none 0 0)]) (ds := [bv false, bv true, .v (.slice none 0 0)]) (z := 1) (.tmp 88) (.tmp 87) rfl (by kernel_rfl) (by kernel_rfl) (by kernel_rfl) (of_decide_eq_true (by kernel_rfl)) (by kernel_rfl)) ⟨I0, I0, T0⟩ ⟨rfl, T0⟩ rfl ?_
 refine tri_nil ?_
 refine tri_wk (wk_keep [(1, .box 27 (cFm a)), (2, .box 27 (cFm b)), (3, .box 47 [bv false, bv false, .v (.slice none 0 0)]), (4, .box 47 [bv false, bv true, .v (.slice none 0 0)])] [(2, .box 1 0), (3, .box 2 0), (4, .box 3 0), (5, iv 0), (8, .box 4 0)] (n := 156)) ?_
 rw [show difB a b = true by simp only [difB, Bool.or_true, Bool.true_or, Bool.or_false, Bool.false_or, Bool.and_true, Bool.true_and, Bool.and_false, Bool.false_and, Bool.not_true, Bool.not_false, decide_eq_true hs1, decide_eq_true hs2, decide_eq_true hs3, decide_eq_true hs4, decide_eq_true hs5, decide_eq_true hs6, decide_eq_false hs7]]
 exact t_meet T0 (wk_keep _ _ rfl (by kernel_rfl) (by kernel_rfl))
 refine tri_region ?_
 refine t_op rfl (sp_fieldBox (off' := 1) (.tmp 2) rfl Tryd.underlying27 rfl (z := 1) (by kernel_rfl) (by decide) rfl) ⟨I0, T0⟩ T0 T0 ?_
 refine t_op rfl (sp_loadBox1 (Y := .box 27 (cFm a)) (X := iv a.top) (.tmp 25) rfl Tryd.underlying3 rfl rfl) ⟨I0, T0⟩ ⟨rfl, T0⟩ T0 ?_
 refine t_op rfl (sp_fieldBox (off' := 1) (.tmp 3) rfl Tryd.underlying27 rfl (z := 1) (by kernel_rfl) (by decide) rfl) ⟨I0, T0⟩ T0 T0 ?_
 refine t_op rfl (sp_loadBox1 (Y := .box 27 (cFm b)) (X := iv b.top) (.tmp 27) rfl Tryd.underlying3 rfl rfl) ⟨I0, T0⟩ ⟨rfl, T0⟩ T0 ?_
 refine t_op rfl (sp_neq rfl (dT' hs3)) ⟨I0, I0, T0⟩ T0 T0 ?_
 refine t_op rfl (sp_move (.tmp 29) (bv false) rfl) ⟨I0, T0⟩ T0 T0 ?_
 refine t_opG rfl (sp_fieldBox (off' := 2) (.tmp 2) rfl Tryd.underlying27 rfl (z := 1) (by kernel_rfl) (by decide) rfl) ⟨I0, T0⟩ T0 T0 ?_
 refine t_opG rfl (sp_loadBox1 (Y := .box 27 (cFm a)) (X := strsA a.states) (.tmp 31) rfl Tryd.underlying22 rfl rfl) ⟨I0, T0⟩ ⟨rfl, T0⟩ T0 ?_
 refine t_opG rfl (sp_lenSl (.tmp 32) rfl Tryd.underlying22) ⟨I0, T0⟩ T0 T0 ?_
 refine t_opG rfl (sp_fieldBox (off' := 2) (.tmp 3) rfl Tryd.underlying27 rfl (z := 1) (by kernel_rfl) (by decide) rfl) ⟨I0, T0⟩ T0 T0 ?_
 refine t_opG rfl (sp_loadBox1 (Y := .box 27 (cFm b)) (X := strsA b.states) (.tmp 34) rfl Tryd.underlying22 rfl rfl) ⟨I0, T0⟩ ⟨rfl, T0⟩ T0 ?_
 refine t_opG rfl (sp_lenSl (.tmp 35) rfl Tryd.underlying22) ⟨I0, T0⟩ T0 T0 ?_
 refine t_opG rfl (sp_neq rfl (dT' hs4)) ⟨I0, I0, T0⟩ T0 T0 ?_
 refine t_op rfl (sp_pick (.tmp 30) (.const (.bool true)) (.tmp 37) false (bv true) (bv false) rfl) ⟨I0, I0, I0, T0⟩ T0 T0 ?_
 refine t_op rfl (sp_move (.tmp 38) (bv false) rfl) ⟨I0, T0⟩ T0 T0 ?_
 refine t_opG rfl (sp_fieldBox (off' := 3) (.tmp 2) rfl Tryd.underlying27 rfl (z := 1) (by kernel_rfl) (by decide) rfl) ⟨I0, T0⟩ T0 T0 ?_
 refine t_opG rfl (sp_loadBox1 (Y := .box 27 (cFm a)) (X := strsA a.msgs) (.tmp 40) rfl Tryd.underlying22 rfl rfl) ⟨I0, T0⟩ ⟨rfl, T0⟩ T0 ?_
 refine t_opG rfl (sp_lenSl (.tmp 41) rfl Tryd.underlying22) ⟨I0, T0⟩ T0 T0 ?_
 refine t_opG rfl (sp_fieldBox (off' := 3) (.tmp 3) rfl Tryd.underlying27 rfl (z := 1) (by kernel_rfl) (by decide) rfl) ⟨I0, T0⟩ T0 T0 ?_
 refine t_opG rfl (sp_loadBox1 (Y := .box 27 (cFm b)) (X := strsA b.msgs) (.tmp 43) rfl Tryd.underlying22 rfl rfl) ⟨I0, T0⟩ ⟨rfl, T0⟩ T0 ?_
 refine t_opG rfl (sp_lenSl (.tmp 44) rfl Tryd.underlying22) ⟨I0, T0⟩ T0 T0 ?_
 refine t_opG rfl (sp_neq rfl (dT' hs5)) ⟨I0, I0, T0⟩ T0 T0 ?_
 refine t_op rfl (sp_pick (.tmp 39) (.const (.bool true)) (.tmp 46) false (bv true) (bv false) rfl) ⟨I0, I0, I0, T0⟩ T0 T0 ?_
 refine t_op rfl (sp_move (.tmp 47) (bv false) rfl) ⟨I0, T0⟩ T0 T0 ?_
 refine t_opG rfl (sp_fieldBox (off' := 4) (.tmp 2) rfl Tryd.underlying27 rfl (z := 1) (by kernel_rfl) (by decide) rfl) ⟨I0, T0⟩ T0 T0 ?_
 refine t_opG rfl (sp_loadBox1 (Y := .box 27 (cFm a)) (X := strsA a.vals) (.tmp 49) rfl Tryd.underlying22 rfl rfl) ⟨I0, T0⟩ ⟨rfl, T0⟩ T0 ?_
 refine t_opG rfl (sp_lenSl (.tmp 50) rfl Tryd.underlying22) ⟨I0, T0⟩ T0 T0 ?_
 refine t_opG rfl (sp_fieldBox (off' := 4) (.tmp 3) rfl Tryd.underlying27 rfl (z := 1) (by kernel_rfl) (by decide) rfl) ⟨I0, T0⟩ T0 T0 ?_
 refine t_opG rfl (sp_loadBox1 (Y := .box 27 (cFm b)) (X := strsA b.vals) (.tmp 52) rfl Tryd.underlying22 rfl rfl) ⟨I0, T0⟩ ⟨rfl, T0⟩ T0 ?_
 refine t_opG rfl (sp_lenSl (.tmp 53) rfl Tryd.underlying22) ⟨I0, T0⟩ T0 T0 ?_
 refine t_opG rfl (sp_neq rfl (dF' hs6)) ⟨I0, I0, T0⟩ T0 T0 ?_
 refine t_op rfl (sp_pick (.tmp 48) (.const (.bool true)) (.tmp 55) false (bv true) (bv true) rfl) ⟨I0, I0, I0, T0⟩ T0 T0 ?_
 refine t_op rfl (sp_move (.tmp 56) (bv true) rfl) ⟨I0, T0⟩ T0 T0 ?_
 refine t_skip rfl ?_
 refine t_skip rfl ?_
 refine t_skip rfl ?_
 refine t_skip rfl ?_
 refine t_skip rfl ?_
 refine t_op rfl (sp_pick (.tmp 57) (.const (.bool true)) (.tmp 62) true (bv true) (.v (.tuple #[])) rfl) ⟨I0, I0, I0, T0⟩ T0 T0 ?_
 refine t_op rfl (sp_move (.tmp 63) (bv true) rfl) ⟨I0, T0⟩ T0 T0 ?_
 refine t_skip rfl ?_
 refine t_skip rfl ?_
 refine t_skip rfl ?_
 refine t_skip rfl ?_
 refine t_skip rfl ?_
 refine t_skip rfl ?_
 refine t_op rfl (sp_pick (.tmp 64) (.const (.bool true)) (.tmp 70) true (bv true) (.v (.tuple #[])) rfl) ⟨I0, I0, I0, T0⟩ T0 T0 ?_
 refine t_op rfl (sp_move (.tmp 71) (bv true) rfl) ⟨I0, T0⟩ T0 T0 ?_
 refine t_skip rfl ?_
 refine t_skip rfl ?_
 refine t_skip rfl ?_
 refine t_skip rfl ?_
 refine t_skip rfl ?_
 refine t_skip rfl ?_
 refine t_op rfl (sp_pick (.tmp 72) (.const (.bool true)) (.tmp 78) true (bv true) (.v (.tuple #[])) rfl) ⟨I0, I0, I0, T0⟩ T0 T0 ?_
 refine t_op rfl (sp_move (.tmp 79) (bv true) rfl) ⟨I0, T0⟩ T0 T0 ?_
 refine t_skip rfl ?_
 refine t_skip rfl ?_
 refine t_skip rfl ?_
 refine t_skip rfl ?_
 refine t_skip rfl ?_
 refine t_skip rfl ?_
 refine t_op rfl (sp_pick (.tmp 80) (.const (.bool true)) (.tmp 86) true (bv true) (.v (.tuple #[])) rfl) ⟨I0, I0, I0, T0⟩ T0 T0 ?_
 refine t_op rfl (sp_fieldBox (off' := 1) (.tmp 8) rfl Tryd.underlying47 rfl (z := 1) (by kernel_rfl) (by decide) rfl) ⟨I0, T0⟩ T0 T0 ?_
 refine t_op rfl (sp_storeBox (T0 := 47) (X := bv true) (cs := [bv false, bv false, .v (.slice none 0 0)]) (ds := [bv false, bv true, .v (.slice none 0 0)]) (z := 1) (.tmp 88) (.tmp 87) rfl (by kernel_rfl) (by kernel_rfl) (by kernel_rfl) (of_decide_eq_true (by kernel_rfl)) (by kernel_rfl)) ⟨I0, I0, T0⟩ ⟨rfl, T0⟩ rfl ?_
 refine tri_nil ?_
 refine tri_wk (wk_keep [(1, .box 27 (cFm a)), (2, .box 27 (cFm b)), (3, .box 47 [bv false, bv false, .v (.slice none 0 0)]), (4, .box 47 [bv false, bv true, .v (.slice none 0 0)])] [(2, .box 1 0), (3, .box 2 0), (4, .box 3 0), (5, iv 0), (8, .box 4 0)] (n := 156)) ?_
 rw [show difB a b = true by simp only [difB, Bool.or_true, Bool.true_or, Bool.or_false, Bool.false_or, Bool.and_true, Bool.true_and, Bool.and_false, Bool.false_and, Bool.not_true, Bool.not_false, decide_eq_true hs1, decide_eq_true hs2, decide_eq_true hs3, decide_eq_true hs4, decide_eq_true hs5, decide_eq_false hs6]]
 exact t_meet T0 (wk_keep _ _ rfl (by kernel_rfl) (by kernel_rfl))
 refine tri_region ?_
 refine t_op rfl (sp_fieldBox (off' := 1) (.tmp 2) rfl Tryd.underlying27 rfl (z := 1) (by kernel_rfl) (by decide) rfl) ⟨I0, T0⟩ T0 T0 ?_
 refine t_op rfl (sp_loadBox1 (Y := .box 27 (cFm a)) (X := iv a.top) (.tmp 25) rfl Tryd.underlying3 rfl rfl) ⟨I0, T0⟩ ⟨rfl, T0⟩ T0 ?_
 refine t_op rfl (sp_fieldBox (off' := 1) (.tmp 3) rfl Tryd.underlying27 rfl (z := 1) (by kernel_rfl) (by decide) rfl) ⟨I0, T0⟩ T0 T0 ?_
 refine t_op rfl (sp_loadBox1 (Y := .box 27 (cFm b)) (X := iv b.top) (.tmp 27) rfl Tryd.underlying3 rfl rfl) ⟨I0, T0⟩ ⟨rfl, T0⟩ T0 ?_
 refine t_op rfl (sp_neq rfl (dT' hs3)) ⟨I0, I0, T0⟩ T0 T0 ?_
 refine t_op rfl (sp_move (.tmp 29) (bv false) rfl) ⟨I0, T0⟩ T0 T0 ?_
 refine t_opG rfl (sp_fieldBox (off' := 2) (.tmp 2) rfl Tryd.underlying27 rfl (z := 1) (by kernel_rfl) (by decide) rfl) ⟨I0, T0⟩ T0 T0 ?_
 refine t_opG rfl (sp_loadBox1 (Y := .box 27 (cFm a)) (X := strsA a.states) (.tmp 31) rfl Tryd.underlying22 rfl rfl) ⟨I0, T0⟩ ⟨rfl, T0⟩ T0 ?_
 refine t_opG rfl (sp_lenSl (.tmp 32) rfl Tryd.underlying22) ⟨I0, T0⟩ T0 T0 ?_
 refine t_opG rfl (sp_fieldBox (off' := 2) (.tmp 3) rfl Tryd.underlying27 rfl (z := 1) (by kernel_rfl) (by decide) rfl) ⟨I0, T0⟩ T0 T0 ?_
 refine t_opG rfl (sp_loadBox1 (Y := .box 27 (cFm b)) (X := strsA b.states) (.tmp 34) rfl Tryd.underlying22 rfl rfl) ⟨I0, T0⟩ ⟨rfl, T0⟩ T0 ?_
 refine t_opG rfl (sp_lenSl (.tmp 35) rfl Tryd.underlying22) ⟨I0, T0⟩ T0 T0 ?_
 refine t_opG rfl (sp_neq rfl (dT' hs4)) ⟨I0, I0, T0⟩ T0 T0 ?_
 refine t_op rfl (sp_pick (.tmp 30) (.const (.bool true)) (.tmp 37) false (bv true) (bv false) rfl) ⟨I0, I0, I0, T0⟩ T0 T0 ?_
 refine t_op rfl (sp_move (.tmp 38) (bv false) rfl) ⟨I0, T0⟩ T0 T0 ?_
 refine t_opG rfl (sp_fieldBox (off' := 3) (.tmp 2) rfl Tryd.underlying27 rfl (z := 1) (by kernel_rfl) (by decide) rfl) ⟨I0, T0⟩ T0 T0 ?_
 refine t_opG rfl (sp_loadBox1 (Y := .box 27 (cFm a)) (X := strsA a.msgs) (.tmp 40) rfl Tryd.underlying22 rfl rfl) ⟨I0, T0⟩ ⟨rfl, T0⟩ T0 ?_
 refine t_opG rfl (sp_lenSl (.tmp 41) rfl Tryd.underlying22) ⟨I0, T0⟩ T0 T0 ?_
 refine t_opG rfl (sp_fieldBox (off' := 3) (.tmp 3) rfl Tryd.underlying27 rfl (z := 1) (by kernel_rfl) (by decide) rfl) ⟨I0, T0⟩ T0 T0 ?_
 refine t_opG rfl (sp_loadBox1 (Y := .box 27 (cFm b)) (X := strsA b.msgs) (.tmp 43) rfl Tryd.underlying22 rfl rfl) ⟨I0, T0⟩ ⟨rfl, T0⟩ T0 ?_
 refine t_opG rfl (sp_lenSl (.tmp 44) rfl Tryd.underlying22) ⟨I0, T0⟩ T0 T0 ?_
 refine t_opG rfl (sp_neq rfl (dF' hs5)) ⟨I0, I0, T0⟩ T0 T0 ?_
 refine t_op rfl (sp_pick (.tmp 39) (.const (.bool true)) (.tmp 46) false (bv true) (bv true) rfl) ⟨I0, I0, I0, T0⟩ T0 T0 ?_
 refine t_op rfl (sp_move (.tmp 47) (bv true) rfl) ⟨I0, T0⟩ T0 T0 ?_
 refine t_skip rfl ?_
 refine t_skip rfl ?_
 refine t_skip rfl ?_
 refine t_skip rfl ?_
 refine t_skip rfl ?_
 refine t_skip rfl ?_
 refine t_skip rfl ?_
 refine t_op rfl (sp_pick (.tmp 48) (.const (.bool true)) (.tmp 55) true (bv true) (.v (.tuple #[])) rfl) ⟨I0, I0, I0, T0⟩ T0 T0 ?_
 refine t_op rfl (sp_move (.tmp 56) (bv true) rfl) ⟨I0, T0⟩ T0 T0 ?_
 refine t_skip rfl ?_
 refine t_skip rfl ?_
 refine t_skip rfl ?_
 refine t_skip rfl ?_
 refine t_skip rfl ?_
 refine t_op rfl (sp_pick (.tmp 57) (.const (.bool true)) (.tmp 62) true (bv true) (.v (.tuple #[])) rfl) ⟨I0, I0, I0, T0⟩ T0 T0 ?_
 refine t_op rfl (sp_move (.tmp 63) (bv true) rfl) ⟨I0, T0⟩ T0 T0 ?_
 refine t_skip rfl ?_
 refine t_skip rfl ?_
 refine t_skip rfl ?_
 refine t_skip rfl ?_
 refine t_skip rfl ?_
 refine t_skip rfl ?_
 refine t_op rfl (sp_pick (.tmp 64) (.const (.bool true)) (.tmp 70) true (bv true) (.v (.tuple #[])) rfl) ⟨I0, I0, I0, T0⟩ T0 T0 ?_
 refine t_op rfl (sp_move (.tmp 71) (bv true) rfl) ⟨I0, T0⟩ T0 T0 ?_
 refine t_skip rfl ?_
 refine t_skip rfl ?_
 refine t_skip rfl ?_
 refine t_skip rfl ?_
 refine t_skip rfl ?_
 refine t_skip rfl ?_
 refine t_op rfl (sp_pick (.tmp 72) (.const (.bool true)) (.tmp 78) true (bv true) (.v (.tuple #[])) rfl) ⟨I0, I0, I0, T0⟩ T0 T0 ?_
 refine t_op rfl (sp_move (.tmp 79) (bv true) rfl) ⟨I0, T0⟩ T0 T0 ?_
 refine t_skip rfl ?_
 refine t_skip rfl ?_
 refine t_skip rfl ?_
 refine t_skip rfl ?_
 refine t_skip rfl ?_
 refine t_skip rfl ?_
 refine t_op rfl (sp_pick (.tmp 80) (.const (.bool true)) (.tmp 86) true (bv true) (.v (.tuple #[])) rfl) ⟨I0, I0, I0, T0⟩ T0 T0 ?_
 refine t_op rfl (sp_fieldBox (off' := 1) (.tmp 8) rfl Tryd.underlying47 rfl (z := 1) (by kernel_rfl) (by decide) rfl) ⟨I0, T0⟩ T0 T0 ?_
 refine t_op rfl (sp_storeBox (T0 := 47) (X := bv true) (cs := [bv false, bv false, .v (.slice none 0 0)]) (ds := [bv false, bv true, .v (.slice none 0 0)]) (z := 1) (.tmp 88) (.tmp 87) rfl (by kernel_rfl) (by kernel_rfl) (by kernel_rfl) (of_decide_eq_true (by kernel_rfl)) (by kernel_rfl)) ⟨I0, I0, T0⟩ ⟨rfl, T0⟩ rfl ?_
 refine tri_nil ?_
 refine tri_wk (wk_keep [(1, .box 27 (cFm a)), (2, .box 27 (cFm b)), (3, .box 47 [bv false, bv false, .v (.slice none 0 0)]), (4, .box 47 [bv false, bv true, .v (.slice none 0 0)])] [(2, .box 1 0), (3, .box 2 0), (4, .box 3 0), (5, iv 0), (8, .box 4 0)] (n := 156)) ?_
 rw [show difB a b = true by simp only [difB, Bool.or_true, Bool.true_or, Bool.or_false, Bool.false_or, Bool.and_true, Bool.true_and, Bool.and_false, Bool.false_and, Bool.not_true, Bool.not_false, decide_eq_true hs1, decide_eq_true hs2, decide_eq_true hs3, decide_eq_true hs4, decide_eq_false hs5]]
 exact t_meet T0 (wk_keep _ _ rfl (by kernel_rfl) (by kernel_rfl))
 refine tri_region ?_
 refine t_op rfl (sp_fieldBox (off' := 1) (.tmp 2) rfl Tryd.underlying27 rfl (z := 1) (by kernel_rfl) (by decide) rfl) ⟨I0, T0⟩ T0 T0 ?_
 refine t_op rfl (sp_loadBox1 (Y := .box 27 (cFm a)) (X := iv a.top) (.tmp 25) rfl Tryd.underlying3 rfl rfl) ⟨I0, T0⟩ ⟨rfl, T0⟩ T0 ?_
 refine t_op rfl (sp_fieldBox (off' := 1) (.tmp 3) rfl Tryd.underlying27 rfl (z := 1) (by kernel_rfl) (by decide) rfl) ⟨I0, T0⟩ T0 T0 ?_
 refine t_op rfl (sp_loadBox1 (Y := .box 27 (cFm b)) (X := iv b.top) (.tmp 27) rfl Tryd.underlying3 rfl rfl) ⟨I0, T0⟩ ⟨rfl, T0⟩ T0 ?_
 refine t_op rfl (sp_neq rfl (dT' hs3)) ⟨I0, I0, T0⟩ T0 T0 ?_
 refine t_op rfl (sp_move (.tmp 29) (bv false) rfl) ⟨I0, T0⟩ T0 T0 ?_
 refine t_opG rfl (sp_fieldBox (off' := 2) (.tmp 2) rfl Tryd.underlying27 rfl (z := 1) (by kernel_rfl) (by decide) rfl) ⟨I0, T0⟩ T0 T0 ?_
 refine t_opG rfl (sp_loadBox1 (Y := .box 27 (cFm a)) (X := strsA a.states) (.tmp 31) rfl Tryd.underlying22 rfl rfl) ⟨I0, T0⟩ ⟨rfl, T0⟩ T0 ?_
 refine t_opG rfl (sp_lenSl (.tmp 32) rfl Tryd.underlying22) ⟨I0, T0⟩ T0 T0 ?_
 refine t_opG rfl (sp_fieldBox (off' := 2) (.tmp 3) rfl Tryd.underlying27 rfl (z := 1) (by kernel_rfl) (by decide) rfl) ⟨I0, T0⟩ T0 T0 ?_
 refine t_opG rfl (sp_loadBox1 (Y := .box 27 (cFm b)) (X := strsA b.states) (.tmp 34) rfl Tryd.underlying22 rfl rfl) ⟨I0, T0⟩ ⟨rfl, T0⟩ T0 ?_
 refine t_opG rfl (sp_lenSl (.tmp 35) rfl Tryd.underlying22) ⟨I0, T0⟩ T0 T0 ?_
 refine t_opG rfl (sp_neq rfl (dF' hs4)) ⟨I0, I0, T0⟩ T0 T0 ?_
 refine t_op rfl (sp_pick (.tmp 30) (.const (.bool true)) (.tmp 37) false (bv true) (bv true) rfl) ⟨I0, I0, I0, T0⟩ T0 T0 ?_
 refine t_op rfl (sp_move (.tmp 38) (bv true) rfl) ⟨I0, T0⟩ T0 T0 ?_
 refine t_skip rfl ?_
 refine t_skip rfl ?_
 refine t_skip rfl ?_
 refine t_skip rfl ?_
 refine t_skip rfl ?_
 refine t_skip rfl ?_
 refine t_skip rfl ?_
 refine t_op rfl (sp_pick (.tmp 39) (.const (.bool true)) (.tmp 46) true (bv true) (.v (.tuple #[])) rfl) ⟨I0, I0, I0, T0⟩ T0 T0 ?_
 refine t_op rfl (sp_move (.tmp 47) (bv true) rfl) ⟨I0, T0⟩ T0 T0 ?_
 refine t_skip rfl ?_
 refine t_skip rfl ?_
 refine t_skip rfl ?_
 refine t_skip rfl ?_
 refine t_skip rfl ?_
 refine t_skip rfl ?_
 refine t_skip rfl ?_
 refine t_op rfl (sp_pick (.tmp 48) (.const (.bool true)) (.tmp 55) true (bv true) (.v (.tuple #[])) rfl) ⟨I0, I0, I0, T0⟩ T0 T0 ?_
 refine t_op rfl (sp_move (.tmp 56) (bv true) rfl) ⟨I0, T0⟩ T0 T0 ?_
 refine t_skip rfl ?_
 refine t_skip rfl ?_
 refine t_skip rfl ?_
 refine t_skip rfl ?_
 refine t_skip rfl ?_
 refine t_op rfl (sp_pick (.tmp 57) (.const (.bool true)) (.tmp 62) true (bv true) (.v (.tuple #[])) rfl) ⟨I0, I0, I0, T0⟩ T0 T0 ?_
 refine t_op rfl (sp_move (.tmp 63) (bv true) rfl) ⟨I0, T0⟩ T0 T0 ?_
 refine t_skip rfl ?_
 refine t_skip rfl ?_
 refine t_skip rfl ?_
 refine t_skip rfl ?_
 refine t_skip rfl ?_
 refine t_skip rfl ?_
 refine t_op rfl (sp_pick (.tmp 64) (.const (.bool true)) (.tmp 70) true (bv true) (.v (.tuple #[])) rfl) ⟨I0, I0, I0, T0⟩ T0 T0 ?_
 refine t_op rfl (sp_move (.tmp 71) (bv true) rfl) ⟨I0, T0⟩ T0 T0 ?_
 refine t_skip rfl ?_
 refine t_skip rfl ?_
 refine t_skip rfl ?_
 refine t_skip rfl ?_
 refine t_skip rfl ?_
 refine t_skip rfl ?_
 refine t_op rfl (sp_pick (.tmp 72) (.const (.bool true)) (.tmp 78) true (bv true) (.v (.tuple #[])) rfl) ⟨I0, I0, I0, T0⟩ T0 T0 ?_
 refine t_op rfl (sp_move (.tmp 79) (bv true) rfl) ⟨I0, T0⟩ T0 T0 ?_
 refine t_skip rfl ?_
 refine t_skip rfl ?_
 refine t_skip rfl ?_
 refine t_skip rfl ?_
 refine t_skip rfl ?_
 refine t_skip rfl ?_
 refine t_op rfl (sp_pick (.tmp 80) (.const (.bool true)) (.tmp 86) true (bv true) (.v (.tuple #[])) rfl) ⟨I0, I0, I0, T0⟩ T0 T0 ?_
 refine t_op rfl (sp_fieldBox (off' := 1) (.tmp 8) rfl Tryd.underlying47 rfl (z := 1) (by kernel_rfl) (by decide) rfl) ⟨I0, T0⟩ T0 T0 ?_
 refine t_op rfl (sp_storeBox (T0 := 47) (X := bv true) (cs := [bv false, bv false, .v (.slice none 0 0)]) (ds := [bv false, bv true, .v (.slice none 0 0)]) (z := 1) (.tmp 88) (.tmp 87) rfl (by kernel_rfl) (by kernel_rfl) (by kernel_rfl) (of_decide_eq_true (by kernel_rfl)) (by kernel_rfl)) ⟨I0, I0, T0⟩ ⟨rfl, T0⟩ rfl ?_
 refine tri_nil ?_
 refine tri_wk (wk_keep [(1, .box 27 (cFm a)), (2, .box 27 (cFm b)), (3, .box 47 [bv false, bv false, .v (.slice none 0 0)]), (4, .box 47 [bv false, bv true, .v (.slice none 0 0)])] [(2, .box 1 0), (3, .box 2 0), (4, .box 3 0), (5, iv 0), (8, .box 4 0)] (n := 156)) ?_
 rw [show difB a b = true by simp only [difB, Bool.or_true, Bool.true_or, Bool.or_false, Bool.false_or, Bool.and_true, Bool.true_and, Bool.and_false, Bool.false_and, Bool.not_true, Bool.not_false, decide_eq_true hs1, decide_eq_true hs2, decide_eq_true hs3, decide_eq_false hs4]]
 exact t_meet T0 (wk_keep _ _ rfl (by kernel_rfl) (by kernel_rfl))
 refine tri_region ?_
 refine t_op rfl (sp_fieldBox (off' := 1) (.tmp 2) rfl Tryd.underlying27 rfl (z := 1) (by kernel_rfl) (by decide) rfl) ⟨I0, T0⟩ T0 T0 ?_
 refine t_op rfl (sp_loadBox1 (Y := .box 27 (cFm a)) (X := iv a.top) (.tmp 25) rfl Tryd.underlying3 rfl rfl) ⟨I0, T0⟩ ⟨rfl, T0⟩ T0 ?_
 refine t_op rfl (sp_fieldBox (off' := 1) (.tmp 3) rfl Tryd.underlying27 rfl (z := 1) (by kernel_rfl) (by decide) rfl) ⟨I0, T0⟩ T0 T0 ?_
 refine t_op rfl (sp_loadBox1 (Y := .box 27 (cFm b)) (X := iv b.top) (.tmp 27) rfl Tryd.underlying3 rfl rfl) ⟨I0, T0⟩ ⟨rfl, T0⟩ T0 ?_
 refine t_op rfl (sp_neq rfl (dF' hs3)) ⟨I0, I0, T0⟩ T0 T0 ?_
 refine t_op rfl (sp_move (.tmp 29) (bv true) rfl) ⟨I0, T0⟩ T0 T0 ?_
 refine t_skip rfl ?_
 refine t_skip rfl ?_
 refine t_skip rfl ?_
 refine t_skip rfl ?_
 refine t_skip rfl ?_
 refine t_skip rfl ?_
 refine t_skip rfl ?_
 refine t_op rfl (sp_pick (.tmp 30) (.const (.bool true)) (.tmp 37) true (bv true) (.v (.tuple #[])) rfl) ⟨I0, I0, I0, T0⟩ T0 T0 ?_
 refine t_op rfl (sp_move (.tmp 38) (bv true) rfl) ⟨I0, T0⟩ T0 T0 ?_
 refine t_skip rfl ?_
 refine t_skip rfl ?_
 refine t_skip rfl ?_
 refine t_skip rfl ?_
 refine t_skip rfl ?_
 refine t_skip rfl ?_
 refine t_skip rfl ?_
 refine t_op rfl (sp_pick (.tmp 39) (.const (.bool true)) (.tmp 46) true (bv true) (.v (.tuple #[])) rfl) ⟨I0, I0, I0, T0⟩ T0 T0 ?_
 refine t_op rfl (sp_move (.tmp 47) (bv true) rfl) ⟨I0, T0⟩ T0 T0 ?_
 refine t_skip rfl ?_
 refine t_skip rfl ?_
 refine t_skip rfl ?_
 refine t_skip rfl ?_
 refine t_skip rfl ?_
 refine t_skip rfl ?_
 refine t_skip rfl ?_
 refine t_op rfl (sp_pick (.tmp 48) (.const (.bool true)) (.tmp 55) true (bv true) (.v (.tuple #[])) rfl) ⟨I0, I0, I0, T0⟩ T0 T0 ?_
 refine t_op rfl (sp_move (.tmp 56) (bv true) rfl) ⟨I0, T0⟩ T0 T0 ?_
 refine t_skip rfl ?_
 refine t_skip rfl ?_
 refine t_skip rfl ?_
 refine t_skip rfl ?_
 refine t_skip rfl ?_
 refine t_op rfl (sp_pick (.tmp 57) (.const (.bool true)) (.tmp 62) true (bv true) (.v (.tuple #[])) rfl) ⟨I0, I0, I0, T0⟩ T0 T0 ?_
 refine t_op rfl (sp_move (.tmp 63) (bv true) rfl) ⟨I0, T0⟩ T0 T0 ?_
 refine t_skip rfl ?_
 refine t_skip rfl ?_
 refine t_skip rfl ?_
 refine t_skip rfl ?_
 refine t_skip rfl ?_
 refine t_skip rfl ?_
 refine t_op rfl (sp_pick (.tmp 64) (.const (.bool true)) (.tmp 70) true (bv true) (.v (.tuple #[])) rfl) ⟨I0, I0, I0, T0⟩ T0 T0 ?_
 refine t_op rfl (sp_move (.tmp 71) (bv true) rfl) ⟨I0, T0⟩ T0 T0 ?_
 refine t_skip rfl ?_
 refine t_skip rfl ?_
 refine t_skip rfl ?_
 refine t_skip rfl ?_
 refine t_skip rfl ?_
 refine t_skip rfl ?_
 refine t_op rfl (sp_pick (.tmp 72) (.const (.bool true)) (.tmp 78) true (bv true) (.v (.tuple #[])) rfl) ⟨I0, I0, I0, T0⟩ T0 T0 ?_
 refine t_op rfl (sp_move (.tmp 79) (bv true) rfl) ⟨I0, T0⟩ T0 T0 ?_
 refine t_skip rfl ?_
 refine t_skip rfl ?_
 refine t_skip rfl ?_
 refine t_skip rfl ?_
 refine t_skip rfl ?_
 refine t_skip rfl ?_
 refine t_op rfl (sp_pick (.tmp 80) (.const (.bool true)) (.tmp 86) true (bv true) (.v (.tuple #[])) rfl) ⟨I0, I0, I0, T0⟩ T0 T0 ?_
 refine t_op rfl (sp_fieldBox (off' := 1) (.tmp 8) rfl Tryd.underlying47 rfl (z := 1) (by kernel_rfl) (by decide) rfl) ⟨I0, T0⟩ T0 T0 ?_
 refine t_op rfl (sp_storeBox (T0 := 47) (X := bv true) (cs := [bv false, bv false, .v (.slice none 0 0)]) (ds := [bv false, bv true, .v (.slice none 0 0)]) (z := 1) (.tmp 88) (.tmp 87) rfl (by kernel_rfl) (by kernel_rfl) (by kernel_rfl) (of_decide_eq_true (by kernel_rfl)) (by kernel_rfl)) ⟨I0, I0, T0⟩ ⟨rfl, T0⟩ rfl ?_
 refine tri_nil ?_
 refine tri_wk (wk_keep [(1, .box 27 (cFm a)), (2, .box 27 (cFm b)), (3, .box 47 [bv false, bv false, .v (.slice none 0 0)]), (4, .box 47 [bv false, bv true, .v (.slice none 0 0)])] [(2, .box 1 0), (3, .box 2 0), (4, .box 3 0), (5, iv 0), (8, .box 4 0)] (n := 156)) ?_
 rw [show difB a b = true by simp only [difB, Bool.or_true, Bool.true_or, Bool.or_false, Bool.false_or, Bool.and_true, Bool.true_and, Bool.and_false, Bool.false_and, Bool.not_true, Bool.not_false, decide_eq_true hs1, decide_eq_true hs2, decide_eq_false hs3]]
 exact t_meet T0 (wk_keep _ _ rfl (by kernel_rfl) (by kernel_rfl))
 refine t_then ?_
 refine tri_seq ?_
 refine t_cut (True) (ofL [(1, .box 27 (cFm a)), (2, .box 27 (cFm b)), (3, .box 47 [bv false, bv false, .v (.slice none 0 0)]), (4, .box 47 [bv (sTo a b 0), bv (difB a b), .v (.slice none 0 0)])]) (ofT 156 [(2, .box 1 0), (3, .box 2 0), (4, .box 3 0), (5, iv 0), (8, .box 4 0)]) ?_ (fun _ => ?_)
 by_cases hs10 : (difB a b) = true
 rw [hs10]
 refine tri_wk (wk_keep [(1, .box 27 (cFm a)), (2, .box 27 (cFm b)), (3, .box 47 [bv false, bv false, .v (.slice none 0 0)]), (4, .box 47 [bv false, bv true, .v (.slice none 0 0)])] [(2, .box 1 0), (3, .box 2 0), (4, .box 3 0), (5, iv 0), (8, .box 4 0)] (n := 156)) ?_
 refine tri_region ?_
 refine t_op rfl (sp_fieldBox (off' := 1) (.tmp 8) rfl Tryd.underlying47 rfl (z := 1) (by kernel_rfl) (by decide) rfl) ⟨I0, T0⟩ T0 T0 ?_
 refine t_op rfl (sp_loadBox1 (Y := .box 47 [bv false, bv true, .v (.slice none 0 0)]) (X := bv true) (.tmp 89) rfl Tryd.underlying4 rfl rfl) ⟨I0, T0⟩ ⟨rfl, T0⟩ T0 ?_
 refine t_op rfl (sp_not rfl rfl) ⟨I0, T0⟩ T0 T0 ?_
 refine t_op rfl (sp_move (.tmp 91) (bv false) rfl) ⟨I0, T0⟩ T0 T0 ?_
 refine t_skip rfl ?_
 refine t_skip rfl ?_
 refine t_skip rfl ?_
 refine t_skip rfl ?_
 refine t_skip rfl ?_
 refine t_skip rfl ?_
 refine t_skip rfl ?_
 refine t_op rfl (sp_pick (.tmp 92) (.tmp 99) (.const (.bool false)) false (.v (.tuple #[])) (bv false) rfl) ⟨I0, I0, I0, T0⟩ T0 T0 ?_
 refine t_op rfl (sp_fieldBox (off' := 0) (.tmp 8) rfl Tryd.underlying47 rfl (z := 1) (by kernel_rfl) (by decide) rfl) ⟨I0, T0⟩ T0 T0 ?_
 refine t_op rfl (sp_storeBox (T0 := 47) (X := bv false) (cs := [bv false, bv true, .v (.slice none 0 0)]) (ds := [bv false, bv true, .v (.slice none 0 0)]) (z := 1) (.tmp 101) (.tmp 100) rfl (by kernel_rfl) (by kernel_rfl) (by kernel_rfl) (of_decide_eq_true (by kernel_rfl)) (by kernel_rfl)) ⟨I0, I0, T0⟩ ⟨rfl, T0⟩ rfl ?_
 refine tri_nil ?_
 refine tri_wk (wk_keep [(1, .box 27 (cFm a)), (2, .box 27 (cFm b)), (3, .box 47 [bv false, bv false, .v (.slice none 0 0)]), (4, .box 47 [bv false, bv true, .v (.slice none 0 0)])] [(2, .box 1 0), (3, .box 2 0), (4, .box 3 0), (5, iv 0), (8, .box 4 0)] (n := 156)) ?_
 rw [show sTo a b 0 = false by rw [sTo_zero, hs10]; rfl]
 exact t_meet T0 (wk_keep _ _ rfl (by kernel_rfl) (by kernel_rfl))
 have hs10f : (difB a b) = false := by simpa using hs10
 rw [hs10f]
 refine tri_wk (wk_keep [(1, .box 27 (cFm a)), (2, .box 27 (cFm b)), (3, .box 47 [bv false, bv false, .v (.slice none 0 0)]), (4, .box 47 [bv false, bv false, .v (.slice none 0 0)])] [(2, .box 1 0), (3, .box 2 0), (4, .box 3 0), (5, iv 0), (8, .box 4 0)] (n := 156)) ?_
 refine tri_region ?_
 refine t_op rfl (sp_fieldBox (off' := 1) (.tmp 8) rfl Tryd.underlying47 rfl (z := 1) (by kernel_rfl) (by decide) rfl) ⟨I0, T0⟩ T0 T0 ?_
 refine t_op rfl (sp_loadBox1 (Y := .box 47 [bv false, bv false, .v (.slice none 0 0)]) (X := bv false) (.tmp 89) rfl Tryd.underlying4 rfl rfl) ⟨I0, T0⟩ ⟨rfl, T0⟩ T0 ?_
 refine t_op rfl (sp_not rfl rfl) ⟨I0, T0⟩ T0 T0 ?_
 refine t_op rfl (sp_move (.tmp 91) (bv true) rfl) ⟨I0, T0⟩ T0 T0 ?_
 refine t_opG rfl (sp_fieldBox (off' := 9) (.tmp 2) rfl Tryd.underlying27 rfl (z := 1) (by kernel_rfl) (by decide) rfl) ⟨I0, T0⟩ T0 T0 ?_
 refine t_opG rfl (sp_loadBox1 (Y := .box 27 (cFm a)) (X := slA 18 cRu a.rules) (.tmp 93) rfl Tryd.underlying25 rfl rfl) ⟨I0, T0⟩ ⟨rfl, T0⟩ T0 ?_
 refine t_opG rfl (sp_lenSl (.tmp 94) rfl Tryd.underlying25) ⟨I0, T0⟩ T0 T0 ?_
 refine t_opG rfl (sp_fieldBox (off' := 9) (.tmp 3) rfl Tryd.underlying27 rfl (z := 1) (by kernel_rfl) (by decide) rfl) ⟨I0, T0⟩ T0 T0 ?_
 refine t_opG rfl (sp_loadBox1 (Y := .box 27 (cFm b)) (X := slA 18 cRu b.rules) (.tmp 96) rfl Tryd.underlying25 rfl rfl) ⟨I0, T0⟩ ⟨rfl, T0⟩ T0 ?_
 refine t_opG rfl (sp_lenSl (.tmp 97) rfl Tryd.underlying25) ⟨I0, T0⟩ T0 T0 ?_
 refine t_opG rfl (sp_eql rfl rfl) ⟨I0, I0, T0⟩ T0 T0 ?_
 refine t_op rfl (sp_pick (.tmp 92) (.tmp 99) (.const (.bool false)) true (bv (decide (((a.rules.length : Nat) : Int) = ((b.rules.length : Nat) : Int)))) (bv false) rfl) ⟨I0, I0, I0, T0⟩ T0 T0 ?_
 refine t_op rfl (sp_fieldBox (off' := 0) (.tmp 8) rfl Tryd.underlying47 rfl (z := 1) (by kernel_rfl) (by decide) rfl) ⟨I0, T0⟩ T0 T0 ?_
 refine t_op rfl (sp_storeBox (T0 := 47) (X := bv (decide (((a.rules.length : Nat) : Int) = ((b.rules.length : Nat) : Int)))) (cs := [bv false, bv false, .v (.slice none 0 0)]) (ds := [bv (decide (((a.rules.length : Nat) : Int) = ((b.rules.length : Nat) : Int))), bv false, .v (.slice none 0 0)]) (z := 1) (.tmp 101) (.tmp 100) rfl (by kernel_rfl) (by kernel_rfl) (by kernel_rfl) (of_decide_eq_true (by kernel_rfl)) (by kernel_rfl)) ⟨I0, I0, T0⟩ ⟨rfl, T0⟩ rfl ?_
 refine tri_nil ?_
 refine tri_wk (wk_keep [(1, .box 27 (cFm a)), (2, .box 27 (cFm b)), (3, .box 47 [bv false, bv false, .v (.slice none 0 0)]), (4, .box 47 [bv (decide (((a.rules.length : Nat) : Int) = ((b.rules.length : Nat) : Int))), bv false, .v (.slice none 0 0)])] [(2, .box 1 0), (3, .box 2 0), (4, .box 3 0), (5, iv 0), (8, .box 4 0)] (n := 156)) ?_
 rw [show sTo a b 0 = (decide (((a.rules.length : Nat) : Int) = ((b.rules.length : Nat) : Int))) by rw [sTo_zero, hs10f, Bool.not_false, Bool.true_and]]
 exact t_meet T0 (wk_keep _ _ rfl (by kernel_rfl) (by kernel_rfl))
 refine t_then ?_
 refine tri_seq ?_
 refine tri_seq ?_
 refine tri_region ?_
 refine t_op rfl (sp_assign (.const (.int .i64 0)) (iv 0) rfl) ⟨I0, T0⟩ T0 T0 ?_
 refine tri_nil ?_
 refine tri_wk (wk_keep [(1, .box 27 (cFm a)), (2, .box 27 (cFm b)), (3, .box 47 [bv false, bv false, .v (.slice none 0 0)]), (4, .box 47 [bv (sTo a b 0), bv (difB a b), .v (.slice none 0 0)])] [(2, .box 1 0), (3, .box 2 0), (4, .box 3 0), (5, iv 0), (8, .box 4 0), (9, iv 0)] (n := 156)) ?_
 refine t_then ?_
 refine tri_block ?_
 have h8 := (val_small hs2).1
 refine tri_wk (wk_adoptB 4 2 5 true 3 1 rfl rfl rfl rfl) ?_
 refine tri_loop (σ := {p : Nat × List Int // p.1 ≤ b.rules.length ∧ p.2 = newTo a.rules b.rules p.1 ∧ p.2.length ≤ p.1}) (fun s => (ofL [(1, .box 27 (cFm a)), (2, .box 27 (cFm b)), (3, .box 47 [bv false, bv false, .v (.slice none 0 0)]), (4, .box 47 [bv (sTo a b s.1.1), bv (difB a b), .own 5]), (5, .row true 3 1 s.1.2.length (s.1.2.map iv))], ofT 156 [(2, .box 1 0), (3, .box 2 0), (4, .box 3 0), (5, iv 0), (8, .box 4 0), (9, iv s.1.1)])) (fun s => b.rules.length - s.1.1) ⟨(0, []), Nat.zero_le _, rfl, Nat.zero_le _⟩ (wk_keep _ _ rfl (by kernel_rfl) (by kernel_rfl)) (fun s => ?_)
 obtain ⟨⟨k, L⟩, hk0, hL, hLb⟩ := s
 show ETri J w0 (ofL [(1, .box 27 (cFm a)), (2, .box 27 (cFm b)), (3, .box 47 [bv false, bv false, .v (.slice none 0 0)]), (4, .box 47 [bv (sTo a b k), bv (difB a b), .own 5]), (5, .row true 3 1 L.length (L.map iv))]) (ofT 156 [(2, .box 1 0), (3, .box 2 0), (4, .box 3 0), (5, iv 0), (8, .box 4 0), (9, iv k)]) _
 dsimp only at hk0 hL hLb
 refine tri_seq ?_
 refine tri_seq ?_
 by_cases hs11 : ((k : Nat) : Int) < ((b.rules.length : Nat) : Int)
 refine tri_region ?_
 refine t_op rfl (sp_move (.tmp 9) (iv k) rfl) ⟨I0, T0⟩ T0 T0 ?_
 refine t_op rfl (sp_fieldBox (off' := 9) (.tmp 3) rfl Tryd.underlying27 rfl (z := 1) (by kernel_rfl) (by decide) rfl) ⟨I0, T0⟩ T0 T0 ?_
 refine t_op rfl (sp_loadBox1 (Y := .box 27 (cFm b)) (X := slA 18 cRu b.rules) (.tmp 103) rfl Tryd.underlying25 rfl rfl) ⟨I0, T0⟩ ⟨rfl, T0⟩ T0 ?_
 refine t_op rfl (sp_lenSl (.tmp 104) rfl Tryd.underlying25) ⟨I0, T0⟩ T0 T0 ?_
 refine t_op rfl (sp_lss rfl (dT hs11)) ⟨I0, I0, T0⟩ T0 T0 ?_
 refine tri_nil ?_
 refine tri_wk (wk_keep [(1, .box 27 (cFm a)), (2, .box 27 (cFm b)), (3, .box 47 [bv false, bv false, .v (.slice none 0 0)]), (4, .box 47 [bv (sTo a b k), bv (difB a b), .own 5]), (5, .row true 3 1 L.length (L.map iv))] [(2, .box 1 0), (3, .box 2 0), (4, .box 3 0), (5, iv 0), (8, .box 4 0), (9, iv k), (106, bv true)] (n := 156)) ?_
 refine t_then ?_
 refine t_condT rfl ?_
 refine tri_skip ?_
 refine t_then ?_
 refine tri_seq ?_
 refine tri_block ?_
 refine tri_seq ?_
 refine tri_region ?_
 refine t_op rfl (sp_assign (.const (.bool false)) (bv false) rfl) ⟨I0, T0⟩ T0 T0 ?_
 refine tri_nil ?_
 refine tri_wk (wk_keep [(1, .box 27 (cFm a)), (2, .box 27 (cFm b)), (3, .box 47 [bv false, bv false, .v (.slice none 0 0)]), (4, .box 47 [bv (sTo a b k), bv (difB a b), .own 5]), (5, .row true 3 1 L.length (L.map iv))] [(2, .box 1 0), (3, .box 2 0), (4, .box 3 0), (5, iv 0), (8, .box 4 0), (9, iv k), (10, bv false), (106, bv true)] (n := 156)) ?_
 refine t_then ?_
 refine tri_seq ?_
 refine tri_seq ?_
 refine tri_region ?_
 refine t_op rfl (sp_assign (.const (.int .i64 0)) (iv 0) rfl) ⟨I0, T0⟩ T0 T0 ?_
 refine tri_nil ?_
 refine tri_wk (wk_keep [(1, .box 27 (cFm a)), (2, .box 27 (cFm b)), (3, .box 47 [bv false, bv false, .v (.slice none 0 0)]), (4, .box 47 [bv (sTo a b k), bv (difB a b), .own 5]), (5, .row true 3 1 L.length (L.map iv))] [(2, .box 1 0), (3, .box 2 0), (4, .box 3 0), (5, iv 0), (8, .box 4 0), (9, iv k), (10, bv false), (11, iv 0), (106, bv true)] (n := 156)) ?_
 refine t_then ?_
 refine t_cut (True) (ofL [(1, .box 27 (cFm a)), (2, .box 27 (cFm b)), (3, .box 47 [bv false, bv false, .v (.slice none 0 0)]), (4, .box 47 [bv (sTo a b k), bv (difB a b), .own 5]), (5, .row true 3 1 L.length (L.map iv))]) (ofT 156 [(2, .box 1 0), (3, .box 2 0), (4, .box 3 0), (5, iv 0), (8, .box 4 0), (9, iv k), (10, bv (knB a.rules b.rules[k])), (106, bv true)]) ?_ (fun _ => ?_)
 refine tri_block ?_
 refine tri_loop (σ := {j : Nat // j ≤ a.rules.length}) (fun s => (ofL [(1, .box 27 (cFm a)), (2, .box 27 (cFm b)), (3, .box 47 [bv false, bv false, .v (.slice none 0 0)]), (4, .box 47 [bv (sTo a b k), bv (difB a b), .own 5]), (5, .row true 3 1 L.length (L.map iv))], ofT 156 [(2, .box 1 0), (3, .box 2 0), (4, .box 3 0), (5, iv 0), (8, .box 4 0), (9, iv k), (10, bv (knTo a.rules b.rules[k] s.1)), (11, iv s.1), (106, bv true)])) (fun s => a.rules.length - s.1) ⟨0, Nat.zero_le _⟩ (wk_keep _ _ rfl (by kernel_rfl) (by kernel_rfl)) (fun s => ?_)
 obtain ⟨j, hj0⟩ := s
 show ETri J w0 (ofL [(1, .box 27 (cFm a)), (2, .box 27 (cFm b)), (3, .box 47 [bv false, bv false, .v (.slice none 0 0)]), (4, .box 47 [bv (sTo a b k), bv (difB a b), .own 5]), (5, .row true 3 1 L.length (L.map iv))]) (ofT 156 [(2, .box 1 0), (3, .box 2 0), (4, .box 3 0), (5, iv 0), (8, .box 4 0), (9, iv k), (10, bv (knTo a.rules b.rules[k] j)), (11, iv j), (106, bv true)]) _
 refine tri_seq ?_
 refine tri_seq ?_
 by_cases hs12 : ((j : Nat) : Int) < ((a.rules.length : Nat) : Int)
 refine tri_region ?_
 refine t_op rfl (sp_move (.tmp 11) (iv j) rfl) ⟨I0, T0⟩ T0 T0 ?_
 refine t_op rfl (sp_fieldBox (off' := 9) (.tmp 2) rfl Tryd.underlying27 rfl (z := 1) (by kernel_rfl) (by decide) rfl) ⟨I0, T0⟩ T0 T0 ?_
 refine t_op rfl (sp_loadBox1 (Y := .box 27 (cFm a)) (X := slA 18 cRu a.rules) (.tmp 110) rfl Tryd.underlying25 rfl rfl) ⟨I0, T0⟩ ⟨rfl, T0⟩ T0 ?_
 refine t_op rfl (sp_lenSl (.tmp 111) rfl Tryd.underlying25) ⟨I0, T0⟩ T0 T0 ?_
 refine t_op rfl (sp_lss rfl (dT hs12)) ⟨I0, I0, T0⟩ T0 T0 ?_
 refine tri_nil ?_
 refine tri_wk (wk_keep [(1, .box 27 (cFm a)), (2, .box 27 (cFm b)), (3, .box 47 [bv false, bv false, .v (.slice none 0 0)]), (4, .box 47 [bv (sTo a b k), bv (difB a b), .own 5]), (5, .row true 3 1 L.length (L.map iv))] [(2, .box 1 0), (3, .box 2 0), (4, .box 3 0), (5, iv 0), (8, .box 4 0), (9, iv k), (10, bv (knTo a.rules b.rules[k] j)), (11, iv j), (106, bv true), (113, bv true)] (n := 156)) ?_
 refine t_then ?_
 refine t_condT rfl ?_
 refine tri_skip ?_
 refine t_then ?_
 refine tri_seq ?_
 refine tri_block ?_
 by_cases hs13 : (knTo a.rules b.rules[k] j) = true
 rw [hs13]
 refine tri_wk (wk_keep [(1, .box 27 (cFm a)), (2, .box 27 (cFm b)), (3, .box 47 [bv false, bv false, .v (.slice none 0 0)]), (4, .box 47 [bv (sTo a b k), bv (difB a b), .own 5]), (5, .row true 3 1 L.length (L.map iv))] [(2, .box 1 0), (3, .box 2 0), (4, .box 3 0), (5, iv 0), (8, .box 4 0), (9, iv k), (10, bv true), (11, iv j), (106, bv true), (113, bv true)] (n := 156)) ?_
 refine tri_draw [⟨[(.tmp 10, bv true)], [], bv true, .no⟩, ⟨[(.tmp 116, bv true)], [], bv true, .no⟩, ⟨[], [], .v undef, .no⟩, ⟨[], [], .v undef, .no⟩, ⟨[], [], .v undef, .no⟩, ⟨[], [], .v undef, .no⟩, ⟨[], [], .v undef, .no⟩, ⟨[], [], .v undef, .no⟩, ⟨[], [], .v undef, .no⟩, ⟨[], [], .v undef, .no⟩, ⟨[], [], .v undef, .no⟩, ⟨[], [], .v undef, .no⟩, ⟨[], [], .v undef, .no⟩, ⟨[(.tmp 117, bv true), (.const (.bool true), bv true), (.tmp 128, .v (.tuple #[]))], [], bv true, .no⟩, ⟨[(.tmp 129, bv true)], [], bv true, .no⟩] (by kernel_rfl) (by kernel_rfl) ?_
 refine ⟨app_yes rfl (sp_move (.tmp 10) (bv true) rfl) ⟨I0, T0⟩ T0 T0, ?_⟩
 refine ⟨app_yes rfl (sp_move (.tmp 116) (bv true) rfl) ⟨I0, T0⟩ T0 T0, ?_⟩
 refine ⟨app_no rfl, ?_⟩
 refine ⟨app_no rfl, ?_⟩
 refine ⟨app_no rfl, ?_⟩
 refine ⟨app_no rfl, ?_⟩
 refine ⟨app_no rfl, ?_⟩
 refine ⟨app_no rfl, ?_⟩
 refine ⟨app_no rfl, ?_⟩
 refine ⟨app_no rfl, ?_⟩
 refine ⟨app_no rfl, ?_⟩
 refine ⟨app_no rfl, ?_⟩
 refine ⟨app_no rfl, ?_⟩
 refine ⟨app_yes rfl (sp_pick (.tmp 117) (.const (.bool true)) (.tmp 128) true (bv true) (.v (.tuple #[])) rfl) ⟨I0, I0, I0, T0⟩ T0 T0, ?_⟩
 refine ⟨app_yes rfl (sp_assign (.tmp 129) (bv true) rfl) ⟨I0, T0⟩ T0 T0, ?_⟩
 show ETri J w0 _ _ _
 refine tri_wk (wk_keep [(1, .box 27 (cFm a)), (2, .box 27 (cFm b)), (3, .box 47 [bv false, bv false, .v (.slice none 0 0)]), (4, .box 47 [bv (sTo a b k), bv (difB a b), .own 5]), (5, .row true 3 1 L.length (L.map iv))] [(2, .box 1 0), (3, .box 2 0), (4, .box 3 0), (5, iv 0), (8, .box 4 0), (9, iv k), (10, bv true), (11, iv j), (106, bv true), (113, bv true)] (n := 156)) ?_
 refine t_block ?_
 refine t_then ?_
 refine tri_region ?_
 refine t_op rfl (sp_move (.tmp 11) (iv j) rfl) ⟨I0, T0⟩ T0 T0 ?_
 refine t_op rfl (sp_add (c := ((j + 1 : Nat) : Int)) rfl (w64 (by omega) (by omega) (by omega))) ⟨I0, I0, T0⟩ T0 T0 ?_
 refine t_op rfl (sp_assign (.tmp 115) (iv (j + 1 : Nat)) rfl) ⟨I0, T0⟩ T0 T0 ?_
 refine tri_nil ?_
 refine tri_wk (wk_keep [(1, .box 27 (cFm a)), (2, .box 27 (cFm b)), (3, .box 47 [bv false, bv false, .v (.slice none 0 0)]), (4, .box 47 [bv (sTo a b k), bv (difB a b), .own 5]), (5, .row true 3 1 L.length (L.map iv))] [(2, .box 1 0), (3, .box 2 0), (4, .box 3 0), (5, iv 0), (8, .box 4 0), (9, iv k), (10, bv true), (11, iv (j + 1 : Nat)), (106, bv true), (113, bv true)] (n := 156)) ?_
 refine t_then ?_
 refine tri_again ⟨j + 1, by omega⟩ (show a.rules.length - (j + 1) < a.rules.length - j by omega) ?_
 show Wk _ _ (ofL [(1, .box 27 (cFm a)), (2, .box 27 (cFm b)), (3, .box 47 [bv false, bv false, .v (.slice none 0 0)]), (4, .box 47 [bv (sTo a b k), bv (difB a b), .own 5]), (5, .row true 3 1 L.length (L.map iv))]) (ofT 156 [(2, .box 1 0), (3, .box 2 0), (4, .box 3 0), (5, iv 0), (8, .box 4 0), (9, iv k), (10, bv (knTo a.rules b.rules[k] (j + 1))), (11, iv ((j + 1) : Nat)), (106, bv true)])
 rw [show knTo a.rules b.rules[k] (j + 1) = true by exact knTo_t hs13]
 exact wk_keep _ _ rfl (by kernel_rfl) (by kernel_rfl)
 have hs13f : (knTo a.rules b.rules[k] j) = false := by simpa using hs13
 rw [hs13f]
 refine tri_wk (wk_keep [(1, .box 27 (cFm a)), (2, .box 27 (cFm b)), (3, .box 47 [bv false, bv false, .v (.slice none 0 0)]), (4, .box 47 [bv (sTo a b k), bv (difB a b), .own 5]), (5, .row true 3 1 L.length (L.map iv))] [(2, .box 1 0), (3, .box 2 0), (4, .box 3 0), (5, iv 0), (8, .box 4 0), (9, iv k), (10, bv false), (11, iv j), (106, bv true), (113, bv true)] (n := 156)) ?_
 refine tri_draw [⟨[(.tmp 10, bv false)], [], bv false, .no⟩, ⟨[(.tmp 116, bv false)], [], bv false, .no⟩, ⟨[(.tmp 2, .box 1 0)], [], .box 1 9, .no⟩, ⟨[(.tmp 118, .box 1 9)], [(1, .box 27 (cFm a))], slA 18 cRu a.rules, .no⟩, ⟨[(.tmp 11, iv j)], [], iv j, .no⟩, ⟨[(.tmp 119, slA 18 cRu a.rules), (.tmp 120, iv j)], [], .el (a.rules.flatMap cRu) (j * 18), .no⟩, ⟨[(.tmp 121, .el (a.rules.flatMap cRu) (j * 18))], [], .agg (cRu a.rules[j]), .no⟩, ⟨[(.tmp 3, .box 2 0)], [], .box 2 9, .no⟩, ⟨[(.tmp 123, .box 2 9)], [(2, .box 27 (cFm b))], slA 18 cRu b.rules, .no⟩, ⟨[(.tmp 9, iv k)], [], iv k, .no⟩, ⟨[(.tmp 124, slA 18 cRu b.rules), (.tmp 125, iv k)], [], .el (b.rules.flatMap cRu) (k * 18), .no⟩, ⟨[(.tmp 126, .el (b.rules.flatMap cRu) (k * 18))], [], .agg (cRu b.rules[k]), .no⟩, ⟨[(.func 54, .v (.func (.func 54) #[] #[])), (.tmp 122, .agg (cRu a.rules[j])), (.tmp 127, .agg (cRu b.rules[k]))], [], bv (samP a.rules[j] b.rules[k]), .no⟩, ⟨[(.tmp 117, bv false), (.const (.bool true), bv true), (.tmp 128, bv (samP a.rules[j] b.rules[k]))], [], bv (samP a.rules[j] b.rules[k]), .no⟩, ⟨[(.tmp 129, bv (samP a.rules[j] b.rules[k]))], [], bv (samP a.rules[j] b.rules[k]), .no⟩] (by kernel_rfl) (by kernel_rfl) ?_
 refine ⟨app_yes rfl (sp_move (.tmp 10) (bv false) rfl) ⟨I0, T0⟩ T0 T0, ?_⟩
 refine ⟨app_yes rfl (sp_move (.tmp 116) (bv false) rfl) ⟨I0, T0⟩ T0 T0, ?_⟩
 refine ⟨app_yes rfl (sp_fieldBox (off' := 9) (.tmp 2) rfl Tryd.underlying27 rfl (z := 1) (by kernel_rfl) (by decide) rfl) ⟨I0, T0⟩ T0 T0, ?_⟩
 refine ⟨app_yes rfl (sp_loadBox1 (Y := .box 27 (cFm a)) (X := slA 18 cRu a.rules) (.tmp 118) rfl Tryd.underlying25 rfl rfl) ⟨I0, T0⟩ ⟨rfl, T0⟩ T0, ?_⟩
 refine ⟨app_yes rfl (sp_move (.tmp 11) (iv j) rfl) ⟨I0, T0⟩ T0 T0, ?_⟩
 refine ⟨app_yes rfl (sp_indexSl (off := j * 18) (.tmp 119) (.tmp 120) rfl Tryd.underlying25 (by kernel_rfl) (by omega) (by omega) rfl) ⟨I0, I0, T0⟩ T0 T0, ?_⟩
 refine ⟨app_yes rfl (sp_loadElS (z := 18) (.tmp 121) rfl Tryd.underlying81 rfl (by kernel_rfl) (flat_take lenRu a.rules j (by omega)) rfl) ⟨I0, T0⟩ T0 T0, ?_⟩
 refine ⟨app_yes rfl (sp_fieldBox (off' := 9) (.tmp 3) rfl Tryd.underlying27 rfl (z := 1) (by kernel_rfl) (by decide) rfl) ⟨I0, T0⟩ T0 T0, ?_⟩
 refine ⟨app_yes rfl (sp_loadBox1 (Y := .box 27 (cFm b)) (X := slA 18 cRu b.rules) (.tmp 123) rfl Tryd.underlying25 rfl rfl) ⟨I0, T0⟩ ⟨rfl, T0⟩ T0, ?_⟩
 refine ⟨app_yes rfl (sp_move (.tmp 9) (iv k) rfl) ⟨I0, T0⟩ T0 T0, ?_⟩
 refine ⟨app_yes rfl (sp_indexSl (off := k * 18) (.tmp 124) (.tmp 125) rfl Tryd.underlying25 (by kernel_rfl) (by omega) (by omega) rfl) ⟨I0, I0, T0⟩ T0 T0, ?_⟩
 refine ⟨app_yes rfl (sp_loadElS (z := 18) (.tmp 126) rfl Tryd.underlying81 rfl (by kernel_rfl) (flat_take lenRu b.rules k (by omega)) rfl) ⟨I0, T0⟩ T0 T0, ?_⟩
 refine ⟨app_yes rfl (sp_call (c := .func 54) (xs := #[.tmp 122, .tmp 127]) [] (sameButG (HA.rules a.rules[j] (List.getElem_mem (by omega))) (HB.rules b.rules[k] (List.getElem_mem (by omega)))) rfl (by kernel_rfl) rfl (Xs := [.agg (cRu a.rules[j]), .agg (cRu b.rules[k])]) rfl rfl rfl) ⟨I0, I0, I0, T0⟩ T0 T0, ?_⟩
 refine ⟨app_yes rfl (sp_pick (.tmp 117) (.const (.bool true)) (.tmp 128) false (bv true) (bv (samP a.rules[j] b.rules[k])) rfl) ⟨I0, I0, I0, T0⟩ T0 T0, ?_⟩
 refine ⟨app_yes rfl (sp_assign (.tmp 129) (bv (samP a.rules[j] b.rules[k])) rfl) ⟨I0, T0⟩ T0 T0, ?_⟩
 show ETri J w0 _ _ _
 refine tri_wk (wk_keep [(1, .box 27 (cFm a)), (2, .box 27 (cFm b)), (3, .box 47 [bv false, bv false, .v (.slice none 0 0)]), (4, .box 47 [bv (sTo a b k), bv (difB a b), .own 5]), (5, .row true 3 1 L.length (L.map iv))] [(2, .box 1 0), (3, .box 2 0), (4, .box 3 0), (5, iv 0), (8, .box 4 0), (9, iv k), (10, bv (samP a.rules[j] b.rules[k])), (11, iv j), (106, bv true), (113, bv true)] (n := 156)) ?_
 refine t_block ?_
 refine t_then ?_
 refine tri_region ?_
 refine t_op rfl (sp_move (.tmp 11) (iv j) rfl) ⟨I0, T0⟩ T0 T0 ?_
 refine t_op rfl (sp_add (c := ((j + 1 : Nat) : Int)) rfl (w64 (by omega) (by omega) (by omega))) ⟨I0, I0, T0⟩ T0 T0 ?_
 refine t_op rfl (sp_assign (.tmp 115) (iv (j + 1 : Nat)) rfl) ⟨I0, T0⟩ T0 T0 ?_
 refine tri_nil ?_
 refine tri_wk (wk_keep [(1, .box 27 (cFm a)), (2, .box 27 (cFm b)), (3, .box 47 [bv false, bv false, .v (.slice none 0 0)]), (4, .box 47 [bv (sTo a b k), bv (difB a b), .own 5]), (5, .row true 3 1 L.length (L.map iv))] [(2, .box 1 0), (3, .box 2 0), (4, .box 3 0), (5, iv 0), (8, .box 4 0), (9, iv k), (10, bv (samP a.rules[j] b.rules[k])), (11, iv (j + 1 : Nat)), (106, bv true), (113, bv true)] (n := 156)) ?_
 refine t_then ?_
 refine tri_again ⟨j + 1, by omega⟩ (show a.rules.length - (j + 1) < a.rules.length - j by omega) ?_
 show Wk _ _ (ofL [(1, .box 27 (cFm a)), (2, .box 27 (cFm b)), (3, .box 47 [bv false, bv false, .v (.slice none 0 0)]), (4, .box 47 [bv (sTo a b k), bv (difB a b), .own 5]), (5, .row true 3 1 L.length (L.map iv))]) (ofT 156 [(2, .box 1 0), (3, .box 2 0), (4, .box 3 0), (5, iv 0), (8, .box 4 0), (9, iv k), (10, bv (knTo a.rules b.rules[k] (j + 1))), (11, iv ((j + 1) : Nat)), (106, bv true)])
 rw [show knTo a.rules b.rules[k] (j + 1) = (samP a.rules[j] b.rules[k]) by exact knTo_f (by omega) hs13f]
 exact wk_keep _ _ rfl (by kernel_rfl) (by kernel_rfl)
 refine tri_region ?_
 refine t_op rfl (sp_move (.tmp 11) (iv j) rfl) ⟨I0, T0⟩ T0 T0 ?_
 refine t_op rfl (sp_fieldBox (off' := 9) (.tmp 2) rfl Tryd.underlying27 rfl (z := 1) (by kernel_rfl) (by decide) rfl) ⟨I0, T0⟩ T0 T0 ?_
 refine t_op rfl (sp_loadBox1 (Y := .box 27 (cFm a)) (X := slA 18 cRu a.rules) (.tmp 110) rfl Tryd.underlying25 rfl rfl) ⟨I0, T0⟩ ⟨rfl, T0⟩ T0 ?_
 refine t_op rfl (sp_lenSl (.tmp 111) rfl Tryd.underlying25) ⟨I0, T0⟩ T0 T0 ?_
 refine t_op rfl (sp_lss rfl (dF hs12)) ⟨I0, I0, T0⟩ T0 T0 ?_
 refine tri_nil ?_
 refine tri_wk (wk_keep [(1, .box 27 (cFm a)), (2, .box 27 (cFm b)), (3, .box 47 [bv false, bv false, .v (.slice none 0 0)]), (4, .box 47 [bv (sTo a b k), bv (difB a b), .own 5]), (5, .row true 3 1 L.length (L.map iv))] [(2, .box 1 0), (3, .box 2 0), (4, .box 3 0), (5, iv 0), (8, .box 4 0), (9, iv k), (10, bv (knTo a.rules b.rules[k] j)), (11, iv j), (106, bv true), (113, bv false)] (n := 156)) ?_
 refine t_then ?_
 refine t_condF rfl ?_
 refine tri_exit ?_
 refine t_then_exit ?_
 refine t_then_exit ?_
 refine t_hit ?_
 rw [← knTo_end hj0 (by omega)]
 exact t_meet T0 (wk_keep _ _ rfl (by kernel_rfl) (by kernel_rfl))
 refine t_then ?_
 refine tri_seq ?_
 refine tri_seq ?_
 by_cases hs14 : (knB a.rules b.rules[k]) = true
 rw [hs14]
 refine tri_wk (wk_keep [(1, .box 27 (cFm a)), (2, .box 27 (cFm b)), (3, .box 47 [bv false, bv false, .v (.slice none 0 0)]), (4, .box 47 [bv (sTo a b k), bv (difB a b), .own 5]), (5, .row true 3 1 L.length (L.map iv))] [(2, .box 1 0), (3, .box 2 0), (4, .box 3 0), (5, iv 0), (8, .box 4 0), (9, iv k), (10, bv true), (106, bv true)] (n := 156)) ?_
 refine tri_region ?_
 refine t_op rfl (sp_move (.tmp 10) (bv true) rfl) ⟨I0, T0⟩ T0 T0 ?_
 refine t_op rfl (sp_not rfl rfl) ⟨I0, T0⟩ T0 T0 ?_
 refine tri_nil ?_
 refine tri_wk (wk_keep [(1, .box 27 (cFm a)), (2, .box 27 (cFm b)), (3, .box 47 [bv false, bv false, .v (.slice none 0 0)]), (4, .box 47 [bv (sTo a b k), bv (difB a b), .own 5]), (5, .row true 3 1 L.length (L.map iv))] [(2, .box 1 0), (3, .box 2 0), (4, .box 3 0), (5, iv 0), (8, .box 4 0), (9, iv k), (10, bv true), (106, bv true), (131, bv false)] (n := 156)) ?_
 refine t_then ?_
 refine t_condF rfl ?_
 refine tri_skip ?_
 refine t_then ?_
 refine tri_seq ?_
 by_cases hs15 : (sTo a b k) = true
 have hln := sTo_len hs15
 rw [hs15]
 refine tri_wk (wk_keep [(1, .box 27 (cFm a)), (2, .box 27 (cFm b)), (3, .box 47 [bv false, bv false, .v (.slice none 0 0)]), (4, .box 47 [bv true, bv (difB a b), .own 5]), (5, .row true 3 1 L.length (L.map iv))] [(2, .box 1 0), (3, .box 2 0), (4, .box 3 0), (5, iv 0), (8, .box 4 0), (9, iv k), (10, bv true), (106, bv true), (131, bv false)] (n := 156)) ?_
 by_cases hs16 : (samP a.rules[k] b.rules[k]) = true
 refine tri_draw [⟨[(.tmp 8, .box 4 0)], [], .box 4 0, .no⟩, ⟨[(.tmp 138, .box 4 0)], [(4, .box 47 [bv true, bv (difB a b), .own 5])], bv true, .no⟩, ⟨[(.tmp 139, bv true)], [], bv true, .no⟩, ⟨[(.tmp 2, .box 1 0)], [], .box 1 9, .no⟩, ⟨[(.tmp 141, .box 1 9)], [(1, .box 27 (cFm a))], slA 18 cRu a.rules, .no⟩, ⟨[(.tmp 9, iv k)], [], iv k, .no⟩, ⟨[(.tmp 142, slA 18 cRu a.rules), (.tmp 143, iv k)], [], .el (a.rules.flatMap cRu) (k * 18), .no⟩, ⟨[(.tmp 144, .el (a.rules.flatMap cRu) (k * 18))], [], .agg (cRu a.rules[k]), .no⟩, ⟨[(.tmp 3, .box 2 0)], [], .box 2 9, .no⟩, ⟨[(.tmp 146, .box 2 9)], [(2, .box 27 (cFm b))], slA 18 cRu b.rules, .no⟩, ⟨[(.tmp 9, iv k)], [], iv k, .no⟩, ⟨[(.tmp 147, slA 18 cRu b.rules), (.tmp 148, iv k)], [], .el (b.rules.flatMap cRu) (k * 18), .no⟩, ⟨[(.tmp 149, .el (b.rules.flatMap cRu) (k * 18))], [], .agg (cRu b.rules[k]), .no⟩, ⟨[(.func 54, .v (.func (.func 54) #[] #[])), (.tmp 145, .agg (cRu a.rules[k])), (.tmp 150, .agg (cRu b.rules[k]))], [], bv true, .no⟩, ⟨[(.tmp 151, bv true)], [], bv false, .no⟩, ⟨[(.tmp 140, bv true), (.tmp 152, bv false), (.const (.bool false), bv false)], [], bv false, .no⟩] (by kernel_rfl) (by kernel_rfl) ?_
 refine ⟨app_yes rfl (sp_fieldBox (off' := 0) (.tmp 8) rfl Tryd.underlying47 rfl (z := 1) (by kernel_rfl) (by decide) rfl) ⟨I0, T0⟩ T0 T0, ?_⟩
 refine ⟨app_yes rfl (sp_loadBox1 (Y := .box 47 [bv true, bv (difB a b), .own 5]) (X := bv true) (.tmp 138) rfl Tryd.underlying4 rfl rfl) ⟨I0, T0⟩ ⟨rfl, T0⟩ T0, ?_⟩
 refine ⟨app_yes rfl (sp_move (.tmp 139) (bv true) rfl) ⟨I0, T0⟩ T0 T0, ?_⟩
 refine ⟨app_yes rfl (sp_fieldBox (off' := 9) (.tmp 2) rfl Tryd.underlying27 rfl (z := 1) (by kernel_rfl) (by decide) rfl) ⟨I0, T0⟩ T0 T0, ?_⟩
 refine ⟨app_yes rfl (sp_loadBox1 (Y := .box 27 (cFm a)) (X := slA 18 cRu a.rules) (.tmp 141) rfl Tryd.underlying25 rfl rfl) ⟨I0, T0⟩ ⟨rfl, T0⟩ T0, ?_⟩
 refine ⟨app_yes rfl (sp_move (.tmp 9) (iv k) rfl) ⟨I0, T0⟩ T0 T0, ?_⟩
 refine ⟨app_yes rfl (sp_indexSl (off := k * 18) (.tmp 142) (.tmp 143) rfl Tryd.underlying25 (by kernel_rfl) (by omega) (by omega) rfl) ⟨I0, I0, T0⟩ T0 T0, ?_⟩
 refine ⟨app_yes rfl (sp_loadElS (z := 18) (.tmp 144) rfl Tryd.underlying81 rfl (by kernel_rfl) (flat_take lenRu a.rules k (by omega)) rfl) ⟨I0, T0⟩ T0 T0, ?_⟩
 refine ⟨app_yes rfl (sp_fieldBox (off' := 9) (.tmp 3) rfl Tryd.underlying27 rfl (z := 1) (by kernel_rfl) (by decide) rfl) ⟨I0, T0⟩ T0 T0, ?_⟩
 refine ⟨app_yes rfl (sp_loadBox1 (Y := .box 27 (cFm b)) (X := slA 18 cRu b.rules) (.tmp 146) rfl Tryd.underlying25 rfl rfl) ⟨I0, T0⟩ ⟨rfl, T0⟩ T0, ?_⟩
 refine ⟨app_yes rfl (sp_move (.tmp 9) (iv k) rfl) ⟨I0, T0⟩ T0 T0, ?_⟩
 refine ⟨app_yes rfl (sp_indexSl (off := k * 18) (.tmp 147) (.tmp 148) rfl Tryd.underlying25 (by kernel_rfl) (by omega) (by omega) rfl) ⟨I0, I0, T0⟩ T0 T0, ?_⟩
 refine ⟨app_yes rfl (sp_loadElS (z := 18) (.tmp 149) rfl Tryd.underlying81 rfl (by kernel_rfl) (flat_take lenRu b.rules k (by omega)) rfl) ⟨I0, T0⟩ T0 T0, ?_⟩
 refine ⟨app_yes rfl (sp_call (c := .func 54) (xs := #[.tmp 145, .tmp 150]) [] (ctr_b (sameButG (HA.rules a.rules[k] (List.getElem_mem (by omega))) (HB.rules b.rules[k] (List.getElem_mem (by omega)))) hs16) rfl (by kernel_rfl) rfl (Xs := [.agg (cRu a.rules[k]), .agg (cRu b.rules[k])]) rfl rfl rfl) ⟨I0, I0, I0, T0⟩ T0 T0, ?_⟩
 refine ⟨app_yes rfl (sp_not rfl rfl) ⟨I0, T0⟩ T0 T0, ?_⟩
 refine ⟨app_yes rfl (sp_pick (.tmp 140) (.tmp 152) (.const (.bool false)) true (bv false) (bv false) rfl) ⟨I0, I0, I0, T0⟩ T0 T0, ?_⟩
 show ETri J w0 _ _ _
 refine tri_wk (wk_keep [(1, .box 27 (cFm a)), (2, .box 27 (cFm b)), (3, .box 47 [bv false, bv false, .v (.slice none 0 0)]), (4, .box 47 [bv true, bv (difB a b), .own 5]), (5, .row true 3 1 L.length (L.map iv))] [(2, .box 1 0), (3, .box 2 0), (4, .box 3 0), (5, iv 0), (8, .box 4 0), (9, iv k), (10, bv true), (106, bv true), (131, bv false), (153, bv false)] (n := 156)) ?_
 refine t_then ?_
 refine t_condF rfl ?_
 refine tri_skip ?_
 refine t_block ?_
 refine t_then ?_
 refine tri_region ?_
 refine t_op rfl (sp_move (.tmp 9) (iv k) rfl) ⟨I0, T0⟩ T0 T0 ?_
 refine t_op rfl (sp_add (c := ((k + 1 : Nat) : Int)) rfl (w64 (by omega) (by omega) (by omega))) ⟨I0, I0, T0⟩ T0 T0 ?_
 refine t_op rfl (sp_assign (.tmp 108) (iv (k + 1 : Nat)) rfl) ⟨I0, T0⟩ T0 T0 ?_
 refine tri_nil ?_
 refine tri_wk (wk_keep [(1, .box 27 (cFm a)), (2, .box 27 (cFm b)), (3, .box 47 [bv false, bv false, .v (.slice none 0 0)]), (4, .box 47 [bv true, bv (difB a b), .own 5]), (5, .row true 3 1 L.length (L.map iv))] [(2, .box 1 0), (3, .box 2 0), (4, .box 3 0), (5, iv 0), (8, .box 4 0), (9, iv (k + 1 : Nat)), (10, bv true), (106, bv true), (131, bv false), (153, bv false)] (n := 156)) ?_
 refine t_then ?_
 refine tri_again ⟨(k + 1, L), by dsimp only; omega, by rw [newTo_yes (by omega) hs14]; exact hL, by dsimp only; omega⟩ (show b.rules.length - (k + 1) < b.rules.length - k by omega) ?_
 show Wk _ _ (ofL [(1, .box 27 (cFm a)), (2, .box 27 (cFm b)), (3, .box 47 [bv false, bv false, .v (.slice none 0 0)]), (4, .box 47 [bv (sTo a b (k + 1)), bv (difB a b), .own 5]), (5, .row true 3 1 L.length (L.map iv))]) (ofT 156 [(2, .box 1 0), (3, .box 2 0), (4, .box 3 0), (5, iv 0), (8, .box 4 0), (9, iv ((k + 1) : Nat))])
 rw [show sTo a b (k + 1) = true by rw [sTo_t (by omega) (by omega) hs15]; exact hs16]
 exact wk_keep _ _ rfl (by kernel_rfl) (by kernel_rfl)
 have hs16f : (samP a.rules[k] b.rules[k]) = false := by simpa using hs16
 refine tri_draw [⟨[(.tmp 8, .box 4 0)], [], .box 4 0, .no⟩, ⟨[(.tmp 138, .box 4 0)], [(4, .box 47 [bv true, bv (difB a b), .own 5])], bv true, .no⟩, ⟨[(.tmp 139, bv true)], [], bv true, .no⟩, ⟨[(.tmp 2, .box 1 0)], [], .box 1 9, .no⟩, ⟨[(.tmp 141, .box 1 9)], [(1, .box 27 (cFm a))], slA 18 cRu a.rules, .no⟩, ⟨[(.tmp 9, iv k)], [], iv k, .no⟩, ⟨[(.tmp 142, slA 18 cRu a.rules), (.tmp 143, iv k)], [], .el (a.rules.flatMap cRu) (k * 18), .no⟩, ⟨[(.tmp 144, .el (a.rules.flatMap cRu) (k * 18))], [], .agg (cRu a.rules[k]), .no⟩, ⟨[(.tmp 3, .box 2 0)], [], .box 2 9, .no⟩, ⟨[(.tmp 146, .box 2 9)], [(2, .box 27 (cFm b))], slA 18 cRu b.rules, .no⟩, ⟨[(.tmp 9, iv k)], [], iv k, .no⟩, ⟨[(.tmp 147, slA 18 cRu b.rules), (.tmp 148, iv k)], [], .el (b.rules.flatMap cRu) (k * 18), .no⟩, ⟨[(.tmp 149, .el (b.rules.flatMap cRu) (k * 18))], [], .agg (cRu b.rules[k]), .no⟩, ⟨[(.func 54, .v (.func (.func 54) #[] #[])), (.tmp 145, .agg (cRu a.rules[k])), (.tmp 150, .agg (cRu b.rules[k]))], [], bv false, .no⟩, ⟨[(.tmp 151, bv false)], [], bv true, .no⟩, ⟨[(.tmp 140, bv true), (.tmp 152, bv true), (.const (.bool false), bv false)], [], bv true, .no⟩] (by kernel_rfl) (by kernel_rfl) ?_
 refine ⟨app_yes rfl (sp_fieldBox (off' := 0) (.tmp 8) rfl Tryd.underlying47 rfl (z := 1) (by kernel_rfl) (by decide) rfl) ⟨I0, T0⟩ T0 T0, ?_⟩
 refine ⟨app_yes rfl (sp_loadBox1 (Y := .box 47 [bv true, bv (difB a b), .own 5]) (X := bv true) (.tmp 138) rfl Tryd.underlying4 rfl rfl) ⟨I0, T0⟩ ⟨rfl, T0⟩ T0, ?_⟩
 refine ⟨app_yes rfl (sp_move (.tmp 139) (bv true) rfl) ⟨I0, T0⟩ T0 T0, ?_⟩
 refine ⟨app_yes rfl (sp_fieldBox (off' := 9) (.tmp 2) rfl Tryd.underlying27 rfl (z := 1) (by kernel_rfl) (by decide) rfl) ⟨I0, T0⟩ T0 T0, ?_⟩
 refine ⟨app_yes rfl (sp_loadBox1 (Y := .box 27 (cFm a)) (X := slA 18 cRu a.rules) (.tmp 141) rfl Tryd.underlying25 rfl rfl) ⟨I0, T0⟩ ⟨rfl, T0⟩ T0, ?_⟩
 refine ⟨app_yes rfl (sp_move (.tmp 9) (iv k) rfl) ⟨I0, T0⟩ T0 T0, ?_⟩
 refine ⟨app_yes rfl (sp_indexSl (off := k * 18) (.tmp 142) (.tmp 143) rfl Tryd.underlying25 (by kernel_rfl) (by omega) (by omega) rfl) ⟨I0, I0, T0⟩ T0 T0, ?_⟩
 refine ⟨app_yes rfl (sp_loadElS (z := 18) (.tmp 144) rfl Tryd.underlying81 rfl (by kernel_rfl) (flat_take lenRu a.rules k (by omega)) rfl) ⟨I0, T0⟩ T0 T0, ?_⟩
 refine ⟨app_yes rfl (sp_fieldBox (off' := 9) (.tmp 3) rfl Tryd.underlying27 rfl (z := 1) (by kernel_rfl) (by decide) rfl) ⟨I0, T0⟩ T0 T0, ?_⟩
 refine ⟨app_yes rfl (sp_loadBox1 (Y := .box 27 (cFm b)) (X := slA 18 cRu b.rules) (.tmp 146) rfl Tryd.underlying25 rfl rfl) ⟨I0, T0⟩ ⟨rfl, T0⟩ T0, ?_⟩
 refine ⟨app_yes rfl (sp_move (.tmp 9) (iv k) rfl) ⟨I0, T0⟩ T0 T0, ?_⟩
 refine ⟨app_yes rfl (sp_indexSl (off := k * 18) (.tmp 147) (.tmp 148) rfl Tryd.underlying25 (by kernel_rfl) (by omega) (by omega) rfl) ⟨I0, I0, T0⟩ T0 T0, ?_⟩
 refine ⟨app_yes rfl (sp_loadElS (z := 18) (.tmp 149) rfl Tryd.underlying81 rfl (by kernel_rfl) (flat_take lenRu b.rules k (by omega)) rfl) ⟨I0, T0⟩ T0 T0, ?_⟩
 refine ⟨app_yes rfl (sp_call (c := .func 54) (xs := #[.tmp 145, .tmp 150]) [] (ctr_b (sameButG (HA.rules a.rules[k] (List.getElem_mem (by omega))) (HB.rules b.rules[k] (List.getElem_mem (by omega)))) hs16f) rfl (by kernel_rfl) rfl (Xs := [.agg (cRu a.rules[k]), .agg (cRu b.rules[k])]) rfl rfl rfl) ⟨I0, I0, I0, T0⟩ T0 T0, ?_⟩
 refine ⟨app_yes rfl (sp_not rfl rfl) ⟨I0, T0⟩ T0 T0, ?_⟩
 refine ⟨app_yes rfl (sp_pick (.tmp 140) (.tmp 152) (.const (.bool false)) true (bv true) (bv false) rfl) ⟨I0, I0, I0, T0⟩ T0 T0, ?_⟩
 show ETri J w0 _ _ _
 refine tri_wk (wk_keep [(1, .box 27 (cFm a)), (2, .box 27 (cFm b)), (3, .box 47 [bv false, bv false, .v (.slice none 0 0)]), (4, .box 47 [bv true, bv (difB a b), .own 5]), (5, .row true 3 1 L.length (L.map iv))] [(2, .box 1 0), (3, .box 2 0), (4, .box 3 0), (5, iv 0), (8, .box 4 0), (9, iv k), (10, bv true), (106, bv true), (131, bv false), (153, bv true)] (n := 156)) ?_
 refine t_then ?_
 refine t_condT rfl ?_
 refine tri_region ?_
 refine t_op rfl (sp_fieldBox (off' := 0) (.tmp 8) rfl Tryd.underlying47 rfl (z := 1) (by kernel_rfl) (by decide) rfl) ⟨I0, T0⟩ T0 T0 ?_
 refine t_op rfl (sp_storeBox (T0 := 47) (X := bv false) (cs := [bv true, bv (difB a b), .own 5]) (ds := [bv false, bv (difB a b), .own 5]) (z := 1) (.tmp 154) (.const (.bool false)) rfl (by kernel_rfl) (by kernel_rfl) (by kernel_rfl) (of_decide_eq_true (by kernel_rfl)) (by kernel_rfl)) ⟨I0, I0, T0⟩ ⟨rfl, T0⟩ rfl ?_
 refine tri_nil ?_
 refine tri_wk (wk_keep [(1, .box 27 (cFm a)), (2, .box 27 (cFm b)), (3, .box 47 [bv false, bv false, .v (.slice none 0 0)]), (4, .box 47 [bv false, bv (difB a b), .own 5]), (5, .row true 3 1 L.length (L.map iv))] [(2, .box 1 0), (3, .box 2 0), (4, .box 3 0), (5, iv 0), (8, .box 4 0), (9, iv k), (10, bv true), (106, bv true), (131, bv false), (153, bv true)] (n := 156)) ?_
 refine t_block ?_
 refine t_then ?_
 refine tri_region ?_
 refine t_op rfl (sp_move (.tmp 9) (iv k) rfl) ⟨I0, T0⟩ T0 T0 ?_
 refine t_op rfl (sp_add (c := ((k + 1 : Nat) : Int)) rfl (w64 (by omega) (by omega) (by omega))) ⟨I0, I0, T0⟩ T0 T0 ?_
 refine t_op rfl (sp_assign (.tmp 108) (iv (k + 1 : Nat)) rfl) ⟨I0, T0⟩ T0 T0 ?_
 refine tri_nil ?_
 refine tri_wk (wk_keep [(1, .box 27 (cFm a)), (2, .box 27 (cFm b)), (3, .box 47 [bv false, bv false, .v (.slice none 0 0)]), (4, .box 47 [bv false, bv (difB a b), .own 5]), (5, .row true 3 1 L.length (L.map iv))] [(2, .box 1 0), (3, .box 2 0), (4, .box 3 0), (5, iv 0), (8, .box 4 0), (9, iv (k + 1 : Nat)), (10, bv true), (106, bv true), (131, bv false), (153, bv true)] (n := 156)) ?_
 refine t_then ?_
 refine tri_again ⟨(k + 1, L), by dsimp only; omega, by rw [newTo_yes (by omega) hs14]; exact hL, by dsimp only; omega⟩ (show b.rules.length - (k + 1) < b.rules.length - k by omega) ?_
 show Wk _ _ (ofL [(1, .box 27 (cFm a)), (2, .box 27 (cFm b)), (3, .box 47 [bv false, bv false, .v (.slice none 0 0)]), (4, .box 47 [bv (sTo a b (k + 1)), bv (difB a b), .own 5]), (5, .row true 3 1 L.length (L.map iv))]) (ofT 156 [(2, .box 1 0), (3, .box 2 0), (4, .box 3 0), (5, iv 0), (8, .box 4 0), (9, iv ((k + 1) : Nat))])
 rw [show sTo a b (k + 1) = false by rw [sTo_t (by omega) (by omega) hs15]; exact hs16f]
 exact wk_keep _ _ rfl (by kernel_rfl) (by kernel_rfl)
 have hs15f : (sTo a b k) = false := by simpa using hs15
 rw [hs15f]
 refine tri_wk (wk_keep [(1, .box 27 (cFm a)), (2, .box 27 (cFm b)), (3, .box 47 [bv false, bv false, .v (.slice none 0 0)]), (4, .box 47 [bv false, bv (difB a b), .own 5]), (5, .row true 3 1 L.length (L.map iv))] [(2, .box 1 0), (3, .box 2 0), (4, .box 3 0), (5, iv 0), (8, .box 4 0), (9, iv k), (10, bv true), (106, bv true), (131, bv false)] (n := 156)) ?_
 refine tri_draw [⟨[(.tmp 8, .box 4 0)], [], .box 4 0, .no⟩, ⟨[(.tmp 138, .box 4 0)], [(4, .box 47 [bv false, bv (difB a b), .own 5])], bv false, .no⟩, ⟨[(.tmp 139, bv false)], [], bv false, .no⟩, ⟨[], [], .v undef, .no⟩, ⟨[], [], .v undef, .no⟩, ⟨[], [], .v undef, .no⟩, ⟨[], [], .v undef, .no⟩, ⟨[], [], .v undef, .no⟩, ⟨[], [], .v undef, .no⟩, ⟨[], [], .v undef, .no⟩, ⟨[], [], .v undef, .no⟩, ⟨[], [], .v undef, .no⟩, ⟨[], [], .v undef, .no⟩, ⟨[], [], .v undef, .no⟩, ⟨[], [], .v undef, .no⟩, ⟨[(.tmp 140, bv false), (.tmp 152, .v (.tuple #[])), (.const (.bool false), bv false)], [], bv false, .no⟩] (by kernel_rfl) (by kernel_rfl) ?_
 refine ⟨app_yes rfl (sp_fieldBox (off' := 0) (.tmp 8) rfl Tryd.underlying47 rfl (z := 1) (by kernel_rfl) (by decide) rfl) ⟨I0, T0⟩ T0 T0, ?_⟩
 refine ⟨app_yes rfl (sp_loadBox1 (Y := .box 47 [bv false, bv (difB a b), .own 5]) (X := bv false) (.tmp 138) rfl Tryd.underlying4 rfl rfl) ⟨I0, T0⟩ ⟨rfl, T0⟩ T0, ?_⟩
 refine ⟨app_yes rfl (sp_move (.tmp 139) (bv false) rfl) ⟨I0, T0⟩ T0 T0, ?_⟩
 refine ⟨app_no rfl, ?_⟩
 refine ⟨app_no rfl, ?_⟩
 refine ⟨app_no rfl, ?_⟩
 refine ⟨app_no rfl, ?_⟩
 refine ⟨app_no rfl, ?_⟩
 refine ⟨app_no rfl, ?_⟩
 refine ⟨app_no rfl, ?_⟩
 refine ⟨app_no rfl, ?_⟩
 refine ⟨app_no rfl, ?_⟩
 refine ⟨app_no rfl, ?_⟩
 refine ⟨app_no rfl, ?_⟩
 refine ⟨app_no rfl, ?_⟩
 refine ⟨app_yes rfl (sp_pick (.tmp 140) (.tmp 152) (.const (.bool false)) false (.v (.tuple #[])) (bv false) rfl) ⟨I0, I0, I0, T0⟩ T0 T0, ?_⟩
 show ETri J w0 _ _ _
 refine tri_wk (wk_keep [(1, .box 27 (cFm a)), (2, .box 27 (cFm b)), (3, .box 47 [bv false, bv false, .v (.slice none 0 0)]), (4, .box 47 [bv false, bv (difB a b), .own 5]), (5, .row true 3 1 L.length (L.map iv))] [(2, .box 1 0), (3, .box 2 0), (4, .box 3 0), (5, iv 0), (8, .box 4 0), (9, iv k), (10, bv true), (106, bv true), (131, bv false), (153, bv false)] (n := 156)) ?_
 refine t_then ?_
 refine t_condF rfl ?_
 refine tri_skip ?_
 refine t_block ?_
 refine t_then ?_
 refine tri_region ?_
 refine t_op rfl (sp_move (.tmp 9) (iv k) rfl) ⟨I0, T0⟩ T0 T0 ?_
 refine t_op rfl (sp_add (c := ((k + 1 : Nat) : Int)) rfl (w64 (by omega) (by omega) (by omega))) ⟨I0, I0, T0⟩ T0 T0 ?_
 refine t_op rfl (sp_assign (.tmp 108) (iv (k + 1 : Nat)) rfl) ⟨I0, T0⟩ T0 T0 ?_
 refine tri_nil ?_
 refine tri_wk (wk_keep [(1, .box 27 (cFm a)), (2, .box 27 (cFm b)), (3, .box 47 [bv false, bv false, .v (.slice none 0 0)]), (4, .box 47 [bv false, bv (difB a b), .own 5]), (5, .row true 3 1 L.length (L.map iv))] [(2, .box 1 0), (3, .box 2 0), (4, .box 3 0), (5, iv 0), (8, .box 4 0), (9, iv (k + 1 : Nat)), (10, bv true), (106, bv true), (131, bv false), (153, bv false)] (n := 156)) ?_
 refine t_then ?_
 refine tri_again ⟨(k + 1, L), by dsimp only; omega, by rw [newTo_yes (by omega) hs14]; exact hL, by dsimp only; omega⟩ (show b.rules.length - (k + 1) < b.rules.length - k by omega) ?_
 show Wk _ _ (ofL [(1, .box 27 (cFm a)), (2, .box 27 (cFm b)), (3, .box 47 [bv false, bv false, .v (.slice none 0 0)]), (4, .box 47 [bv (sTo a b (k + 1)), bv (difB a b), .own 5]), (5, .row true 3 1 L.length (L.map iv))]) (ofT 156 [(2, .box 1 0), (3, .box 2 0), (4, .box 3 0), (5, iv 0), (8, .box 4 0), (9, iv ((k + 1) : Nat))])
 rw [show sTo a b (k + 1) = false by exact sTo_f hs15f]
 exact wk_keep _ _ rfl (by kernel_rfl) (by kernel_rfl)
 have hs14f : (knB a.rules b.rules[k]) = false := by simpa using hs14
 rw [hs14f]
 refine tri_wk (wk_keep [(1, .box 27 (cFm a)), (2, .box 27 (cFm b)), (3, .box 47 [bv false, bv false, .v (.slice none 0 0)]), (4, .box 47 [bv (sTo a b k), bv (difB a b), .own 5]), (5, .row true 3 1 L.length (L.map iv))] [(2, .box 1 0), (3, .box 2 0), (4, .box 3 0), (5, iv 0), (8, .box 4 0), (9, iv k), (10, bv false), (106, bv true)] (n := 156)) ?_
 refine tri_region ?_
 refine t_op rfl (sp_move (.tmp 10) (bv false) rfl) ⟨I0, T0⟩ T0 T0 ?_
 refine t_op rfl (sp_not rfl rfl) ⟨I0, T0⟩ T0 T0 ?_
 refine tri_nil ?_
 refine tri_wk (wk_keep [(1, .box 27 (cFm a)), (2, .box 27 (cFm b)), (3, .box 47 [bv false, bv false, .v (.slice none 0 0)]), (4, .box 47 [bv (sTo a b k), bv (difB a b), .own 5]), (5, .row true 3 1 L.length (L.map iv))] [(2, .box 1 0), (3, .box 2 0), (4, .box 3 0), (5, iv 0), (8, .box 4 0), (9, iv k), (10, bv false), (106, bv true), (131, bv true)] (n := 156)) ?_
 refine t_then ?_
 refine t_condT rfl ?_
 refine tri_region ?_
 refine t_op rfl (sp_fieldBox (off' := 2) (.tmp 8) rfl Tryd.underlying47 rfl (z := 1) (by kernel_rfl) (by decide) rfl) ⟨I0, T0⟩ T0 T0 ?_
 refine t_op rfl (sp_loadBox1 (Y := .box 47 [bv (sTo a b k), bv (difB a b), .own 5]) (X := .own 5) (.tmp 132) rfl Tryd.underlying24 rfl rfl) ⟨I0, T0⟩ ⟨rfl, T0⟩ T0 ?_
 refine t_op rfl (sp_move (.tmp 9) (iv k) rfl) ⟨I0, T0⟩ T0 T0 ?_
 refine t_op rfl (sp_build (z := 1) (k := 6) (fr := true) (cs := [iv k]) [.tmp 134] [iv k] rfl Tryd.underlying24 (by kernel_rfl) (by decide) (by decide) rfl rfl rfl (by kernel_rfl) (by decide) (fun _ => by simp [AV.cellsOf, AV.isNew, cLn, cTh]) (by kernel_rfl)) ⟨I0, T0⟩ T0 rfl ?_
 refine t_op rfl (sp_appendOwn (n := L.length) (cs := (L.map iv)) (fr := true) (m := 1) (ds := [iv k]) (⟨Tryd.underlying24, by kernel_rfl, by decide⟩ : Elt Tryd.prog 24 3 1 8) (.tmp 133) (.tmp 135) rfl (fun _ => newI) (by unfold maxLen; omega) (by omega) cellI (es := ((L ++ [((k : Nat) : Int)]).map iv)) snocI) ⟨I0, I0, T0⟩ ⟨rfl, rfl, T0⟩ rfl ?_
 refine t_op rfl (sp_fieldBox (off' := 2) (.tmp 8) rfl Tryd.underlying47 rfl (z := 1) (by kernel_rfl) (by decide) rfl) ⟨I0, T0⟩ T0 T0 ?_
 refine t_op rfl (sp_storeBox (T0 := 47) (X := .own 5) (cs := [bv (sTo a b k), bv (difB a b), .any]) (ds := [bv (sTo a b k), bv (difB a b), .own 5]) (z := 1) (.tmp 137) (.tmp 136) rfl (by kernel_rfl) (by kernel_rfl) (by kernel_rfl) (of_decide_eq_true (by kernel_rfl)) (by kernel_rfl)) ⟨I0, I0, T0⟩ ⟨rfl, T0⟩ rfl ?_
 refine tri_nil ?_
 refine tri_wk (wk_keep [(1, .box 27 (cFm a)), (2, .box 27 (cFm b)), (3, .box 47 [bv false, bv false, .v (.slice none 0 0)]), (4, .box 47 [bv (sTo a b k), bv (difB a b), .own 5]), (5, .row true 3 1 (L.length + 1) ((L ++ [((k : Nat) : Int)]).map iv))] [(2, .box 1 0), (3, .box 2 0), (4, .box 3 0), (5, iv 0), (8, .box 4 0), (9, iv k), (10, bv false), (106, bv true), (131, bv true)] (n := 156)) ?_
 refine t_then ?_
 refine tri_seq ?_
 by_cases hs17 : (sTo a b k) = true
 have hln := sTo_len hs17
 rw [hs17]
 refine tri_wk (wk_keep [(1, .box 27 (cFm a)), (2, .box 27 (cFm b)), (3, .box 47 [bv false, bv false, .v (.slice none 0 0)]), (4, .box 47 [bv true, bv (difB a b), .own 5]), (5, .row true 3 1 (L.length + 1) ((L ++ [((k : Nat) : Int)]).map iv))] [(2, .box 1 0), (3, .box 2 0), (4, .box 3 0), (5, iv 0), (8, .box 4 0), (9, iv k), (10, bv false), (106, bv true), (131, bv true)] (n := 156)) ?_
 by_cases hs18 : (samP a.rules[k] b.rules[k]) = true
 refine tri_draw [⟨[(.tmp 8, .box 4 0)], [], .box 4 0, .no⟩, ⟨[(.tmp 138, .box 4 0)], [(4, .box 47 [bv true, bv (difB a b), .own 5])], bv true, .no⟩, ⟨[(.tmp 139, bv true)], [], bv true, .no⟩, ⟨[(.tmp 2, .box 1 0)], [], .box 1 9, .no⟩, ⟨[(.tmp 141, .box 1 9)], [(1, .box 27 (cFm a))], slA 18 cRu a.rules, .no⟩, ⟨[(.tmp 9, iv k)], [], iv k, .no⟩, ⟨[(.tmp 142, slA 18 cRu a.rules), (.tmp 143, iv k)], [], .el (a.rules.flatMap cRu) (k * 18), .no⟩, ⟨[(.tmp 144, .el (a.rules.flatMap cRu) (k * 18))], [], .agg (cRu a.rules[k]), .no⟩, ⟨[(.tmp 3, .box 2 0)], [], .box 2 9, .no⟩, ⟨[(.tmp 146, .box 2 9)], [(2, .box 27 (cFm b))], slA 18 cRu b.rules, .no⟩, ⟨[(.tmp 9, iv k)], [], iv k, .no⟩, ⟨[(.tmp 147, slA 18 cRu b.rules), (.tmp 148, iv k)], [], .el (b.rules.flatMap cRu) (k * 18), .no⟩, ⟨[(.tmp 149, .el (b.rules.flatMap cRu) (k * 18))], [], .agg (cRu b.rules[k]), .no⟩, ⟨[(.func 54, .v (.func (.func 54) #[] #[])), (.tmp 145, .agg (cRu a.rules[k])), (.tmp 150, .agg (cRu b.rules[k]))], [], bv true, .no⟩, ⟨[(.tmp 151, bv true)], [], bv false, .no⟩, ⟨[(.tmp 140, bv true), (.tmp 152, bv false), (.const (.bool false), bv false)], [], bv false, .no⟩] (by kernel_rfl) (by kernel_rfl) ?_
 refine ⟨app_yes rfl (sp_fieldBox (off' := 0) (.tmp 8) rfl Tryd.underlying47 rfl (z := 1) (by kernel_rfl) (by decide) rfl) ⟨I0, T0⟩ T0 T0, ?_⟩
 refine ⟨app_yes rfl (sp_loadBox1 (Y := .box 47 [bv true, bv (difB a b), .own 5]) (X := bv true) (.tmp 138) rfl Tryd.underlying4 rfl rfl) ⟨I0, T0⟩ ⟨rfl, T0⟩ T0, ?_⟩
 refine ⟨app_yes rfl (sp_move (.tmp 139) (bv true) rfl) ⟨I0, T0⟩ T0 T0, ?_⟩
 refine ⟨app_yes rfl (sp_fieldBox (off' := 9) (.tmp 2) rfl Tryd.underlying27 rfl (z := 1) (by kernel_rfl) (by decide) rfl) ⟨I0, T0⟩ T0 T0, ?_⟩
 refine ⟨app_yes rfl (sp_loadBox1 (Y := .box 27 (cFm a)) (X := slA 18 cRu a.rules) (.tmp 141) rfl Tryd.underlying25 rfl rfl) ⟨I0, T0⟩ ⟨rfl, T0⟩ T0, ?_⟩
 refine ⟨app_yes rfl (sp_move (.tmp 9) (iv k) rfl) ⟨I0, T0⟩ T0 T0, ?_⟩
 refine ⟨app_yes rfl (sp_indexSl (off := k * 18) (.tmp 142) (.tmp 143) rfl Tryd.underlying25 (by kernel_rfl) (by omega) (by omega) rfl) ⟨I0, I0, T0⟩ T0 T0, ?_⟩
 refine ⟨app_yes rfl (sp_loadElS (z := 18) (.tmp 144) rfl Tryd.underlying81 rfl (by kernel_rfl) (flat_take lenRu a.rules k (by omega)) rfl) ⟨I0, T0⟩ T0 T0, ?_⟩
 refine ⟨app_yes rfl (sp_fieldBox (off' := 9) (.tmp 3) rfl Tryd.underlying27 rfl (z := 1) (by kernel_rfl) (by decide) rfl) ⟨I0, T0⟩ T0 T0, ?_⟩
 refine ⟨app_yes rfl (sp_loadBox1 (Y := .box 27 (cFm b)) (X := slA 18 cRu b.rules) (.tmp 146) rfl Tryd.underlying25 rfl rfl) ⟨I0, T0⟩ ⟨rfl, T0⟩ T0, ?_⟩
 refine ⟨app_yes rfl (sp_move (.tmp 9) (iv k) rfl) ⟨I0, T0⟩ T0 T0, ?_⟩
 refine ⟨app_yes rfl (sp_indexSl (off := k * 18) (.tmp 147) (.tmp 148) rfl Tryd.underlying25 (by kernel_rfl) (by omega) (by omega) rfl) ⟨I0, I0, T0⟩ T0 T0, ?_⟩
 refine ⟨app_yes rfl (sp_loadElS (z := 18) (.tmp 149) rfl Tryd.underlying81 rfl (by kernel_rfl) (flat_take lenRu b.rules k (by omega)) rfl) ⟨I0, T0⟩ T0 T0, ?_⟩
 refine ⟨app_yes rfl (sp_call (c := .func 54) (xs := #[.tmp 145, .tmp 150]) [] (ctr_b (sameButG (HA.rules a.rules[k] (List.getElem_mem (by omega))) (HB.rules b.rules[k] (List.getElem_mem (by omega)))) hs18) rfl (by kernel_rfl) rfl (Xs := [.agg (cRu a.rules[k]), .agg (cRu b.rules[k])]) rfl rfl rfl) ⟨I0, I0, I0, T0⟩ T0 T0, ?_⟩
 refine ⟨app_yes rfl (sp_not rfl rfl) ⟨I0, T0⟩ T0 T0, ?_⟩
 refine ⟨app_yes rfl (sp_pick (.tmp 140) (.tmp 152) (.const (.bool false)) true (bv false) (bv false) rfl) ⟨I0, I0, I0, T0⟩ T0 T0, ?_⟩
 show ETri J w0 _ _ _
 refine tri_wk (wk_keep [(1, .box 27 (cFm a)), (2, .box 27 (cFm b)), (3, .box 47 [bv false, bv false, .v (.slice none 0 0)]), (4, .box 47 [bv true, bv (difB a b), .own 5]), (5, .row true 3 1 (L.length + 1) ((L ++ [((k : Nat) : Int)]).map iv))] [(2, .box 1 0), (3, .box 2 0), (4, .box 3 0), (5, iv 0), (8, .box 4 0), (9, iv k), (10, bv false), (106, bv true), (131, bv true), (153, bv false)] (n := 156)) ?_
 refine t_then ?_
 refine t_condF rfl ?_
 refine tri_skip ?_
 refine t_block ?_
 refine t_then ?_
 refine tri_region ?_
 refine t_op rfl (sp_move (.tmp 9) (iv k) rfl) ⟨I0, T0⟩ T0 T0 ?_
 refine t_op rfl (sp_add (c := ((k + 1 : Nat) : Int)) rfl (w64 (by omega) (by omega) (by omega))) ⟨I0, I0, T0⟩ T0 T0 ?_
 refine t_op rfl (sp_assign (.tmp 108) (iv (k + 1 : Nat)) rfl) ⟨I0, T0⟩ T0 T0 ?_
 refine tri_nil ?_
 refine tri_wk (wk_keep [(1, .box 27 (cFm a)), (2, .box 27 (cFm b)), (3, .box 47 [bv false, bv false, .v (.slice none 0 0)]), (4, .box 47 [bv true, bv (difB a b), .own 5]), (5, .row true 3 1 (L.length + 1) ((L ++ [((k : Nat) : Int)]).map iv))] [(2, .box 1 0), (3, .box 2 0), (4, .box 3 0), (5, iv 0), (8, .box 4 0), (9, iv (k + 1 : Nat)), (10, bv false), (106, bv true), (131, bv true), (153, bv false)] (n := 156)) ?_
 refine t_then ?_
 refine tri_again ⟨(k + 1, L ++ [((k : Nat) : Int)]), by dsimp only; omega, by rw [newTo_no (by omega) hs14f, ← hL], by rw [snocIL]; dsimp only; omega⟩ (show b.rules.length - (k + 1) < b.rules.length - k by omega) ?_
 show Wk _ _ (ofL [(1, .box 27 (cFm a)), (2, .box 27 (cFm b)), (3, .box 47 [bv false, bv false, .v (.slice none 0 0)]), (4, .box 47 [bv (sTo a b (k + 1)), bv (difB a b), .own 5]), (5, .row true 3 1 ((L ++ [((k : Nat) : Int)]).length) ((L ++ [((k : Nat) : Int)]).map iv))]) (ofT 156 [(2, .box 1 0), (3, .box 2 0), (4, .box 3 0), (5, iv 0), (8, .box 4 0), (9, iv ((k + 1) : Nat))])
 rw [snocIL]
 rw [show sTo a b (k + 1) = true by rw [sTo_t (by omega) (by omega) hs17]; exact hs18]
 exact wk_keep _ _ rfl (by kernel_rfl) (by kernel_rfl)
 have hs18f : (samP a.rules[k] b.rules[k]) = false := by simpa using hs18
 refine tri_draw [⟨[(.tmp 8, .box 4 0)], [], .box 4 0, .no⟩, ⟨[(.tmp 138, .box 4 0)], [(4, .box 47 [bv true, bv (difB a b), .own 5])], bv true, .no⟩, ⟨[(.tmp 139, bv true)], [], bv true, .no⟩, ⟨[(.tmp 2, .box 1 0)], [], .box 1 9, .no⟩, ⟨[(.tmp 141, .box 1 9)], [(1, .box 27 (cFm a))], slA 18 cRu a.rules, .no⟩, ⟨[(.tmp 9, iv k)], [], iv k, .no⟩, ⟨[(.tmp 142, slA 18 cRu a.rules), (.tmp 143, iv k)], [], .el (a.rules.flatMap cRu) (k * 18), .no⟩, ⟨[(.tmp 144, .el (a.rules.flatMap cRu) (k * 18))], [], .agg (cRu a.rules[k]), .no⟩, ⟨[(.tmp 3, .box 2 0)], [], .box 2 9, .no⟩, ⟨[(.tmp 146, .box 2 9)], [(2, .box 27 (cFm b))], slA 18 cRu b.rules, .no⟩, ⟨[(.tmp 9, iv k)], [], iv k, .no⟩, ⟨[(.tmp 147, slA 18 cRu b.rules), (.tmp 148, iv k)], [], .el (b.rules.flatMap cRu) (k * 18), .no⟩, ⟨[(.tmp 149, .el (b.rules.flatMap cRu) (k * 18))], [], .agg (cRu b.rules[k]), .no⟩, ⟨[(.func 54, .v (.func (.func 54) #[] #[])), (.tmp 145, .agg (cRu a.rules[k])), (.tmp 150, .agg (cRu b.rules[k]))], [], bv false, .no⟩, ⟨[(.tmp 151, bv false)], [], bv true, .no⟩, ⟨[(.tmp 140, bv true), (.tmp 152, bv true), (.const (.bool false), bv false)], [], bv true, .no⟩] (by kernel_rfl) (by kernel_rfl) ?_
 refine ⟨app_yes rfl (sp_fieldBox (off' := 0) (.tmp 8) rfl Tryd.underlying47 rfl (z := 1) (by kernel_rfl) (by decide) rfl) ⟨I0, T0⟩ T0 T0, ?_⟩
 refine ⟨app_yes rfl (sp_loadBox1 (Y := .box 47 [bv true, bv (difB a b), .own 5]) (X := bv true) (.tmp 138) rfl Tryd.underlying4 rfl rfl) ⟨I0, T0⟩ ⟨rfl, T0⟩ T0, ?_⟩
 refine ⟨app_yes rfl (sp_move (.tmp 139) (bv true) rfl) ⟨I0, T0⟩ T0 T0, ?_⟩
 refine ⟨app_yes rfl (sp_fieldBox (off' := 9) (.tmp 2) rfl Tryd.underlying27 rfl (z := 1) (by kernel_rfl) (by decide) rfl) ⟨I0, T0⟩ T0 T0, ?_⟩
 refine ⟨app_yes rfl (sp_loadBox1 (Y := .box 27 (cFm a)) (X := slA 18 cRu a.rules) (.tmp 141) rfl Tryd.underlying25 rfl rfl) ⟨I0, T0⟩ ⟨rfl, T0⟩ T0, ?_⟩
 refine ⟨app_yes rfl (sp_move (.tmp 9) (iv k) rfl) ⟨I0, T0⟩ T0 T0, ?_⟩
 refine ⟨app_yes rfl (sp_indexSl (off := k * 18) (.tmp 142) (.tmp 143) rfl Tryd.underlying25 (by kernel_rfl) (by omega) (by omega) rfl) ⟨I0, I0, T0⟩ T0 T0, ?_⟩
 refine ⟨app_yes rfl (sp_loadElS (z := 18) (.tmp 144) rfl Tryd.underlying81 rfl (by kernel_rfl) (flat_take lenRu a.rules k (by omega)) rfl) ⟨I0, T0⟩ T0 T0, ?_⟩
 refine ⟨app_yes rfl (sp_fieldBox (off' := 9) (.tmp 3) rfl Tryd.underlying27 rfl (z := 1) (by kernel_rfl) (by decide) rfl) ⟨I0, T0⟩ T0 T0, ?_⟩
 refine ⟨app_yes rfl (sp_loadBox1 (Y := .box 27 (cFm b)) (X := slA 18 cRu b.rules) (.tmp 146) rfl Tryd.underlying25 rfl rfl) ⟨I0, T0⟩ ⟨rfl, T0⟩ T0, ?_⟩
 refine ⟨app_yes rfl (sp_move (.tmp 9) (iv k) rfl) ⟨I0, T0⟩ T0 T0, ?_⟩
 refine ⟨app_yes rfl (sp_indexSl (off := k * 18) (.tmp 147) (.tmp 148) rfl Tryd.underlying25 (by kernel_rfl) (by omega) (by omega) rfl) ⟨I0, I0, T0⟩ T0 T0, ?_⟩
 refine ⟨app_yes rfl (sp_loadElS (z := 18) (.tmp 149) rfl Tryd.underlying81 rfl (by kernel_rfl) (flat_take lenRu b.rules k (by omega)) rfl) ⟨I0, T0⟩ T0 T0, ?_⟩
 refine ⟨app_yes rfl (sp_call (c := .func 54) (xs := #[.tmp 145, .tmp 150]) [] (ctr_b (sameButG (HA.rules a.rules[k] (List.getElem_mem (by omega))) (HB.rules b.rules[k] (List.getElem_mem (by omega)))) hs18f) rfl (by kernel_rfl) rfl (Xs := [.agg (cRu a.rules[k]), .agg (cRu b.rules[k])]) rfl rfl rfl) ⟨I0, I0, I0, T0⟩ T0 T0, ?_⟩
 refine ⟨app_yes rfl (sp_not rfl rfl) ⟨I0, T0⟩ T0 T0, ?_⟩
 refine ⟨app_yes rfl (sp_pick (.tmp 140) (.tmp 152) (.const (.bool false)) true (bv true) (bv false) rfl) ⟨I0, I0, I0, T0⟩ T0 T0, ?_⟩
 show ETri J w0 _ _ _
 refine tri_wk (wk_keep [(1, .box 27 (cFm a)), (2, .box 27 (cFm b)), (3, .box 47 [bv false, bv false, .v (.slice none 0 0)]), (4, .box 47 [bv true, bv (difB a b), .own 5]), (5, .row true 3 1 (L.length + 1) ((L ++ [((k : Nat) : Int)]).map iv))] [(2, .box 1 0), (3, .box 2 0), (4, .box 3 0), (5, iv 0), (8, .box 4 0), (9, iv k), (10, bv false), (106, bv true), (131, bv true), (153, bv true)] (n := 156)) ?_
 refine t_then ?_
 refine t_condT rfl ?_
 refine tri_region ?_
 refine t_op rfl (sp_fieldBox (off' := 0) (.tmp 8) rfl Tryd.underlying47 rfl (z := 1) (by kernel_rfl) (by decide) rfl) ⟨I0, T0⟩ T0 T0 ?_
 refine t_op rfl (sp_storeBox (T0 := 47) (X := bv false) (cs := [bv true, bv (difB a b), .own 5]) (ds := [bv false, bv (difB a b), .own 5]) (z := 1) (.tmp 154) (.const (.bool false)) rfl (by kernel_rfl) (by kernel_rfl) (by kernel_rfl) (of_decide_eq_true (by kernel_rfl)) (by kernel_rfl)) ⟨I0, I0, T0⟩ ⟨rfl, T0⟩ rfl ?_
 refine tri_nil ?_
 refine tri_wk (wk_keep [(1, .box 27 (cFm a)), (2, .box 27 (cFm b)), (3, .box 47 [bv false, bv false, .v (.slice none 0 0)]), (4, .box 47 [bv false, bv (difB a b), .own 5]), (5, .row true 3 1 (L.length + 1) ((L ++ [((k : Nat) : Int)]).map iv))] [(2, .box 1 0), (3, .box 2 0), (4, .box 3 0), (5, iv 0), (8, .box 4 0), (9, iv k), (10, bv false), (106, bv true), (131, bv true), (153, bv true)] (n := 156)) ?_
 refine t_block ?_
 refine t_then ?_
 refine tri_region ?_
 refine t_op rfl (sp_move (.tmp 9) (iv k) rfl) ⟨I0, T0⟩ T0 T0 ?_
 refine t_op rfl (sp_add (c := ((k + 1 : Nat) : Int)) rfl (w64 (by omega) (by omega) (by omega))) ⟨I0, I0, T0⟩ T0 T0 ?_
 refine t_op rfl (sp_assign (.tmp 108) (iv (k + 1 : Nat)) rfl) ⟨I0, T0⟩ T0 T0 ?_
 refine tri_nil ?_
 refine tri_wk (wk_keep [(1, .box 27 (cFm a)), (2, .box 27 (cFm b)), (3, .box 47 [bv false, bv false, .v (.slice none 0 0)]), (4, .box 47 [bv false, bv (difB a b), .own 5]), (5, .row true 3 1 (L.length + 1) ((L ++ [((k : Nat) : Int)]).map iv))] [(2, .box 1 0), (3, .box 2 0), (4, .box 3 0), (5, iv 0), (8, .box 4 0), (9, iv (k + 1 : Nat)), (10, bv false), (106, bv true), (131, bv true), (153, bv true)] (n := 156)) ?_
 refine t_then ?_
 refine tri_again ⟨(k + 1, L ++ [((k : Nat) : Int)]), by dsimp only; omega, by rw [newTo_no (by omega) hs14f, ← hL], by rw [snocIL]; dsimp only; omega⟩ (show b.rules.length - (k + 1) < b.rules.length - k by omega) ?_
 show Wk _ _ (ofL [(1, .box 27 (cFm a)), (2, .box 27 (cFm b)), (3, .box 47 [bv false, bv false, .v (.slice none 0 0)]), (4, .box 47 [bv (sTo a b (k + 1)), bv (difB a b), .own 5]), (5, .row true 3 1 ((L ++ [((k : Nat) : Int)]).length) ((L ++ [((k : Nat) : Int)]).map iv))]) (ofT 156 [(2, .box 1 0), (3, .box 2 0), (4, .box 3 0), (5, iv 0), (8, .box 4 0), (9, iv ((k + 1) : Nat))])
 rw [snocIL]
 rw [show sTo a b (k + 1) = false by rw [sTo_t (by omega) (by omega) hs17]; exact hs18f]
 exact wk_keep _ _ rfl (by kernel_rfl) (by kernel_rfl)
 have hs17f : (sTo a b k) = false := by simpa using hs17
 rw [hs17f]
 refine tri_wk (wk_keep [(1, .box 27 (cFm a)), (2, .box 27 (cFm b)), (3, .box 47 [bv false, bv false, .v (.slice none 0 0)]), (4, .box 47 [bv false, bv (difB a b), .own 5]), (5, .row true 3 1 (L.length + 1) ((L ++ [((k : Nat) : Int)]).map iv))] [(2, .box 1 0), (3, .box 2 0), (4, .box 3 0), (5, iv 0), (8, .box 4 0), (9, iv k), (10, bv false), (106, bv true), (131, bv true)] (n := 156)) ?_
 refine tri_draw [⟨[(.tmp 8, .box 4 0)], [], .box 4 0, .no⟩, ⟨[(.tmp 138, .box 4 0)], [(4, .box 47 [bv false, bv (difB a b), .own 5])], bv false, .no⟩, ⟨[(.tmp 139, bv false)], [], bv false, .no⟩, ⟨[], [], .v undef, .no⟩, ⟨[], [], .v undef, .no⟩, ⟨[], [], .v undef, .no⟩, ⟨[], [], .v undef, .no⟩, ⟨[], [], .v undef, .no⟩, ⟨[], [], .v undef, .no⟩, ⟨[], [], .v undef, .no⟩, ⟨[], [], .v undef, .no⟩, ⟨[], [], .v undef, .no⟩, ⟨[], [], .v undef, .no⟩, ⟨[], [], .v undef, .no⟩, ⟨[], [], .v undef, .no⟩, ⟨[(.tmp 140, bv false), (.tmp 152, .v (.tuple #[])), (.const (.bool false), bv false)], [], bv false, .no⟩] (by kernel_rfl) (by kernel_rfl) ?_
 refine ⟨app_yes rfl (sp_fieldBox (off' := 0) (.tmp 8) rfl Tryd.underlying47 rfl (z := 1) (by kernel_rfl) (by decide) rfl) ⟨I0, T0⟩ T0 T0, ?_⟩
 refine ⟨app_yes rfl (sp_loadBox1 (Y := .box 47 [bv false, bv (difB a b), .own 5]) (X := bv false) (.tmp 138) rfl Tryd.underlying4 rfl rfl) ⟨I0, T0⟩ ⟨rfl, T0⟩ T0, ?_⟩
 refine ⟨app_yes rfl (sp_move (.tmp 139) (bv false) rfl) ⟨I0, T0⟩ T0 T0, ?_⟩
 refine ⟨app_no rfl, ?_⟩
 refine ⟨app_no rfl, ?_⟩
 refine ⟨app_no rfl, ?_⟩
 refine ⟨app_no rfl, ?_⟩
 refine ⟨app_no rfl, ?_⟩
 refine ⟨app_no rfl, ?_⟩
 refine ⟨app_no rfl, ?_⟩
 refine ⟨app_no rfl, ?_⟩
 refine ⟨app_no rfl, ?_⟩
 refine ⟨app_no rfl, ?_⟩
 refine ⟨app_no rfl, ?_⟩
 refine ⟨app_no rfl, ?_⟩
 refine ⟨app_yes rfl (sp_pick (.tmp 140) (.tmp 152) (.const (.bool false)) false (.v (.tuple #[])) (bv false) rfl) ⟨I0, I0, I0, T0⟩ T0 T0, ?_⟩
 show ETri J w0 _ _ _
 refine tri_wk (wk_keep [(1, .box 27 (cFm a)), (2, .box 27 (cFm b)), (3, .box 47 [bv false, bv false, .v (.slice none 0 0)]), (4, .box 47 [bv false, bv (difB a b), .own 5]), (5, .row true 3 1 (L.length + 1) ((L ++ [((k : Nat) : Int)]).map iv))] [(2, .box 1 0), (3, .box 2 0), (4, .box 3 0), (5, iv 0), (8, .box 4 0), (9, iv k), (10, bv false), (106, bv true), (131, bv true), (153, bv false)] (n := 156)) ?_
 refine t_then ?_
 refine t_condF rfl ?_
 refine tri_skip ?_
 refine t_block ?_
 refine t_then ?_
 refine tri_region ?_
 refine t_op rfl (sp_move (.tmp 9) (iv k) rfl) ⟨I0, T0⟩ T0 T0 ?_
 refine t_op rfl (sp_add (c := ((k + 1 : Nat) : Int)) rfl (w64 (by omega) (by omega) (by omega))) ⟨I0, I0, T0⟩ T0 T0 ?_
 refine t_op rfl (sp_assign (.tmp 108) (iv (k + 1 : Nat)) rfl) ⟨I0, T0⟩ T0 T0 ?_
 refine tri_nil ?_
 refine tri_wk (wk_keep [(1, .box 27 (cFm a)), (2, .box 27 (cFm b)), (3, .box 47 [bv false, bv false, .v (.slice none 0 0)]), (4, .box 47 [bv false, bv (difB a b), .own 5]), (5, .row true 3 1 (L.length + 1) ((L ++ [((k : Nat) : Int)]).map iv))] [(2, .box 1 0), (3, .box 2 0), (4, .box 3 0), (5, iv 0), (8, .box 4 0), (9, iv (k + 1 : Nat)), (10, bv false), (106, bv true), (131, bv true), (153, bv false)] (n := 156)) ?_
 refine t_then ?_
 refine tri_again ⟨(k + 1, L ++ [((k : Nat) : Int)]), by dsimp only; omega, by rw [newTo_no (by omega) hs14f, ← hL], by rw [snocIL]; dsimp only; omega⟩ (show b.rules.length - (k + 1) < b.rules.length - k by omega) ?_
 show Wk _ _ (ofL [(1, .box 27 (cFm a)), (2, .box 27 (cFm b)), (3, .box 47 [bv false, bv false, .v (.slice none 0 0)]), (4, .box 47 [bv (sTo a b (k + 1)), bv (difB a b), .own 5]), (5, .row true 3 1 ((L ++ [((k : Nat) : Int)]).length) ((L ++ [((k : Nat) : Int)]).map iv))]) (ofT 156 [(2, .box 1 0), (3, .box 2 0), (4, .box 3 0), (5, iv 0), (8, .box 4 0), (9, iv ((k + 1) : Nat))])
 rw [snocIL]
 rw [show sTo a b (k + 1) = false by exact sTo_f hs17f]
 exact wk_keep _ _ rfl (by kernel_rfl) (by kernel_rfl)
 refine tri_region ?_
 refine t_op rfl (sp_move (.tmp 9) (iv k) rfl) ⟨I0, T0⟩ T0 T0 ?_
 refine t_op rfl (sp_fieldBox (off' := 9) (.tmp 3) rfl Tryd.underlying27 rfl (z := 1) (by kernel_rfl) (by decide) rfl) ⟨I0, T0⟩ T0 T0 ?_
 refine t_op rfl (sp_loadBox1 (Y := .box 27 (cFm b)) (X := slA 18 cRu b.rules) (.tmp 103) rfl Tryd.underlying25 rfl rfl) ⟨I0, T0⟩ ⟨rfl, T0⟩ T0 ?_
 refine t_op rfl (sp_lenSl (.tmp 104) rfl Tryd.underlying25) ⟨I0, T0⟩ T0 T0 ?_
 refine t_op rfl (sp_lss rfl (dF hs11)) ⟨I0, I0, T0⟩ T0 T0 ?_
 refine tri_nil ?_
 refine tri_wk (wk_keep [(1, .box 27 (cFm a)), (2, .box 27 (cFm b)), (3, .box 47 [bv false, bv false, .v (.slice none 0 0)]), (4, .box 47 [bv (sTo a b k), bv (difB a b), .own 5]), (5, .row true 3 1 L.length (L.map iv))] [(2, .box 1 0), (3, .box 2 0), (4, .box 3 0), (5, iv 0), (8, .box 4 0), (9, iv k), (106, bv false)] (n := 156)) ?_
 refine t_then ?_
 refine t_condF rfl ?_
 refine tri_exit ?_
 refine t_then_exit ?_
 refine t_then_exit ?_
 refine t_hit ?_
 refine t_then ?_
 refine tri_seq ?_
 refine tri_region ?_
 refine t_op rfl (sp_loadBoxS (Y := .box 47 [bv (sTo a b k), bv (difB a b), .own 5]) (ds := [bv (sTo a b k), bv (difB a b), .own 5]) (z := 3) (.tmp 8) rfl Tryd.underlying47 rfl (by kernel_rfl) (by decide) (by kernel_rfl) (by kernel_rfl)) ⟨I0, T0⟩ ⟨rfl, T0⟩ T0 ?_
 refine t_op rfl (sp_storeBox (T0 := 47) (X := .agg [bv (sTo a b k), bv (difB a b), .own 5]) (cs := [bv false, bv false, .v (.slice none 0 0)]) (ds := [bv (sTo a b k), bv (difB a b), .own 5]) (z := 3) (.tmp 4) (.tmp 155) rfl (by kernel_rfl) (by kernel_rfl) (by kernel_rfl) (of_decide_eq_true (by kernel_rfl)) (by kernel_rfl)) ⟨I0, I0, T0⟩ ⟨rfl, T0⟩ rfl ?_
 refine t_op rfl (sp_assign (.const (.int .i64 0)) (iv 0) rfl) ⟨I0, T0⟩ T0 T0 ?_
 refine tri_nil ?_
 refine tri_wk (wk_keep [(3, .box 47 [bv (sTo a b k), bv (difB a b), .own 5]), (5, .row true 3 1 L.length (L.map iv))] [(4, .box 3 0), (5, iv 0)] (n := 156)) ?_
 refine t_then ?_
 refine tri_ret ?_
 refine tri_end2 Tryd.results23 (.cellS rfl rfl Tryd.underlying47 rfl (z := 3) (by kernel_rfl) rfl (by decide)) (.tmp rfl) ?_
 exact ch_ok hs1 hs2 rfl (sTo_end hk0 (by omega)) (by rw [hL]; congr 1; omega)
 refine tri_region ?_
 refine t_op rfl (sp_move (.tmp 7) (iv (valE b)) rfl) ⟨I0, T0⟩ T0 T0 ?_
 refine t_op rfl (sp_neq rfl (dF' hs2)) ⟨I0, I0, T0⟩ T0 T0 ?_
 refine tri_nil ?_
 refine tri_wk (wk_keep [(1, .box 27 (cFm a)), (2, .box 27 (cFm b)), (3, .box 47 [bv false, bv false, .v (.slice none 0 0)])] [(2, .box 1 0), (3, .box 2 0), (4, .box 3 0), (5, iv 0), (7, iv (valE b)), (21, bv true)] (n := 156)) ?_
 refine t_then ?_
 refine t_condT rfl ?_
 refine tri_seq ?_
 refine tri_region ?_
 refine t_op rfl (sp_bld [] #[.bool false, .bool false, .slice none 0 0] rfl rfl (by kernel_rfl) rfl) T0 T0 T0 ?_
 refine t_op rfl (sp_move (.tmp 7) (iv (valE b)) rfl) ⟨I0, T0⟩ T0 T0 ?_
 refine t_op rfl (sp_storeBox (T0 := 47) (X := .agg [bv false, bv false, .v (.slice none 0 0)]) (cs := [bv false, bv false, .v (.slice none 0 0)]) (ds := [bv false, bv false, .v (.slice none 0 0)]) (z := 3) (.tmp 4) (.tmp 22) rfl (by kernel_rfl) (by kernel_rfl) (by kernel_rfl) (of_decide_eq_true (by kernel_rfl)) (by kernel_rfl)) ⟨I0, I0, T0⟩ ⟨rfl, T0⟩ rfl ?_
 refine t_op rfl (sp_assign (.tmp 23) (iv (valE b)) rfl) ⟨I0, T0⟩ T0 T0 ?_
 refine tri_nil ?_
 refine tri_wk (wk_keep [(1, .box 27 (cFm a)), (2, .box 27 (cFm b)), (3, .box 47 [bv false, bv false, .v (.slice none 0 0)])] [(2, .box 1 0), (3, .box 2 0), (4, .box 3 0), (5, iv (valE b))] (n := 156)) ?_
 refine t_then ?_
 refine tri_ret ?_
 refine t_then_ret ?_
 refine tri_wk (wk_adoptB 3 2 4 true 3 1 rfl rfl rfl rfl) ?_
 refine tri_end2 Tryd.results23 (.cellS rfl rfl Tryd.underlying47 rfl (z := 3) (by kernel_rfl) rfl (by decide)) (.tmp rfl) ?_
 exact ch_e2 hs1 hs2
 refine tri_region ?_
 refine t_op rfl (sp_move (.tmp 6) (iv (valE a)) rfl) ⟨I0, T0⟩ T0 T0 ?_
 refine t_op rfl (sp_neq rfl (dF' hs1)) ⟨I0, I0, T0⟩ T0 T0 ?_
 refine tri_nil ?_
 refine tri_wk (wk_keep [(1, .box 27 (cFm a)), (2, .box 27 (cFm b)), (3, .box 47 [bv false, bv false, .v (.slice none 0 0)])] [(2, .box 1 0), (3, .box 2 0), (4, .box 3 0), (5, iv 0), (6, iv (valE a)), (15, bv true)] (n := 156)) ?_
 refine t_then ?_
 refine t_condT rfl ?_
 refine tri_seq ?_
 refine tri_region ?_
 refine t_op rfl (sp_bld [] #[.bool false, .bool false, .slice none 0 0] rfl rfl (by kernel_rfl) rfl) T0 T0 T0 ?_
 refine t_op rfl (sp_move (.tmp 6) (iv (valE a)) rfl) ⟨I0, T0⟩ T0 T0 ?_
 refine t_op rfl (sp_storeBox (T0 := 47) (X := .agg [bv false, bv false, .v (.slice none 0 0)]) (cs := [bv false, bv false, .v (.slice none 0 0)]) (ds := [bv false, bv false, .v (.slice none 0 0)]) (z := 3) (.tmp 4) (.tmp 16) rfl (by kernel_rfl) (by kernel_rfl) (by kernel_rfl) (of_decide_eq_true (by kernel_rfl)) (by kernel_rfl)) ⟨I0, I0, T0⟩ ⟨rfl, T0⟩ rfl ?_
 refine t_op rfl (sp_assign (.tmp 17) (iv (valE a)) rfl) ⟨I0, T0⟩ T0 T0 ?_
 refine tri_nil ?_
 refine tri_wk (wk_keep [(1, .box 27 (cFm a)), (2, .box 27 (cFm b)), (3, .box 47 [bv false, bv false, .v (.slice none 0 0)])] [(2, .box 1 0), (3, .box 2 0), (4, .box 3 0), (5, iv (valE a))] (n := 156)) ?_
 refine t_then ?_
 refine tri_ret ?_
 refine t_then_ret ?_
 refine tri_wk (wk_adoptB 3 2 4 true 3 1 rfl rfl rfl rfl) ?_
 refine tri_end2 Tryd.results23 (.cellS rfl rfl Tryd.underlying47 rfl (z := 3) (by kernel_rfl) rfl (by decide)) (.tmp rfl) ?_
 exact ch_e1 hs1
end Go.Proofs.YtpadmggccpgajaaDoor
