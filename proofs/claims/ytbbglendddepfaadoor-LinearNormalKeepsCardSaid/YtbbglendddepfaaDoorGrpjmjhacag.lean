import Derived.Test.YtbbglendddepfaaDoorGrpimmelkin
set_option linter.all false
namespace Go.Proofs.YtbbglendddepfaaDoor
open Go.RowKit Go.Deep
variable {J : World → Prop}
set_option linter.unusedSimpArgs false in
set_option linter.unusedVariables false in
set_option maxRecDepth 100000 in
set_option maxHeartbeats 6400000 in
theorem lawNormalKeeps_c {n : Int} {rs : List Rw} {ys : List Int} (H : SyOk rs) (Hy : InOk ys) : Ctr Tryd.prog J 3 [.agg (cSy n rs), intsA ys] (bv true) := by
 refine ctr_of_tri Tryd.func3 rfl (by intro X hX; simp only [List.mem_cons, List.not_mem_nil, or_false] at hX; rcases hX with rfl | rfl; exact plain_agg (plain_sy n rs); exact plain_ints _) (n := 55) rfl (by simp) (fun w0 => ?_)
 refine kW 55 [] [(0, .agg (cSy n rs)), (1, intsA ys)] ?_
 refine tri_seq ?_
 refine tri_region ?_
 refine t_op rfl (sp_box (X := .agg (cSy n rs)) (k := 1) (.tmp 0) rfl rfl) ⟨I0, T0⟩ T0 rfl ?_
 refine oA (sp_assign (.const (.bool false)) (bv false) rfl) I0 ?_
 refine kN 55 [(1, .box 24 (cSy n rs))] [(1, intsA ys), (2, .box 1 0), (4, bv false)] ?_
 refine t_then ?_
 refine tri_seq ?_
 refine tri_seq ?_
 by_cases hs1 : (wideB rs) = true
 refine tri_region ?_
 refine oB (sp_loadBoxS (Y := .box 24 (cSy n rs)) (ds := cSy n rs) (z := 2) (.tmp 2) rfl Tryd.underlying24 rfl (by kernel_rfl) (by decide) (by kernel_rfl) (by kernel_rfl)) I0 rfl ?_
 refine oC (sp_call (c := .func 11) (xs := #[.tmp 9]) [] (ctr_b (wide_c H) hs1) rfl (by kernel_rfl) rfl (Xs := [.agg (cSy n rs)]) rfl rfl rfl) I0 I0 ?_
 refine oA (sp_move (.tmp 10) (bv true) rfl) I0 ?_
 refine t_skip rfl ?_
 refine t_skip rfl ?_
 refine t_skip rfl ?_
 refine oD (sp_pick (.tmp 11) (.const (.bool true)) (.tmp 14) true (bv true) (.v (.tuple #[])) rfl) I0 I0 I0 ?_
 refine kN 55 [(1, .box 24 (cSy n rs))] [(1, intsA ys), (2, .box 1 0), (4, bv false), (15, bv true)] ?_
 refine t_then ?_
 refine t_condT rfl ?_
 refine tri_seq ?_
 refine tri_region ?_
 refine oA (sp_call (c := .func 12) (xs := #[]) [] wknown_c rfl (by kernel_rfl) rfl (Xs := []) rfl rfl rfl) I0 ?_
 refine oA (sp_assign (.tmp 16) (bv true) rfl) I0 ?_
 refine kN 55 [(1, .box 24 (cSy n rs))] [(1, intsA ys), (2, .box 1 0), (4, bv true)] ?_
 refine t_then ?_
 refine tri_ret ?_
 refine t_then_ret ?_
 refine tri_end1 Tryd.results3 (.tmp rfl) ?_
 exact rfl
 have hs1f : (wideB rs) = false := by simpa using hs1
 by_cases hs2 : 200 < ((ys.length : Nat) : Int)
 refine tri_region ?_
 refine oB (sp_loadBoxS (Y := .box 24 (cSy n rs)) (ds := cSy n rs) (z := 2) (.tmp 2) rfl Tryd.underlying24 rfl (by kernel_rfl) (by decide) (by kernel_rfl) (by kernel_rfl)) I0 rfl ?_
 refine oC (sp_call (c := .func 11) (xs := #[.tmp 9]) [] (ctr_b (wide_c H) hs1f) rfl (by kernel_rfl) rfl (Xs := [.agg (cSy n rs)]) rfl rfl rfl) I0 I0 ?_
 refine oA (sp_move (.tmp 10) (bv false) rfl) I0 ?_
 refine gA (sp_move (.tmp 1) (intsA ys) rfl) I0 ?_
 refine gA (sp_lenSl (.tmp 12) rfl Tryd.underlying25) I0 ?_
 refine gC (sp_gtr rfl (dT hs2)) I0 I0 ?_
 refine oD (sp_pick (.tmp 11) (.const (.bool true)) (.tmp 14) false (bv true) (bv true) rfl) I0 I0 I0 ?_
 refine kN 55 [(1, .box 24 (cSy n rs))] [(1, intsA ys), (2, .box 1 0), (4, bv false), (15, bv true)] ?_
 refine t_then ?_
 refine t_condT rfl ?_
 refine tri_seq ?_
 refine tri_region ?_
 refine oA (sp_call (c := .func 12) (xs := #[]) [] wknown_c rfl (by kernel_rfl) rfl (Xs := []) rfl rfl rfl) I0 ?_
 refine oA (sp_assign (.tmp 16) (bv true) rfl) I0 ?_
 refine kN 55 [(1, .box 24 (cSy n rs))] [(1, intsA ys), (2, .box 1 0), (4, bv true)] ?_
 refine t_then ?_
 refine tri_ret ?_
 refine t_then_ret ?_
 refine tri_end1 Tryd.results3 (.tmp rfl) ?_
 exact rfl
 refine tri_region ?_
 refine oB (sp_loadBoxS (Y := .box 24 (cSy n rs)) (ds := cSy n rs) (z := 2) (.tmp 2) rfl Tryd.underlying24 rfl (by kernel_rfl) (by decide) (by kernel_rfl) (by kernel_rfl)) I0 rfl ?_
 refine oC (sp_call (c := .func 11) (xs := #[.tmp 9]) [] (ctr_b (wide_c H) hs1f) rfl (by kernel_rfl) rfl (Xs := [.agg (cSy n rs)]) rfl rfl rfl) I0 I0 ?_
 refine oA (sp_move (.tmp 10) (bv false) rfl) I0 ?_
 refine gA (sp_move (.tmp 1) (intsA ys) rfl) I0 ?_
 refine gA (sp_lenSl (.tmp 12) rfl Tryd.underlying25) I0 ?_
 refine gC (sp_gtr rfl (dF hs2)) I0 I0 ?_
 refine oD (sp_pick (.tmp 11) (.const (.bool true)) (.tmp 14) false (bv true) (bv false) rfl) I0 I0 I0 ?_
 refine kN 55 [(1, .box 24 (cSy n rs))] [(1, intsA ys), (2, .box 1 0), (4, bv false), (15, bv false)] ?_
 refine t_then ?_
 refine t_condF rfl ?_
 refine tri_skip ?_
 refine t_then ?_
 refine tri_seq ?_
 refine tri_region ?_
 refine oB (sp_loadBoxS (Y := .box 24 (cSy n rs)) (ds := cSy n rs) (z := 2) (.tmp 2) rfl Tryd.underlying24 rfl (by kernel_rfl) (by decide) (by kernel_rfl) (by kernel_rfl)) I0 rfl ?_
 refine oC (sp_call (c := .func 13) (xs := #[.tmp 18]) [] (lNormalize_c H (wideL hs1f).1 (fun x hx => Nat.le_trans ((wideL hs1f).2 x hx) (by decide))) rfl (by kernel_rfl) rfl (Xs := [.agg (cSy n rs)]) rfl rfl rfl) I0 I0 ?_
 refine oA (sp_move (.tmp 19) (.tup [.fr (.agg (cSy (nmN n rs) (nmR n rs))), iv (nmE n rs)]) rfl) I0 ?_
 refine oA (sp_extract (X := .fr (.agg (cSy (nmN n rs) (nmR n rs)))) (.tmp 17) rfl rfl) I0 ?_
 refine oA (sp_extract (X := iv (nmE n rs)) (.tmp 17) rfl rfl) I0 ?_
 refine t_op rfl (sp_alloc (z := .agg #[.int .i64 0, .slice none 0 0]) (k := 2) rfl (by kernel_rfl)) T0 T0 rfl ?_
 refine t_op rfl (sp_storeBox (T0 := 24) (X := .agg [iv (nmN n rs), .fr (slA 2 cRo (nmR n rs))]) (cs := [iv 0, .v (.slice none 0 0)]) (ds := [iv (nmN n rs), .fr (slA 2 cRo (nmR n rs))]) (z := 2) (.tmp 5) (.tmp 20) rfl (by kernel_rfl) (by kernel_rfl) (by kernel_rfl) (of_decide_eq_true (by kernel_rfl)) (by kernel_rfl)) ⟨I0, .inr (.inr (.inl ⟨_, rfl, rfl⟩)), T0⟩ ⟨rfl, T0⟩ rfl ?_
 refine oA (sp_assign (.tmp 21) (iv (nmE n rs)) rfl) I0 ?_
 refine kN 55 [(1, .box 24 (cSy n rs)), (2, .box 24 [iv (nmN n rs), .fr (slA 2 cRo (nmR n rs))])] [(1, intsA ys), (2, .box 1 0), (4, bv false), (5, .box 2 0), (6, iv (nmE n rs))] ?_
 refine t_then ?_
 refine tri_seq ?_
 refine tri_seq ?_
 by_cases hs3 : nmE n rs = 0
 refine tri_region ?_
 refine oA (sp_move (.tmp 6) (iv (nmE n rs)) rfl) I0 ?_
 refine oC (sp_neq rfl (dT' hs3)) I0 I0 ?_
 refine kN 55 [(1, .box 24 (cSy n rs)), (2, .box 24 [iv (nmN n rs), .fr (slA 2 cRo (nmR n rs))])] [(1, intsA ys), (2, .box 1 0), (4, bv false), (5, .box 2 0), (23, bv false)] ?_
 refine t_then ?_
 refine t_condF rfl ?_
 refine tri_skip ?_
 refine t_then ?_
 refine tri_seq ?_
 refine tri_region ?_
 refine oB (sp_loadBoxS (Y := .box 24 [iv (nmN n rs), .fr (slA 2 cRo (nmR n rs))]) (ds := [iv (nmN n rs), .fr (slA 2 cRo (nmR n rs))]) (z := 2) (.tmp 5) rfl Tryd.underlying24 rfl (by kernel_rfl) (by decide) (by kernel_rfl) (by kernel_rfl)) I0 rfl ?_
 refine oC (sp_call (c := .func 13) (xs := #[.tmp 32]) [] (Nk.Normalize_again H (wideL hs1f).1 (fun x hx => Nat.le_trans ((wideL hs1f).2 x hx) (by decide)) hs3) rfl (by kernel_rfl) rfl (Xs := [.agg [iv (nmN n rs), .fr (slA 2 cRo (nmR n rs))]]) rfl rfl rfl) I0 I0 ?_
 refine oA (sp_move (.tmp 33) (.tup [.fr (.agg (cSy (nmN n rs) (nmR n rs))), iv 0]) rfl) I0 ?_
 refine oA (sp_extract (X := .fr (.agg (cSy (nmN n rs) (nmR n rs)))) (.tmp 31) rfl rfl) I0 ?_
 refine oA (sp_extract (X := iv 0) (.tmp 31) rfl rfl) I0 ?_
 refine t_op rfl (sp_alloc (z := .agg #[.int .i64 0, .slice none 0 0]) (k := 3) rfl (by kernel_rfl)) T0 T0 rfl ?_
 refine t_op rfl (sp_storeBox (T0 := 24) (X := .agg [iv (nmN n rs), .fr (slA 2 cRo (nmR n rs))]) (cs := [iv 0, .v (.slice none 0 0)]) (ds := [iv (nmN n rs), .fr (slA 2 cRo (nmR n rs))]) (z := 2) (.tmp 7) (.tmp 34) rfl (by kernel_rfl) (by kernel_rfl) (by kernel_rfl) (of_decide_eq_true (by kernel_rfl)) (by kernel_rfl)) ⟨I0, .inr (.inr (.inl ⟨_, rfl, rfl⟩)), T0⟩ ⟨rfl, T0⟩ rfl ?_
 refine oA (sp_assign (.tmp 35) (iv 0) rfl) I0 ?_
 refine kN 55 [(1, .box 24 (cSy n rs)), (2, .box 24 [iv (nmN n rs), .fr (slA 2 cRo (nmR n rs))]), (3, .box 24 [iv (nmN n rs), .fr (slA 2 cRo (nmR n rs))])] [(1, intsA ys), (2, .box 1 0), (4, bv false), (5, .box 2 0), (7, .box 3 0), (8, iv 0)] ?_
 refine t_then ?_
 refine tri_seq ?_
 refine tri_draw [⟨[(.tmp 8, iv 0)], [], iv 0, .no⟩, ⟨[(.tmp 36, iv 0), (.const (.int .i64 0), iv 0)], [], bv true, .no⟩, ⟨[(.tmp 37, bv true)], [], bv true, .no⟩, ⟨[(.tmp 5, .box 2 0)], [(2, .box 24 [iv (nmN n rs), .fr (slA 2 cRo (nmR n rs))])], .agg [iv (nmN n rs), .fr (slA 2 cRo (nmR n rs))], .no⟩, ⟨[(.tmp 7, .box 3 0)], [(3, .box 24 [iv (nmN n rs), .fr (slA 2 cRo (nmR n rs))])], .agg [iv (nmN n rs), .fr (slA 2 cRo (nmR n rs))], .no⟩, ⟨[(.func 14, .v (.func (.func 14) #[] #[])), (.tmp 39, .agg [iv (nmN n rs), .fr (slA 2 cRo (nmR n rs))]), (.tmp 40, .agg [iv (nmN n rs), .fr (slA 2 cRo (nmR n rs))])], [], bv true, .no⟩, ⟨[(.tmp 38, bv true), (.tmp 41, bv true), (.const (.bool false), bv false)], [], bv true, .no⟩, ⟨[(.tmp 42, bv true)], [], bv true, .no⟩, ⟨[(.tmp 2, .box 1 0)], [(1, .box 24 (cSy n rs))], .agg (cSy n rs), .no⟩, ⟨[(.tmp 1, intsA ys)], [], intsA ys, .no⟩, ⟨[(.func 15, .v (.func (.func 15) #[] #[])), (.tmp 44, .agg (cSy n rs)), (.tmp 45, intsA ys)], [], bv (satS n rs ys), .no⟩, ⟨[(.tmp 5, .box 2 0)], [(2, .box 24 [iv (nmN n rs), .fr (slA 2 cRo (nmR n rs))])], .agg [iv (nmN n rs), .fr (slA 2 cRo (nmR n rs))], .no⟩, ⟨[(.tmp 1, intsA ys)], [], intsA ys, .no⟩, ⟨[(.func 15, .v (.func (.func 15) #[] #[])), (.tmp 47, .agg [iv (nmN n rs), .fr (slA 2 cRo (nmR n rs))]), (.tmp 48, intsA ys)], [], bv (satS n rs ys), .no⟩, ⟨[(.tmp 46, bv (satS n rs ys)), (.tmp 49, bv (satS n rs ys))], [], bv true, .no⟩, ⟨[(.tmp 43, bv true), (.tmp 50, bv true), (.const (.bool false), bv false)], [], bv true, .no⟩, ⟨[(.tmp 51, bv true)], [], bv true, .no⟩, ⟨[(.func 12, .v (.func (.func 12) #[] #[]))], [], bv true, .no⟩, ⟨[(.tmp 52, bv true), (.tmp 53, bv true), (.const (.bool false), bv false)], [], bv true, .no⟩, ⟨[(.tmp 54, bv true)], [], bv true, .no⟩] (by kernel_rfl) (by kernel_rfl) ?_
 refine ⟨app_yes rfl (sp_move (.tmp 8) (iv 0) rfl) ⟨I0, T0⟩ T0 T0, ?_⟩
 refine ⟨app_yes rfl (sp_eql (r := true) rfl (by decide)) ⟨I0, I0, T0⟩ T0 T0, ?_⟩
 refine ⟨app_yes rfl (sp_move (.tmp 37) (bv true) rfl) ⟨I0, T0⟩ T0 T0, ?_⟩
 refine ⟨app_yes rfl (sp_loadBoxS (Y := .box 24 [iv (nmN n rs), .fr (slA 2 cRo (nmR n rs))]) (ds := [iv (nmN n rs), .fr (slA 2 cRo (nmR n rs))]) (z := 2) (.tmp 5) rfl Tryd.underlying24 rfl (by kernel_rfl) (by decide) (by kernel_rfl) (by kernel_rfl)) ⟨I0, T0⟩ ⟨rfl, T0⟩ T0, ?_⟩
 refine ⟨app_yes rfl (sp_loadBoxS (Y := .box 24 [iv (nmN n rs), .fr (slA 2 cRo (nmR n rs))]) (ds := [iv (nmN n rs), .fr (slA 2 cRo (nmR n rs))]) (z := 2) (.tmp 7) rfl Tryd.underlying24 rfl (by kernel_rfl) (by decide) (by kernel_rfl) (by kernel_rfl)) ⟨I0, T0⟩ ⟨rfl, T0⟩ T0, ?_⟩
 refine ⟨app_yes rfl (sp_call (c := .func 14) (xs := #[.tmp 39, .tmp 40]) [] (SameSystem_l (nmR_ok H)) rfl (by kernel_rfl) rfl (Xs := [.agg [iv (nmN n rs), .fr (slA 2 cRo (nmR n rs))], .agg [iv (nmN n rs), .fr (slA 2 cRo (nmR n rs))]]) rfl rfl rfl) ⟨I0, I0, I0, T0⟩ T0 T0, ?_⟩
 refine ⟨app_yes rfl (sp_pick (.tmp 38) (.tmp 41) (.const (.bool false)) true (bv true) (bv false) rfl) ⟨I0, I0, I0, T0⟩ T0 T0, ?_⟩
 refine ⟨app_yes rfl (sp_move (.tmp 42) (bv true) rfl) ⟨I0, T0⟩ T0 T0, ?_⟩
 refine ⟨app_yes rfl (sp_loadBoxS (Y := .box 24 (cSy n rs)) (ds := cSy n rs) (z := 2) (.tmp 2) rfl Tryd.underlying24 rfl (by kernel_rfl) (by decide) (by kernel_rfl) (by kernel_rfl)) ⟨I0, T0⟩ ⟨rfl, T0⟩ T0, ?_⟩
 refine ⟨app_yes rfl (sp_move (.tmp 1) (intsA ys) rfl) ⟨I0, T0⟩ T0 T0, ?_⟩
 refine ⟨app_yes rfl (sp_call (c := .func 15) (xs := #[.tmp 44, .tmp 45]) [] (Nk.Satisfies_c H Hy) rfl (by kernel_rfl) rfl (Xs := [.agg (cSy n rs), intsA ys]) rfl rfl rfl) ⟨I0, I0, I0, T0⟩ T0 T0, ?_⟩
 refine ⟨app_yes rfl (sp_loadBoxS (Y := .box 24 [iv (nmN n rs), .fr (slA 2 cRo (nmR n rs))]) (ds := [iv (nmN n rs), .fr (slA 2 cRo (nmR n rs))]) (z := 2) (.tmp 5) rfl Tryd.underlying24 rfl (by kernel_rfl) (by decide) (by kernel_rfl) (by kernel_rfl)) ⟨I0, T0⟩ ⟨rfl, T0⟩ T0, ?_⟩
 refine ⟨app_yes rfl (sp_move (.tmp 1) (intsA ys) rfl) ⟨I0, T0⟩ T0 T0, ?_⟩
 refine ⟨app_yes rfl (sp_call (c := .func 15) (xs := #[.tmp 47, .tmp 48]) [] (Nk.Satisfies_again H Hy hs3) rfl (by kernel_rfl) rfl (Xs := [.agg [iv (nmN n rs), .fr (slA 2 cRo (nmR n rs))], intsA ys]) rfl rfl rfl) ⟨I0, I0, I0, T0⟩ T0 T0, ?_⟩
 refine ⟨app_yes rfl (sp_beql rfl Tryd.underlying4 (beq_self_eq_true _)) ⟨I0, I0, T0⟩ T0 T0, ?_⟩
 refine ⟨app_yes rfl (sp_pick (.tmp 43) (.tmp 50) (.const (.bool false)) true (bv true) (bv false) rfl) ⟨I0, I0, I0, T0⟩ T0 T0, ?_⟩
 refine ⟨app_yes rfl (sp_move (.tmp 51) (bv true) rfl) ⟨I0, T0⟩ T0 T0, ?_⟩
 refine ⟨app_yes rfl (sp_call (c := .func 12) (xs := #[]) [] wknown_c rfl (by kernel_rfl) rfl (Xs := []) rfl rfl rfl) ⟨I0, T0⟩ T0 T0, ?_⟩
 refine ⟨app_yes rfl (sp_pick (.tmp 52) (.tmp 53) (.const (.bool false)) true (bv true) (bv false) rfl) ⟨I0, I0, I0, T0⟩ T0 T0, ?_⟩
 refine ⟨app_yes rfl (sp_assign (.tmp 54) (bv true) rfl) ⟨I0, T0⟩ T0 T0, ?_⟩
 show ETri J w0 _ _ _
 refine kW 55 [] [(4, bv true)] ?_
 refine t_then ?_
 refine tri_ret ?_
 refine tri_end1 Tryd.results3 (.tmp rfl) ?_
 exact rfl
 refine tri_region ?_
 refine oA (sp_move (.tmp 6) (iv (nmE n rs)) rfl) I0 ?_
 refine oC (sp_neq rfl (dF' hs3)) I0 I0 ?_
 refine kN 55 [(1, .box 24 (cSy n rs)), (2, .box 24 [iv (nmN n rs), .fr (slA 2 cRo (nmR n rs))])] [(1, intsA ys), (2, .box 1 0), (4, bv false), (5, .box 2 0), (23, bv true)] ?_
 refine t_then ?_
 refine t_condT rfl ?_
 refine tri_seq ?_
 refine tri_region ?_
 refine oA (fB 1 (.tmp 5) rfl Tryd.underlying24 rfl 1 rfl) I0 ?_
 refine oB (lB (.box 24 [iv (nmN n rs), .fr (slA 2 cRo (nmR n rs))]) (.fr (slA 2 cRo (nmR n rs))) (.tmp 24) rfl Tryd.underlying22 rfl rfl) I0 rfl ?_
 refine t_op rfl (sp_lenSl (.tmp 25) rfl Tryd.underlying22) ⟨.inr (.inl rfl), T0⟩ T0 T0 ?_
 refine oC (sp_eql rfl (dT (Nk.none_left hs3))) I0 I0 ?_
 refine oA (sp_move (.tmp 27) (bv true) rfl) I0 ?_
 refine gA (sp_call (c := .func 12) (xs := #[]) [] wknown_c rfl (by kernel_rfl) rfl (Xs := []) rfl rfl rfl) I0 ?_
 refine oD (sp_pick (.tmp 28) (.tmp 29) (.const (.bool false)) true (bv true) (bv false) rfl) I0 I0 I0 ?_
 refine oA (sp_assign (.tmp 30) (bv true) rfl) I0 ?_
 refine kN 55 [(1, .box 24 (cSy n rs)), (2, .box 24 [iv (nmN n rs), .fr (slA 2 cRo (nmR n rs))])] [(1, intsA ys), (2, .box 1 0), (4, bv true), (5, .box 2 0)] ?_
 refine t_then ?_
 refine tri_ret ?_
 refine t_then_ret ?_
 refine tri_end1 Tryd.results3 (.tmp rfl) ?_
 exact rfl
theorem walk_NormalKeeps {v u : Value} {n : Int} {rs : List Rw} {xs : List Int} (w : World) (h : IsSysX 0 w v n rs) (h1 : IsInts 0 w u xs) :
    Calls Tryd.prog 3 #[v, u] w fun e w' => e = .returned (.bool true) ∧ Below w.heap.size w w' :=
  lwalk2 (lawNormalKeeps_c h.ok h1.ok) (sysx_pu (fun _ _ h => h) h) (ints_pu (fun _ _ h => h) h1)
end Go.Proofs.YtbbglendddepfaaDoor
