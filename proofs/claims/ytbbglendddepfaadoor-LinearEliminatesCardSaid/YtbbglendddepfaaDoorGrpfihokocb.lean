import Derived.BigRegion
import Derived.Deep.AppendLies
import Derived.Deep.RegionLaw
import Derived.Test.YtbbglendddepfaaDoorGrpikcnddfn
import Derived.Test.YtbbglendddepfaaDoorGrpeokkmchn
import Derived.Test.YtbbglendddepfaaDoorGrpomkalice
set_option linter.all false
namespace Go.Proofs.YtbbglendddepfaaDoor
open Go.RowKit Go.Deep
variable {J : World → Prop}
set_option linter.unusedSimpArgs false in
set_option linter.unusedVariables false in
set_option maxRecDepth 100000 in
set_option maxHeartbeats 6400000 in
theorem tidy_o {n : Int} {rs : List Rw} (H : SyOk rs) (hl : rs.length ≤ 250) (hs : ∀ r ∈ rs, r.1.length ≤ 1000) (k : Nat) : CtrO Tryd.prog J 47 [iv n, slA 2 cRo rs] k (.row true 39 2 ((nrm rs).length) ((nrm rs).flatMap cRo)) (.agg [iv n, .own k]) := by
 refine ctrO_of_tri Tryd.func47 rfl (by intro X hX; simp only [List.mem_cons, List.not_mem_nil, or_false] at hX; rcases hX with rfl | rfl; exact .v _; exact plain_sl plain_ro _) (n := 85) rfl (by simp) (fun w0 => ?_)
 refine kW 85 [] [(0, iv n), (1, slA 2 cRo rs)] ?_
 refine tri_seq ?_
 refine tri_region ?_
 refine t_op rfl (sp_alloc (z := .agg #[.int .i64 0, .slice none 0 0]) (k := 1) rfl (by kernel_rfl)) T0 T0 rfl ?_
 refine kN 85 [(1, .box 24 [iv 0, .v (.slice none 0 0)])] [(0, iv n), (1, slA 2 cRo rs), (4, .box 1 0)] ?_
 refine t_then ?_
 refine tri_seq ?_
 refine tri_region ?_
 refine oA (sp_assign (.const (.slice none 0 0)) (.v (.slice none 0 0)) rfl) I0 ?_
 refine kN 85 [(1, .box 24 [iv 0, .v (.slice none 0 0)])] [(0, iv n), (1, slA 2 cRo rs), (4, .box 1 0), (5, .v (.slice none 0 0))] ?_
 refine t_then ?_
 refine tri_seq ?_
 refine tri_seq ?_
 refine tri_region ?_
 refine oA (sp_assign (.const (.int .i64 0)) (iv 0) rfl) I0 ?_
 refine kN 85 [(1, .box 24 [iv 0, .v (.slice none 0 0)])] [(0, iv n), (1, slA 2 cRo rs), (4, .box 1 0), (5, .v (.slice none 0 0)), (6, iv 0)] ?_
 refine t_then ?_
 refine tri_block ?_
 refine tri_wk (wk_adopt 5 2 true 39 2 rfl rfl rfl) ?_
 refine tri_loop (σ := {p : Nat × List Rw // p.1 ≤ rs.length ∧ p.2 = tdy (tgs (rs.take p.1)) ∧ p.2.length ≤ p.1}) (fun s => (ofL [(1, .box 24 [iv 0, .v (.slice none 0 0)]), (2, .row true 39 2 s.1.2.length (s.1.2.flatMap cRo))], ofT 85 [(0, iv n), (1, slA 2 cRo rs), (4, .box 1 0), (5, .own 2), (6, iv s.1.1)])) (fun s => rs.length - s.1.1) ⟨(0, []), Nat.zero_le _, rfl, Nat.zero_le _⟩ (wk_keep _ _ rfl (by kernel_rfl) (by kernel_rfl)) (fun s => ?_)
 obtain ⟨⟨j, L⟩, hj0, hL, hLb⟩ := s
 show ETri J w0 (ofL [(1, .box 24 [iv 0, .v (.slice none 0 0)]), (2, .row true 39 2 L.length (L.flatMap cRo))]) (ofT 85 [(0, iv n), (1, slA 2 cRo rs), (4, .box 1 0), (5, .own 2), (6, iv j)]) _
 dsimp only at hj0 hL hLb
 have hLo : ∀ x ∈ L, RwOk x := by rw [hL]; exact tdy_ok (tgs_ok fun x hx => H.rows x (List.mem_of_mem_take hx))
 refine tri_seq ?_
 refine tri_seq ?_
 by_cases hs1 : ((j : Nat) : Int) < ((rs.length : Nat) : Int)
 refine tri_region ?_
 refine oA (sp_move (.tmp 6) (iv j) rfl) I0 ?_
 refine oA (sp_move (.tmp 1) (slA 2 cRo rs) rfl) I0 ?_
 refine oA (sp_lenSl (.tmp 11) rfl Tryd.underlying22) I0 ?_
 refine oC (sp_lss rfl (dT hs1)) I0 I0 ?_
 refine kN 85 [(1, .box 24 [iv 0, .v (.slice none 0 0)]), (2, .row true 39 2 L.length (L.flatMap cRo))] [(0, iv n), (1, slA 2 cRo rs), (4, .box 1 0), (5, .own 2), (6, iv j), (13, bv true)] ?_
 refine t_then ?_
 refine t_condT rfl ?_
 refine tri_skip ?_
 refine t_then ?_
 refine tri_seq ?_
 refine tri_block ?_
 refine tri_seq ?_
 refine tri_region ?_
 refine oA (sp_move (.tmp 1) (slA 2 cRo rs) rfl) I0 ?_
 refine oA (sp_move (.tmp 6) (iv j) rfl) I0 ?_
 refine oC (sp_indexSl (off := j * 2) (.tmp 16) (.tmp 17) rfl Tryd.underlying22 (by kernel_rfl) (by omega) (by omega) rfl) I0 I0 ?_
 refine oA (sp_loadElS (z := 2) (.tmp 18) rfl Tryd.underlying39 rfl (by kernel_rfl) (flat_take lenRo rs j (by omega)) rfl) I0 ?_
 refine oC (sp_call (c := .func 72) (xs := #[.tmp 19]) [] (rTighten_c (H.rows rs[j] (List.getElem_mem (by omega))) (hs rs[j] (List.getElem_mem (by omega)))) rfl (by kernel_rfl) rfl (Xs := [.agg (cRo rs[j])]) rfl rfl rfl) I0 I0 ?_
 refine t_op rfl (sp_alloc (z := .agg #[.slice none 0 0, .int .i64 0]) (k := 3) rfl (by kernel_rfl)) T0 T0 rfl ?_
 refine t_op rfl (sp_storeBox (T0 := 39) (X := .agg [.fr (intsA ((tR rs[j]).1)), iv ((tR rs[j]).2)]) (cs := [.v (.slice none 0 0), iv 0]) (ds := [.fr (intsA ((tR rs[j]).1)), iv ((tR rs[j]).2)]) (z := 2) (.tmp 7) (.tmp 20) rfl (by kernel_rfl) (by kernel_rfl) (by kernel_rfl) (of_decide_eq_true (by kernel_rfl)) (by kernel_rfl)) ⟨I0, .inr (.inr (.inl ⟨_, rfl, rfl⟩)), T0⟩ ⟨rfl, T0⟩ rfl ?_
 refine kN 85 [(1, .box 24 [iv 0, .v (.slice none 0 0)]), (2, .row true 39 2 L.length (L.flatMap cRo)), (3, .box 39 [.fr (intsA ((tR rs[j]).1)), iv ((tR rs[j]).2)])] [(0, iv n), (1, slA 2 cRo rs), (4, .box 1 0), (5, .own 2), (6, iv j), (7, .box 3 0), (13, bv true)] ?_
 refine t_then ?_
 refine tri_seq ?_
 refine tri_seq ?_
 by_cases hs2 : (triB (tR rs[j]).1 (tR rs[j]).2) = true
 refine tri_region ?_
 refine oB (sp_loadBoxS (Y := .box 39 [.fr (intsA ((tR rs[j]).1)), iv ((tR rs[j]).2)]) (ds := [.fr (intsA ((tR rs[j]).1)), iv ((tR rs[j]).2)]) (z := 2) (.tmp 7) rfl Tryd.underlying39 rfl (by kernel_rfl) (by decide) (by kernel_rfl) (by kernel_rfl)) I0 rfl ?_
 refine oC (sp_call (c := .func 73) (xs := #[.tmp 21]) [] (ctr_b (rTrivial_c (tR_ok (H.rows rs[j] (List.getElem_mem (by omega))))) hs2) rfl (by kernel_rfl) rfl (Xs := [.agg [.fr (intsA ((tR rs[j]).1)), iv ((tR rs[j]).2)]]) rfl rfl rfl) I0 I0 ?_
 refine kN 85 [(1, .box 24 [iv 0, .v (.slice none 0 0)]), (2, .row true 39 2 L.length (L.flatMap cRo)), (3, .box 39 [.fr (intsA ((tR rs[j]).1)), iv ((tR rs[j]).2)])] [(0, iv n), (1, slA 2 cRo rs), (4, .box 1 0), (5, .own 2), (6, iv j), (7, .box 3 0), (13, bv true), (22, bv true)] ?_
 refine t_then ?_
 refine t_condT rfl ?_
 refine tri_exit ?_
 refine t_then_exit ?_
 refine t_hit ?_
 refine t_then ?_
 refine tri_region ?_
 refine oA (sp_move (.tmp 6) (iv j) rfl) I0 ?_
 refine oC (sp_add (c := ((j + 1 : Nat) : Int)) rfl (w64 (by omega) (by omega) (by omega))) I0 I0 ?_
 refine oA (sp_assign (.tmp 15) (iv (j + 1 : Nat)) rfl) I0 ?_
 refine kN 85 [(1, .box 24 [iv 0, .v (.slice none 0 0)]), (2, .row true 39 2 L.length (L.flatMap cRo)), (3, .box 39 [.fr (intsA ((tR rs[j]).1)), iv ((tR rs[j]).2)])] [(0, iv n), (1, slA 2 cRo rs), (4, .box 1 0), (5, .own 2), (6, iv (j + 1 : Nat)), (7, .box 3 0), (13, bv true), (22, bv true)] ?_
 refine t_then ?_
 refine tri_again ⟨(j + 1, L), by dsimp only; omega, by rw [tgs_no (by omega) hs2]; exact hL, by dsimp only; omega⟩ (show rs.length - (j + 1) < rs.length - j by omega) ?_
 exact wk_keep _ _ rfl (by kernel_rfl) (by kernel_rfl)
 have hs2f : (triB (tR rs[j]).1 (tR rs[j]).2) = false := by simpa using hs2
 refine tri_region ?_
 refine oB (sp_loadBoxS (Y := .box 39 [.fr (intsA ((tR rs[j]).1)), iv ((tR rs[j]).2)]) (ds := [.fr (intsA ((tR rs[j]).1)), iv ((tR rs[j]).2)]) (z := 2) (.tmp 7) rfl Tryd.underlying39 rfl (by kernel_rfl) (by decide) (by kernel_rfl) (by kernel_rfl)) I0 rfl ?_
 refine oC (sp_call (c := .func 73) (xs := #[.tmp 21]) [] (ctr_b (rTrivial_c (tR_ok (H.rows rs[j] (List.getElem_mem (by omega))))) hs2f) rfl (by kernel_rfl) rfl (Xs := [.agg [.fr (intsA ((tR rs[j]).1)), iv ((tR rs[j]).2)]]) rfl rfl rfl) I0 I0 ?_
 refine kN 85 [(1, .box 24 [iv 0, .v (.slice none 0 0)]), (2, .row true 39 2 L.length (L.flatMap cRo)), (3, .box 39 [.fr (intsA ((tR rs[j]).1)), iv ((tR rs[j]).2)])] [(0, iv n), (1, slA 2 cRo rs), (4, .box 1 0), (5, .own 2), (6, iv j), (7, .box 3 0), (13, bv true), (22, bv false)] ?_
 refine t_then ?_
 refine t_condF rfl ?_
 refine tri_skip ?_
 refine t_then ?_
 refine tri_seq ?_
 refine tri_region ?_
 refine oA (sp_assign (.const (.int .i64 0)) (iv 0) rfl) I0 ?_
 refine kN 85 [(1, .box 24 [iv 0, .v (.slice none 0 0)]), (2, .row true 39 2 L.length (L.flatMap cRo)), (3, .box 39 [.fr (intsA ((tR rs[j]).1)), iv ((tR rs[j]).2)])] [(0, iv n), (1, slA 2 cRo rs), (4, .box 1 0), (5, .own 2), (6, iv j), (7, .box 3 0), (8, iv 0), (13, bv true), (22, bv false)] ?_
 refine t_then ?_
 refine tri_seq ?_
 refine tri_block ?_
 refine tri_loop (σ := {p : Nat // p ≤ L.length ∧ BelowT L (tR rs[j]) p}) (fun s => (ofL [(1, .box 24 [iv 0, .v (.slice none 0 0)]), (2, .row true 39 2 L.length (L.flatMap cRo)), (3, .box 39 [.fr (intsA ((tR rs[j]).1)), iv ((tR rs[j]).2)])], ofT 85 [(0, iv n), (1, slA 2 cRo rs), (4, .box 1 0), (5, .own 2), (6, iv j), (7, .box 3 0), (8, iv s.1), (13, bv true), (22, bv false)])) (fun s => L.length - s.1) ⟨0, Nat.zero_le _, below_zero⟩ (wk_keep _ _ rfl (by kernel_rfl) (by kernel_rfl)) (fun s => ?_)
 obtain ⟨p, hp0, hp1⟩ := s
 show ETri J w0 (ofL [(1, .box 24 [iv 0, .v (.slice none 0 0)]), (2, .row true 39 2 L.length (L.flatMap cRo)), (3, .box 39 [.fr (intsA ((tR rs[j]).1)), iv ((tR rs[j]).2)])]) (ofT 85 [(0, iv n), (1, slA 2 cRo rs), (4, .box 1 0), (5, .own 2), (6, iv j), (7, .box 3 0), (8, iv p), (13, bv true), (22, bv false)]) _
 refine tri_seq ?_
 refine tri_seq ?_
 by_cases hs3 : ((p : Nat) : Int) < ((L.length : Nat) : Int)
 by_cases hs4 : cmpI L[p].1 (tR rs[j]).1 < 0
 refine tri_draw [⟨[(.tmp 8, iv p)], [], iv p, .no⟩, ⟨[(.tmp 5, .own 2)], [], .own 2, .no⟩, ⟨[(.tmp 24, .own 2)], [(2, .row true 39 2 L.length (L.flatMap cRo))], iv L.length, .no⟩, ⟨[(.tmp 23, iv p), (.tmp 25, iv L.length)], [], bv true, .no⟩, ⟨[(.tmp 26, bv true)], [], bv true, .no⟩, ⟨[(.tmp 5, .own 2)], [], .own 2, .no⟩, ⟨[(.tmp 8, iv p)], [], iv p, .no⟩, ⟨[(.tmp 28, .own 2), (.tmp 29, iv p)], [(2, .row true 39 2 L.length (L.flatMap cRo))], .box 2 (p * 2), .no⟩, ⟨[(.tmp 30, .box 2 (p * 2))], [], .box 2 (p * 2), .no⟩, ⟨[(.tmp 31, .box 2 (p * 2))], [(2, .row true 39 2 L.length (L.flatMap cRo))], intsA L[p].1, .no⟩, ⟨[(.tmp 7, .box 3 0)], [], .box 3 0, .no⟩, ⟨[(.tmp 33, .box 3 0)], [(3, .box 39 [.fr (intsA ((tR rs[j]).1)), iv ((tR rs[j]).2)])], .fr (intsA ((tR rs[j]).1)), .no⟩, ⟨[(.func 29, .v (.func (.func 29) #[] #[])), (.tmp 32, intsA L[p].1), (.tmp 34, intsA ((tR rs[j]).1))], [], iv (cmpI L[p].1 (tR rs[j]).1), .no⟩, ⟨[(.tmp 35, iv (cmpI L[p].1 (tR rs[j]).1)), (.const (.int .i64 0), iv 0)], [], bv true, .no⟩, ⟨[(.tmp 27, bv true), (.tmp 36, bv true), (.const (.bool false), bv false)], [], bv true, .no⟩] (by kernel_rfl) (by kernel_rfl) ?_
 refine ⟨app_yes rfl (sp_move (.tmp 8) (iv p) rfl) ⟨I0, T0⟩ T0 T0, ?_⟩
 refine ⟨app_yes rfl (sp_move (.tmp 5) (.own 2) rfl) ⟨I0, T0⟩ T0 T0, ?_⟩
 refine ⟨app_yes rfl (sp_lenOwn (.tmp 24) rfl Tryd.underlying22) ⟨I0, T0⟩ ⟨rfl, T0⟩ T0, ?_⟩
 refine ⟨app_yes rfl (sp_lss rfl (dT hs3)) ⟨I0, I0, T0⟩ T0 T0, ?_⟩
 refine ⟨app_yes rfl (sp_move (.tmp 26) (bv true) rfl) ⟨I0, T0⟩ T0 T0, ?_⟩
 refine ⟨app_yes rfl (sp_move (.tmp 5) (.own 2) rfl) ⟨I0, T0⟩ T0 T0, ?_⟩
 refine ⟨app_yes rfl (sp_move (.tmp 8) (iv p) rfl) ⟨I0, T0⟩ T0 T0, ?_⟩
 refine ⟨app_yes rfl (sp_indexOwn (off := p * 2) (.tmp 28) (.tmp 29) rfl Tryd.underlying22 (by kernel_rfl) (by omega) (by omega) rfl) ⟨I0, I0, T0⟩ ⟨rfl, T0⟩ T0, ?_⟩
 refine ⟨app_yes rfl (sp_fieldBox (off' := p * 2) (.tmp 30) rfl Tryd.underlying39 rfl (z := 1) (by kernel_rfl) (by decide) rfl) ⟨I0, T0⟩ T0 T0, ?_⟩
 refine ⟨app_yes rfl (sp_loadBox1  (Y := .row true 39 2 L.length (L.flatMap cRo)) (.tmp 31) rfl Tryd.underlying25 rfl ((eflat_get lenRo L p 0 (by omega) (by decide)).trans rfl)) ⟨I0, T0⟩ ⟨rfl, T0⟩ T0, ?_⟩
 refine ⟨app_yes rfl (fB 0 (.tmp 7) rfl Tryd.underlying39 rfl 1 rfl) ⟨I0, T0⟩ T0 T0, ?_⟩
 refine ⟨app_yes rfl (lB (.box 39 [.fr (intsA ((tR rs[j]).1)), iv ((tR rs[j]).2)]) (.fr (intsA ((tR rs[j]).1))) (.tmp 33) rfl Tryd.underlying25 rfl rfl) ⟨I0, T0⟩ ⟨rfl, T0⟩ T0, ?_⟩
 refine ⟨app_yes rfl (sp_call (c := .func 29) (xs := #[.tmp 32, .tmp 34]) [] (rCompareInts_c (hLo L[p] (List.getElem_mem (by omega))).coef (tR_ok (H.rows rs[j] (List.getElem_mem (by omega)))).coef) rfl (by kernel_rfl) rfl (Xs := [intsA L[p].1, intsA ((tR rs[j]).1)]) rfl rfl rfl) ⟨I0, I0, .inr (.inl rfl), T0⟩ T0 T0, ?_⟩
 refine ⟨app_yes rfl (sp_lss rfl (dT hs4)) ⟨I0, I0, T0⟩ T0 T0, ?_⟩
 refine ⟨app_yes rfl (sp_pick (.tmp 27) (.tmp 36) (.const (.bool false)) true (bv true) (bv false) rfl) ⟨I0, I0, I0, T0⟩ T0 T0, ?_⟩
 show ETri J w0 _ _ _
 refine kW 85 [(1, .box 24 [iv 0, .v (.slice none 0 0)]), (2, .row true 39 2 L.length (L.flatMap cRo)), (3, .box 39 [.fr (intsA ((tR rs[j]).1)), iv ((tR rs[j]).2)])] [(0, iv n), (1, slA 2 cRo rs), (4, .box 1 0), (5, .own 2), (6, iv j), (7, .box 3 0), (8, iv p), (13, bv true), (22, bv false), (37, bv true)] ?_
 refine t_then ?_
 refine t_condT rfl ?_
 refine tri_skip ?_
 refine t_then ?_
 refine tri_block ?_
 refine tri_region ?_
 refine oA (sp_move (.tmp 8) (iv p) rfl) I0 ?_
 refine oC (sp_add (c := ((p + 1 : Nat) : Int)) rfl (w64 (by omega) (by omega) (by omega))) I0 I0 ?_
 refine oA (sp_assign (.tmp 39) (iv (p + 1 : Nat)) rfl) I0 ?_
 refine kN 85 [(1, .box 24 [iv 0, .v (.slice none 0 0)]), (2, .row true 39 2 L.length (L.flatMap cRo)), (3, .box 39 [.fr (intsA ((tR rs[j]).1)), iv ((tR rs[j]).2)])] [(0, iv n), (1, slA 2 cRo rs), (4, .box 1 0), (5, .own 2), (6, iv j), (7, .box 3 0), (8, iv (p + 1 : Nat)), (13, bv true), (22, bv false), (37, bv true)] ?_
 refine t_block ?_
 refine t_then ?_
 refine tri_again ⟨p + 1, by omega, below_succ hp1 hs4⟩ (show L.length - (p + 1) < L.length - p by omega) ?_
 exact wk_keep _ _ rfl (by kernel_rfl) (by kernel_rfl)
 refine tri_draw [⟨[(.tmp 8, iv p)], [], iv p, .no⟩, ⟨[(.tmp 5, .own 2)], [], .own 2, .no⟩, ⟨[(.tmp 24, .own 2)], [(2, .row true 39 2 L.length (L.flatMap cRo))], iv L.length, .no⟩, ⟨[(.tmp 23, iv p), (.tmp 25, iv L.length)], [], bv true, .no⟩, ⟨[(.tmp 26, bv true)], [], bv true, .no⟩, ⟨[(.tmp 5, .own 2)], [], .own 2, .no⟩, ⟨[(.tmp 8, iv p)], [], iv p, .no⟩, ⟨[(.tmp 28, .own 2), (.tmp 29, iv p)], [(2, .row true 39 2 L.length (L.flatMap cRo))], .box 2 (p * 2), .no⟩, ⟨[(.tmp 30, .box 2 (p * 2))], [], .box 2 (p * 2), .no⟩, ⟨[(.tmp 31, .box 2 (p * 2))], [(2, .row true 39 2 L.length (L.flatMap cRo))], intsA L[p].1, .no⟩, ⟨[(.tmp 7, .box 3 0)], [], .box 3 0, .no⟩, ⟨[(.tmp 33, .box 3 0)], [(3, .box 39 [.fr (intsA ((tR rs[j]).1)), iv ((tR rs[j]).2)])], .fr (intsA ((tR rs[j]).1)), .no⟩, ⟨[(.func 29, .v (.func (.func 29) #[] #[])), (.tmp 32, intsA L[p].1), (.tmp 34, intsA ((tR rs[j]).1))], [], iv (cmpI L[p].1 (tR rs[j]).1), .no⟩, ⟨[(.tmp 35, iv (cmpI L[p].1 (tR rs[j]).1)), (.const (.int .i64 0), iv 0)], [], bv false, .no⟩, ⟨[(.tmp 27, bv true), (.tmp 36, bv false), (.const (.bool false), bv false)], [], bv false, .no⟩] (by kernel_rfl) (by kernel_rfl) ?_
 refine ⟨app_yes rfl (sp_move (.tmp 8) (iv p) rfl) ⟨I0, T0⟩ T0 T0, ?_⟩
 refine ⟨app_yes rfl (sp_move (.tmp 5) (.own 2) rfl) ⟨I0, T0⟩ T0 T0, ?_⟩
 refine ⟨app_yes rfl (sp_lenOwn (.tmp 24) rfl Tryd.underlying22) ⟨I0, T0⟩ ⟨rfl, T0⟩ T0, ?_⟩
 refine ⟨app_yes rfl (sp_lss rfl (dT hs3)) ⟨I0, I0, T0⟩ T0 T0, ?_⟩
 refine ⟨app_yes rfl (sp_move (.tmp 26) (bv true) rfl) ⟨I0, T0⟩ T0 T0, ?_⟩
 refine ⟨app_yes rfl (sp_move (.tmp 5) (.own 2) rfl) ⟨I0, T0⟩ T0 T0, ?_⟩
 refine ⟨app_yes rfl (sp_move (.tmp 8) (iv p) rfl) ⟨I0, T0⟩ T0 T0, ?_⟩
 refine ⟨app_yes rfl (sp_indexOwn (off := p * 2) (.tmp 28) (.tmp 29) rfl Tryd.underlying22 (by kernel_rfl) (by omega) (by omega) rfl) ⟨I0, I0, T0⟩ ⟨rfl, T0⟩ T0, ?_⟩
 refine ⟨app_yes rfl (sp_fieldBox (off' := p * 2) (.tmp 30) rfl Tryd.underlying39 rfl (z := 1) (by kernel_rfl) (by decide) rfl) ⟨I0, T0⟩ T0 T0, ?_⟩
 refine ⟨app_yes rfl (sp_loadBox1  (Y := .row true 39 2 L.length (L.flatMap cRo)) (.tmp 31) rfl Tryd.underlying25 rfl ((eflat_get lenRo L p 0 (by omega) (by decide)).trans rfl)) ⟨I0, T0⟩ ⟨rfl, T0⟩ T0, ?_⟩
 refine ⟨app_yes rfl (fB 0 (.tmp 7) rfl Tryd.underlying39 rfl 1 rfl) ⟨I0, T0⟩ T0 T0, ?_⟩
 refine ⟨app_yes rfl (lB (.box 39 [.fr (intsA ((tR rs[j]).1)), iv ((tR rs[j]).2)]) (.fr (intsA ((tR rs[j]).1))) (.tmp 33) rfl Tryd.underlying25 rfl rfl) ⟨I0, T0⟩ ⟨rfl, T0⟩ T0, ?_⟩
 refine ⟨app_yes rfl (sp_call (c := .func 29) (xs := #[.tmp 32, .tmp 34]) [] (rCompareInts_c (hLo L[p] (List.getElem_mem (by omega))).coef (tR_ok (H.rows rs[j] (List.getElem_mem (by omega)))).coef) rfl (by kernel_rfl) rfl (Xs := [intsA L[p].1, intsA ((tR rs[j]).1)]) rfl rfl rfl) ⟨I0, I0, .inr (.inl rfl), T0⟩ T0 T0, ?_⟩
 refine ⟨app_yes rfl (sp_lss rfl (dF hs4)) ⟨I0, I0, T0⟩ T0 T0, ?_⟩
 refine ⟨app_yes rfl (sp_pick (.tmp 27) (.tmp 36) (.const (.bool false)) true (bv false) (bv false) rfl) ⟨I0, I0, I0, T0⟩ T0 T0, ?_⟩
 show ETri J w0 _ _ _
 refine kW 85 [(1, .box 24 [iv 0, .v (.slice none 0 0)]), (2, .row true 39 2 L.length (L.flatMap cRo)), (3, .box 39 [.fr (intsA ((tR rs[j]).1)), iv ((tR rs[j]).2)])] [(0, iv n), (1, slA 2 cRo rs), (4, .box 1 0), (5, .own 2), (6, iv j), (7, .box 3 0), (8, iv p), (13, bv true), (22, bv false), (37, bv false)] ?_
 refine t_then ?_
 refine t_condF rfl ?_
 refine tri_exit ?_
 refine t_then_exit ?_
 refine t_then_exit ?_
 refine t_hit ?_
 refine t_then ?_
 refine tri_seq ?_
 refine tri_seq ?_
 by_cases hs5 : (eqI L[p].1 (tR rs[j]).1) = true
 refine tri_draw [⟨[(.tmp 8, iv p)], [], iv p, .no⟩, ⟨[(.tmp 5, .own 2)], [], .own 2, .no⟩, ⟨[(.tmp 41, .own 2)], [(2, .row true 39 2 L.length (L.flatMap cRo))], iv L.length, .no⟩, ⟨[(.tmp 40, iv p), (.tmp 42, iv L.length)], [], bv true, .no⟩, ⟨[(.tmp 43, bv true)], [], bv true, .no⟩, ⟨[(.tmp 5, .own 2)], [], .own 2, .no⟩, ⟨[(.tmp 8, iv p)], [], iv p, .no⟩, ⟨[(.tmp 45, .own 2), (.tmp 46, iv p)], [(2, .row true 39 2 L.length (L.flatMap cRo))], .box 2 (p * 2), .no⟩, ⟨[(.tmp 47, .box 2 (p * 2))], [], .box 2 (p * 2), .no⟩, ⟨[(.tmp 48, .box 2 (p * 2))], [(2, .row true 39 2 L.length (L.flatMap cRo))], intsA L[p].1, .no⟩, ⟨[(.tmp 7, .box 3 0)], [], .box 3 0, .no⟩, ⟨[(.tmp 50, .box 3 0)], [(3, .box 39 [.fr (intsA ((tR rs[j]).1)), iv ((tR rs[j]).2)])], .fr (intsA ((tR rs[j]).1)), .no⟩, ⟨[(.func 28, .v (.func (.func 28) #[] #[])), (.tmp 49, intsA L[p].1), (.tmp 51, intsA ((tR rs[j]).1))], [], bv true, .no⟩, ⟨[(.tmp 44, bv true), (.tmp 52, bv true), (.const (.bool false), bv false)], [], bv true, .no⟩] (by kernel_rfl) (by kernel_rfl) ?_
 refine ⟨app_yes rfl (sp_move (.tmp 8) (iv p) rfl) ⟨I0, T0⟩ T0 T0, ?_⟩
 refine ⟨app_yes rfl (sp_move (.tmp 5) (.own 2) rfl) ⟨I0, T0⟩ T0 T0, ?_⟩
 refine ⟨app_yes rfl (sp_lenOwn (.tmp 41) rfl Tryd.underlying22) ⟨I0, T0⟩ ⟨rfl, T0⟩ T0, ?_⟩
 refine ⟨app_yes rfl (sp_lss rfl (dT hs3)) ⟨I0, I0, T0⟩ T0 T0, ?_⟩
 refine ⟨app_yes rfl (sp_move (.tmp 43) (bv true) rfl) ⟨I0, T0⟩ T0 T0, ?_⟩
 refine ⟨app_yes rfl (sp_move (.tmp 5) (.own 2) rfl) ⟨I0, T0⟩ T0 T0, ?_⟩
 refine ⟨app_yes rfl (sp_move (.tmp 8) (iv p) rfl) ⟨I0, T0⟩ T0 T0, ?_⟩
 refine ⟨app_yes rfl (sp_indexOwn (off := p * 2) (.tmp 45) (.tmp 46) rfl Tryd.underlying22 (by kernel_rfl) (by omega) (by omega) rfl) ⟨I0, I0, T0⟩ ⟨rfl, T0⟩ T0, ?_⟩
 refine ⟨app_yes rfl (sp_fieldBox (off' := p * 2) (.tmp 47) rfl Tryd.underlying39 rfl (z := 1) (by kernel_rfl) (by decide) rfl) ⟨I0, T0⟩ T0 T0, ?_⟩
 refine ⟨app_yes rfl (sp_loadBox1  (Y := .row true 39 2 L.length (L.flatMap cRo)) (.tmp 48) rfl Tryd.underlying25 rfl ((eflat_get lenRo L p 0 (by omega) (by decide)).trans rfl)) ⟨I0, T0⟩ ⟨rfl, T0⟩ T0, ?_⟩
 refine ⟨app_yes rfl (fB 0 (.tmp 7) rfl Tryd.underlying39 rfl 1 rfl) ⟨I0, T0⟩ T0 T0, ?_⟩
 refine ⟨app_yes rfl (lB (.box 39 [.fr (intsA ((tR rs[j]).1)), iv ((tR rs[j]).2)]) (.fr (intsA ((tR rs[j]).1))) (.tmp 50) rfl Tryd.underlying25 rfl rfl) ⟨I0, T0⟩ ⟨rfl, T0⟩ T0, ?_⟩
 refine ⟨app_yes rfl (sp_call (c := .func 28) (xs := #[.tmp 49, .tmp 51]) [] (ctr_b (rSameInts_c (hLo L[p] (List.getElem_mem (by omega))).coef (tR_ok (H.rows rs[j] (List.getElem_mem (by omega)))).coef) hs5) rfl (by kernel_rfl) rfl (Xs := [intsA L[p].1, intsA ((tR rs[j]).1)]) rfl rfl rfl) ⟨I0, I0, .inr (.inl rfl), T0⟩ T0 T0, ?_⟩
 refine ⟨app_yes rfl (sp_pick (.tmp 44) (.tmp 52) (.const (.bool false)) true (bv true) (bv false) rfl) ⟨I0, I0, I0, T0⟩ T0 T0, ?_⟩
 show ETri J w0 _ _ _
 refine kW 85 [(1, .box 24 [iv 0, .v (.slice none 0 0)]), (2, .row true 39 2 L.length (L.flatMap cRo)), (3, .box 39 [.fr (intsA ((tR rs[j]).1)), iv ((tR rs[j]).2)])] [(0, iv n), (1, slA 2 cRo rs), (4, .box 1 0), (5, .own 2), (6, iv j), (7, .box 3 0), (8, iv p), (13, bv true), (22, bv false), (37, bv false), (53, bv true)] ?_
 refine t_then ?_
 refine t_condT rfl ?_
 refine tri_seq ?_
 refine tri_seq ?_
 by_cases hs6 : (tR rs[j]).2 < L[p].2
 refine tri_draw [⟨[(.tmp 7, .box 3 0)], [], .box 3 1, .no⟩, ⟨[(.tmp 54, .box 3 1)], [(3, .box 39 [.fr (intsA ((tR rs[j]).1)), iv ((tR rs[j]).2)])], iv ((tR rs[j]).2), .no⟩, ⟨[(.tmp 5, .own 2)], [], .own 2, .no⟩, ⟨[(.tmp 8, iv p)], [], iv p, .no⟩, ⟨[(.tmp 56, .own 2), (.tmp 57, iv p)], [(2, .row true 39 2 L.length (L.flatMap cRo))], .box 2 (p * 2), .no⟩, ⟨[(.tmp 58, .box 2 (p * 2))], [], .box 2 (p * 2 + 1), .no⟩, ⟨[(.tmp 59, .box 2 (p * 2 + 1))], [(2, .row true 39 2 L.length (L.flatMap cRo))], iv L[p].2, .no⟩, ⟨[(.tmp 55, iv ((tR rs[j]).2)), (.tmp 60, iv L[p].2)], [], bv true, .no⟩] (by kernel_rfl) (by kernel_rfl) ?_
 refine ⟨app_yes rfl (fB 1 (.tmp 7) rfl Tryd.underlying39 rfl 1 rfl) ⟨I0, T0⟩ T0 T0, ?_⟩
 refine ⟨app_yes rfl (lB (.box 39 [.fr (intsA ((tR rs[j]).1)), iv ((tR rs[j]).2)]) (iv ((tR rs[j]).2)) (.tmp 54) rfl Tryd.underlying3 rfl rfl) ⟨I0, T0⟩ ⟨rfl, T0⟩ T0, ?_⟩
 refine ⟨app_yes rfl (sp_move (.tmp 5) (.own 2) rfl) ⟨I0, T0⟩ T0 T0, ?_⟩
 refine ⟨app_yes rfl (sp_move (.tmp 8) (iv p) rfl) ⟨I0, T0⟩ T0 T0, ?_⟩
 refine ⟨app_yes rfl (sp_indexOwn (off := p * 2) (.tmp 56) (.tmp 57) rfl Tryd.underlying22 (by kernel_rfl) (by omega) (by omega) rfl) ⟨I0, I0, T0⟩ ⟨rfl, T0⟩ T0, ?_⟩
 refine ⟨app_yes rfl (sp_fieldBox (off' := p * 2 + 1) (.tmp 58) rfl Tryd.underlying39 rfl (z := 1) (by kernel_rfl) (by decide) rfl) ⟨I0, T0⟩ T0 T0, ?_⟩
 refine ⟨app_yes rfl (sp_loadBox1  (Y := .row true 39 2 L.length (L.flatMap cRo)) (.tmp 59) rfl Tryd.underlying3 rfl ((eflat_get lenRo L p 1 (by omega) (by decide)).trans rfl)) ⟨I0, T0⟩ ⟨rfl, T0⟩ T0, ?_⟩
 refine ⟨app_yes rfl (sp_lss rfl (dT hs6)) ⟨I0, I0, T0⟩ T0 T0, ?_⟩
 show ETri J w0 _ _ _
 refine kW 85 [(1, .box 24 [iv 0, .v (.slice none 0 0)]), (2, .row true 39 2 L.length (L.flatMap cRo)), (3, .box 39 [.fr (intsA ((tR rs[j]).1)), iv ((tR rs[j]).2)])] [(0, iv n), (1, slA 2 cRo rs), (4, .box 1 0), (5, .own 2), (6, iv j), (7, .box 3 0), (8, iv p), (13, bv true), (22, bv false), (37, bv false), (53, bv true), (61, bv true)] ?_
 refine t_then ?_
 refine t_condT rfl ?_
 refine tri_region ?_
 refine oA (sp_move (.tmp 5) (.own 2) rfl) I0 ?_
 refine oA (sp_move (.tmp 8) (iv p) rfl) I0 ?_
 refine oA (fB 1 (.tmp 7) rfl Tryd.underlying39 rfl 1 rfl) I0 ?_
 refine oB (lB (.box 39 [.fr (intsA ((tR rs[j]).1)), iv ((tR rs[j]).2)]) (iv ((tR rs[j]).2)) (.tmp 64) rfl Tryd.underlying3 rfl rfl) I0 rfl ?_
 refine t_op rfl (sp_indexOwn (off := p * 2) (.tmp 62) (.tmp 63) rfl Tryd.underlying22 (by kernel_rfl) (by omega) (by omega) rfl) ⟨I0, I0, T0⟩ ⟨rfl, T0⟩ T0 ?_
 refine oA (sp_fieldBox (off' := p * 2 + 1) (.tmp 66) rfl Tryd.underlying39 rfl (z := 1) (by kernel_rfl) (by decide) rfl) I0 ?_
 refine t_op rfl (sp_storeRow (X := iv ((tR rs[j]).2)) (off := p * 2 + 1) (cs := (L.flatMap cRo)) (ds := ((L.set p (L[p].1, (tR rs[j]).2)).flatMap cRo)) (zz := 1) (.tmp 67) (.tmp 65) rfl (by kernel_rfl) (by kernel_rfl) (fun _ => newC _) (by kernel_rfl) (by rw [lenFlat]; omega) (by exact set_cRo L p (by omega) _)) ⟨I0, I0, T0⟩ ⟨rfl, T0⟩ rfl ?_
 refine kN 85 [(1, .box 24 [iv 0, .v (.slice none 0 0)]), (2, .row true 39 2 L.length ((L.set p (L[p].1, (tR rs[j]).2)).flatMap cRo)), (3, .box 39 [.fr (intsA ((tR rs[j]).1)), iv ((tR rs[j]).2)])] [(0, iv n), (1, slA 2 cRo rs), (4, .box 1 0), (5, .own 2), (6, iv j), (7, .box 3 0), (8, iv p), (13, bv true), (22, bv false), (37, bv false), (53, bv true), (61, bv true)] ?_
 refine t_then ?_
 refine tri_exit ?_
 refine t_then_exit ?_
 refine t_hit ?_
 refine t_then ?_
 refine tri_region ?_
 refine oA (sp_move (.tmp 6) (iv j) rfl) I0 ?_
 refine oC (sp_add (c := ((j + 1 : Nat) : Int)) rfl (w64 (by omega) (by omega) (by omega))) I0 I0 ?_
 refine oA (sp_assign (.tmp 15) (iv (j + 1 : Nat)) rfl) I0 ?_
 refine kN 85 [(1, .box 24 [iv 0, .v (.slice none 0 0)]), (2, .row true 39 2 L.length ((L.set p (L[p].1, (tR rs[j]).2)).flatMap cRo)), (3, .box 39 [.fr (intsA ((tR rs[j]).1)), iv ((tR rs[j]).2)])] [(0, iv n), (1, slA 2 cRo rs), (4, .box 1 0), (5, .own 2), (6, iv (j + 1 : Nat)), (7, .box 3 0), (8, iv p), (13, bv true), (22, bv false), (37, bv false), (53, bv true), (61, bv true)] ?_
 refine t_then ?_
 refine tri_again ⟨(j + 1, (L.set p (L[p].1, (tR rs[j]).2))), by dsimp only; omega, (td_set hL hs2f hp1 hs4 hs5 hs6), (by rw [List.length_set]; dsimp only; omega)⟩ (show rs.length - (j + 1) < rs.length - j by omega) ?_
 show Wk _ _ (ofL [(1, .box 24 [iv 0, .v (.slice none 0 0)]), (2, .row true 39 2 ((L.set p (L[p].1, (tR rs[j]).2)).length) ((L.set p (L[p].1, (tR rs[j]).2)).flatMap cRo))]) (ofT 85 [(0, iv n), (1, slA 2 cRo rs), (4, .box 1 0), (5, .own 2), (6, iv ((j + 1) : Nat))])
 rw [List.length_set]
 exact wk_keep _ _ rfl (by kernel_rfl) (by kernel_rfl)
 refine tri_draw [⟨[(.tmp 7, .box 3 0)], [], .box 3 1, .no⟩, ⟨[(.tmp 54, .box 3 1)], [(3, .box 39 [.fr (intsA ((tR rs[j]).1)), iv ((tR rs[j]).2)])], iv ((tR rs[j]).2), .no⟩, ⟨[(.tmp 5, .own 2)], [], .own 2, .no⟩, ⟨[(.tmp 8, iv p)], [], iv p, .no⟩, ⟨[(.tmp 56, .own 2), (.tmp 57, iv p)], [(2, .row true 39 2 L.length (L.flatMap cRo))], .box 2 (p * 2), .no⟩, ⟨[(.tmp 58, .box 2 (p * 2))], [], .box 2 (p * 2 + 1), .no⟩, ⟨[(.tmp 59, .box 2 (p * 2 + 1))], [(2, .row true 39 2 L.length (L.flatMap cRo))], iv L[p].2, .no⟩, ⟨[(.tmp 55, iv ((tR rs[j]).2)), (.tmp 60, iv L[p].2)], [], bv false, .no⟩] (by kernel_rfl) (by kernel_rfl) ?_
 refine ⟨app_yes rfl (fB 1 (.tmp 7) rfl Tryd.underlying39 rfl 1 rfl) ⟨I0, T0⟩ T0 T0, ?_⟩
 refine ⟨app_yes rfl (lB (.box 39 [.fr (intsA ((tR rs[j]).1)), iv ((tR rs[j]).2)]) (iv ((tR rs[j]).2)) (.tmp 54) rfl Tryd.underlying3 rfl rfl) ⟨I0, T0⟩ ⟨rfl, T0⟩ T0, ?_⟩
 refine ⟨app_yes rfl (sp_move (.tmp 5) (.own 2) rfl) ⟨I0, T0⟩ T0 T0, ?_⟩
 refine ⟨app_yes rfl (sp_move (.tmp 8) (iv p) rfl) ⟨I0, T0⟩ T0 T0, ?_⟩
 refine ⟨app_yes rfl (sp_indexOwn (off := p * 2) (.tmp 56) (.tmp 57) rfl Tryd.underlying22 (by kernel_rfl) (by omega) (by omega) rfl) ⟨I0, I0, T0⟩ ⟨rfl, T0⟩ T0, ?_⟩
 refine ⟨app_yes rfl (sp_fieldBox (off' := p * 2 + 1) (.tmp 58) rfl Tryd.underlying39 rfl (z := 1) (by kernel_rfl) (by decide) rfl) ⟨I0, T0⟩ T0 T0, ?_⟩
 refine ⟨app_yes rfl (sp_loadBox1  (Y := .row true 39 2 L.length (L.flatMap cRo)) (.tmp 59) rfl Tryd.underlying3 rfl ((eflat_get lenRo L p 1 (by omega) (by decide)).trans rfl)) ⟨I0, T0⟩ ⟨rfl, T0⟩ T0, ?_⟩
 refine ⟨app_yes rfl (sp_lss rfl (dF hs6)) ⟨I0, I0, T0⟩ T0 T0, ?_⟩
 show ETri J w0 _ _ _
 refine kW 85 [(1, .box 24 [iv 0, .v (.slice none 0 0)]), (2, .row true 39 2 L.length (L.flatMap cRo)), (3, .box 39 [.fr (intsA ((tR rs[j]).1)), iv ((tR rs[j]).2)])] [(0, iv n), (1, slA 2 cRo rs), (4, .box 1 0), (5, .own 2), (6, iv j), (7, .box 3 0), (8, iv p), (13, bv true), (22, bv false), (37, bv false), (53, bv true), (61, bv false)] ?_
 refine t_then ?_
 refine t_condF rfl ?_
 refine tri_skip ?_
 refine t_then ?_
 refine tri_exit ?_
 refine t_then_exit ?_
 refine t_hit ?_
 refine t_then ?_
 refine tri_region ?_
 refine oA (sp_move (.tmp 6) (iv j) rfl) I0 ?_
 refine oC (sp_add (c := ((j + 1 : Nat) : Int)) rfl (w64 (by omega) (by omega) (by omega))) I0 I0 ?_
 refine oA (sp_assign (.tmp 15) (iv (j + 1 : Nat)) rfl) I0 ?_
 refine kN 85 [(1, .box 24 [iv 0, .v (.slice none 0 0)]), (2, .row true 39 2 L.length (L.flatMap cRo)), (3, .box 39 [.fr (intsA ((tR rs[j]).1)), iv ((tR rs[j]).2)])] [(0, iv n), (1, slA 2 cRo rs), (4, .box 1 0), (5, .own 2), (6, iv (j + 1 : Nat)), (7, .box 3 0), (8, iv p), (13, bv true), (22, bv false), (37, bv false), (53, bv true), (61, bv false)] ?_
 refine t_then ?_
 refine tri_again ⟨(j + 1, L), by dsimp only; omega, (td_stay hL hs2f hp1 hs4 hs5 hs6), by dsimp only; omega⟩ (show rs.length - (j + 1) < rs.length - j by omega) ?_
 exact wk_keep _ _ rfl (by kernel_rfl) (by kernel_rfl)
 have hs5f : (eqI L[p].1 (tR rs[j]).1) = false := by simpa using hs5
 refine tri_draw [⟨[(.tmp 8, iv p)], [], iv p, .no⟩, ⟨[(.tmp 5, .own 2)], [], .own 2, .no⟩, ⟨[(.tmp 41, .own 2)], [(2, .row true 39 2 L.length (L.flatMap cRo))], iv L.length, .no⟩, ⟨[(.tmp 40, iv p), (.tmp 42, iv L.length)], [], bv true, .no⟩, ⟨[(.tmp 43, bv true)], [], bv true, .no⟩, ⟨[(.tmp 5, .own 2)], [], .own 2, .no⟩, ⟨[(.tmp 8, iv p)], [], iv p, .no⟩, ⟨[(.tmp 45, .own 2), (.tmp 46, iv p)], [(2, .row true 39 2 L.length (L.flatMap cRo))], .box 2 (p * 2), .no⟩, ⟨[(.tmp 47, .box 2 (p * 2))], [], .box 2 (p * 2), .no⟩, ⟨[(.tmp 48, .box 2 (p * 2))], [(2, .row true 39 2 L.length (L.flatMap cRo))], intsA L[p].1, .no⟩, ⟨[(.tmp 7, .box 3 0)], [], .box 3 0, .no⟩, ⟨[(.tmp 50, .box 3 0)], [(3, .box 39 [.fr (intsA ((tR rs[j]).1)), iv ((tR rs[j]).2)])], .fr (intsA ((tR rs[j]).1)), .no⟩, ⟨[(.func 28, .v (.func (.func 28) #[] #[])), (.tmp 49, intsA L[p].1), (.tmp 51, intsA ((tR rs[j]).1))], [], bv false, .no⟩, ⟨[(.tmp 44, bv true), (.tmp 52, bv false), (.const (.bool false), bv false)], [], bv false, .no⟩] (by kernel_rfl) (by kernel_rfl) ?_
 refine ⟨app_yes rfl (sp_move (.tmp 8) (iv p) rfl) ⟨I0, T0⟩ T0 T0, ?_⟩
 refine ⟨app_yes rfl (sp_move (.tmp 5) (.own 2) rfl) ⟨I0, T0⟩ T0 T0, ?_⟩
 refine ⟨app_yes rfl (sp_lenOwn (.tmp 41) rfl Tryd.underlying22) ⟨I0, T0⟩ ⟨rfl, T0⟩ T0, ?_⟩
 refine ⟨app_yes rfl (sp_lss rfl (dT hs3)) ⟨I0, I0, T0⟩ T0 T0, ?_⟩
 refine ⟨app_yes rfl (sp_move (.tmp 43) (bv true) rfl) ⟨I0, T0⟩ T0 T0, ?_⟩
 refine ⟨app_yes rfl (sp_move (.tmp 5) (.own 2) rfl) ⟨I0, T0⟩ T0 T0, ?_⟩
 refine ⟨app_yes rfl (sp_move (.tmp 8) (iv p) rfl) ⟨I0, T0⟩ T0 T0, ?_⟩
 refine ⟨app_yes rfl (sp_indexOwn (off := p * 2) (.tmp 45) (.tmp 46) rfl Tryd.underlying22 (by kernel_rfl) (by omega) (by omega) rfl) ⟨I0, I0, T0⟩ ⟨rfl, T0⟩ T0, ?_⟩
 refine ⟨app_yes rfl (sp_fieldBox (off' := p * 2) (.tmp 47) rfl Tryd.underlying39 rfl (z := 1) (by kernel_rfl) (by decide) rfl) ⟨I0, T0⟩ T0 T0, ?_⟩
 refine ⟨app_yes rfl (sp_loadBox1  (Y := .row true 39 2 L.length (L.flatMap cRo)) (.tmp 48) rfl Tryd.underlying25 rfl ((eflat_get lenRo L p 0 (by omega) (by decide)).trans rfl)) ⟨I0, T0⟩ ⟨rfl, T0⟩ T0, ?_⟩
 refine ⟨app_yes rfl (fB 0 (.tmp 7) rfl Tryd.underlying39 rfl 1 rfl) ⟨I0, T0⟩ T0 T0, ?_⟩
 refine ⟨app_yes rfl (lB (.box 39 [.fr (intsA ((tR rs[j]).1)), iv ((tR rs[j]).2)]) (.fr (intsA ((tR rs[j]).1))) (.tmp 50) rfl Tryd.underlying25 rfl rfl) ⟨I0, T0⟩ ⟨rfl, T0⟩ T0, ?_⟩
 refine ⟨app_yes rfl (sp_call (c := .func 28) (xs := #[.tmp 49, .tmp 51]) [] (ctr_b (rSameInts_c (hLo L[p] (List.getElem_mem (by omega))).coef (tR_ok (H.rows rs[j] (List.getElem_mem (by omega)))).coef) hs5f) rfl (by kernel_rfl) rfl (Xs := [intsA L[p].1, intsA ((tR rs[j]).1)]) rfl rfl rfl) ⟨I0, I0, .inr (.inl rfl), T0⟩ T0 T0, ?_⟩
 refine ⟨app_yes rfl (sp_pick (.tmp 44) (.tmp 52) (.const (.bool false)) true (bv false) (bv false) rfl) ⟨I0, I0, I0, T0⟩ T0 T0, ?_⟩
 show ETri J w0 _ _ _
 refine kW 85 [(1, .box 24 [iv 0, .v (.slice none 0 0)]), (2, .row true 39 2 L.length (L.flatMap cRo)), (3, .box 39 [.fr (intsA ((tR rs[j]).1)), iv ((tR rs[j]).2)])] [(0, iv n), (1, slA 2 cRo rs), (4, .box 1 0), (5, .own 2), (6, iv j), (7, .box 3 0), (8, iv p), (13, bv true), (22, bv false), (37, bv false), (53, bv false)] ?_
 refine t_then ?_
 refine t_condF rfl ?_
 refine tri_skip ?_
 refine t_then ?_
 refine tri_seq ?_
 refine t_cut (True) (ofL [(1, .box 24 [iv 0, .v (.slice none 0 0)]), (3, .box 39 [.fr (intsA ((tR rs[j]).1)), iv ((tR rs[j]).2)])]) (ofT 85 [(0, iv n), (1, slA 2 cRo rs), (4, .box 1 0), (5, .fr (slA 2 cRo L)), (6, iv j), (7, .box 3 0), (8, iv p), (9, .v (.slice none 0 0)), (13, bv true), (22, bv false), (37, bv false), (53, bv false)]) ?_ (fun _ => ?_)
 refine tri_region ?_
 refine oA (sp_assign (.const (.slice none 0 0)) (.v (.slice none 0 0)) rfl) I0 ?_
 refine kN 85 [(1, .box 24 [iv 0, .v (.slice none 0 0)]), (2, .row true 39 2 L.length (L.flatMap cRo)), (3, .box 39 [.fr (intsA ((tR rs[j]).1)), iv ((tR rs[j]).2)])] [(0, iv n), (1, slA 2 cRo rs), (4, .box 1 0), (5, .own 2), (6, iv j), (7, .box 3 0), (8, iv p), (9, .v (.slice none 0 0)), (13, bv true), (22, bv false), (37, bv false), (53, bv false)] ?_
 exact t_meet T0 (wk_keep _ _ rfl (by kernel_rfl) (by kernel_rfl))
 refine t_then ?_
 refine tri_seq ?_
 refine tri_wk (wk_spread 5 rfl rfl) ?_
 refine tri_region ?_
 refine oA (sp_move (.tmp 9) (.v (.slice none 0 0)) rfl) I0 ?_
 refine oA (sp_move (.tmp 5) (.sl 2 L.length (frs L)) rfl) I0 ?_
 refine oA (sp_move (.tmp 8) (iv p) rfl) I0 ?_
 refine oC (sp_sliceSl (l := 0) (h := p) (ds := (frs (L.take p))) (.tmp 69) none (some (.tmp 70)) rfl Tryd.underlying22 (by kernel_rfl) [] [(.tmp 70, iv p)] (.inl ⟨rfl, rfl, rfl⟩) (.inr ⟨_, _, rfl, rfl⟩) (Nat.zero_le _) (by omega) (frs_take (by omega))) I0 I0 ?_
 refine t_op rfl (sp_appendNil (m := (p - 0)) (ds := (frs (L.take p))) (⟨Tryd.underlying22, by kernel_rfl, by decide⟩ : Elt Tryd.prog 22 39 2 32) (k := 2) true (.tmp 68) (.tmp 71) rfl new_frs (by unfold maxLen; omega) (by omega) cell_frs (es := ((L.take p).flatMap cRo)) unfr_frs) ⟨I0, I0, T0⟩ T0 rfl ?_
 refine oA (sp_assign (.tmp 72) (.own 2) rfl) I0 ?_
 refine kN 85 [(1, .box 24 [iv 0, .v (.slice none 0 0)]), (2, .row true 39 2 (p - 0) ((L.take p).flatMap cRo)), (3, .box 39 [.fr (intsA ((tR rs[j]).1)), iv ((tR rs[j]).2)])] [(0, iv n), (1, slA 2 cRo rs), (4, .box 1 0), (5, .sl 2 L.length (frs L)), (6, iv j), (7, .box 3 0), (8, iv p), (9, .own 2), (13, bv true), (22, bv false), (37, bv false), (53, bv false)] ?_
 refine t_then ?_
 refine tri_seq ?_
 refine tri_region ?_
 refine oA (sp_move (.tmp 9) (.own 2) rfl) I0 ?_
 refine oB (sp_loadBoxS (Y := .box 39 [.fr (intsA ((tR rs[j]).1)), iv ((tR rs[j]).2)]) (ds := [.fr (intsA ((tR rs[j]).1)), iv ((tR rs[j]).2)]) (z := 2) (.tmp 7) rfl Tryd.underlying39 rfl (by kernel_rfl) (by decide) (by kernel_rfl) (by kernel_rfl)) I0 rfl ?_
 refine t_op rfl (sp_build (z := 2) (k := 4) (fr := false) (cs := [.fr (intsA ((tR rs[j]).1)), iv ((tR rs[j]).2)]) [.tmp 74] [.agg [.fr (intsA ((tR rs[j]).1)), iv ((tR rs[j]).2)]] rfl Tryd.underlying22 (by kernel_rfl) (by decide) (by decide) rfl rfl rfl (by kernel_rfl) (by decide) (fun h => Bool.noConfusion h) (by kernel_rfl)) ⟨I0, T0⟩ T0 rfl ?_
 refine t_op rfl (sp_appendOwn (n := (p - 0)) (cs := ((L.take p).flatMap cRo)) (fr := true) (m := 1) (ds := [.fr (intsA ((tR rs[j]).1)), iv ((tR rs[j]).2)]) (⟨Tryd.underlying22, by kernel_rfl, by decide⟩ : Elt Tryd.prog 22 39 2 32) (.tmp 73) (.tmp 75) rfl (fun _ => newRo (tR rs[j])) (by unfold maxLen; omega) (by omega) (cellRo (tR rs[j])) (es := ((L.take p ++ [(tR rs[j])]).flatMap cRo)) snocRw) ⟨I0, I0, T0⟩ ⟨rfl, rfl, T0⟩ rfl ?_
 refine oA (sp_assign (.tmp 76) (.own 2) rfl) I0 ?_
 refine kN 85 [(1, .box 24 [iv 0, .v (.slice none 0 0)]), (2, .row true 39 2 (p - 0 + 1) ((L.take p ++ [(tR rs[j])]).flatMap cRo)), (3, .box 39 [.fr (intsA ((tR rs[j]).1)), iv ((tR rs[j]).2)])] [(0, iv n), (1, slA 2 cRo rs), (4, .box 1 0), (5, .sl 2 L.length (frs L)), (6, iv j), (7, .box 3 0), (8, iv p), (9, .own 2), (13, bv true), (22, bv false), (37, bv false), (53, bv false)] ?_
 refine t_then ?_
 refine tri_region ?_
 refine oA (sp_move (.tmp 9) (.own 2) rfl) I0 ?_
 refine oA (sp_move (.tmp 5) (.sl 2 L.length (frs L)) rfl) I0 ?_
 refine oA (sp_move (.tmp 8) (iv p) rfl) I0 ?_
 refine oC (sp_sliceSl (l := p) (h := L.length) (ds := (frs (L.drop p))) (.tmp 78) (some (.tmp 79)) none rfl Tryd.underlying22 (by kernel_rfl) [(.tmp 79, iv p)] [] (.inr ⟨_, _, rfl, rfl⟩) (.inl ⟨rfl, rfl, rfl⟩) (by omega) (Nat.le_refl _) (frs_drop (by omega))) I0 I0 ?_
 refine t_op rfl (sp_append (n := (p - 0 + 1)) (cs := ((L.take p ++ [(tR rs[j])]).flatMap cRo)) (fr := true) (m := (L.length - p)) (ds := (frs (L.drop p))) (⟨Tryd.underlying22, by kernel_rfl, by decide⟩ : Elt Tryd.prog 22 39 2 32) (.tmp 77) (.tmp 80) rfl (fun _ => newFrs) (by unfold maxLen; omega) (by omega) cell_frs (es := ((L.take p ++ (tR rs[j]) :: L.drop p).flatMap cRo)) ins_end) ⟨I0, I0, T0⟩ ⟨rfl, T0⟩ rfl ?_
 refine oA (sp_assign (.tmp 81) (.own 2) rfl) I0 ?_
 refine kN 85 [(1, .box 24 [iv 0, .v (.slice none 0 0)]), (2, .row true 39 2 (p - 0 + 1 + (L.length - p)) ((L.take p ++ (tR rs[j]) :: L.drop p).flatMap cRo)), (3, .box 39 [.fr (intsA ((tR rs[j]).1)), iv ((tR rs[j]).2)])] [(0, iv n), (1, slA 2 cRo rs), (4, .box 1 0), (5, .own 2), (6, iv j), (7, .box 3 0), (8, iv p), (13, bv true), (22, bv false), (37, bv false), (53, bv false)] ?_
 refine t_block ?_
 refine t_then ?_
 refine tri_region ?_
 refine oA (sp_move (.tmp 6) (iv j) rfl) I0 ?_
 refine oC (sp_add (c := ((j + 1 : Nat) : Int)) rfl (w64 (by omega) (by omega) (by omega))) I0 I0 ?_
 refine oA (sp_assign (.tmp 15) (iv (j + 1 : Nat)) rfl) I0 ?_
 refine kN 85 [(1, .box 24 [iv 0, .v (.slice none 0 0)]), (2, .row true 39 2 (p - 0 + 1 + (L.length - p)) ((L.take p ++ (tR rs[j]) :: L.drop p).flatMap cRo)), (3, .box 39 [.fr (intsA ((tR rs[j]).1)), iv ((tR rs[j]).2)])] [(0, iv n), (1, slA 2 cRo rs), (4, .box 1 0), (5, .own 2), (6, iv (j + 1 : Nat)), (7, .box 3 0), (8, iv p), (13, bv true), (22, bv false), (37, bv false), (53, bv false)] ?_
 refine t_then ?_
 refine tri_again ⟨(j + 1, (L.take p ++ (tR rs[j]) :: L.drop p)), by dsimp only; omega, (td_ins hL hs2f hp1 hs4 hs5f), (by rw [lenIns (by omega)]; dsimp only; omega)⟩ (show rs.length - (j + 1) < rs.length - j by omega) ?_
 show Wk _ _ (ofL [(1, .box 24 [iv 0, .v (.slice none 0 0)]), (2, .row true 39 2 ((L.take p ++ (tR rs[j]) :: L.drop p).length) ((L.take p ++ (tR rs[j]) :: L.drop p).flatMap cRo))]) (ofT 85 [(0, iv n), (1, slA 2 cRo rs), (4, .box 1 0), (5, .own 2), (6, iv ((j + 1) : Nat))])
 rw [lenIns (by omega)]
 exact wk_keep _ _ rfl (by kernel_rfl) (by kernel_rfl)
 refine tri_draw [⟨[(.tmp 8, iv p)], [], iv p, .no⟩, ⟨[(.tmp 5, .own 2)], [], .own 2, .no⟩, ⟨[(.tmp 24, .own 2)], [(2, .row true 39 2 L.length (L.flatMap cRo))], iv L.length, .no⟩, ⟨[(.tmp 23, iv p), (.tmp 25, iv L.length)], [], bv false, .no⟩, ⟨[(.tmp 26, bv false)], [], bv false, .no⟩, ⟨[], [], .v undef, .no⟩, ⟨[], [], .v undef, .no⟩, ⟨[], [], .v undef, .no⟩, ⟨[], [], .v undef, .no⟩, ⟨[], [], .v undef, .no⟩, ⟨[], [], .v undef, .no⟩, ⟨[], [], .v undef, .no⟩, ⟨[], [], .v undef, .no⟩, ⟨[], [], .v undef, .no⟩, ⟨[(.tmp 27, bv false), (.tmp 36, .v (.tuple #[])), (.const (.bool false), bv false)], [], bv false, .no⟩] (by kernel_rfl) (by kernel_rfl) ?_
 refine ⟨app_yes rfl (sp_move (.tmp 8) (iv p) rfl) ⟨I0, T0⟩ T0 T0, ?_⟩
 refine ⟨app_yes rfl (sp_move (.tmp 5) (.own 2) rfl) ⟨I0, T0⟩ T0 T0, ?_⟩
 refine ⟨app_yes rfl (sp_lenOwn (.tmp 24) rfl Tryd.underlying22) ⟨I0, T0⟩ ⟨rfl, T0⟩ T0, ?_⟩
 refine ⟨app_yes rfl (sp_lss rfl (dF hs3)) ⟨I0, I0, T0⟩ T0 T0, ?_⟩
 refine ⟨app_yes rfl (sp_move (.tmp 26) (bv false) rfl) ⟨I0, T0⟩ T0 T0, ?_⟩
 refine ⟨app_no rfl, ?_⟩
 refine ⟨app_no rfl, ?_⟩
 refine ⟨app_no rfl, ?_⟩
 refine ⟨app_no rfl, ?_⟩
 refine ⟨app_no rfl, ?_⟩
 refine ⟨app_no rfl, ?_⟩
 refine ⟨app_no rfl, ?_⟩
 refine ⟨app_no rfl, ?_⟩
 refine ⟨app_no rfl, ?_⟩
 refine ⟨app_yes rfl (sp_pick (.tmp 27) (.tmp 36) (.const (.bool false)) false (.v (.tuple #[])) (bv false) rfl) ⟨I0, I0, I0, T0⟩ T0 T0, ?_⟩
 show ETri J w0 _ _ _
 refine kW 85 [(1, .box 24 [iv 0, .v (.slice none 0 0)]), (2, .row true 39 2 L.length (L.flatMap cRo)), (3, .box 39 [.fr (intsA ((tR rs[j]).1)), iv ((tR rs[j]).2)])] [(0, iv n), (1, slA 2 cRo rs), (4, .box 1 0), (5, .own 2), (6, iv j), (7, .box 3 0), (8, iv p), (13, bv true), (22, bv false), (37, bv false)] ?_
 refine t_then ?_
 refine t_condF rfl ?_
 refine tri_exit ?_
 refine t_then_exit ?_
 refine t_then_exit ?_
 refine t_hit ?_
 refine t_then ?_
 refine tri_seq ?_
 refine tri_seq ?_
 refine tri_draw [⟨[(.tmp 8, iv p)], [], iv p, .no⟩, ⟨[(.tmp 5, .own 2)], [], .own 2, .no⟩, ⟨[(.tmp 41, .own 2)], [(2, .row true 39 2 L.length (L.flatMap cRo))], iv L.length, .no⟩, ⟨[(.tmp 40, iv p), (.tmp 42, iv L.length)], [], bv false, .no⟩, ⟨[(.tmp 43, bv false)], [], bv false, .no⟩, ⟨[], [], .v undef, .no⟩, ⟨[], [], .v undef, .no⟩, ⟨[], [], .v undef, .no⟩, ⟨[], [], .v undef, .no⟩, ⟨[], [], .v undef, .no⟩, ⟨[], [], .v undef, .no⟩, ⟨[], [], .v undef, .no⟩, ⟨[], [], .v undef, .no⟩, ⟨[(.tmp 44, bv false), (.tmp 52, .v (.tuple #[])), (.const (.bool false), bv false)], [], bv false, .no⟩] (by kernel_rfl) (by kernel_rfl) ?_
 refine ⟨app_yes rfl (sp_move (.tmp 8) (iv p) rfl) ⟨I0, T0⟩ T0 T0, ?_⟩
 refine ⟨app_yes rfl (sp_move (.tmp 5) (.own 2) rfl) ⟨I0, T0⟩ T0 T0, ?_⟩
 refine ⟨app_yes rfl (sp_lenOwn (.tmp 41) rfl Tryd.underlying22) ⟨I0, T0⟩ ⟨rfl, T0⟩ T0, ?_⟩
 refine ⟨app_yes rfl (sp_lss rfl (dF hs3)) ⟨I0, I0, T0⟩ T0 T0, ?_⟩
 refine ⟨app_yes rfl (sp_move (.tmp 43) (bv false) rfl) ⟨I0, T0⟩ T0 T0, ?_⟩
 refine ⟨app_no rfl, ?_⟩
 refine ⟨app_no rfl, ?_⟩
 refine ⟨app_no rfl, ?_⟩
 refine ⟨app_no rfl, ?_⟩
 refine ⟨app_no rfl, ?_⟩
 refine ⟨app_no rfl, ?_⟩
 refine ⟨app_no rfl, ?_⟩
 refine ⟨app_no rfl, ?_⟩
 refine ⟨app_yes rfl (sp_pick (.tmp 44) (.tmp 52) (.const (.bool false)) false (.v (.tuple #[])) (bv false) rfl) ⟨I0, I0, I0, T0⟩ T0 T0, ?_⟩
 show ETri J w0 _ _ _
 refine kW 85 [(1, .box 24 [iv 0, .v (.slice none 0 0)]), (2, .row true 39 2 L.length (L.flatMap cRo)), (3, .box 39 [.fr (intsA ((tR rs[j]).1)), iv ((tR rs[j]).2)])] [(0, iv n), (1, slA 2 cRo rs), (4, .box 1 0), (5, .own 2), (6, iv j), (7, .box 3 0), (8, iv p), (13, bv true), (22, bv false), (37, bv false), (53, bv false)] ?_
 refine t_then ?_
 refine t_condF rfl ?_
 refine tri_skip ?_
 refine t_then ?_
 refine tri_seq ?_
 refine t_cut (True) (ofL [(1, .box 24 [iv 0, .v (.slice none 0 0)]), (3, .box 39 [.fr (intsA ((tR rs[j]).1)), iv ((tR rs[j]).2)])]) (ofT 85 [(0, iv n), (1, slA 2 cRo rs), (4, .box 1 0), (5, .fr (slA 2 cRo L)), (6, iv j), (7, .box 3 0), (8, iv p), (9, .v (.slice none 0 0)), (13, bv true), (22, bv false), (37, bv false), (53, bv false)]) ?_ (fun _ => ?_)
 refine tri_region ?_
 refine oA (sp_assign (.const (.slice none 0 0)) (.v (.slice none 0 0)) rfl) I0 ?_
 refine kN 85 [(1, .box 24 [iv 0, .v (.slice none 0 0)]), (2, .row true 39 2 L.length (L.flatMap cRo)), (3, .box 39 [.fr (intsA ((tR rs[j]).1)), iv ((tR rs[j]).2)])] [(0, iv n), (1, slA 2 cRo rs), (4, .box 1 0), (5, .own 2), (6, iv j), (7, .box 3 0), (8, iv p), (9, .v (.slice none 0 0)), (13, bv true), (22, bv false), (37, bv false), (53, bv false)] ?_
 exact t_meet T0 (wk_keep _ _ rfl (by kernel_rfl) (by kernel_rfl))
 refine t_then ?_
 refine tri_seq ?_
 refine tri_wk (wk_spread 5 rfl rfl) ?_
 refine tri_region ?_
 refine oA (sp_move (.tmp 9) (.v (.slice none 0 0)) rfl) I0 ?_
 refine oA (sp_move (.tmp 5) (.sl 2 L.length (frs L)) rfl) I0 ?_
 refine oA (sp_move (.tmp 8) (iv p) rfl) I0 ?_
 refine oC (sp_sliceSl (l := 0) (h := p) (ds := (frs (L.take p))) (.tmp 69) none (some (.tmp 70)) rfl Tryd.underlying22 (by kernel_rfl) [] [(.tmp 70, iv p)] (.inl ⟨rfl, rfl, rfl⟩) (.inr ⟨_, _, rfl, rfl⟩) (Nat.zero_le _) (by omega) (frs_take (by omega))) I0 I0 ?_
 refine t_op rfl (sp_appendNil (m := (p - 0)) (ds := (frs (L.take p))) (⟨Tryd.underlying22, by kernel_rfl, by decide⟩ : Elt Tryd.prog 22 39 2 32) (k := 2) true (.tmp 68) (.tmp 71) rfl new_frs (by unfold maxLen; omega) (by omega) cell_frs (es := ((L.take p).flatMap cRo)) unfr_frs) ⟨I0, I0, T0⟩ T0 rfl ?_
 refine oA (sp_assign (.tmp 72) (.own 2) rfl) I0 ?_
 refine kN 85 [(1, .box 24 [iv 0, .v (.slice none 0 0)]), (2, .row true 39 2 (p - 0) ((L.take p).flatMap cRo)), (3, .box 39 [.fr (intsA ((tR rs[j]).1)), iv ((tR rs[j]).2)])] [(0, iv n), (1, slA 2 cRo rs), (4, .box 1 0), (5, .sl 2 L.length (frs L)), (6, iv j), (7, .box 3 0), (8, iv p), (9, .own 2), (13, bv true), (22, bv false), (37, bv false), (53, bv false)] ?_
 refine t_then ?_
 refine tri_seq ?_
 refine tri_region ?_
 refine oA (sp_move (.tmp 9) (.own 2) rfl) I0 ?_
 refine oB (sp_loadBoxS (Y := .box 39 [.fr (intsA ((tR rs[j]).1)), iv ((tR rs[j]).2)]) (ds := [.fr (intsA ((tR rs[j]).1)), iv ((tR rs[j]).2)]) (z := 2) (.tmp 7) rfl Tryd.underlying39 rfl (by kernel_rfl) (by decide) (by kernel_rfl) (by kernel_rfl)) I0 rfl ?_
 refine t_op rfl (sp_build (z := 2) (k := 4) (fr := false) (cs := [.fr (intsA ((tR rs[j]).1)), iv ((tR rs[j]).2)]) [.tmp 74] [.agg [.fr (intsA ((tR rs[j]).1)), iv ((tR rs[j]).2)]] rfl Tryd.underlying22 (by kernel_rfl) (by decide) (by decide) rfl rfl rfl (by kernel_rfl) (by decide) (fun h => Bool.noConfusion h) (by kernel_rfl)) ⟨I0, T0⟩ T0 rfl ?_
 refine t_op rfl (sp_appendOwn (n := (p - 0)) (cs := ((L.take p).flatMap cRo)) (fr := true) (m := 1) (ds := [.fr (intsA ((tR rs[j]).1)), iv ((tR rs[j]).2)]) (⟨Tryd.underlying22, by kernel_rfl, by decide⟩ : Elt Tryd.prog 22 39 2 32) (.tmp 73) (.tmp 75) rfl (fun _ => newRo (tR rs[j])) (by unfold maxLen; omega) (by omega) (cellRo (tR rs[j])) (es := ((L.take p ++ [(tR rs[j])]).flatMap cRo)) snocRw) ⟨I0, I0, T0⟩ ⟨rfl, rfl, T0⟩ rfl ?_
 refine oA (sp_assign (.tmp 76) (.own 2) rfl) I0 ?_
 refine kN 85 [(1, .box 24 [iv 0, .v (.slice none 0 0)]), (2, .row true 39 2 (p - 0 + 1) ((L.take p ++ [(tR rs[j])]).flatMap cRo)), (3, .box 39 [.fr (intsA ((tR rs[j]).1)), iv ((tR rs[j]).2)])] [(0, iv n), (1, slA 2 cRo rs), (4, .box 1 0), (5, .sl 2 L.length (frs L)), (6, iv j), (7, .box 3 0), (8, iv p), (9, .own 2), (13, bv true), (22, bv false), (37, bv false), (53, bv false)] ?_
 refine t_then ?_
 refine tri_region ?_
 refine oA (sp_move (.tmp 9) (.own 2) rfl) I0 ?_
 refine oA (sp_move (.tmp 5) (.sl 2 L.length (frs L)) rfl) I0 ?_
 refine oA (sp_move (.tmp 8) (iv p) rfl) I0 ?_
 refine oC (sp_sliceSl (l := p) (h := L.length) (ds := (frs (L.drop p))) (.tmp 78) (some (.tmp 79)) none rfl Tryd.underlying22 (by kernel_rfl) [(.tmp 79, iv p)] [] (.inr ⟨_, _, rfl, rfl⟩) (.inl ⟨rfl, rfl, rfl⟩) (by omega) (Nat.le_refl _) (frs_drop (by omega))) I0 I0 ?_
 refine t_op rfl (sp_append (n := (p - 0 + 1)) (cs := ((L.take p ++ [(tR rs[j])]).flatMap cRo)) (fr := true) (m := (L.length - p)) (ds := (frs (L.drop p))) (⟨Tryd.underlying22, by kernel_rfl, by decide⟩ : Elt Tryd.prog 22 39 2 32) (.tmp 77) (.tmp 80) rfl (fun _ => newFrs) (by unfold maxLen; omega) (by omega) cell_frs (es := ((L.take p ++ (tR rs[j]) :: L.drop p).flatMap cRo)) ins_end) ⟨I0, I0, T0⟩ ⟨rfl, T0⟩ rfl ?_
 refine oA (sp_assign (.tmp 81) (.own 2) rfl) I0 ?_
 refine kN 85 [(1, .box 24 [iv 0, .v (.slice none 0 0)]), (2, .row true 39 2 (p - 0 + 1 + (L.length - p)) ((L.take p ++ (tR rs[j]) :: L.drop p).flatMap cRo)), (3, .box 39 [.fr (intsA ((tR rs[j]).1)), iv ((tR rs[j]).2)])] [(0, iv n), (1, slA 2 cRo rs), (4, .box 1 0), (5, .own 2), (6, iv j), (7, .box 3 0), (8, iv p), (13, bv true), (22, bv false), (37, bv false), (53, bv false)] ?_
 refine t_block ?_
 refine t_then ?_
 refine tri_region ?_
 refine oA (sp_move (.tmp 6) (iv j) rfl) I0 ?_
 refine oC (sp_add (c := ((j + 1 : Nat) : Int)) rfl (w64 (by omega) (by omega) (by omega))) I0 I0 ?_
 refine oA (sp_assign (.tmp 15) (iv (j + 1 : Nat)) rfl) I0 ?_
 refine kN 85 [(1, .box 24 [iv 0, .v (.slice none 0 0)]), (2, .row true 39 2 (p - 0 + 1 + (L.length - p)) ((L.take p ++ (tR rs[j]) :: L.drop p).flatMap cRo)), (3, .box 39 [.fr (intsA ((tR rs[j]).1)), iv ((tR rs[j]).2)])] [(0, iv n), (1, slA 2 cRo rs), (4, .box 1 0), (5, .own 2), (6, iv (j + 1 : Nat)), (7, .box 3 0), (8, iv p), (13, bv true), (22, bv false), (37, bv false), (53, bv false)] ?_
 refine t_then ?_
 refine tri_again ⟨(j + 1, (L.take p ++ (tR rs[j]) :: L.drop p)), by dsimp only; omega, (td_end hL hs2f hp1 hp0 (by omega)), (by rw [lenIns (by omega)]; dsimp only; omega)⟩ (show rs.length - (j + 1) < rs.length - j by omega) ?_
 show Wk _ _ (ofL [(1, .box 24 [iv 0, .v (.slice none 0 0)]), (2, .row true 39 2 ((L.take p ++ (tR rs[j]) :: L.drop p).length) ((L.take p ++ (tR rs[j]) :: L.drop p).flatMap cRo))]) (ofT 85 [(0, iv n), (1, slA 2 cRo rs), (4, .box 1 0), (5, .own 2), (6, iv ((j + 1) : Nat))])
 rw [lenIns (by omega)]
 exact wk_keep _ _ rfl (by kernel_rfl) (by kernel_rfl)
 refine tri_region ?_
 refine oA (sp_move (.tmp 6) (iv j) rfl) I0 ?_
 refine oA (sp_move (.tmp 1) (slA 2 cRo rs) rfl) I0 ?_
 refine oA (sp_lenSl (.tmp 11) rfl Tryd.underlying22) I0 ?_
 refine oC (sp_lss rfl (dF hs1)) I0 I0 ?_
 refine kN 85 [(1, .box 24 [iv 0, .v (.slice none 0 0)]), (2, .row true 39 2 L.length (L.flatMap cRo))] [(0, iv n), (1, slA 2 cRo rs), (4, .box 1 0), (5, .own 2), (6, iv j), (13, bv false)] ?_
 refine t_then ?_
 refine t_condF rfl ?_
 refine tri_exit ?_
 refine t_then_exit ?_
 refine t_then_exit ?_
 refine t_hit ?_
 refine t_then ?_
 refine tri_seq ?_
 refine tri_region ?_
 refine oA (sp_move (.tmp 0) (iv n) rfl) I0 ?_
 refine oA (sp_move (.tmp 5) (.own 2) rfl) I0 ?_
 refine oC (sp_bldN [0, 1] [.tmp 82, .tmp 83] [iv n, .own 2] [.inr 0, .inr 1] rfl rfl rfl rfl rfl (fun _ => by kernel_rfl) rfl (ds := [iv n, .own 2]) rfl) I0 I0 ?_
 refine t_op rfl (sp_storeBox (T0 := 24) (X := .agg [iv n, .own 2]) (cs := [iv 0, .v (.slice none 0 0)]) (ds := [iv n, .own 2]) (z := 2) (.tmp 4) (.tmp 84) rfl (by kernel_rfl) (by kernel_rfl) (by kernel_rfl) (of_decide_eq_true (by kernel_rfl)) (by kernel_rfl)) ⟨I0, I0, T0⟩ ⟨rfl, T0⟩ rfl ?_
 refine kN 85 [(1, .box 24 [iv n, .own 2]), (2, .row true 39 2 L.length (L.flatMap cRo))] [(4, .box 1 0)] ?_
 refine t_then ?_
 refine tri_ret ?_
 have hk : j = rs.length := by omega
 have hL2 : L = nrm rs := by rw [nrm_tdy, hL, hk, List.take_length]
 subst hL2
 refine tri_give1 2 Tryd.results47 (.cellS rfl rfl Tryd.underlying24 rfl (z := 2) (by kernel_rfl) rfl (by decide)) rfl rfl
end Go.Proofs.YtbbglendddepfaaDoor

namespace Go.Proofs.YtbbglendddepfaaDoor
open Go.RowKit Go.Deep
variable {J : World → Prop}
end Go.Proofs.YtbbglendddepfaaDoor

namespace Go.Proofs.YtbbglendddepfaaDoor
open Go.RowKit Go.Deep

theorem smB_neg {x : Int} (h : smB x = true) : smB (-x) = true := by rw [smB_true] at *; omega
theorem madeCells_int (n : Nat) : madeCells #[Value.int .i64 0] n = ((List.replicate n (0 : Int)).map (Value.int .i64)).toArray := by
  rw [List.map_replicate, List.toArray_replicate]
  apply Array.ext
  · simp [madeCells]
  · intro i h1 h2
    simp [madeCells, Nat.mod_one]
theorem IsInts.nil (lo : Nat) (w : World) : IsInts lo w (.slice none 0 0) [] := ⟨none, 0, rfl, Nat.le_refl _, by unfold maxLen; omega, ⟨by simp, fun _ => rfl⟩, .inl rfl⟩
end Go.Proofs.YtbbglendddepfaaDoor

namespace Go.Proofs.YtbbglendddepfaaDoor
open Go.RowKit Go.Deep

def facB (k : Int) : Bool := decide (0 ≤ k) && decide (k ≤ 65536)
theorem facB_true {k : Int} : facB k = true ↔ 0 ≤ k ∧ k ≤ 65536 := by simp [facB]
def sumL (ka kb : Int) (xs ys : List Int) : List Int := List.zipWith (fun x y => ka * x + kb * y) xs ys
/-- The errno of Combine. -/
def comE (xs : List Int) (c ka : Int) (ys : List Int) (d kb : Int) : Int :=
  if xs.length ≠ ys.length ∨ 96 < xs.length ∨ facB ka = false ∨ facB kb = false then 1 else if smR (xs, c) = false ∨ smR (ys, d) = false then 4 else if smR (sumL ka kb xs ys, ka * c + kb * d) = true then 0 else 4
def comX (xs : List Int) (c ka : Int) (ys : List Int) (d kb : Int) : List Int := if comE xs c ka ys d kb = 0 then sumL ka kb xs ys else []
def comC (xs : List Int) (c ka : Int) (ys : List Int) (d kb : Int) : Int := if comE xs c ka ys d kb = 0 then ka * c + kb * d else 0
theorem mul_fac {k x : Int} (hk : facB k = true) (hx : smB x = true) : -4503599627370496 ≤ k * x ∧ k * x ≤ 4503599627370496 := by
  rw [facB_true] at hk
  rw [smB_true] at hx
  have h1 : k * x ≤ k * 68719476736 := Int.mul_le_mul_of_nonneg_left hx.2 hk.1
  have h2 : k * -68719476736 ≤ k * x := Int.mul_le_mul_of_nonneg_left hx.1 hk.1
  constructor <;> omega

theorem isFactor_any (n : Int) (w : World) :
    Calls Tryd.prog 87 #[.int .i64 n] w fun e w' => e = .returned (.bool (facB n)) ∧ w = w' := by
  have hf : facB n = (decide (0 ≤ n) && decide (n ≤ 65536)) := rfl
  have HF := hid0 hf
  clear hf
  go_enter Tryd.func87, Tryd.ntmps87
  go_wp2_with fail
  all_goals go_ret
  all_goals exact ⟨ret_bool (by rw [HF.out]; simp; omega), rfl⟩

set_option maxHeartbeats 800000 in
theorem Combine_err {lo lo' : Nat} {w : World} {v v' : Value} {xs ys : List Int} (c ka d kb : Int) (h : IsInts lo w v xs) (h' : IsInts lo' w v' ys) (he : xs.length ≠ ys.length ∨ 96 < xs.length ∨ facB ka = false ∨ facB kb = false) :
    Calls Tryd.prog 71 #[.agg #[v, .int .i64 c], .int .i64 ka, .agg #[v', .int .i64 d], .int .i64 kb] w fun e w' => e = .returned (.tuple #[.agg #[.slice none 0 0, .int .i64 0], .int .i64 1]) ∧ Below w.heap.size w w' := by
  obtain ⟨a, cap, rfl, _, hm, _⟩ := h
  obtain ⟨a', cap', rfl, _, hm', _⟩ := h'
  unfold maxLen at hm hm'
  by_cases h1 : xs.length = ys.length
  · by_cases h2 : 96 < xs.length
    · have h2' : (96 : Int) < xs.length := by omega
      go_enter Tryd.func71, Tryd.ntmps71
      go_wp2_with (go_at_call 87; refine (isFactor_any _ _).mono ?_; rintro e w1 ⟨rfl, rfl⟩)
      refine bodyPost_ret (v := .tuple #[.agg #[.slice none 0 0, .int .i64 0], .int .i64 1]) (by simp [results, Tryd.results71, go_sem]) rfl ⟨rfl, by go_grown⟩
    · have h2' : ¬ (96 : Int) < xs.length := by omega
      cases hk : facB ka with
      | false =>
        go_enter Tryd.func71, Tryd.ntmps71
        go_wp2_with (go_at_call 87; refine (isFactor_any _ _).mono ?_; rintro e w1 ⟨rfl, rfl⟩)
        refine bodyPost_ret (v := .tuple #[.agg #[.slice none 0 0, .int .i64 0], .int .i64 1]) (by simp [results, Tryd.results71, go_sem]) rfl ⟨rfl, by go_grown⟩
      | true =>
        have hl : facB kb = false := by
          rcases he with he | he | he | he
          · exact absurd h1 he
          · exact absurd he h2
          · rw [hk] at he; cases he
          · exact he
        go_enter Tryd.func71, Tryd.ntmps71
        go_wp2_with (go_at_call 87; refine (isFactor_any _ _).mono ?_; rintro e w1 ⟨rfl, rfl⟩)
        refine bodyPost_ret (v := .tuple #[.agg #[.slice none 0 0, .int .i64 0], .int .i64 1]) (by simp [results, Tryd.results71, go_sem]) rfl ⟨rfl, by go_grown⟩
  · have h1' : ¬ (xs.length : Int) = ys.length := by omega
    go_enter Tryd.func71, Tryd.ntmps71
    go_wp2_with (go_at_call 87; refine (isFactor_any _ _).mono ?_; rintro e w1 ⟨rfl, rfl⟩)
    refine bodyPost_ret (v := .tuple #[.agg #[.slice none 0 0, .int .i64 0], .int .i64 1]) (by simp [results, Tryd.results71, go_sem]) rfl ⟨rfl, by go_grown⟩

theorem new_frz (w : World) (cs : Array Value) (t : TypeId) (o : Nat) {n : Nat} (h : n = w.heap.size) : (w.alloc (.cells cs t)).frozen? ⟨n, o, none⟩ = false := by subst h; simp
theorem boxes3 {w w2 : World} {c1 c2 c3 : Array Value} {t1 t2 t3 : TypeId} (hb : Below (((w.alloc (.cells c1 t1)).alloc (.cells c2 t2)).alloc (.cells c3 t3)).heap.size (((w.alloc (.cells c1 t1)).alloc (.cells c2 t2)).alloc (.cells c3 t3)) w2) :
    (∀ i, w2.cell? ⟨w.heap.size, i, none⟩ = c1[i]?) ∧ (∀ i, w2.cell? ⟨w.heap.size + 1, i, none⟩ = c2[i]?) ∧ (∀ i, w2.cell? ⟨w.heap.size + 1 + 1, i, none⟩ = c3[i]?) ∧ (∀ i, w2.frozen? ⟨w.heap.size + 1 + 1, i, none⟩ = false) ∧ w.heap.size + 2 < w2.heap.size ∧ Below w.heap.size w w2 := by
  have hs := hb.size
  simp only [World.size_alloc] at hs
  have n2 : w.heap.size + 1 = (w.alloc (.cells c1 t1)).heap.size := by simp
  have n3 : w.heap.size + 1 + 1 = ((w.alloc (.cells c1 t1)).alloc (.cells c2 t2)).heap.size := by simp
  refine ⟨fun i => ?_, fun i => ?_, fun i => ?_, fun i => ?_, by omega, Below.trans (by go_grown) (hb.mono (by go_size))⟩
  · refine (hb.cell (p := ⟨w.heap.size, i, none⟩) (by simp only [World.size_alloc]; omega)).trans ?_
    refine ((allocBelow _ _).cell (p := ⟨w.heap.size, i, none⟩) (by simp only [World.size_alloc]; omega)).trans ?_
    exact ((allocBelow _ _).cell (p := ⟨w.heap.size, i, none⟩) (by simp only [World.size_alloc]; omega)).trans (new_cell _ _ _ i rfl)
  · refine (hb.cell (p := ⟨w.heap.size + 1, i, none⟩) (by simp only [World.size_alloc]; omega)).trans ?_
    exact ((allocBelow _ _).cell (p := ⟨w.heap.size + 1, i, none⟩) (by simp only [World.size_alloc]; omega)).trans (new_cell _ _ _ i n2)
  · exact (hb.cell (p := ⟨w.heap.size + 1 + 1, i, none⟩) (by simp only [World.size_alloc]; omega)).trans (new_cell _ _ _ i n3)
  · refine (hb.frozen (p := ⟨w.heap.size + 1 + 1, i, none⟩) (by simp only [World.size_alloc]; omega)).trans ?_
    exact new_frz _ _ _ i n3

set_option maxHeartbeats 1600000 in
theorem Combine_large {lo lo' : Nat} {w : World} {v v' : Value} {xs ys : List Int} (c ka d kb : Int) (h : IsInts lo w v xs) (h' : IsInts lo' w v' ys) (h1 : xs.length = ys.length) (h2 : ¬ 96 < xs.length) (hka : facB ka = true) (hkb : facB kb = true) (he : smR (xs, c) = false ∨ smR (ys, d) = false) :
    Calls Tryd.prog 71 #[.agg #[v, .int .i64 c], .int .i64 ka, .agg #[v', .int .i64 d], .int .i64 kb] w fun e w' => e = .returned (.tuple #[.agg #[.slice none 0 0, .int .i64 0], .int .i64 4]) ∧ Below w.heap.size w w' := by
  obtain ⟨a, cap, rfl⟩ := h.shape
  obtain ⟨a', cap', rfl⟩ := h'.shape
  obtain ⟨n, hn⟩ : ∃ n, n = xs.length := ⟨_, rfl⟩
  rw [← h1, ← hn] at h'
  rw [← hn] at h
  rw [← h1, ← hn]
  have G0 := hid0 h
  have G1 := hid0 h'
  have h2' : ¬ (96 : Int) < n := by omega
  clear h h' h1 h2 hn
  cases hs : smR (xs, c) with
  | false =>
    clear he
    go_enter Tryd.func71, Tryd.ntmps71
    go_wp2_with (first | (go_at_call 87; refine (isFactor_any _ _).mono ?_; rintro e w1 ⟨rfl, rfl⟩) | (go_at_call 48; refine (small_any c (G0.out.below (by go_grown))).mono ?_; rintro e w2 ⟨rfl, hb2⟩; obtain ⟨f1, f2, f3, f4, l2, hB2⟩ := boxes3 hb2; have y0 : w2.cell? ⟨w.heap.size, 0, none⟩ = some (.slice a n cap) := f1 0; have y1 : w2.cell? ⟨w.heap.size, 1, none⟩ = some (.int .i64 c) := f1 1; have y2 : w2.cell? ⟨w.heap.size + 1, 0, none⟩ = some (.slice a' n cap') := f2 0; have y3 : w2.cell? ⟨w.heap.size + 1, 1, none⟩ = some (.int .i64 d) := f2 1; have y4 : w2.cell? ⟨w.heap.size + 1 + 1, 0, none⟩ = some (.slice none 0 0) := f3 0; have y5 : w2.cell? ⟨w.heap.size + 1 + 1, 1, none⟩ = some (.int .i64 0) := f3 1; clear f1 f2 f3 hb2))
    refine bodyPost_ret (v := .tuple #[.agg #[.slice none 0 0, .int .i64 0], .int .i64 4]) (by simp [results, Tryd.results71, go_sem, y4, y5]) rfl ⟨rfl, (hB2.setCell (by simp; omega) _).setCell (by simp; omega) _⟩
  | true =>
    have hs' : smR (ys, d) = false := by
      rcases he with he | he
      · rw [hs] at he; cases he
      · exact he
    clear he
    go_enter Tryd.func71, Tryd.ntmps71
    go_wp2_with (first | (go_at_call 87; refine (isFactor_any _ _).mono ?_; rintro e w1 ⟨rfl, rfl⟩) | (go_at_call 48; refine (small_any d (G1.out.below hB2)).mono ?_; rintro e w3 ⟨rfl, hb3⟩; have hB3 : Below w.heap.size w w3 := thenBelow hB2 hb3; have z0 := keep1 y0 hb3; have z1 := keep1 y1 hb3; have z2 := keep1 y2 hb3; have z3 := keep1 y3 hb3; have z4 := keep1 y4 hb3; have z5 := keep1 y5 hb3; have z6 : (∀ o, w3.frozen? ⟨w.heap.size + 1 + 1, o, none⟩ = false) := fun o => (hb3.frozen (p := ⟨w.heap.size + 1 + 1, o, none⟩) (by show w.heap.size + 1 + 1 < _; omega)).trans (f4 o); have l3 : w.heap.size + 2 < w3.heap.size := (by have := hb3.size; omega)) | (go_at_call 48; refine (small_any c (G0.out.below (by go_grown))).mono ?_; rintro e w2 ⟨rfl, hb2⟩; obtain ⟨f1, f2, f3, f4, l2, hB2⟩ := boxes3 hb2; have y0 : w2.cell? ⟨w.heap.size, 0, none⟩ = some (.slice a n cap) := f1 0; have y1 : w2.cell? ⟨w.heap.size, 1, none⟩ = some (.int .i64 c) := f1 1; have y2 : w2.cell? ⟨w.heap.size + 1, 0, none⟩ = some (.slice a' n cap') := f2 0; have y3 : w2.cell? ⟨w.heap.size + 1, 1, none⟩ = some (.int .i64 d) := f2 1; have y4 : w2.cell? ⟨w.heap.size + 1 + 1, 0, none⟩ = some (.slice none 0 0) := f3 0; have y5 : w2.cell? ⟨w.heap.size + 1 + 1, 1, none⟩ = some (.int .i64 0) := f3 1; clear f1 f2 f3 hb2))
    refine bodyPost_ret (v := .tuple #[.agg #[.slice none 0 0, .int .i64 0], .int .i64 4]) (by simp [results, Tryd.results71, go_sem, z4, z5]) rfl ⟨rfl, (hB3.setCell (by simp; omega) _).setCell (by simp; omega) _⟩
end Go.Proofs.YtbbglendddepfaaDoor

namespace Go.Proofs.YtbbglendddepfaaDoor
open Go.RowKit Go.Deep

theorem sumL_take (ka kb : Int) : ∀ (xs ys : List Int) (k : Nat) (h : k < xs.length) (h' : k < ys.length), sumL ka kb (xs.take (k + 1)) (ys.take (k + 1)) = sumL ka kb (xs.take k) (ys.take k) ++ [ka * xs[k] + kb * ys[k]]
  | x :: xs, y :: ys, 0, _, _ => by simp [sumL]
  | x :: xs, y :: ys, k + 1, h, h' => by
    have ih := sumL_take ka kb xs ys k (by simpa using h) (by simpa using h')
    simpa [sumL] using ih
def fillS (ka kb : Int) (xs ys : List Int) (k : Nat) : List Int := sumL ka kb (xs.take k) (ys.take k) ++ List.replicate (xs.length - k) 0
theorem fillS_length (ka kb : Int) (xs ys : List Int) (k : Nat) (h : k ≤ xs.length) (e : xs.length = ys.length) : (fillS ka kb xs ys k).length = xs.length := by simp [fillS, sumL]; omega
theorem fillS_set (ka kb : Int) (xs ys : List Int) (k : Nat) (h : k < xs.length) (h' : k < ys.length) : (fillS ka kb xs ys k).set k (ka * xs[k] + kb * ys[k]) = fillS ka kb xs ys (k + 1) := by
  have hl : (sumL ka kb (xs.take k) (ys.take k)).length = k := by simp [sumL]; omega
  simp only [fillS]
  rw [List.set_append_right _ _ (by omega), sumL_take _ _ _ _ _ h h', List.append_assoc]
  have e : k - (sumL ka kb (xs.take k) (ys.take k)).length = 0 := by omega
  rw [e, show xs.length - k = (xs.length - (k + 1)) + 1 by omega, List.replicate_succ]; rfl
theorem fillS_end (ka kb : Int) (xs ys : List Int) (e : xs.length = ys.length) : fillS ka kb xs ys xs.length = sumL ka kb xs ys := by
  have h1 : xs.take xs.length = xs := List.take_length
  have h2 : ys.take xs.length = ys := by rw [e]; exact List.take_length
  simp [fillS, h1, h2]

set_option maxHeartbeats 3200000 in
theorem Combine_full {lo lo' : Nat} {w : World} {xs ys : List Int} {b off cap b' off' cap' n : Nat} (c ka d kb : Int) (hx : xs.length = n) (hy : ys.length = n) (h : IsInts lo w (.slice (some ⟨b, off, none⟩) n cap) xs) (h' : IsInts lo' w (.slice (some ⟨b', off', none⟩) n cap') ys) (hn : n ≤ 96) (hka : facB ka = true) (hkb : facB kb = true)
    (hs : smR (xs, c) = true) (hs' : smR (ys, d) = true) (hb : b < w.heap.size) (hb' : b' < w.heap.size)
    (hc : ∀ i, i < n → w.cell? ⟨b, off + i, none⟩ = some (.int .i64 (xs.getD i 0))) (hc' : ∀ i, i < n → w.cell? ⟨b', off' + i, none⟩ = some (.int .i64 (ys.getD i 0))) :
    Calls Tryd.prog 71 #[.agg #[.slice (some ⟨b, off, none⟩) n cap, .int .i64 c], .int .i64 ka, .agg #[.slice (some ⟨b', off', none⟩) n cap', .int .i64 d], .int .i64 kb] w fun e w' => ∃ v', e = .returned (.tuple #[.agg #[v', .int .i64 (comC xs c ka ys d kb)], .int .i64 (comE xs c ka ys d kb)]) ∧ OwnV w.heap.size w' v' (comX xs c ka ys d kb) ∧ Below w.heap.size w w' := by
  have G0 := hid0 h
  have G1 := hid0 h'
  have HS := hid0 (smR_true.1 hs)
  have HS' := hid0 (smR_true.1 hs')
  have HC := hid0 hc
  have HC' := hid0 hc'
  have HX := hid0 hx
  have HY := hid0 hy
  have hm1 := mul_fac hka (smR_true.1 hs).2
  have hm2 := mul_fac hkb (smR_true.1 hs').2
  have e1 : IntKind.i64.wrap (ka * c) = ka * c := IntWalk.i64_in _ (by omega)
  have e2 : IntKind.i64.wrap (kb * d) = kb * d := IntWalk.i64_in _ (by omega)
  have e3 : IntKind.i64.wrap (ka * c + kb * d) = ka * c + kb * d := IntWalk.i64_in _ (by omega)
  have HE : Hid (comE xs c ka ys d kb = if smR (sumL ka kb xs ys, ka * c + kb * d) = true then 0 else 4) := by
    show _ = _
    unfold comE
    rw [if_neg (by rw [hka, hkb, hx, hy]; simp; omega), if_neg (by rw [hs, hs']; simp)]
  have HK := hid0 (And.intro hka hkb)
  have h2' : ¬ (96 : Int) < n := by omega
  have hmk := run_make_row' (P := Tryd.prog) 25 3 (.int .i64 0) 8 Tryd.underlying25 info_int rfl .i64 .i64 n (by omega) (by omega)
  have hM := hid0 (And.intro hm1 hm2)
  clear h h' hc hc' hx hy hm1 hm2
  go_enter Tryd.func71, Tryd.ntmps71
  go_wp2_with (first | (go_at_call 87; refine (isFactor_any _ _).mono ?_; rintro e w1 ⟨rfl, rfl⟩) | (go_at_call 48; refine (small_any d (G1.out.below hB2)).mono ?_; rintro e w3 ⟨rfl, hb3⟩; have hB3 : Below w.heap.size w w3 := thenBelow hB2 hb3; have z0 := keep1 y0 hb3; have z1 := keep1 y1 hb3; have z2 := keep1 y2 hb3; have z3 := keep1 y3 hb3; have z4 := keep1 y4 hb3; have z5 := keep1 y5 hb3; have z6 : (∀ o, w3.frozen? ⟨w.heap.size + 1 + 1, o, none⟩ = false) := fun o => (hb3.frozen (p := ⟨w.heap.size + 1 + 1, o, none⟩) (by show w.heap.size + 1 + 1 < _; omega)).trans (f4 o); have l3 : w.heap.size + 2 < w3.heap.size := (by have := hb3.size; omega)) | (go_at_call 48; refine (small_any c (G0.out.below (by go_grown))).mono ?_; rintro e w2 ⟨rfl, hb2⟩; obtain ⟨f1, f2, f3, f4, l2, hB2⟩ := boxes3 hb2; have y0 : w2.cell? ⟨w.heap.size, 0, none⟩ = some (.slice (some ⟨b, off, none⟩) n cap) := f1 0; have y1 : w2.cell? ⟨w.heap.size, 1, none⟩ = some (.int .i64 c) := f1 1; have y2 : w2.cell? ⟨w.heap.size + 1, 0, none⟩ = some (.slice (some ⟨b', off', none⟩) n cap') := f2 0; have y3 : w2.cell? ⟨w.heap.size + 1, 1, none⟩ = some (.int .i64 d) := f2 1; have y4 : w2.cell? ⟨w.heap.size + 1 + 1, 0, none⟩ = some (.slice none 0 0) := f3 0; have y5 : w2.cell? ⟨w.heap.size + 1 + 1, 1, none⟩ = some (.int .i64 0) := f3 1; clear f1 f2 f3 hb2))
  have l0 : w.heap.size < w3.heap.size := by omega
  have l1 : w.heap.size + 1 < w3.heap.size := by omega
  have l2 : w.heap.size + 1 + 1 < w3.heap.size := by omega
  have HB3 := hid0 hB3
  clear y0 y1 y2 y3 y4 y5 f4 hB2 hB3 hb3
  go_region
  · go_wp2_with fail
    obtain ⟨W, hW⟩ : ∃ W : World, W = ((w3.alloc (.cells (madeCells #[Value.int .i64 0] n) 3)).alloc (.cells #[Value.slice (some ⟨w3.heap.size, 0, none⟩) n n, Value.int .i64 (ka * c + kb * d)] 39)).drew := ⟨_, rfl⟩
    rw [← hW]
    have HO3 : Hid (OwnInts w3.heap.size W (w3.heap.size) (fillS ka kb xs ys 0)) := by
      show OwnInts _ _ _ _
      have hl0 : (fillS ka kb xs ys 0).length = n := by rw [fillS_length _ _ _ _ _ (Nat.zero_le _) (HX.out.trans HY.out.symm)]; exact HX.out
      rw [hW]
      refine ⟨by omega, by rw [hl0]; unfold maxLen; omega, ?_, _, 3, heap_old _ _ (by simp) |>.trans (heap_new _ _ (by simp)), fun i hi => ?_⟩
      · intro x hx; simp [fillS, sumL] at hx; rw [hx.2]; constructor <;> decide
      · have hi' : i < n := by rw [hl0] at hi; exact hi
        have hi2 : i < xs.length := by rw [HX.out]; exact hi'
        rw [madeCells_int]; simp [fillS, sumL, hi', hi2]
    have HB : Hid (Below w3.heap.size w3 W) := by rw [hW]; show Below _ _ _; go_grown
    have x1 : W.cell? ⟨w3.heap.size + 1, 0, none⟩ = some (.slice (some ⟨w3.heap.size, 0, none⟩) n n) := by rw [hW]; simp
    have x2 : W.cell? ⟨w3.heap.size + 1, 1, none⟩ = some (.int .i64 (ka * c + kb * d)) := by rw [hW]; simp
    have hWs : w3.heap.size + 1 < W.heap.size := by rw [hW]; simp
    clear hW hmk
    have hgn : w3.heap.size ≠ w3.heap.size + 1 := by omega
    have hg2 : w3.heap.size ≤ w3.heap.size := by omega
    go_loopw [62] (fun v wr => ∃ k : Nat, k ≤ n ∧ v = .int .i64 k ∧ OwnInts w3.heap.size wr (w3.heap.size) (fillS ka kb xs ys k) ∧ (∀ b, b ≠ w3.heap.size → wr.heap[b]? = W.heap[b]?) ∧ Below w3.heap.size w3 wr) (fun v _ => n - (intOf v).toNat)
    case atStart => exact ⟨0, Nat.zero_le _, rfl, HO3.out, fun _ _ => rfl, HB.out⟩
    case round =>
      obtain ⟨k, hk, rfl, hO, hBut, hB⟩ := hrel
      have HOk := hid0 hO
      have HBut := hid0 hBut
      have HBr := hid0 hB
      have HB0 := hid0 (thenBelow HB3.out hB)
      obtain ⟨c1, c2⟩ := but_cell hBut
      have u0 := keep1 z0 hB
      have u1 := keep1 z2 hB
      have u2 : wr.cell? ⟨w3.heap.size + 1, 0, none⟩ = some (.slice (some ⟨w3.heap.size, 0, none⟩) n n) := (c1 _ _ (by omega)).trans x1
      have u3 : wr.cell? ⟨w3.heap.size + 1, 1, none⟩ = some (.int .i64 (ka * c + kb * d)) := (c1 _ _ (by omega)).trans x2
      by_cases h1 : k < n
      · have hkx : k < xs.length := by rw [HX.out]; exact h1
        have hky : k < ys.length := by rw [HY.out]; exact h1
        have g1 : wr.cell? ⟨b, off + k, none⟩ = some (.int .i64 (xs[k]'hkx)) := by
          have := (HB0.out.cell (p := ⟨b, off + k, none⟩) hb).trans (HC.out k h1); simpa [List.getD, hkx] using this
        have g1' : wr.cell? ⟨b', off' + k, none⟩ = some (.int .i64 (ys[k]'hky)) := by
          have := (HB0.out.cell (p := ⟨b', off' + k, none⟩) hb').trans (HC'.out k h1); simpa [List.getD, hky] using this
        obtain ⟨u, g2⟩ : ∃ u, wr.cell? ⟨w3.heap.size, k, none⟩ = some u := ⟨_, hO.cell k (by rw [fillS_length _ _ _ _ _ (by omega) (HX.out.trans HY.out.symm)]; exact hkx)⟩
        have g3 : wr.frozen? ⟨w3.heap.size, k, none⟩ = false := hO.frozen k
        have m1 := mul_fac HK.out.1 (List.all_eq_true.1 HS.out.1 _ (List.getElem_mem hkx))
        have m2 := mul_fac HK.out.2 (List.all_eq_true.1 HS'.out.1 _ (List.getElem_mem hky))
        have ew1 : IntKind.i64.wrap (ka * xs[k]'hkx) = ka * xs[k]'hkx := IntWalk.i64_in _ (by omega)
        have ew2 : IntKind.i64.wrap (kb * ys[k]'hky) = kb * ys[k]'hky := IntWalk.i64_in _ (by omega)
        have ew3 : IntKind.i64.wrap (ka * xs[k]'hkx + kb * ys[k]'hky) = ka * xs[k]'hkx + kb * ys[k]'hky := IntWalk.i64_in _ (by omega)
        have Hm := hid0 (And.intro m1 m2)
        clear m1 m2 hO hBut hB c1 c2 x1 x2 z0 z1 z2 z3 z4 z5 z6 e1 e2 e3
        go_wp2
        go_region
        go_wp2
        go_roundw
        case rel =>
          refine ⟨k + 1, by omega, by go_num, ?_, fun b hb => (Below.heap_setCell _ _ _ _ hb).trans (HBut.out b hb), (HBr.out.setCell hg2 _).drew⟩
          rw [← fillS_set _ _ _ _ _ hkx hky]
          refine HOk.out.set k _ ?_
          have := Hm.out
          constructor <;> omega
        case measure => simp [intOf]; omega
      · obtain rfl : k = n := by omega
        have hO := HOk.out
        rw [← HX.out, fillS_end _ _ _ _ (HX.out.trans HY.out.symm)] at hO
        have HOr := hid0 hO
        have hlen : (sumL ka kb xs ys).length = k := by rw [← fillS_end ka kb xs ys (HX.out.trans HY.out.symm), fillS_length _ _ _ _ _ (Nat.le_refl _) (HX.out.trans HY.out.symm)]; exact HX.out
        have v2 := keep1 z4 hB
        have v3 := keep1 z5 hB
        have v4 : ∀ o, wr.frozen? ⟨w.heap.size + 1 + 1, o, none⟩ = false := fun o => (hB.frozen (p := ⟨w.heap.size + 1 + 1, o, none⟩) l2).trans (z6 o)
        have l1 : w.heap.size + 1 + 1 < wr.heap.size := cell_lt v2
        have ln := cell_lt u2
        have HI : Hid (IsInts w3.heap.size wr (.slice (some ⟨w3.heap.size, 0, none⟩) k k) (sumL ka kb xs ys)) := by show IsInts _ _ _ _; have := HOr.out.ints; rw [hlen] at this; exact this
        have HL := hid0 hlen
        clear hO hBut hB c1 c2 x1 x2 h1 hk z0 z1 z2 z3 z4 z5 z6 hlen
        cases hsm : smR (sumL ka kb xs ys, ka * c + kb * d) with
        | true =>
          have E := hid0 (show comE xs c ka ys d kb = 0 by rw [HE.out, if_pos hsm])
          go_wp2_with (go_at_call 48; refine (small_any (ka * c + kb * d) HI.out).mono ?_; rintro e w4 ⟨rfl, hb4⟩; have t1 := keep1 u2 hb4; have t2 := keep1 u3 hb4; have t3 := keep1 v2 hb4; have t4 := keep1 v3 hb4; have t5 : (∀ o, w4.frozen? ⟨w.heap.size + 1 + 1, o, none⟩ = false) := fun o => (hb4.frozen (p := ⟨w.heap.size + 1 + 1, o, none⟩) l1).trans (v4 o))
          have HB4 := hid0 (thenBelow HB0.out hb4)
          refine bodyPost_ret (v := .tuple #[.agg #[.slice (some ⟨w3.heap.size, 0, none⟩) k k, .int .i64 (ka * c + kb * d)], .int .i64 0]) (by simp [results, Tryd.results71, go_sem, t3, t4]) rfl ⟨_, by rw [show comC xs c ka ys d kb = ka * c + kb * d by unfold comC; rw [if_pos E.out], E.out], ?_, (HB4.out.setCell (by simp; omega) _).setCell (by simp; omega) _⟩
          rw [show comX xs c ka ys d kb = sumL ka kb xs ys by unfold comX; rw [if_pos E.out]]
          have hO3 := ((HOr.out.below hb4).setOther ⟨w.heap.size + 1 + 1, 0, none⟩ (.slice (some ⟨w3.heap.size, 0, none⟩) k k) (by simp; omega)).setOther ⟨w.heap.size + 1 + 1, 1, none⟩ (.int .i64 (ka * c + kb * d)) (by simp; omega)
          exact .inr ⟨w3.heap.size, k, by rw [HL.out], by rw [HL.out]; exact Nat.le_refl _, by unfold maxLen; omega, hO3.mono (lo' := w.heap.size) (by omega)⟩
        | false =>
          have E := hid0 (show comE xs c ka ys d kb = 4 by rw [HE.out, hsm]; rfl)
          go_wp2_with (go_at_call 48; refine (small_any (ka * c + kb * d) HI.out).mono ?_; rintro e w4 ⟨rfl, hb4⟩; have t1 := keep1 u2 hb4; have t2 := keep1 u3 hb4; have t3 := keep1 v2 hb4; have t4 := keep1 v3 hb4; have t5 : (∀ o, w4.frozen? ⟨w.heap.size + 1 + 1, o, none⟩ = false) := fun o => (hb4.frozen (p := ⟨w.heap.size + 1 + 1, o, none⟩) l1).trans (v4 o))
          have HB4 := hid0 (thenBelow HB0.out hb4)
          refine bodyPost_ret (v := .tuple #[.agg #[.slice none 0 0, .int .i64 0], .int .i64 4]) (by simp [results, Tryd.results71, go_sem, t3, t4]) rfl ⟨_, by rw [show comC xs c ka ys d kb = 0 by unfold comC; rw [E.out]; rfl, E.out], ?_, (HB4.out.setCell (by simp; omega) _).setCell (by simp; omega) _⟩
          rw [show comX xs c ka ys d kb = [] by unfold comX; rw [E.out]; rfl]
          exact .inl ⟨rfl, rfl⟩
  · go_wp2_with fail
    obtain ⟨W, hW⟩ : ∃ W : World, W = ((w3.alloc (.cells #[Value.slice (some ⟨w3.heap.size + 1, 0, none⟩) n n, Value.int .i64 (ka * c + kb * d)] 39)).alloc (.cells (madeCells #[Value.int .i64 0] n) 3)).drew := ⟨_, rfl⟩
    rw [← hW]
    have HO3 : Hid (OwnInts w3.heap.size W (w3.heap.size + 1) (fillS ka kb xs ys 0)) := by
      show OwnInts _ _ _ _
      have hl0 : (fillS ka kb xs ys 0).length = n := by rw [fillS_length _ _ _ _ _ (Nat.zero_le _) (HX.out.trans HY.out.symm)]; exact HX.out
      rw [hW]
      refine ⟨by omega, by rw [hl0]; unfold maxLen; omega, ?_, _, 3, heap_new _ _ (by simp), fun i hi => ?_⟩
      · intro x hx; simp [fillS, sumL] at hx; rw [hx.2]; constructor <;> decide
      · have hi' : i < n := by rw [hl0] at hi; exact hi
        have hi2 : i < xs.length := by rw [HX.out]; exact hi'
        rw [madeCells_int]; simp [fillS, sumL, hi', hi2]
    have HB : Hid (Below w3.heap.size w3 W) := by rw [hW]; show Below _ _ _; go_grown
    have x1 : W.cell? ⟨w3.heap.size, 0, none⟩ = some (.slice (some ⟨w3.heap.size + 1, 0, none⟩) n n) := by rw [hW]; simp
    have x2 : W.cell? ⟨w3.heap.size, 1, none⟩ = some (.int .i64 (ka * c + kb * d)) := by rw [hW]; simp
    have hWs : w3.heap.size + 1 < W.heap.size := by rw [hW]; simp
    clear hW hmk
    have hgn : w3.heap.size + 1 ≠ w3.heap.size := by omega
    have hg2 : w3.heap.size ≤ w3.heap.size + 1 := by omega
    go_loopw [62] (fun v wr => ∃ k : Nat, k ≤ n ∧ v = .int .i64 k ∧ OwnInts w3.heap.size wr (w3.heap.size + 1) (fillS ka kb xs ys k) ∧ (∀ b, b ≠ w3.heap.size + 1 → wr.heap[b]? = W.heap[b]?) ∧ Below w3.heap.size w3 wr) (fun v _ => n - (intOf v).toNat)
    case atStart => exact ⟨0, Nat.zero_le _, rfl, HO3.out, fun _ _ => rfl, HB.out⟩
    case round =>
      obtain ⟨k, hk, rfl, hO, hBut, hB⟩ := hrel
      have HOk := hid0 hO
      have HBut := hid0 hBut
      have HBr := hid0 hB
      have HB0 := hid0 (thenBelow HB3.out hB)
      obtain ⟨c1, c2⟩ := but_cell hBut
      have u0 := keep1 z0 hB
      have u1 := keep1 z2 hB
      have u2 : wr.cell? ⟨w3.heap.size, 0, none⟩ = some (.slice (some ⟨w3.heap.size + 1, 0, none⟩) n n) := (c1 _ _ (by omega)).trans x1
      have u3 : wr.cell? ⟨w3.heap.size, 1, none⟩ = some (.int .i64 (ka * c + kb * d)) := (c1 _ _ (by omega)).trans x2
      by_cases h1 : k < n
      · have hkx : k < xs.length := by rw [HX.out]; exact h1
        have hky : k < ys.length := by rw [HY.out]; exact h1
        have g1 : wr.cell? ⟨b, off + k, none⟩ = some (.int .i64 (xs[k]'hkx)) := by
          have := (HB0.out.cell (p := ⟨b, off + k, none⟩) hb).trans (HC.out k h1); simpa [List.getD, hkx] using this
        have g1' : wr.cell? ⟨b', off' + k, none⟩ = some (.int .i64 (ys[k]'hky)) := by
          have := (HB0.out.cell (p := ⟨b', off' + k, none⟩) hb').trans (HC'.out k h1); simpa [List.getD, hky] using this
        obtain ⟨u, g2⟩ : ∃ u, wr.cell? ⟨w3.heap.size + 1, k, none⟩ = some u := ⟨_, hO.cell k (by rw [fillS_length _ _ _ _ _ (by omega) (HX.out.trans HY.out.symm)]; exact hkx)⟩
        have g3 : wr.frozen? ⟨w3.heap.size + 1, k, none⟩ = false := hO.frozen k
        have m1 := mul_fac HK.out.1 (List.all_eq_true.1 HS.out.1 _ (List.getElem_mem hkx))
        have m2 := mul_fac HK.out.2 (List.all_eq_true.1 HS'.out.1 _ (List.getElem_mem hky))
        have ew1 : IntKind.i64.wrap (ka * xs[k]'hkx) = ka * xs[k]'hkx := IntWalk.i64_in _ (by omega)
        have ew2 : IntKind.i64.wrap (kb * ys[k]'hky) = kb * ys[k]'hky := IntWalk.i64_in _ (by omega)
        have ew3 : IntKind.i64.wrap (ka * xs[k]'hkx + kb * ys[k]'hky) = ka * xs[k]'hkx + kb * ys[k]'hky := IntWalk.i64_in _ (by omega)
        have Hm := hid0 (And.intro m1 m2)
        clear m1 m2 hO hBut hB c1 c2 x1 x2 z0 z1 z2 z3 z4 z5 z6 e1 e2 e3
        go_wp2
        go_region
        go_wp2
        go_roundw
        case rel =>
          refine ⟨k + 1, by omega, by go_num, ?_, fun b hb => (Below.heap_setCell _ _ _ _ hb).trans (HBut.out b hb), (HBr.out.setCell hg2 _).drew⟩
          rw [← fillS_set _ _ _ _ _ hkx hky]
          refine HOk.out.set k _ ?_
          have := Hm.out
          constructor <;> omega
        case measure => simp [intOf]; omega
      · obtain rfl : k = n := by omega
        have hO := HOk.out
        rw [← HX.out, fillS_end _ _ _ _ (HX.out.trans HY.out.symm)] at hO
        have HOr := hid0 hO
        have hlen : (sumL ka kb xs ys).length = k := by rw [← fillS_end ka kb xs ys (HX.out.trans HY.out.symm), fillS_length _ _ _ _ _ (Nat.le_refl _) (HX.out.trans HY.out.symm)]; exact HX.out
        have v2 := keep1 z4 hB
        have v3 := keep1 z5 hB
        have v4 : ∀ o, wr.frozen? ⟨w.heap.size + 1 + 1, o, none⟩ = false := fun o => (hB.frozen (p := ⟨w.heap.size + 1 + 1, o, none⟩) l2).trans (z6 o)
        have l1 : w.heap.size + 1 + 1 < wr.heap.size := cell_lt v2
        have ln := cell_lt u2
        have HI : Hid (IsInts w3.heap.size wr (.slice (some ⟨w3.heap.size + 1, 0, none⟩) k k) (sumL ka kb xs ys)) := by show IsInts _ _ _ _; have := HOr.out.ints; rw [hlen] at this; exact this
        have HL := hid0 hlen
        clear hO hBut hB c1 c2 x1 x2 h1 hk z0 z1 z2 z3 z4 z5 z6 hlen
        cases hsm : smR (sumL ka kb xs ys, ka * c + kb * d) with
        | true =>
          have E := hid0 (show comE xs c ka ys d kb = 0 by rw [HE.out, if_pos hsm])
          go_wp2_with (go_at_call 48; refine (small_any (ka * c + kb * d) HI.out).mono ?_; rintro e w4 ⟨rfl, hb4⟩; have t1 := keep1 u2 hb4; have t2 := keep1 u3 hb4; have t3 := keep1 v2 hb4; have t4 := keep1 v3 hb4; have t5 : (∀ o, w4.frozen? ⟨w.heap.size + 1 + 1, o, none⟩ = false) := fun o => (hb4.frozen (p := ⟨w.heap.size + 1 + 1, o, none⟩) l1).trans (v4 o))
          have HB4 := hid0 (thenBelow HB0.out hb4)
          refine bodyPost_ret (v := .tuple #[.agg #[.slice (some ⟨w3.heap.size + 1, 0, none⟩) k k, .int .i64 (ka * c + kb * d)], .int .i64 0]) (by simp [results, Tryd.results71, go_sem, t3, t4]) rfl ⟨_, by rw [show comC xs c ka ys d kb = ka * c + kb * d by unfold comC; rw [if_pos E.out], E.out], ?_, (HB4.out.setCell (by simp; omega) _).setCell (by simp; omega) _⟩
          rw [show comX xs c ka ys d kb = sumL ka kb xs ys by unfold comX; rw [if_pos E.out]]
          have hO3 := ((HOr.out.below hb4).setOther ⟨w.heap.size + 1 + 1, 0, none⟩ (.slice (some ⟨w3.heap.size + 1, 0, none⟩) k k) (by simp; omega)).setOther ⟨w.heap.size + 1 + 1, 1, none⟩ (.int .i64 (ka * c + kb * d)) (by simp; omega)
          exact .inr ⟨w3.heap.size + 1, k, by rw [HL.out], by rw [HL.out]; exact Nat.le_refl _, by unfold maxLen; omega, hO3.mono (lo' := w.heap.size) (by omega)⟩
        | false =>
          have E := hid0 (show comE xs c ka ys d kb = 4 by rw [HE.out, hsm]; rfl)
          go_wp2_with (go_at_call 48; refine (small_any (ka * c + kb * d) HI.out).mono ?_; rintro e w4 ⟨rfl, hb4⟩; have t1 := keep1 u2 hb4; have t2 := keep1 u3 hb4; have t3 := keep1 v2 hb4; have t4 := keep1 v3 hb4; have t5 : (∀ o, w4.frozen? ⟨w.heap.size + 1 + 1, o, none⟩ = false) := fun o => (hb4.frozen (p := ⟨w.heap.size + 1 + 1, o, none⟩) l1).trans (v4 o))
          have HB4 := hid0 (thenBelow HB0.out hb4)
          refine bodyPost_ret (v := .tuple #[.agg #[.slice none 0 0, .int .i64 0], .int .i64 4]) (by simp [results, Tryd.results71, go_sem, t3, t4]) rfl ⟨_, by rw [show comC xs c ka ys d kb = 0 by unfold comC; rw [E.out]; rfl, E.out], ?_, (HB4.out.setCell (by simp; omega) _).setCell (by simp; omega) _⟩
          rw [show comX xs c ka ys d kb = [] by unfold comX; rw [E.out]; rfl]
          exact .inl ⟨rfl, rfl⟩
end Go.Proofs.YtbbglendddepfaaDoor

namespace Go.Proofs.YtbbglendddepfaaDoor
open Go.RowKit Go.Deep

theorem IsInts.zero (lo : Nat) (w : World) (g : Nat) : IsInts lo w (.slice (some ⟨g, 0, none⟩) 0 0) [] := ⟨some ⟨g, 0, none⟩, 0, rfl, Nat.le_refl _, by unfold maxLen; omega, ⟨by simp, fun e => by cases e⟩, .inl rfl⟩
set_option maxHeartbeats 3200000 in
theorem Combine_empty {lo lo' : Nat} {w : World} {a a' : Option Addr} {cap cap' : Nat} (c ka d kb : Int) (h : IsInts lo w (.slice a 0 cap) []) (h' : IsInts lo' w (.slice a' 0 cap') []) (hka : facB ka = true) (hkb : facB kb = true)
    (hs : smR ([], c) = true) (hs' : smR ([], d) = true) :
    Calls Tryd.prog 71 #[.agg #[.slice a 0 cap, .int .i64 c], .int .i64 ka, .agg #[.slice a' 0 cap', .int .i64 d], .int .i64 kb] w fun e w' => ∃ v', e = .returned (.tuple #[.agg #[v', .int .i64 (comC [] c ka [] d kb)], .int .i64 (comE [] c ka [] d kb)]) ∧ OwnV w.heap.size w' v' (comX [] c ka [] d kb) ∧ Below w.heap.size w w' := by
  have G0 := hid0 h
  have G1 := hid0 h'
  have HS := hid0 (smR_true.1 hs)
  have HS' := hid0 (smR_true.1 hs')
  have hm1 := mul_fac hka (smR_true.1 hs).2
  have hm2 := mul_fac hkb (smR_true.1 hs').2
  have e1 : IntKind.i64.wrap (ka * c) = ka * c := IntWalk.i64_in _ (by omega)
  have e2 : IntKind.i64.wrap (kb * d) = kb * d := IntWalk.i64_in _ (by omega)
  have e3 : IntKind.i64.wrap (ka * c + kb * d) = ka * c + kb * d := IntWalk.i64_in _ (by omega)
  have HE : Hid (comE [] c ka [] d kb = if smR ([], ka * c + kb * d) = true then 0 else 4) := by
    show _ = _
    unfold comE
    rw [if_neg (by rw [hka, hkb]; simp), if_neg (by rw [hs, hs']; simp)]; rfl
  have HK := hid0 (And.intro hka hkb)
  have hmk := run_make_row' (P := Tryd.prog) 25 3 (.int .i64 0) 8 Tryd.underlying25 info_int rfl .i64 .i64 0 (by omega) (by omega)
  have hM := hid0 (And.intro hm1 hm2)
  clear h h' hm1 hm2
  rw [show (((0 : Nat) : Int)) = 0 from rfl] at hmk
  go_enter Tryd.func71, Tryd.ntmps71
  go_wp2_with (first | (go_at_call 87; refine (isFactor_any _ _).mono ?_; rintro e w1 ⟨rfl, rfl⟩) | (go_at_call 48; refine (small_any d (G1.out.below hB2)).mono ?_; rintro e w3 ⟨rfl, hb3⟩; have hB3 : Below w.heap.size w w3 := thenBelow hB2 hb3; have z0 := keep1 y0 hb3; have z1 := keep1 y1 hb3; have z2 := keep1 y2 hb3; have z3 := keep1 y3 hb3; have z4 := keep1 y4 hb3; have z5 := keep1 y5 hb3; have z6 : (∀ o, w3.frozen? ⟨w.heap.size + 1 + 1, o, none⟩ = false) := fun o => (hb3.frozen (p := ⟨w.heap.size + 1 + 1, o, none⟩) (by show w.heap.size + 1 + 1 < _; omega)).trans (f4 o); have l3 : w.heap.size + 2 < w3.heap.size := (by have := hb3.size; omega)) | (go_at_call 48; refine (small_any c (G0.out.below (by go_grown))).mono ?_; rintro e w2 ⟨rfl, hb2⟩; obtain ⟨f1, f2, f3, f4, l2, hB2⟩ := boxes3 hb2; have y0 : w2.cell? ⟨w.heap.size, 0, none⟩ = some (.slice a 0 cap) := f1 0; have y1 : w2.cell? ⟨w.heap.size, 1, none⟩ = some (.int .i64 c) := f1 1; have y2 : w2.cell? ⟨w.heap.size + 1, 0, none⟩ = some (.slice a' 0 cap') := f2 0; have y3 : w2.cell? ⟨w.heap.size + 1, 1, none⟩ = some (.int .i64 d) := f2 1; have y4 : w2.cell? ⟨w.heap.size + 1 + 1, 0, none⟩ = some (.slice none 0 0) := f3 0; have y5 : w2.cell? ⟨w.heap.size + 1 + 1, 1, none⟩ = some (.int .i64 0) := f3 1; clear f1 f2 f3 hb2))
  have l0 : w.heap.size < w3.heap.size := by omega
  have l1 : w.heap.size + 1 < w3.heap.size := by omega
  have l2 : w.heap.size + 1 + 1 < w3.heap.size := by omega
  have HB3 := hid0 hB3
  clear y0 y1 y2 y3 y4 y5 f4 hB2 hB3 hb3
  go_region
  · go_wp2_with fail
    obtain ⟨W, hW⟩ : ∃ W : World, W = ((w3.alloc (.cells (madeCells #[Value.int .i64 0] 0) 3)).alloc (.cells #[Value.slice (some ⟨w3.heap.size, 0, none⟩) 0 0, Value.int .i64 (ka * c + kb * d)] 39)).drew := ⟨_, rfl⟩
    rw [← hW]
    have HO3 : Hid (OwnInts w3.heap.size W (w3.heap.size) []) := by
      show OwnInts _ _ _ _
      rw [hW]
      exact ⟨by omega, by simp [maxLen], by simp, _, 3, (heap_old _ _ (by simp)).trans (heap_new _ _ (by simp)), fun i hi => absurd hi (by simp)⟩
    have HB : Hid (Below w3.heap.size w3 W) := by rw [hW]; show Below _ _ _; go_grown
    have x1 : W.cell? ⟨w3.heap.size + 1, 0, none⟩ = some (.slice (some ⟨w3.heap.size, 0, none⟩) 0 0) := by rw [hW]; simp
    have x2 : W.cell? ⟨w3.heap.size + 1, 1, none⟩ = some (.int .i64 (ka * c + kb * d)) := by rw [hW]; simp
    have hWs : w3.heap.size + 1 < W.heap.size := by rw [hW]; simp
    clear hW hmk
    have hgn : w3.heap.size ≠ w3.heap.size + 1 := by omega
    have hg2 : w3.heap.size ≤ w3.heap.size := by omega
    have v2 := keep1 z4 HB.out
    have v3 := keep1 z5 HB.out
    have v4 : ∀ o, W.frozen? ⟨w.heap.size + 1 + 1, o, none⟩ = false := fun o => (HB.out.frozen (p := ⟨w.heap.size + 1 + 1, o, none⟩) l2).trans (z6 o)
    have l1 : w.heap.size + 1 + 1 < W.heap.size := cell_lt v2
    have ln := cell_lt x1
    clear z0 z1 z2 z3 z4 z5 z6
    have HB0 := hid0 (thenBelow HB3.out HB.out)
    cases hsm : smR ([], ka * c + kb * d) with
    | true =>
      have E := hid0 (show comE [] c ka [] d kb = 0 by rw [HE.out, if_pos hsm])
      refine wp_loop_rounds 1 ?_
      rw [rounds_succ]
      go_wp2_with (go_at_call 48; refine (small_any (ka * c + kb * d) (IsInts.zero 0 _ _)).mono ?_; rintro e w4 ⟨rfl, hb4⟩; have t1 := keep1 x1 hb4; have t2 := keep1 x2 hb4; have t3 := keep1 v2 hb4; have t4 := keep1 v3 hb4; have t5 : (∀ o, w4.frozen? ⟨w.heap.size + 1 + 1, o, none⟩ = false) := fun o => (hb4.frozen (p := ⟨w.heap.size + 1 + 1, o, none⟩) l1).trans (v4 o))
      have HB4 := hid0 (thenBelow HB0.out hb4)
      refine bodyPost_ret (v := .tuple #[.agg #[.slice (some ⟨w3.heap.size, 0, none⟩) 0 0, .int .i64 (ka * c + kb * d)], .int .i64 0]) (by simp [results, Tryd.results71, go_sem, t3, t4]) rfl ⟨_, by rw [show comC [] c ka [] d kb = ka * c + kb * d by unfold comC; rw [if_pos E.out], E.out], ?_, (HB4.out.setCell (by simp; omega) _).setCell (by simp; omega) _⟩
      rw [show comX [] c ka [] d kb = [] by unfold comX; rw [if_pos E.out]; rfl]
      have hO3 := ((HO3.out.below hb4).setOther ⟨w.heap.size + 1 + 1, 0, none⟩ (.slice (some ⟨w3.heap.size, 0, none⟩) 0 0) (by simp; omega)).setOther ⟨w.heap.size + 1 + 1, 1, none⟩ (.int .i64 (ka * c + kb * d)) (by simp; omega)
      exact .inr ⟨w3.heap.size, 0, rfl, Nat.le_refl _, by unfold maxLen; omega, hO3.mono (lo' := w.heap.size) (by omega)⟩
    | false =>
      have E := hid0 (show comE [] c ka [] d kb = 4 by rw [HE.out, hsm]; rfl)
      refine wp_loop_rounds 1 ?_
      rw [rounds_succ]
      go_wp2_with (go_at_call 48; refine (small_any (ka * c + kb * d) (IsInts.zero 0 _ _)).mono ?_; rintro e w4 ⟨rfl, hb4⟩; have t1 := keep1 x1 hb4; have t2 := keep1 x2 hb4; have t3 := keep1 v2 hb4; have t4 := keep1 v3 hb4; have t5 : (∀ o, w4.frozen? ⟨w.heap.size + 1 + 1, o, none⟩ = false) := fun o => (hb4.frozen (p := ⟨w.heap.size + 1 + 1, o, none⟩) l1).trans (v4 o))
      have HB4 := hid0 (thenBelow HB0.out hb4)
      refine bodyPost_ret (v := .tuple #[.agg #[.slice none 0 0, .int .i64 0], .int .i64 4]) (by simp [results, Tryd.results71, go_sem, t3, t4]) rfl ⟨_, by rw [show comC [] c ka [] d kb = 0 by unfold comC; rw [E.out]; rfl, E.out], ?_, (HB4.out.setCell (by simp; omega) _).setCell (by simp; omega) _⟩
      rw [show comX [] c ka [] d kb = [] by unfold comX; rw [E.out]; rfl]
      exact .inl ⟨rfl, rfl⟩
  · go_wp2_with fail
    obtain ⟨W, hW⟩ : ∃ W : World, W = ((w3.alloc (.cells #[Value.slice (some ⟨w3.heap.size + 1, 0, none⟩) 0 0, Value.int .i64 (ka * c + kb * d)] 39)).alloc (.cells (madeCells #[Value.int .i64 0] 0) 3)).drew := ⟨_, rfl⟩
    rw [← hW]
    have HO3 : Hid (OwnInts w3.heap.size W (w3.heap.size + 1) []) := by
      show OwnInts _ _ _ _
      rw [hW]
      exact ⟨by omega, by simp [maxLen], by simp, _, 3, heap_new _ _ (by simp), fun i hi => absurd hi (by simp)⟩
    have HB : Hid (Below w3.heap.size w3 W) := by rw [hW]; show Below _ _ _; go_grown
    have x1 : W.cell? ⟨w3.heap.size, 0, none⟩ = some (.slice (some ⟨w3.heap.size + 1, 0, none⟩) 0 0) := by rw [hW]; simp
    have x2 : W.cell? ⟨w3.heap.size, 1, none⟩ = some (.int .i64 (ka * c + kb * d)) := by rw [hW]; simp
    have hWs : w3.heap.size + 1 < W.heap.size := by rw [hW]; simp
    clear hW hmk
    have hgn : w3.heap.size + 1 ≠ w3.heap.size := by omega
    have hg2 : w3.heap.size ≤ w3.heap.size + 1 := by omega
    have v2 := keep1 z4 HB.out
    have v3 := keep1 z5 HB.out
    have v4 : ∀ o, W.frozen? ⟨w.heap.size + 1 + 1, o, none⟩ = false := fun o => (HB.out.frozen (p := ⟨w.heap.size + 1 + 1, o, none⟩) l2).trans (z6 o)
    have l1 : w.heap.size + 1 + 1 < W.heap.size := cell_lt v2
    have ln := cell_lt x1
    clear z0 z1 z2 z3 z4 z5 z6
    have HB0 := hid0 (thenBelow HB3.out HB.out)
    cases hsm : smR ([], ka * c + kb * d) with
    | true =>
      have E := hid0 (show comE [] c ka [] d kb = 0 by rw [HE.out, if_pos hsm])
      refine wp_loop_rounds 1 ?_
      rw [rounds_succ]
      go_wp2_with (go_at_call 48; refine (small_any (ka * c + kb * d) (IsInts.zero 0 _ _)).mono ?_; rintro e w4 ⟨rfl, hb4⟩; have t1 := keep1 x1 hb4; have t2 := keep1 x2 hb4; have t3 := keep1 v2 hb4; have t4 := keep1 v3 hb4; have t5 : (∀ o, w4.frozen? ⟨w.heap.size + 1 + 1, o, none⟩ = false) := fun o => (hb4.frozen (p := ⟨w.heap.size + 1 + 1, o, none⟩) l1).trans (v4 o))
      have HB4 := hid0 (thenBelow HB0.out hb4)
      refine bodyPost_ret (v := .tuple #[.agg #[.slice (some ⟨w3.heap.size + 1, 0, none⟩) 0 0, .int .i64 (ka * c + kb * d)], .int .i64 0]) (by simp [results, Tryd.results71, go_sem, t3, t4]) rfl ⟨_, by rw [show comC [] c ka [] d kb = ka * c + kb * d by unfold comC; rw [if_pos E.out], E.out], ?_, (HB4.out.setCell (by simp; omega) _).setCell (by simp; omega) _⟩
      rw [show comX [] c ka [] d kb = [] by unfold comX; rw [if_pos E.out]; rfl]
      have hO3 := ((HO3.out.below hb4).setOther ⟨w.heap.size + 1 + 1, 0, none⟩ (.slice (some ⟨w3.heap.size + 1, 0, none⟩) 0 0) (by simp; omega)).setOther ⟨w.heap.size + 1 + 1, 1, none⟩ (.int .i64 (ka * c + kb * d)) (by simp; omega)
      exact .inr ⟨w3.heap.size + 1, 0, rfl, Nat.le_refl _, by unfold maxLen; omega, hO3.mono (lo' := w.heap.size) (by omega)⟩
    | false =>
      have E := hid0 (show comE [] c ka [] d kb = 4 by rw [HE.out, hsm]; rfl)
      refine wp_loop_rounds 1 ?_
      rw [rounds_succ]
      go_wp2_with (go_at_call 48; refine (small_any (ka * c + kb * d) (IsInts.zero 0 _ _)).mono ?_; rintro e w4 ⟨rfl, hb4⟩; have t1 := keep1 x1 hb4; have t2 := keep1 x2 hb4; have t3 := keep1 v2 hb4; have t4 := keep1 v3 hb4; have t5 : (∀ o, w4.frozen? ⟨w.heap.size + 1 + 1, o, none⟩ = false) := fun o => (hb4.frozen (p := ⟨w.heap.size + 1 + 1, o, none⟩) l1).trans (v4 o))
      have HB4 := hid0 (thenBelow HB0.out hb4)
      refine bodyPost_ret (v := .tuple #[.agg #[.slice none 0 0, .int .i64 0], .int .i64 4]) (by simp [results, Tryd.results71, go_sem, t3, t4]) rfl ⟨_, by rw [show comC [] c ka [] d kb = 0 by unfold comC; rw [E.out]; rfl, E.out], ?_, (HB4.out.setCell (by simp; omega) _).setCell (by simp; omega) _⟩
      rw [show comX [] c ka [] d kb = [] by unfold comX; rw [E.out]; rfl]
      exact .inl ⟨rfl, rfl⟩

theorem Combine_any {lo lo' : Nat} {w : World} {v v' : Value} {xs ys : List Int} (c ka d kb : Int) (h : IsInts lo w v xs) (h' : IsInts lo' w v' ys) :
    Calls Tryd.prog 71 #[.agg #[v, .int .i64 c], .int .i64 ka, .agg #[v', .int .i64 d], .int .i64 kb] w fun e w' => ∃ u, e = .returned (.tuple #[.agg #[u, .int .i64 (comC xs c ka ys d kb)], .int .i64 (comE xs c ka ys d kb)]) ∧ OwnV w.heap.size w' u (comX xs c ka ys d kb) ∧ Below w.heap.size w w' := by
  by_cases he : xs.length ≠ ys.length ∨ 96 < xs.length ∨ facB ka = false ∨ facB kb = false
  · have E : comE xs c ka ys d kb = 1 := by unfold comE; rw [if_pos he]
    refine (Combine_err c ka d kb h h' he).mono ?_
    rintro e w' ⟨rfl, hb⟩
    exact ⟨_, by rw [show comC xs c ka ys d kb = 0 by unfold comC; rw [E]; rfl, E], by rw [show comX xs c ka ys d kb = [] by unfold comX; rw [E]; rfl]; exact .inl ⟨rfl, rfl⟩, hb⟩
  · have h1 : xs.length = ys.length := Decidable.byContradiction fun e => he (.inl e)
    have h2 : ¬ 96 < xs.length := fun e => he (.inr (.inl e))
    have hka : facB ka = true := by cases e : facB ka; · exact absurd (.inr (.inr (.inl e))) he
                                    · rfl
    have hkb : facB kb = true := by cases e : facB kb; · exact absurd (.inr (.inr (.inr e))) he
                                    · rfl
    by_cases hl : smR (xs, c) = false ∨ smR (ys, d) = false
    · have E : comE xs c ka ys d kb = 4 := by unfold comE; rw [if_neg he, if_pos hl]
      refine (Combine_large c ka d kb h h' h1 h2 hka hkb hl).mono ?_
      rintro e w' ⟨rfl, hb⟩
      exact ⟨_, by rw [show comC xs c ka ys d kb = 0 by unfold comC; rw [E]; rfl, E], by rw [show comX xs c ka ys d kb = [] by unfold comX; rw [E]; rfl]; exact .inl ⟨rfl, rfl⟩, hb⟩
    · have hs : smR (xs, c) = true := by cases e : smR (xs, c); · exact absurd (.inl e) hl
                                         · rfl
      have hs' : smR (ys, d) = true := by cases e : smR (ys, d); · exact absurd (.inr e) hl
                                          · rfl
      have H := h
      have H' := h'
      obtain ⟨a, cap, rfl, _, _, _, hc⟩ := h
      obtain ⟨a', cap', rfl, _, _, _, hc'⟩ := h'
      have hnil : ∀ {xs ys : List Int}, xs = [] → ys = [] → IsInts lo w (.slice a xs.length cap) xs → IsInts lo' w (.slice a' ys.length cap') ys → smR (xs, c) = true → smR (ys, d) = true → Calls Tryd.prog 71 #[.agg #[.slice a xs.length cap, .int .i64 c], .int .i64 ka, .agg #[.slice a' ys.length cap', .int .i64 d], .int .i64 kb] w fun e w' => ∃ u, e = .returned (.tuple #[.agg #[u, .int .i64 (comC xs c ka ys d kb)], .int .i64 (comE xs c ka ys d kb)]) ∧ OwnV w.heap.size w' u (comX xs c ka ys d kb) ∧ Below w.heap.size w w' := fun e e' G G' s s' => by
        subst e; subst e'; exact Combine_empty c ka d kb G G' hka hkb s s'
      rcases hc with e | ⟨b, off, rfl, _, hb, hc⟩
      · exact hnil e (List.eq_nil_of_length_eq_zero (by rw [← h1, e]; rfl)) H H' hs hs'
      · rcases hc' with e | ⟨b', off', rfl, _, hb', hc'⟩
        · exact hnil (List.eq_nil_of_length_eq_zero (by rw [h1, e]; rfl)) e H H' hs hs'
        · have G := H'
          rw [← h1] at G ⊢
          exact Combine_full c ka d kb rfl h1.symm H G (by omega) hka hkb hs hs' hb hb' hc (fun i hi => hc' i (by omega))
end Go.Proofs.YtbbglendddepfaaDoor

namespace Go.Proofs.YtbbglendddepfaaDoor
open Go.RowKit Go.Deep

theorem own_shape {w : World} {base : Nat} {e : TypeId} {size : Nat} {v : Value} {n : Nat} {xs : List Value} (h : w.ownsRow base e size v n xs) : ∃ a c, v = .slice a n c := by
  rcases h.2 with ⟨rfl, rfl⟩ | ⟨g, cap, _, rfl, _⟩
  · exact ⟨_, _, rfl⟩
  · exact ⟨_, _, rfl⟩

end Go.Proofs.YtbbglendddepfaaDoor
