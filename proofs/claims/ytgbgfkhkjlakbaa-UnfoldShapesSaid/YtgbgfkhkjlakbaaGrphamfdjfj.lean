import Derived.Test.YtgbgfkhkjlakbaaProg
import Derived.ChangeArms
import Derived.Test.YtgbgfkhkjlakbaaGrpmbogcpka
import Derived.Test.YtgbgfkhkjlakbaaGrppddonpfd
set_option linter.all false
namespace Go.Proofs.Ytgbgfkhkjlakbaa
open Go.RowKit Go.Deep
variable {J : World → Prop}
set_option linter.unusedSimpArgs false in
set_option linter.unusedVariables false in
set_option maxRecDepth 100000 in
set_option maxHeartbeats 6400000 in
theorem shapes_1 : Ctr Try.prog J 34 [iv 1] (slA 1 cLi (Sh.sR 1)) := by
 refine ctr_of_tri Try.func34 rfl (by intro X hX; simp only [List.mem_cons, List.not_mem_nil, or_false] at hX; rcases hX with rfl; exact .v _) (n := 55) rfl (by simp) (fun w0 => ?_)
 refine kW 55 [] [(0, iv 1)] ?_
 refine tri_seq ?_
 refine tri_region ?_
 refine oA (sp_assign (.const (.slice none 0 0)) (.v (.slice none 0 0)) rfl) I0 ?_
 refine kN 55 [] [(0, iv 1), (2, .v (.slice none 0 0))] ?_
 refine t_then ?_
 refine tri_seq ?_
 refine tri_seq ?_
 refine tri_region ?_
 refine oA (sp_move (.tmp 0) (iv 1) rfl) I0 ?_
 refine oC (sp_eql (r := true) rfl (by decide)) I0 I0 ?_
 refine kN 55 [] [(0, iv 1), (2, .v (.slice none 0 0)), (11, bv true)] ?_
 refine t_then ?_
 refine t_condT rfl ?_
 refine tri_seq ?_
 refine tri_region ?_
 refine t_op rfl (sp_build (z := 1) (k := 1) (fr := true) (cs := [iv 0]) [.const (.int .i64 0)] [iv 0] rfl Try.underlying24 (by kernel_rfl) (by decide) (by decide) rfl rfl rfl (by kernel_rfl) (by decide) (fun _ => by simp [AV.cellsOf, AV.isNew, cLn, cTh]) (by kernel_rfl)) ⟨I0, T0⟩ T0 rfl ?_
 refine kW 55 [] [(0, iv 1), (2, .v (.slice none 0 0)), (11, bv true), (12, .fr (.sl 1 1 [iv 0]))] ?_
 refine t_op rfl (sp_build (z := 1) (k := 2) (fr := true) (cs := [.sl 1 1 [iv 0]]) [.tmp 12] [.fr (.sl 1 1 [iv 0])] rfl Try.underlying34 (by kernel_rfl) (by decide) (by decide) rfl rfl rfl (by kernel_rfl) (by decide) (fun _ => by simp [AV.cellsOf, AV.isNew, cLn, cTh]) (by kernel_rfl)) ⟨I0, T0⟩ T0 rfl ?_
 refine oA (sp_assign (.tmp 13) (.own 2) rfl) I0 ?_
 refine kN 55 [(2, .row true 24 1 1 ([.sl 1 1 [iv 0]]))] [(0, iv 1), (2, .own 2)] ?_
 refine t_then ?_
 refine tri_ret ?_
 refine t_then_ret ?_
 refine tri_end1 Try.results34 (.tmp rfl) ?_
 exact rfl
set_option linter.unusedSimpArgs false in
set_option linter.unusedVariables false in
set_option maxRecDepth 100000 in
set_option maxHeartbeats 6400000 in
theorem shapes_n {n : Nat} (ho : n % 2 = 1) (h3 : 3 ≤ n) (h7 : n ≤ 7) (IH : ∀ k : Nat, k < n → k % 2 = 1 → Ctr Try.prog J 34 [iv k] (slA 1 cLi (Sh.sR k))) : Ctr Try.prog J 34 [iv n] (slA 1 cLi (Sh.sR n)) := by
 refine ctr_of_tri Try.func34 rfl (by intro X hX; simp only [List.mem_cons, List.not_mem_nil, or_false] at hX; rcases hX with rfl; exact .v _) (n := 55) rfl (by simp) (fun w0 => ?_)
 refine kW 55 [] [(0, iv n)] ?_
 refine tri_seq ?_
 refine tri_region ?_
 refine oA (sp_assign (.const (.slice none 0 0)) (.v (.slice none 0 0)) rfl) I0 ?_
 refine kN 55 [] [(0, iv n), (2, .v (.slice none 0 0))] ?_
 refine t_then ?_
 refine tri_seq ?_
 refine tri_seq ?_
 refine tri_region ?_
 refine oA (sp_move (.tmp 0) (iv n) rfl) I0 ?_
 refine oC (sp_eql rfl (dF (by omega))) I0 I0 ?_
 refine kN 55 [] [(0, iv n), (2, .v (.slice none 0 0)), (11, bv false)] ?_
 refine t_then ?_
 refine t_condF rfl ?_
 refine tri_skip ?_
 refine t_then ?_
 refine tri_seq ?_
 refine tri_region ?_
 refine oA (sp_assign (.const (.slice none 0 0)) (.v (.slice none 0 0)) rfl) I0 ?_
 refine kN 55 [] [(0, iv n), (2, .v (.slice none 0 0)), (3, .v (.slice none 0 0))] ?_
 refine t_then ?_
 refine tri_seq ?_
 refine tri_seq ?_
 refine tri_region ?_
 refine oA (sp_assign (.const (.int .i64 1)) (iv 1) rfl) I0 ?_
 refine kN 55 [] [(0, iv n), (2, .v (.slice none 0 0)), (3, .v (.slice none 0 0)), (4, iv 1)] ?_
 refine t_then ?_
 refine tri_block ?_
 refine tri_wk (wk_adopt 3 1 true 24 1 rfl rfl rfl) ?_
 refine tri_loop (σ := {q : Nat × List (List Int) // 2 * q.1 + 1 ≤ n ∧ q.2 = Sh.shA n q.1 ∧ q.2.length ≤ 25 * q.1}) (fun s => (ofL [(1, .row true 24 1 s.1.2.length (s.1.2.flatMap cLi))], ofT 55 [(0, iv n), (2, .v (.slice none 0 0)), (3, .own 1), (4, iv (2 * s.1.1 + 1 : Nat))])) (fun s => n - s.1.1) ⟨(0, []), by dsimp only; omega, rfl, by dsimp only [List.length]; omega⟩ (wk_keep _ _ rfl (by kernel_rfl) (by kernel_rfl)) (fun s => ?_)
 obtain ⟨⟨t, L0⟩, ht0, hL0, hL0b⟩ := s
 show ETri J w0 (ofL [(1, .row true 24 1 L0.length (L0.flatMap cLi))]) (ofT 55 [(0, iv n), (2, .v (.slice none 0 0)), (3, .own 1), (4, iv (2 * t + 1 : Nat))]) _
 dsimp only at ht0 hL0 hL0b
 refine tri_seq ?_
 refine tri_seq ?_
 by_cases hs1 : ((2 * t + 1 : Nat) : Int) ≤ ((n : Nat) : Int) - 2
 have ht1 : 2 * t + 3 ≤ n := by omega
 have hAl : (Sh.sR (2 * t + 1)).length ≤ 5 := Sh.sR_len (by omega) (by omega)
 have hBl : (Sh.sR (n - 2 - 2 * t)).length ≤ 5 := Sh.sR_len (by omega) (by omega)
 refine tri_region ?_
 refine oA (sp_move (.tmp 4) (iv (2 * t + 1 : Nat)) rfl) I0 ?_
 refine oA (sp_move (.tmp 0) (iv n) rfl) I0 ?_
 refine oC (sp_sub (c := ((n : Nat) : Int) - 2) rfl (w64 (by omega) (by omega) (by omega))) I0 I0 ?_
 refine oC (sp_leq rfl (dT hs1)) I0 I0 ?_
 refine kN 55 [(1, .row true 24 1 L0.length (L0.flatMap cLi))] [(0, iv n), (2, .v (.slice none 0 0)), (3, .own 1), (4, iv (2 * t + 1 : Nat)), (17, bv true)] ?_
 refine t_then ?_
 refine t_condT rfl ?_
 refine tri_skip ?_
 refine t_then ?_
 refine tri_seq ?_
 refine tri_block ?_
 refine tri_seq ?_
 refine tri_region ?_
 refine oA (sp_move (.tmp 4) (iv (2 * t + 1 : Nat)) rfl) I0 ?_
 refine oC (sp_call (c := .func 34) (xs := #[.tmp 20]) [] (IH (2 * t + 1) (by omega) (by omega)) rfl (by kernel_rfl) rfl (Xs := [iv (2 * t + 1 : Nat)]) rfl rfl rfl) I0 I0 ?_
 refine oA (sp_move (.tmp 0) (iv n) rfl) I0 ?_
 refine oC (sp_sub (c := ((n : Nat) : Int) - 1) rfl (w64 (by omega) (by omega) (by omega))) I0 I0 ?_
 refine oA (sp_move (.tmp 4) (iv (2 * t + 1 : Nat)) rfl) I0 ?_
 refine oC (sp_sub (c := ((n - 2 - 2 * t : Nat) : Int)) rfl (w64 (by omega) (by omega) (by omega))) I0 I0 ?_
 refine oC (sp_call (c := .func 34) (xs := #[.tmp 25]) [] (IH (n - 2 - 2 * t) (by omega) (by omega)) rfl (by kernel_rfl) rfl (Xs := [iv (n - 2 - 2 * t : Nat)]) rfl rfl rfl) I0 I0 ?_
 refine oA (sp_assign (.tmp 21) (.fr (slA 1 cLi (Sh.sR (2 * t + 1)))) rfl) I0 ?_
 refine oA (sp_assign (.tmp 26) (.fr (slA 1 cLi (Sh.sR (n - 2 - 2 * t)))) rfl) I0 ?_
 refine kN 55 [(1, .row true 24 1 L0.length (L0.flatMap cLi))] [(0, iv n), (2, .v (.slice none 0 0)), (3, .own 1), (4, iv (2 * t + 1 : Nat)), (5, .fr (slA 1 cLi (Sh.sR (2 * t + 1)))), (6, .fr (slA 1 cLi (Sh.sR (n - 2 - 2 * t)))), (17, bv true)] ?_
 refine t_then ?_
 refine tri_seq ?_
 refine tri_region ?_
 refine oA (sp_assign (.const (.int .i64 0)) (iv 0) rfl) I0 ?_
 refine kN 55 [(1, .row true 24 1 L0.length (L0.flatMap cLi))] [(0, iv n), (2, .v (.slice none 0 0)), (3, .own 1), (4, iv (2 * t + 1 : Nat)), (5, .fr (slA 1 cLi (Sh.sR (2 * t + 1)))), (6, .fr (slA 1 cLi (Sh.sR (n - 2 - 2 * t)))), (7, iv 0), (17, bv true)] ?_
 refine t_then ?_
 refine tri_block ?_
 refine tri_loop (σ := {q : Nat × List (List Int) // q.1 ≤ (Sh.sR (2 * t + 1)).length ∧ q.2 = L0 ++ ((Sh.sR (2 * t + 1)).take q.1).flatMap (fun a => (Sh.sR (n - 2 - 2 * t)).map fun b => 2 :: (a ++ b)) ∧ q.2.length ≤ 25 * t + 5 * q.1}) (fun s => (ofL [(1, .row true 24 1 s.1.2.length (s.1.2.flatMap cLi))], ofT 55 [(0, iv n), (2, .v (.slice none 0 0)), (3, .own 1), (4, iv (2 * t + 1 : Nat)), (5, .fr (slA 1 cLi (Sh.sR (2 * t + 1)))), (6, .fr (slA 1 cLi (Sh.sR (n - 2 - 2 * t)))), (7, iv s.1.1), (17, bv true)])) (fun s => (Sh.sR (2 * t + 1)).length - s.1.1) ⟨(0, L0), Nat.zero_le _, by simp, by dsimp only; omega⟩ (wk_keep _ _ rfl (by kernel_rfl) (by kernel_rfl)) (fun s => ?_)
 obtain ⟨⟨i, L1⟩, hi0, hL1, hL1b⟩ := s
 show ETri J w0 (ofL [(1, .row true 24 1 L1.length (L1.flatMap cLi))]) (ofT 55 [(0, iv n), (2, .v (.slice none 0 0)), (3, .own 1), (4, iv (2 * t + 1 : Nat)), (5, .fr (slA 1 cLi (Sh.sR (2 * t + 1)))), (6, .fr (slA 1 cLi (Sh.sR (n - 2 - 2 * t)))), (7, iv i), (17, bv true)]) _
 dsimp only at hi0 hL1 hL1b
 refine tri_seq ?_
 refine tri_seq ?_
 by_cases hs2 : ((i : Nat) : Int) < (((Sh.sR (2 * t + 1)).length : Nat) : Int)
 have hi1 : i < (Sh.sR (2 * t + 1)).length := by omega
 have hA7 : (Sh.sR (2 * t + 1))[i].length ≤ 7 := (Sh.sR_mem (by omega) (by omega) _ (List.getElem_mem hi1)).1
 refine tri_region ?_
 refine oA (sp_move (.tmp 7) (iv i) rfl) I0 ?_
 refine oA (sp_move (.tmp 5) (.fr (slA 1 cLi (Sh.sR (2 * t + 1)))) rfl) I0 ?_
 refine t_op rfl (sp_lenSl (.tmp 28) rfl Try.underlying34) ⟨.inr (.inl rfl), T0⟩ T0 T0 ?_
 refine oC (sp_lss rfl (dT hs2)) I0 I0 ?_
 refine kN 55 [(1, .row true 24 1 L1.length (L1.flatMap cLi))] [(0, iv n), (2, .v (.slice none 0 0)), (3, .own 1), (4, iv (2 * t + 1 : Nat)), (5, .fr (slA 1 cLi (Sh.sR (2 * t + 1)))), (6, .fr (slA 1 cLi (Sh.sR (n - 2 - 2 * t)))), (7, iv i), (17, bv true), (30, bv true)] ?_
 refine t_then ?_
 refine t_condT rfl ?_
 refine tri_skip ?_
 refine t_then ?_
 refine tri_seq ?_
 refine tri_block ?_
 refine tri_seq ?_
 refine tri_region ?_
 refine oA (sp_assign (.const (.int .i64 0)) (iv 0) rfl) I0 ?_
 refine kN 55 [(1, .row true 24 1 L1.length (L1.flatMap cLi))] [(0, iv n), (2, .v (.slice none 0 0)), (3, .own 1), (4, iv (2 * t + 1 : Nat)), (5, .fr (slA 1 cLi (Sh.sR (2 * t + 1)))), (6, .fr (slA 1 cLi (Sh.sR (n - 2 - 2 * t)))), (7, iv i), (8, iv 0), (17, bv true), (30, bv true)] ?_
 refine t_then ?_
 refine tri_block ?_
 refine tri_loop (σ := {q : Nat × List (List Int) // q.1 ≤ (Sh.sR (n - 2 - 2 * t)).length ∧ q.2 = L1 ++ ((Sh.sR (n - 2 - 2 * t)).take q.1).map (fun b => 2 :: ((Sh.sR (2 * t + 1))[i] ++ b)) ∧ q.2.length ≤ 25 * t + 5 * i + q.1}) (fun s => (ofL [(1, .row true 24 1 s.1.2.length (s.1.2.flatMap cLi))], ofT 55 [(0, iv n), (2, .v (.slice none 0 0)), (3, .own 1), (4, iv (2 * t + 1 : Nat)), (5, .fr (slA 1 cLi (Sh.sR (2 * t + 1)))), (6, .fr (slA 1 cLi (Sh.sR (n - 2 - 2 * t)))), (7, iv i), (8, iv s.1.1), (17, bv true), (30, bv true)])) (fun s => (Sh.sR (n - 2 - 2 * t)).length - s.1.1) ⟨(0, L1), Nat.zero_le _, by simp, by dsimp only; omega⟩ (wk_keep _ _ rfl (by kernel_rfl) (by kernel_rfl)) (fun s => ?_)
 obtain ⟨⟨j, L2⟩, hj0, hL2, hL2b⟩ := s
 show ETri J w0 (ofL [(1, .row true 24 1 L2.length (L2.flatMap cLi))]) (ofT 55 [(0, iv n), (2, .v (.slice none 0 0)), (3, .own 1), (4, iv (2 * t + 1 : Nat)), (5, .fr (slA 1 cLi (Sh.sR (2 * t + 1)))), (6, .fr (slA 1 cLi (Sh.sR (n - 2 - 2 * t)))), (7, iv i), (8, iv j), (17, bv true), (30, bv true)]) _
 dsimp only at hj0 hL2 hL2b
 refine tri_seq ?_
 refine tri_seq ?_
 by_cases hs3 : ((j : Nat) : Int) < (((Sh.sR (n - 2 - 2 * t)).length : Nat) : Int)
 have hj1 : j < (Sh.sR (n - 2 - 2 * t)).length := by omega
 have hB7 : (Sh.sR (n - 2 - 2 * t))[j].length ≤ 7 := (Sh.sR_mem (by omega) (by omega) _ (List.getElem_mem hj1)).1
 refine tri_region ?_
 refine oA (sp_move (.tmp 8) (iv j) rfl) I0 ?_
 refine oA (sp_move (.tmp 6) (.fr (slA 1 cLi (Sh.sR (n - 2 - 2 * t)))) rfl) I0 ?_
 refine t_op rfl (sp_lenSl (.tmp 34) rfl Try.underlying34) ⟨.inr (.inl rfl), T0⟩ T0 T0 ?_
 refine oC (sp_lss rfl (dT hs3)) I0 I0 ?_
 refine kN 55 [(1, .row true 24 1 L2.length (L2.flatMap cLi))] [(0, iv n), (2, .v (.slice none 0 0)), (3, .own 1), (4, iv (2 * t + 1 : Nat)), (5, .fr (slA 1 cLi (Sh.sR (2 * t + 1)))), (6, .fr (slA 1 cLi (Sh.sR (n - 2 - 2 * t)))), (7, iv i), (8, iv j), (17, bv true), (30, bv true), (36, bv true)] ?_
 refine t_then ?_
 refine t_condT rfl ?_
 refine tri_skip ?_
 refine t_then ?_
 refine tri_seq ?_
 refine tri_block ?_
 refine tri_seq ?_
 refine tri_region ?_
 refine t_op rfl (sp_build (z := 1) (k := 2) (fr := true) (cs := [iv 2]) [.const (.int .i64 2)] [iv 2] rfl Try.underlying24 (by kernel_rfl) (by decide) (by decide) rfl rfl rfl (by kernel_rfl) (by decide) (fun _ => by simp [AV.cellsOf, AV.isNew, cLn, cTh]) (by kernel_rfl)) ⟨I0, T0⟩ T0 rfl ?_
 refine oA (sp_move (.tmp 5) (.fr (slA 1 cLi (Sh.sR (2 * t + 1)))) rfl) I0 ?_
 refine oA (sp_move (.tmp 7) (iv i) rfl) I0 ?_
 refine t_op rfl (sp_indexSl (off := i * 1) (.tmp 40) (.tmp 41) rfl Try.underlying34 (by kernel_rfl) (by omega) (by omega) rfl) ⟨.inr (.inl rfl), I0, T0⟩ T0 T0 ?_
 refine oA (sp_loadEl1 (X := intsA ((Sh.sR (2 * t + 1))[i])) (.tmp 42) rfl Try.underlying24 rfl ((eflat_get lenLi (Sh.sR (2 * t + 1)) i 0 (by omega) (by decide)).trans rfl)) I0 ?_
 refine t_op rfl (sp_append (n := 1) (cs := [iv 2]) (fr := true) (m := ((Sh.sR (2 * t + 1))[i]).length) (ds := (((Sh.sR (2 * t + 1))[i]).map iv)) (⟨Try.underlying24, by kernel_rfl, by decide⟩ : Elt Try.prog 24 3 1 8) (.tmp 39) (.tmp 43) rfl (fun _ d hd => by obtain ⟨x, _, rfl⟩ := List.mem_map.1 hd; rfl) (by unfold maxLen; omega) (by omega) (fun d hd => by obtain ⟨x, _, rfl⟩ := List.mem_map.1 hd; rfl) (es := ((2 :: (Sh.sR (2 * t + 1))[i]).map iv)) (by rw [unfr_ints]; rfl)) ⟨I0, I0, T0⟩ ⟨rfl, T0⟩ rfl ?_
 refine oA (sp_assign (.tmp 44) (.own 2) rfl) I0 ?_
 refine kN 55 [(1, .row true 24 1 L2.length (L2.flatMap cLi)), (2, .row true 3 1 (1 + (Sh.sR (2 * t + 1))[i].length) ((2 :: (Sh.sR (2 * t + 1))[i]).map iv))] [(0, iv n), (2, .v (.slice none 0 0)), (3, .own 1), (4, iv (2 * t + 1 : Nat)), (5, .fr (slA 1 cLi (Sh.sR (2 * t + 1)))), (6, .fr (slA 1 cLi (Sh.sR (n - 2 - 2 * t)))), (7, iv i), (8, iv j), (9, .own 2), (17, bv true), (30, bv true), (36, bv true)] ?_
 refine t_then ?_
 refine tri_region ?_
 refine oA (sp_move (.tmp 3) (.own 1) rfl) I0 ?_
 refine oA (sp_move (.tmp 9) (.own 2) rfl) I0 ?_
 refine oA (sp_move (.tmp 6) (.fr (slA 1 cLi (Sh.sR (n - 2 - 2 * t)))) rfl) I0 ?_
 refine oA (sp_move (.tmp 8) (iv j) rfl) I0 ?_
 refine t_op rfl (sp_indexSl (off := j * 1) (.tmp 47) (.tmp 48) rfl Try.underlying34 (by kernel_rfl) (by omega) (by omega) rfl) ⟨.inr (.inl rfl), I0, T0⟩ T0 T0 ?_
 refine oA (sp_loadEl1 (X := intsA ((Sh.sR (n - 2 - 2 * t))[j])) (.tmp 49) rfl Try.underlying24 rfl ((eflat_get lenLi (Sh.sR (n - 2 - 2 * t)) j 0 (by omega) (by decide)).trans rfl)) I0 ?_
 refine t_op rfl (sp_append (n := (1 + (Sh.sR (2 * t + 1))[i].length)) (cs := ((2 :: (Sh.sR (2 * t + 1))[i]).map iv)) (fr := true) (m := ((Sh.sR (n - 2 - 2 * t))[j]).length) (ds := (((Sh.sR (n - 2 - 2 * t))[j]).map iv)) (⟨Try.underlying24, by kernel_rfl, by decide⟩ : Elt Try.prog 24 3 1 8) (.tmp 46) (.tmp 50) rfl (fun _ d hd => by obtain ⟨x, _, rfl⟩ := List.mem_map.1 hd; rfl) (by unfold maxLen; omega) (by omega) (fun d hd => by obtain ⟨x, _, rfl⟩ := List.mem_map.1 hd; rfl) (es := ((2 :: ((Sh.sR (2 * t + 1))[i] ++ (Sh.sR (n - 2 - 2 * t))[j])).map iv)) (by rw [unfr_ints]; simp)) ⟨I0, I0, T0⟩ ⟨rfl, T0⟩ rfl ?_
 refine kW 55 [(1, .row true 24 1 L2.length (L2.flatMap cLi))] [(0, iv n), (2, .v (.slice none 0 0)), (3, .own 1), (4, iv (2 * t + 1 : Nat)), (5, .fr (slA 1 cLi (Sh.sR (2 * t + 1)))), (6, .fr (slA 1 cLi (Sh.sR (n - 2 - 2 * t)))), (7, iv i), (8, iv j), (17, bv true), (30, bv true), (36, bv true), (45, .own 1), (47, .fr (slA 1 cLi (Sh.sR (n - 2 - 2 * t)))), (48, iv j), (49, .el ((Sh.sR (n - 2 - 2 * t)).flatMap cLi) (j * 1)), (50, intsA ((Sh.sR (n - 2 - 2 * t))[j])), (51, .fr (.sl 1 (1 + (Sh.sR (2 * t + 1))[i].length + (Sh.sR (n - 2 - 2 * t))[j].length) ((2 :: ((Sh.sR (2 * t + 1))[i] ++ (Sh.sR (n - 2 - 2 * t))[j])).map iv)))] ?_
 rw [Sh.one_len (Sh.sR (2 * t + 1))[i] (Sh.sR (n - 2 - 2 * t))[j]]
 refine t_op rfl (sp_build (z := 1) (k := 3) (fr := false) (cs := [.fr (intsA (2 :: ((Sh.sR (2 * t + 1))[i] ++ (Sh.sR (n - 2 - 2 * t))[j])))]) [.tmp 51] [.fr (intsA (2 :: ((Sh.sR (2 * t + 1))[i] ++ (Sh.sR (n - 2 - 2 * t))[j])))] rfl Try.underlying34 (by kernel_rfl) (by decide) (by decide) rfl rfl rfl (by kernel_rfl) (by decide) (fun h => Bool.noConfusion h) (by kernel_rfl)) ⟨I0, T0⟩ T0 rfl ?_
 refine t_op rfl (sp_appendOwn (n := L2.length) (cs := (L2.flatMap cLi)) (fr := true) (m := 1) (ds := [.fr (intsA (2 :: ((Sh.sR (2 * t + 1))[i] ++ (Sh.sR (n - 2 - 2 * t))[j])))]) (⟨Try.underlying34, by kernel_rfl, by decide⟩ : Elt Try.prog 34 24 1 24) (.tmp 45) (.tmp 52) rfl (fun _ => newLi (2 :: ((Sh.sR (2 * t + 1))[i] ++ (Sh.sR (n - 2 - 2 * t))[j]))) (by unfold maxLen; omega) (by omega) (cellLi (2 :: ((Sh.sR (2 * t + 1))[i] ++ (Sh.sR (n - 2 - 2 * t))[j]))) (es := ((L2 ++ [(2 :: ((Sh.sR (2 * t + 1))[i] ++ (Sh.sR (n - 2 - 2 * t))[j]))]).flatMap cLi)) snocLi) ⟨I0, I0, T0⟩ ⟨rfl, rfl, T0⟩ rfl ?_
 refine oA (sp_assign (.tmp 53) (.own 1) rfl) I0 ?_
 refine kN 55 [(1, .row true 24 1 (L2.length + 1) ((L2 ++ [(2 :: ((Sh.sR (2 * t + 1))[i] ++ (Sh.sR (n - 2 - 2 * t))[j]))]).flatMap cLi))] [(0, iv n), (2, .v (.slice none 0 0)), (3, .own 1), (4, iv (2 * t + 1 : Nat)), (5, .fr (slA 1 cLi (Sh.sR (2 * t + 1)))), (6, .fr (slA 1 cLi (Sh.sR (n - 2 - 2 * t)))), (7, iv i), (8, iv j), (17, bv true), (30, bv true), (36, bv true)] ?_
 refine t_block ?_
 refine t_then ?_
 refine tri_region ?_
 refine oA (sp_move (.tmp 8) (iv j) rfl) I0 ?_
 refine oC (sp_add (c := ((j + 1 : Nat) : Int)) rfl (w64 (by omega) (by omega) (by omega))) I0 I0 ?_
 refine oA (sp_assign (.tmp 38) (iv (j + 1 : Nat)) rfl) I0 ?_
 refine kN 55 [(1, .row true 24 1 (L2.length + 1) ((L2 ++ [(2 :: ((Sh.sR (2 * t + 1))[i] ++ (Sh.sR (n - 2 - 2 * t))[j]))]).flatMap cLi))] [(0, iv n), (2, .v (.slice none 0 0)), (3, .own 1), (4, iv (2 * t + 1 : Nat)), (5, .fr (slA 1 cLi (Sh.sR (2 * t + 1)))), (6, .fr (slA 1 cLi (Sh.sR (n - 2 - 2 * t)))), (7, iv i), (8, iv (j + 1 : Nat)), (17, bv true), (30, bv true), (36, bv true)] ?_
 refine t_then ?_
 refine tri_again ⟨(j + 1, L2 ++ [(2 :: ((Sh.sR (2 * t + 1))[i] ++ (Sh.sR (n - 2 - 2 * t))[j]))]), by dsimp only; omega, by dsimp only; rw [hL2, List.take_succ_eq_append_getElem hj1, List.map_append, List.append_assoc]; rfl, by rw [List.length_append]; dsimp only [List.length]; omega⟩ (show (Sh.sR (n - 2 - 2 * t)).length - (j + 1) < (Sh.sR (n - 2 - 2 * t)).length - j by omega) ?_
 show Wk _ _ (ofL [(1, .row true 24 1 ((L2 ++ [(2 :: ((Sh.sR (2 * t + 1))[i] ++ (Sh.sR (n - 2 - 2 * t))[j]))]).length) ((L2 ++ [(2 :: ((Sh.sR (2 * t + 1))[i] ++ (Sh.sR (n - 2 - 2 * t))[j]))]).flatMap cLi))]) (ofT 55 [(0, iv n), (2, .v (.slice none 0 0)), (3, .own 1), (4, iv (2 * t + 1 : Nat)), (5, .fr (slA 1 cLi (Sh.sR (2 * t + 1)))), (6, .fr (slA 1 cLi (Sh.sR (n - 2 - 2 * t)))), (7, iv i), (8, iv ((j + 1) : Nat)), (17, bv true), (30, bv true)])
 rw [List.length_append]
 exact wk_keep _ _ rfl (by kernel_rfl) (by kernel_rfl)
 refine tri_region ?_
 refine oA (sp_move (.tmp 8) (iv j) rfl) I0 ?_
 refine oA (sp_move (.tmp 6) (.fr (slA 1 cLi (Sh.sR (n - 2 - 2 * t)))) rfl) I0 ?_
 refine t_op rfl (sp_lenSl (.tmp 34) rfl Try.underlying34) ⟨.inr (.inl rfl), T0⟩ T0 T0 ?_
 refine oC (sp_lss rfl (dF hs3)) I0 I0 ?_
 refine kN 55 [(1, .row true 24 1 L2.length (L2.flatMap cLi))] [(0, iv n), (2, .v (.slice none 0 0)), (3, .own 1), (4, iv (2 * t + 1 : Nat)), (5, .fr (slA 1 cLi (Sh.sR (2 * t + 1)))), (6, .fr (slA 1 cLi (Sh.sR (n - 2 - 2 * t)))), (7, iv i), (8, iv j), (17, bv true), (30, bv true), (36, bv false)] ?_
 refine t_then ?_
 refine t_condF rfl ?_
 refine tri_exit ?_
 refine t_then_exit ?_
 refine t_then_exit ?_
 refine t_hit ?_
 refine t_block ?_
 refine t_then ?_
 refine tri_region ?_
 refine oA (sp_move (.tmp 7) (iv i) rfl) I0 ?_
 refine oC (sp_add (c := ((i + 1 : Nat) : Int)) rfl (w64 (by omega) (by omega) (by omega))) I0 I0 ?_
 refine oA (sp_assign (.tmp 32) (iv (i + 1 : Nat)) rfl) I0 ?_
 refine kN 55 [(1, .row true 24 1 L2.length (L2.flatMap cLi))] [(0, iv n), (2, .v (.slice none 0 0)), (3, .own 1), (4, iv (2 * t + 1 : Nat)), (5, .fr (slA 1 cLi (Sh.sR (2 * t + 1)))), (6, .fr (slA 1 cLi (Sh.sR (n - 2 - 2 * t)))), (7, iv (i + 1 : Nat)), (8, iv j), (17, bv true), (30, bv true), (36, bv false)] ?_
 refine t_then ?_
 refine tri_again ⟨(i + 1, L2), by dsimp only; omega, by dsimp only; rw [hL2, hL1, List.take_succ_eq_append_getElem hi1, List.flatMap_append, List.append_assoc, List.take_of_length_le (show (Sh.sR (n - 2 - 2 * t)).length ≤ j by omega)]; simp only [List.flatMap_cons, List.flatMap_nil, List.append_nil], by dsimp only; omega⟩ (show (Sh.sR (2 * t + 1)).length - (i + 1) < (Sh.sR (2 * t + 1)).length - i by omega) ?_
 show Wk _ _ (ofL [(1, .row true 24 1 L2.length (L2.flatMap cLi))]) (ofT 55 [(0, iv n), (2, .v (.slice none 0 0)), (3, .own 1), (4, iv (2 * t + 1 : Nat)), (5, .fr (slA 1 cLi (Sh.sR (2 * t + 1)))), (6, .fr (slA 1 cLi (Sh.sR (n - 2 - 2 * t)))), (7, iv ((i + 1) : Nat)), (17, bv true)])
 exact wk_keep _ _ rfl (by kernel_rfl) (by kernel_rfl)
 refine tri_region ?_
 refine oA (sp_move (.tmp 7) (iv i) rfl) I0 ?_
 refine oA (sp_move (.tmp 5) (.fr (slA 1 cLi (Sh.sR (2 * t + 1)))) rfl) I0 ?_
 refine t_op rfl (sp_lenSl (.tmp 28) rfl Try.underlying34) ⟨.inr (.inl rfl), T0⟩ T0 T0 ?_
 refine oC (sp_lss rfl (dF hs2)) I0 I0 ?_
 refine kN 55 [(1, .row true 24 1 L1.length (L1.flatMap cLi))] [(0, iv n), (2, .v (.slice none 0 0)), (3, .own 1), (4, iv (2 * t + 1 : Nat)), (5, .fr (slA 1 cLi (Sh.sR (2 * t + 1)))), (6, .fr (slA 1 cLi (Sh.sR (n - 2 - 2 * t)))), (7, iv i), (17, bv true), (30, bv false)] ?_
 refine t_then ?_
 refine t_condF rfl ?_
 refine tri_exit ?_
 refine t_then_exit ?_
 refine t_then_exit ?_
 refine t_hit ?_
 refine t_block ?_
 refine t_then ?_
 refine tri_region ?_
 refine oA (sp_move (.tmp 4) (iv (2 * t + 1 : Nat)) rfl) I0 ?_
 refine oC (sp_add (c := ((2 * (t + 1) + 1 : Nat) : Int)) rfl (w64 (by omega) (by omega) (by omega))) I0 I0 ?_
 refine oA (sp_assign (.tmp 19) (iv (2 * (t + 1) + 1 : Nat)) rfl) I0 ?_
 refine kN 55 [(1, .row true 24 1 L1.length (L1.flatMap cLi))] [(0, iv n), (2, .v (.slice none 0 0)), (3, .own 1), (4, iv (2 * (t + 1) + 1 : Nat)), (5, .fr (slA 1 cLi (Sh.sR (2 * t + 1)))), (6, .fr (slA 1 cLi (Sh.sR (n - 2 - 2 * t)))), (7, iv i), (17, bv true), (30, bv false)] ?_
 refine t_then ?_
 refine tri_again ⟨(t + 1, L1), by dsimp only; omega, by rw [Sh.shA_succ, hL1, hL0]; unfold Sh.prT; rw [List.take_of_length_le (by omega)], by dsimp only; omega⟩ (show n - (t + 1) < n - t by omega) ?_
 show Wk _ _ (ofL [(1, .row true 24 1 L1.length (L1.flatMap cLi))]) (ofT 55 [(0, iv n), (2, .v (.slice none 0 0)), (3, .own 1), (4, iv (2 * (t + 1) + 1 : Nat))])
 exact wk_keep _ _ rfl (by kernel_rfl) (by kernel_rfl)
 refine tri_region ?_
 refine oA (sp_move (.tmp 4) (iv (2 * t + 1 : Nat)) rfl) I0 ?_
 refine oA (sp_move (.tmp 0) (iv n) rfl) I0 ?_
 refine oC (sp_sub (c := ((n : Nat) : Int) - 2) rfl (w64 (by omega) (by omega) (by omega))) I0 I0 ?_
 refine oC (sp_leq rfl (dF hs1)) I0 I0 ?_
 refine kN 55 [(1, .row true 24 1 L0.length (L0.flatMap cLi))] [(0, iv n), (2, .v (.slice none 0 0)), (3, .own 1), (4, iv (2 * t + 1 : Nat)), (17, bv false)] ?_
 refine t_then ?_
 refine t_condF rfl ?_
 refine tri_exit ?_
 refine t_then_exit ?_
 refine t_then_exit ?_
 refine t_hit ?_
 refine t_then ?_
 refine tri_seq ?_
 refine tri_region ?_
 refine oA (sp_move (.tmp 3) (.own 1) rfl) I0 ?_
 refine oA (sp_assign (.tmp 54) (.own 1) rfl) I0 ?_
 refine kN 55 [(1, .row true 24 1 L0.length (L0.flatMap cLi))] [(2, .own 1)] ?_
 refine t_then ?_
 refine tri_ret ?_
 refine tri_end1 Try.results34 (.tmp rfl) ?_
 have hq : L0 = Sh.sR n := by rw [hL0]; exact Sh.shA_end ho h3 h7 (by omega)
 subst hq
 exact rfl
theorem shapes_c : ∀ n : Nat, n ≤ 7 → n % 2 = 1 → Ctr Try.prog J 34 [iv n] (slA 1 cLi (Sh.sR n)) := by
  intro n
  induction n using Nat.strongRecOn with
  | ind n ih =>
    intro h7 ho
    by_cases h1 : n = 1
    · subst h1; exact shapes_1
    · exact shapes_n ho (by omega) h7 fun k hk hok => ih k hk (by omega) hok
set_option linter.unusedSimpArgs false in
set_option linter.unusedVariables false in
set_option maxRecDepth 100000 in
set_option maxHeartbeats 6400000 in
theorem sortInts_c {L : List (List Int)} (hl : L.length ≤ 5) (hI : ∀ xs ∈ L, Sh.InOk xs) (ha : ∀ i, (hi : i < L.length) → 1 ≤ i → ¬ 0 < cmpI (L[i - 1]'(by omega)) L[i]) : Ctr Try.prog J 35 [slA 1 cLi L] (.v (.tuple #[])) := by
 refine ctr_of_tri Try.func35 rfl (by intro X hX; simp only [List.mem_cons, List.not_mem_nil, or_false] at hX; rcases hX with rfl; exact plain_sl plain_li _) (n := 44) rfl (by simp) (fun w0 => ?_)
 refine kW 44 [] [(0, slA 1 cLi L)] ?_
 refine tri_seq ?_
 refine tri_region ?_
 refine oA (sp_assign (.const (.int .i64 1)) (iv 1) rfl) I0 ?_
 refine kN 44 [] [(0, slA 1 cLi L), (2, iv 1)] ?_
 refine t_then ?_
 refine tri_block ?_
 refine tri_loop (σ := {i : Nat // i ≤ L.length + 1 ∧ 1 ≤ i}) (fun s => (ofL [], ofT 44 [(0, slA 1 cLi L), (2, iv s.1)])) (fun s => L.length + 1 - s.1) ⟨1, by omega, Nat.le_refl _⟩ (wk_keep [] _ rfl (by kernel_rfl) (by kernel_rfl)) (fun s => ?_)
 obtain ⟨i, hi0, hi9⟩ := s
 show ETri J w0 (ofL []) (ofT 44 [(0, slA 1 cLi L), (2, iv i)]) _
 refine tri_seq ?_
 refine tri_seq ?_
 by_cases hs1 : ((i : Nat) : Int) < ((L.length : Nat) : Int)
 have hi1 : i < L.length := by omega
 refine tri_region ?_
 refine oA (sp_move (.tmp 2) (iv i) rfl) I0 ?_
 refine oA (sp_move (.tmp 0) (slA 1 cLi L) rfl) I0 ?_
 refine oA (sp_lenSl (.tmp 5) rfl Try.underlying34) I0 ?_
 refine oC (sp_lss rfl (dT hs1)) I0 I0 ?_
 refine kN 44 [] [(0, slA 1 cLi L), (2, iv i), (7, bv true)] ?_
 refine t_then ?_
 refine t_condT rfl ?_
 refine tri_skip ?_
 refine t_then ?_
 refine tri_seq ?_
 refine tri_block ?_
 refine tri_seq ?_
 refine tri_region ?_
 refine oA (sp_move (.tmp 2) (iv i) rfl) I0 ?_
 refine oA (sp_assign (.tmp 10) (iv i) rfl) I0 ?_
 refine kN 44 [] [(0, slA 1 cLi L), (2, iv i), (3, iv i), (7, bv true)] ?_
 refine t_then ?_
 refine tri_block ?_
 refine tri_loop (σ := {u : Nat // u ≤ 0}) (fun s => (ofL [], ofT 44 [(0, slA 1 cLi L), (2, iv i), (3, iv i), (7, bv true)])) (fun s => s.1) ⟨0, Nat.le_refl _⟩ (wk_keep [] _ rfl (by kernel_rfl) (by kernel_rfl)) (fun s => ?_)
 obtain ⟨u0, hu0⟩ := s
 show ETri J w0 (ofL []) (ofT 44 [(0, slA 1 cLi L), (2, iv i), (3, iv i), (7, bv true)]) _
 refine tri_seq ?_
 refine tri_seq ?_
 refine tri_draw [⟨[(.tmp 3, iv i)], [], iv i, .no⟩, ⟨[(.tmp 11, iv i), (.const (.int .i64 0), iv 0)], [], bv true, .no⟩, ⟨[(.tmp 12, bv true)], [], bv true, .no⟩, ⟨[(.tmp 0, slA 1 cLi L)], [], slA 1 cLi L, .no⟩, ⟨[(.tmp 3, iv i)], [], iv i, .no⟩, ⟨[(.tmp 15, iv i), (.const (.int .i64 1), iv 1)], [], iv (i - 1 : Nat), .no⟩, ⟨[(.tmp 14, slA 1 cLi L), (.tmp 16, iv (i - 1 : Nat))], [], .el (L.flatMap cLi) ((i - 1) * 1), .no⟩, ⟨[(.tmp 17, .el (L.flatMap cLi) ((i - 1) * 1))], [], intsA (L[i - 1]), .no⟩, ⟨[(.tmp 0, slA 1 cLi L)], [], slA 1 cLi L, .no⟩, ⟨[(.tmp 3, iv i)], [], iv i, .no⟩, ⟨[(.tmp 19, slA 1 cLi L), (.tmp 20, iv i)], [], .el (L.flatMap cLi) (i * 1), .no⟩, ⟨[(.tmp 21, .el (L.flatMap cLi) (i * 1))], [], intsA L[i], .no⟩, ⟨[(.func 39, .v (.func (.func 39) #[] #[])), (.tmp 18, intsA (L[i - 1])), (.tmp 22, intsA L[i])], [], iv (cmpI L[i - 1] L[i]), .no⟩, ⟨[(.tmp 23, iv (cmpI L[i - 1] L[i])), (.const (.int .i64 0), iv 0)], [], bv false, .no⟩, ⟨[(.tmp 13, bv true), (.tmp 24, bv false), (.const (.bool false), bv false)], [], bv false, .no⟩] (by kernel_rfl) (by kernel_rfl) ?_
 refine ⟨app_yes rfl (sp_move (.tmp 3) (iv i) rfl) ⟨I0, T0⟩ T0 T0, ?_⟩
 refine ⟨app_yes rfl (sp_gtr rfl (dT (by omega))) ⟨I0, I0, T0⟩ T0 T0, ?_⟩
 refine ⟨app_yes rfl (sp_move (.tmp 12) (bv true) rfl) ⟨I0, T0⟩ T0 T0, ?_⟩
 refine ⟨app_yes rfl (sp_move (.tmp 0) (slA 1 cLi L) rfl) ⟨I0, T0⟩ T0 T0, ?_⟩
 refine ⟨app_yes rfl (sp_move (.tmp 3) (iv i) rfl) ⟨I0, T0⟩ T0 T0, ?_⟩
 refine ⟨app_yes rfl (sp_sub (c := ((i - 1 : Nat) : Int)) rfl (w64 (by omega) (by omega) (by omega))) ⟨I0, I0, T0⟩ T0 T0, ?_⟩
 refine ⟨app_yes rfl (sp_indexSl (off := (i - 1) * 1) (.tmp 14) (.tmp 16) rfl Try.underlying34 (by kernel_rfl) (by omega) (by omega) rfl) ⟨I0, I0, T0⟩ T0 T0, ?_⟩
 refine ⟨app_yes rfl (sp_loadEl1 (X := intsA (L[i - 1])) (.tmp 17) rfl Try.underlying24 rfl ((eflat_get lenLi L (i - 1) 0 (by omega) (by decide)).trans rfl)) ⟨I0, T0⟩ T0 T0, ?_⟩
 refine ⟨app_yes rfl (sp_move (.tmp 0) (slA 1 cLi L) rfl) ⟨I0, T0⟩ T0 T0, ?_⟩
 refine ⟨app_yes rfl (sp_move (.tmp 3) (iv i) rfl) ⟨I0, T0⟩ T0 T0, ?_⟩
 refine ⟨app_yes rfl (sp_indexSl (off := i * 1) (.tmp 19) (.tmp 20) rfl Try.underlying34 (by kernel_rfl) (by omega) (by omega) rfl) ⟨I0, I0, T0⟩ T0 T0, ?_⟩
 refine ⟨app_yes rfl (sp_loadEl1 (X := intsA L[i]) (.tmp 21) rfl Try.underlying24 rfl ((eflat_get lenLi L i 0 (by omega) (by decide)).trans rfl)) ⟨I0, T0⟩ T0 T0, ?_⟩
 refine ⟨app_yes rfl (sp_call (c := .func 39) (xs := #[.tmp 18, .tmp 22]) [] (Sh.cmp_c (hI _ (List.getElem_mem (by omega))) (hI _ (List.getElem_mem (by omega)))) rfl (by kernel_rfl) rfl (Xs := [intsA (L[i - 1]), intsA L[i]]) rfl rfl rfl) ⟨I0, I0, I0, T0⟩ T0 T0, ?_⟩
 refine ⟨app_yes rfl (sp_gtr rfl (dF (ha i hi1 hi9))) ⟨I0, I0, T0⟩ T0 T0, ?_⟩
 refine ⟨app_yes rfl (sp_pick (.tmp 13) (.tmp 24) (.const (.bool false)) true (bv false) (bv false) rfl) ⟨I0, I0, I0, T0⟩ T0 T0, ?_⟩
 show ETri J w0 _ _ _
 refine kW 44 [] [(0, slA 1 cLi L), (2, iv i), (3, iv i), (7, bv true), (25, bv false)] ?_
 refine t_then ?_
 refine t_condF rfl ?_
 refine tri_exit ?_
 refine t_then_exit ?_
 refine t_then_exit ?_
 refine t_hit ?_
 refine t_block ?_
 refine t_then ?_
 refine tri_region ?_
 refine oA (sp_move (.tmp 2) (iv i) rfl) I0 ?_
 refine oC (sp_add (c := ((i + 1 : Nat) : Int)) rfl (w64 (by omega) (by omega) (by omega))) I0 I0 ?_
 refine oA (sp_assign (.tmp 9) (iv (i + 1 : Nat)) rfl) I0 ?_
 refine kN 44 [] [(0, slA 1 cLi L), (2, iv (i + 1 : Nat)), (3, iv i), (7, bv true), (25, bv false)] ?_
 refine t_then ?_
 refine tri_again ⟨i + 1, by omega, by omega⟩ (show L.length + 1 - (i + 1) < L.length + 1 - i by omega) ?_
 exact wk_keep [] _ rfl (by kernel_rfl) (by kernel_rfl)
 refine tri_region ?_
 refine oA (sp_move (.tmp 2) (iv i) rfl) I0 ?_
 refine oA (sp_move (.tmp 0) (slA 1 cLi L) rfl) I0 ?_
 refine oA (sp_lenSl (.tmp 5) rfl Try.underlying34) I0 ?_
 refine oC (sp_lss rfl (dF hs1)) I0 I0 ?_
 refine kN 44 [] [(0, slA 1 cLi L), (2, iv i), (7, bv false)] ?_
 refine t_then ?_
 refine t_condF rfl ?_
 refine tri_exit ?_
 refine t_then_exit ?_
 refine t_then_exit ?_
 refine t_hit ?_
 refine t_end_normal ?_
 refine tri_end0 Try.results35  ?_
 exact rfl
end Go.Proofs.Ytgbgfkhkjlakbaa

namespace Go.Proofs.Ytgbgfkhkjlakbaa
open Go.RowKit Go.Deep
variable {J : World → Prop}
set_option linter.unusedSimpArgs false in
set_option linter.unusedVariables false in
set_option maxRecDepth 100000 in
set_option maxHeartbeats 6400000 in
theorem ywithin_t {n : Int} (h : ¬ (n < 1 ∨ 8 < n)) : Ctr Try.prog J 33 [iv n, iv 1, iv 8] (bv true) := by
 refine ctr_of_tri Try.func33 rfl (by intro X hX; simp only [List.mem_cons, List.not_mem_nil, or_false] at hX; rcases hX with rfl | rfl | rfl; exact .v _; exact .v _; exact .v _) (n := 15) rfl (by simp) (fun w0 => ?_)
 refine kW 15 [] [(0, iv n), (1, iv 1), (2, iv 8)] ?_
 refine tri_seq ?_
 refine tri_region ?_
 refine oA (sp_assign (.const (.bool false)) (bv false) rfl) I0 ?_
 refine kN 15 [] [(0, iv n), (1, iv 1), (2, iv 8), (6, bv false)] ?_
 refine t_then ?_
 refine tri_seq ?_
 refine tri_region ?_
 refine oA (sp_move (.tmp 0) (iv n) rfl) I0 ?_
 refine oA (sp_move (.tmp 1) (iv 1) rfl) I0 ?_
 refine oC (sp_geq rfl (dT (by omega))) I0 I0 ?_
 refine oA (sp_move (.tmp 9) (bv true) rfl) I0 ?_
 refine gA (sp_move (.tmp 0) (iv n) rfl) I0 ?_
 refine gA (sp_move (.tmp 2) (iv 8) rfl) I0 ?_
 refine gC (sp_leq rfl (dT (by omega))) I0 I0 ?_
 refine oD (sp_pick (.tmp 10) (.tmp 13) (.const (.bool false)) true (bv true) (bv false) rfl) I0 I0 I0 ?_
 refine oA (sp_assign (.tmp 14) (bv true) rfl) I0 ?_
 refine kN 15 [] [(6, bv true)] ?_
 refine t_then ?_
 refine tri_ret ?_
 refine tri_end1 Try.results33 (.tmp rfl) ?_
 exact rfl
set_option linter.unusedSimpArgs false in
set_option linter.unusedVariables false in
set_option maxRecDepth 100000 in
set_option maxHeartbeats 6400000 in
theorem ywithin_f {n : Int} (h : n < 1 ∨ 8 < n) : Ctr Try.prog J 33 [iv n, iv 1, iv 8] (bv false) := by
 refine ctr_of_tri Try.func33 rfl (by intro X hX; simp only [List.mem_cons, List.not_mem_nil, or_false] at hX; rcases hX with rfl | rfl | rfl; exact .v _; exact .v _; exact .v _) (n := 15) rfl (by simp) (fun w0 => ?_)
 refine kW 15 [] [(0, iv n), (1, iv 1), (2, iv 8)] ?_
 refine tri_seq ?_
 refine tri_region ?_
 refine oA (sp_assign (.const (.bool false)) (bv false) rfl) I0 ?_
 refine kN 15 [] [(0, iv n), (1, iv 1), (2, iv 8), (6, bv false)] ?_
 refine t_then ?_
 refine tri_seq ?_
 by_cases hs1 : 1 ≤ n
 refine tri_region ?_
 refine oA (sp_move (.tmp 0) (iv n) rfl) I0 ?_
 refine oA (sp_move (.tmp 1) (iv 1) rfl) I0 ?_
 refine oC (sp_geq rfl (dT hs1)) I0 I0 ?_
 refine oA (sp_move (.tmp 9) (bv true) rfl) I0 ?_
 refine gA (sp_move (.tmp 0) (iv n) rfl) I0 ?_
 refine gA (sp_move (.tmp 2) (iv 8) rfl) I0 ?_
 refine gC (sp_leq rfl (dF (by omega))) I0 I0 ?_
 refine oD (sp_pick (.tmp 10) (.tmp 13) (.const (.bool false)) true (bv false) (bv false) rfl) I0 I0 I0 ?_
 refine oA (sp_assign (.tmp 14) (bv false) rfl) I0 ?_
 refine kN 15 [] [(6, bv false)] ?_
 refine t_then ?_
 refine tri_ret ?_
 refine tri_end1 Try.results33 (.tmp rfl) ?_
 exact rfl
 refine tri_region ?_
 refine oA (sp_move (.tmp 0) (iv n) rfl) I0 ?_
 refine oA (sp_move (.tmp 1) (iv 1) rfl) I0 ?_
 refine oC (sp_geq rfl (dF hs1)) I0 I0 ?_
 refine oA (sp_move (.tmp 9) (bv false) rfl) I0 ?_
 refine t_skip rfl ?_
 refine t_skip rfl ?_
 refine t_skip rfl ?_
 refine oD (sp_pick (.tmp 10) (.tmp 13) (.const (.bool false)) false (.v (.tuple #[])) (bv false) rfl) I0 I0 I0 ?_
 refine oA (sp_assign (.tmp 14) (bv false) rfl) I0 ?_
 refine kN 15 [] [(6, bv false)] ?_
 refine t_then ?_
 refine tri_ret ?_
 refine tri_end1 Try.results33 (.tmp rfl) ?_
 exact rfl
set_option linter.unusedSimpArgs false in
set_option linter.unusedVariables false in
set_option maxRecDepth 100000 in
set_option maxHeartbeats 6400000 in
theorem rShapes_bad {n : Int} (h : n < 1 ∨ 8 < n) : Ctr Try.prog J 12 [iv n] (.tup [slA 1 cLi (Sh.shX n), iv (Sh.shZ n)]) := by
 refine ctr_of_tri Try.func12 rfl (by intro X hX; simp only [List.mem_cons, List.not_mem_nil, or_false] at hX; rcases hX with rfl; exact .v _) (n := 16) rfl (by simp) (fun w0 => ?_)
 refine kW 16 [] [(0, iv n)] ?_
 refine tri_seq ?_
 refine tri_region ?_
 refine oA (sp_assign (.const (.slice none 0 0)) (.v (.slice none 0 0)) rfl) I0 ?_
 refine oA (sp_assign (.const (.int .i64 0)) (iv 0) rfl) I0 ?_
 refine kN 16 [] [(0, iv n), (2, .v (.slice none 0 0)), (3, iv 0)] ?_
 refine t_then ?_
 refine tri_seq ?_
 refine tri_seq ?_
 refine tri_region ?_
 refine oA (sp_move (.tmp 0) (iv n) rfl) I0 ?_
 refine t_op rfl (sp_call (c := .func 33) (xs := #[.tmp 5, .const (.int .i64 1), .const (.int .i64 8)]) [] (ywithin_f h) rfl (by kernel_rfl) rfl (Xs := [iv n, iv 1, iv 8]) rfl rfl rfl) ⟨I0, I0, I0, I0, T0⟩ T0 T0 ?_
 refine oA (sp_not rfl rfl) I0 ?_
 refine kN 16 [] [(0, iv n), (2, .v (.slice none 0 0)), (3, iv 0), (7, bv true)] ?_
 refine t_then ?_
 refine t_condT rfl ?_
 refine tri_seq ?_
 refine tri_region ?_
 refine oA (sp_assign (.const (.slice none 0 0)) (.v (.slice none 0 0)) rfl) I0 ?_
 refine oA (sp_assign (.const (.int .i64 1)) (iv 1) rfl) I0 ?_
 refine kN 16 [] [(0, iv n), (2, .v (.slice none 0 0)), (3, iv 1)] ?_
 refine t_then ?_
 refine tri_ret ?_
 refine t_then_ret ?_
 refine tri_wk (wk_adopt 2 1 true 24 1 rfl rfl rfl) ?_
 refine tri_end2 Try.results12 (.tmp rfl) (.tmp rfl) ?_
 unfold Sh.shX Sh.shZ; rw [if_pos h, if_pos h]; rfl
set_option linter.unusedSimpArgs false in
set_option linter.unusedVariables false in
set_option maxRecDepth 100000 in
set_option maxHeartbeats 6400000 in
theorem rShapes_even {n : Nat} (h : ¬ (((n : Nat) : Int) < 1 ∨ 8 < ((n : Nat) : Int))) (he : n % 2 = 0) : Ctr Try.prog J 12 [iv n] (.tup [slA 1 cLi (Sh.shX ((n : Nat) : Int)), iv (Sh.shZ ((n : Nat) : Int))]) := by
 refine ctr_of_tri Try.func12 rfl (by intro X hX; simp only [List.mem_cons, List.not_mem_nil, or_false] at hX; rcases hX with rfl; exact .v _) (n := 16) rfl (by simp) (fun w0 => ?_)
 refine kW 16 [] [(0, iv n)] ?_
 refine tri_seq ?_
 refine tri_region ?_
 refine oA (sp_assign (.const (.slice none 0 0)) (.v (.slice none 0 0)) rfl) I0 ?_
 refine oA (sp_assign (.const (.int .i64 0)) (iv 0) rfl) I0 ?_
 refine kN 16 [] [(0, iv n), (2, .v (.slice none 0 0)), (3, iv 0)] ?_
 refine t_then ?_
 refine tri_seq ?_
 refine tri_seq ?_
 refine tri_region ?_
 refine oA (sp_move (.tmp 0) (iv n) rfl) I0 ?_
 refine t_op rfl (sp_call (c := .func 33) (xs := #[.tmp 5, .const (.int .i64 1), .const (.int .i64 8)]) [] (ywithin_t h) rfl (by kernel_rfl) rfl (Xs := [iv n, iv 1, iv 8]) rfl rfl rfl) ⟨I0, I0, I0, I0, T0⟩ T0 T0 ?_
 refine oA (sp_not rfl rfl) I0 ?_
 refine kN 16 [] [(0, iv n), (2, .v (.slice none 0 0)), (3, iv 0), (7, bv false)] ?_
 refine t_then ?_
 refine t_condF rfl ?_
 refine tri_skip ?_
 refine t_then ?_
 refine tri_seq ?_
 refine tri_seq ?_
 refine tri_region ?_
 refine oA (sp_move (.tmp 0) (iv n) rfl) I0 ?_
 refine oC (sp_rem (c := ((n % 2 : Nat) : Int)) rfl (by omega) (by rw [Int.tmod_eq_emod_of_nonneg (by omega)]; omega)) I0 I0 ?_
 refine oC (sp_eql rfl (dT (by omega))) I0 I0 ?_
 refine kN 16 [] [(0, iv n), (2, .v (.slice none 0 0)), (3, iv 0), (10, bv true)] ?_
 refine t_then ?_
 refine t_condT rfl ?_
 refine tri_seq ?_
 refine tri_region ?_
 refine oA (sp_assign (.const (.slice none 0 0)) (.v (.slice none 0 0)) rfl) I0 ?_
 refine oA (sp_assign (.const (.int .i64 0)) (iv 0) rfl) I0 ?_
 refine kN 16 [] [(0, iv n), (2, .v (.slice none 0 0)), (3, iv 0)] ?_
 refine t_then ?_
 refine tri_ret ?_
 refine t_then_ret ?_
 refine tri_wk (wk_adopt 2 1 true 24 1 rfl rfl rfl) ?_
 refine tri_end2 Try.results12 (.tmp rfl) (.tmp rfl) ?_
 unfold Sh.shX Sh.shZ; rw [if_neg h, if_neg h, if_pos (by omega)]; rfl
set_option linter.unusedSimpArgs false in
set_option linter.unusedVariables false in
set_option maxRecDepth 100000 in
set_option maxHeartbeats 6400000 in
theorem rShapes_odd {n : Nat} (h : ¬ (((n : Nat) : Int) < 1 ∨ 8 < ((n : Nat) : Int))) (ho : n % 2 = 1) : Ctr Try.prog J 12 [iv n] (.tup [slA 1 cLi (Sh.shX ((n : Nat) : Int)), iv (Sh.shZ ((n : Nat) : Int))]) := by
 refine ctr_of_tri Try.func12 rfl (by intro X hX; simp only [List.mem_cons, List.not_mem_nil, or_false] at hX; rcases hX with rfl; exact .v _) (n := 16) rfl (by simp) (fun w0 => ?_)
 refine kW 16 [] [(0, iv n)] ?_
 refine tri_seq ?_
 refine tri_region ?_
 refine oA (sp_assign (.const (.slice none 0 0)) (.v (.slice none 0 0)) rfl) I0 ?_
 refine oA (sp_assign (.const (.int .i64 0)) (iv 0) rfl) I0 ?_
 refine kN 16 [] [(0, iv n), (2, .v (.slice none 0 0)), (3, iv 0)] ?_
 refine t_then ?_
 refine tri_seq ?_
 refine tri_seq ?_
 refine tri_region ?_
 refine oA (sp_move (.tmp 0) (iv n) rfl) I0 ?_
 refine t_op rfl (sp_call (c := .func 33) (xs := #[.tmp 5, .const (.int .i64 1), .const (.int .i64 8)]) [] (ywithin_t h) rfl (by kernel_rfl) rfl (Xs := [iv n, iv 1, iv 8]) rfl rfl rfl) ⟨I0, I0, I0, I0, T0⟩ T0 T0 ?_
 refine oA (sp_not rfl rfl) I0 ?_
 refine kN 16 [] [(0, iv n), (2, .v (.slice none 0 0)), (3, iv 0), (7, bv false)] ?_
 refine t_then ?_
 refine t_condF rfl ?_
 refine tri_skip ?_
 refine t_then ?_
 refine tri_seq ?_
 refine tri_seq ?_
 refine tri_region ?_
 refine oA (sp_move (.tmp 0) (iv n) rfl) I0 ?_
 refine oC (sp_rem (c := ((n % 2 : Nat) : Int)) rfl (by omega) (by rw [Int.tmod_eq_emod_of_nonneg (by omega)]; omega)) I0 I0 ?_
 refine oC (sp_eql rfl (dF (by omega))) I0 I0 ?_
 refine kN 16 [] [(0, iv n), (2, .v (.slice none 0 0)), (3, iv 0), (10, bv false)] ?_
 refine t_then ?_
 refine t_condF rfl ?_
 refine tri_skip ?_
 refine t_then ?_
 refine tri_seq ?_
 refine tri_region ?_
 refine oA (sp_move (.tmp 0) (iv n) rfl) I0 ?_
 refine oC (sp_call (c := .func 34) (xs := #[.tmp 11]) [] (shapes_c n (by omega) ho) rfl (by kernel_rfl) rfl (Xs := [iv n]) rfl rfl rfl) I0 I0 ?_
 refine oA (sp_assign (.tmp 12) (.fr (slA 1 cLi (Sh.sR n))) rfl) I0 ?_
 refine kN 16 [] [(2, .v (.slice none 0 0)), (3, iv 0), (4, .fr (slA 1 cLi (Sh.sR n)))] ?_
 refine t_then ?_
 refine tri_seq ?_
 refine tri_region ?_
 refine oA (sp_move (.tmp 4) (.fr (slA 1 cLi (Sh.sR n))) rfl) I0 ?_
 refine t_op rfl (sp_call (c := .func 35) (xs := #[.tmp 13]) [] (sortInts_c (Sh.sR_len (by omega) ho) (fun xs hx => (Sh.sR_mem (by omega) ho xs hx).2) (Sh.sR_asc (by omega) ho)) rfl (by kernel_rfl) rfl (Xs := [slA 1 cLi (Sh.sR n)]) rfl rfl rfl) ⟨I0, .inr (.inl rfl), T0⟩ T0 T0 ?_
 refine kN 16 [] [(2, .v (.slice none 0 0)), (3, iv 0), (4, .fr (slA 1 cLi (Sh.sR n)))] ?_
 refine t_then ?_
 refine tri_seq ?_
 refine tri_region ?_
 refine oA (sp_move (.tmp 4) (.fr (slA 1 cLi (Sh.sR n))) rfl) I0 ?_
 refine oA (sp_assign (.tmp 15) (.fr (slA 1 cLi (Sh.sR n))) rfl) I0 ?_
 refine oA (sp_assign (.const (.int .i64 0)) (iv 0) rfl) I0 ?_
 refine kN 16 [] [(2, .fr (slA 1 cLi (Sh.sR n))), (3, iv 0)] ?_
 refine t_then ?_
 refine tri_ret ?_
 refine tri_end2 Try.results12 (.tmp rfl) (.tmp rfl) ?_
 unfold Sh.shX Sh.shZ; rw [if_neg h, if_neg h, if_neg (by omega)]; rfl
theorem rShapes_c (n : Int) : Ctr Try.prog J 12 [iv n] (.tup [slA 1 cLi (Sh.shX n), iv (Sh.shZ n)]) := by
  by_cases h : n < 1 ∨ 8 < n
  · exact rShapes_bad h
  · obtain ⟨m, rfl⟩ := Int.eq_ofNat_of_zero_le (show 0 ≤ n by omega)
    by_cases ho : m % 2 = 0
    · exact rShapes_even h ho
    · exact rShapes_odd h (by omega)
set_option linter.unusedSimpArgs false in
set_option linter.unusedVariables false in
set_option maxRecDepth 100000 in
set_option maxHeartbeats 6400000 in
theorem SameShapes_l {L : List (List Int)} (hl : L.length ≤ 5) (hI : ∀ xs ∈ L, Sh.InOk xs) : Ctr Try.prog J 13 [slA 1 cLi L, slA 1 cLi L] (bv true) := by
 refine ctr_of_tri Try.func13 rfl (by intro X hX; simp only [List.mem_cons, List.not_mem_nil, or_false] at hX; rcases hX with rfl | rfl; exact plain_sl plain_li _; exact plain_sl plain_li _) (n := 27) rfl (by simp) (fun w0 => ?_)
 refine kW 27 [] [(0, slA 1 cLi L), (1, slA 1 cLi L)] ?_
 refine tri_seq ?_
 refine tri_region ?_
 refine oA (sp_assign (.const (.bool false)) (bv false) rfl) I0 ?_
 refine kN 27 [] [(0, slA 1 cLi L), (1, slA 1 cLi L), (4, bv false)] ?_
 refine t_then ?_
 refine tri_seq ?_
 refine tri_seq ?_
 refine tri_region ?_
 refine oA (sp_move (.tmp 0) (slA 1 cLi L) rfl) I0 ?_
 refine oA (sp_lenSl (.tmp 6) rfl Try.underlying34) I0 ?_
 refine oA (sp_move (.tmp 1) (slA 1 cLi L) rfl) I0 ?_
 refine oA (sp_lenSl (.tmp 8) rfl Try.underlying34) I0 ?_
 refine oC (sp_neq rfl (dT' rfl)) I0 I0 ?_
 refine kN 27 [] [(0, slA 1 cLi L), (1, slA 1 cLi L), (4, bv false), (10, bv false)] ?_
 refine t_then ?_
 refine t_condF rfl ?_
 refine tri_skip ?_
 refine t_then ?_
 refine tri_seq ?_
 refine tri_seq ?_
 refine tri_region ?_
 refine oA (sp_assign (.const (.int .i64 0)) (iv 0) rfl) I0 ?_
 refine kN 27 [] [(0, slA 1 cLi L), (1, slA 1 cLi L), (4, bv false), (5, iv 0)] ?_
 refine t_then ?_
 refine tri_block ?_
 refine tri_loop (σ := {k : Nat // k ≤ L.length}) (fun s => (ofL [], ofT 27 [(0, slA 1 cLi L), (1, slA 1 cLi L), (5, iv s.1)])) (fun s => L.length - s.1) ⟨0, Nat.zero_le _⟩ (wk_keep [] _ rfl (by kernel_rfl) (by kernel_rfl)) (fun s => ?_)
 obtain ⟨k, hk0⟩ := s
 show ETri J w0 (ofL []) (ofT 27 [(0, slA 1 cLi L), (1, slA 1 cLi L), (5, iv k)]) _
 refine tri_seq ?_
 refine tri_seq ?_
 by_cases hs1 : ((k : Nat) : Int) < ((L.length : Nat) : Int)
 refine tri_region ?_
 refine oA (sp_move (.tmp 5) (iv k) rfl) I0 ?_
 refine oA (sp_move (.tmp 0) (slA 1 cLi L) rfl) I0 ?_
 refine oA (sp_lenSl (.tmp 12) rfl Try.underlying34) I0 ?_
 refine oC (sp_lss rfl (dT hs1)) I0 I0 ?_
 refine kN 27 [] [(0, slA 1 cLi L), (1, slA 1 cLi L), (5, iv k), (14, bv true)] ?_
 refine t_then ?_
 refine t_condT rfl ?_
 refine tri_skip ?_
 refine t_then ?_
 refine tri_seq ?_
 refine tri_block ?_
 refine tri_seq ?_
 refine tri_draw [⟨[(.tmp 0, slA 1 cLi L)], [], slA 1 cLi L, .no⟩, ⟨[(.tmp 5, iv k)], [], iv k, .no⟩, ⟨[(.tmp 17, slA 1 cLi L), (.tmp 18, iv k)], [], .el (L.flatMap cLi) (k * 1), .no⟩, ⟨[(.tmp 19, .el (L.flatMap cLi) (k * 1))], [], intsA L[k], .no⟩, ⟨[(.tmp 1, slA 1 cLi L)], [], slA 1 cLi L, .no⟩, ⟨[(.tmp 5, iv k)], [], iv k, .no⟩, ⟨[(.tmp 21, slA 1 cLi L), (.tmp 22, iv k)], [], .el (L.flatMap cLi) (k * 1), .no⟩, ⟨[(.tmp 23, .el (L.flatMap cLi) (k * 1))], [], intsA L[k], .no⟩, ⟨[(.func 27, .v (.func (.func 27) #[] #[])), (.tmp 20, intsA L[k]), (.tmp 24, intsA L[k])], [], bv true, .no⟩, ⟨[(.tmp 25, bv true)], [], bv false, .no⟩] (by kernel_rfl) (by kernel_rfl) ?_
 refine ⟨app_yes rfl (sp_move (.tmp 0) (slA 1 cLi L) rfl) ⟨I0, T0⟩ T0 T0, ?_⟩
 refine ⟨app_yes rfl (sp_move (.tmp 5) (iv k) rfl) ⟨I0, T0⟩ T0 T0, ?_⟩
 refine ⟨app_yes rfl (sp_indexSl (off := k * 1) (.tmp 17) (.tmp 18) rfl Try.underlying34 (by kernel_rfl) (by omega) (by omega) rfl) ⟨I0, I0, T0⟩ T0 T0, ?_⟩
 refine ⟨app_yes rfl (sp_loadEl1 (X := intsA L[k]) (.tmp 19) rfl Try.underlying24 rfl ((eflat_get lenLi L k 0 (by omega) (by decide)).trans rfl)) ⟨I0, T0⟩ T0 T0, ?_⟩
 refine ⟨app_yes rfl (sp_move (.tmp 1) (slA 1 cLi L) rfl) ⟨I0, T0⟩ T0 T0, ?_⟩
 refine ⟨app_yes rfl (sp_move (.tmp 5) (iv k) rfl) ⟨I0, T0⟩ T0 T0, ?_⟩
 refine ⟨app_yes rfl (sp_indexSl (off := k * 1) (.tmp 21) (.tmp 22) rfl Try.underlying34 (by kernel_rfl) (by omega) (by omega) rfl) ⟨I0, I0, T0⟩ T0 T0, ?_⟩
 refine ⟨app_yes rfl (sp_loadEl1 (X := intsA L[k]) (.tmp 23) rfl Try.underlying24 rfl ((eflat_get lenLi L k 0 (by omega) (by decide)).trans rfl)) ⟨I0, T0⟩ T0 T0, ?_⟩
 refine ⟨app_yes rfl (sp_call (c := .func 27) (xs := #[.tmp 20, .tmp 24]) [] (Sh.same_c (hI _ (List.getElem_mem (by omega)))) rfl (by kernel_rfl) rfl (Xs := [intsA L[k], intsA L[k]]) rfl rfl rfl) ⟨I0, I0, I0, T0⟩ T0 T0, ?_⟩
 refine ⟨app_yes rfl (sp_not rfl rfl) ⟨I0, T0⟩ T0 T0, ?_⟩
 show ETri J w0 _ _ _
 refine kW 27 [] [(0, slA 1 cLi L), (1, slA 1 cLi L), (5, iv k), (14, bv true), (26, bv false)] ?_
 refine t_then ?_
 refine t_condF rfl ?_
 refine tri_skip ?_
 refine t_block ?_
 refine t_then ?_
 refine tri_region ?_
 refine oA (sp_move (.tmp 5) (iv k) rfl) I0 ?_
 refine oC (sp_add (c := ((k + 1 : Nat) : Int)) rfl (w64 (by omega) (by omega) (by omega))) I0 I0 ?_
 refine oA (sp_assign (.tmp 16) (iv (k + 1 : Nat)) rfl) I0 ?_
 refine kN 27 [] [(0, slA 1 cLi L), (1, slA 1 cLi L), (5, iv (k + 1 : Nat)), (14, bv true), (26, bv false)] ?_
 refine t_then ?_
 refine tri_again ⟨k + 1, by omega⟩ (show L.length - (k + 1) < L.length - k by omega) ?_
 exact wk_keep [] _ rfl (by kernel_rfl) (by kernel_rfl)
 refine tri_region ?_
 refine oA (sp_move (.tmp 5) (iv k) rfl) I0 ?_
 refine oA (sp_move (.tmp 0) (slA 1 cLi L) rfl) I0 ?_
 refine oA (sp_lenSl (.tmp 12) rfl Try.underlying34) I0 ?_
 refine oC (sp_lss rfl (dF hs1)) I0 I0 ?_
 refine kN 27 [] [(0, slA 1 cLi L), (1, slA 1 cLi L), (5, iv k), (14, bv false)] ?_
 refine t_then ?_
 refine t_condF rfl ?_
 refine tri_exit ?_
 refine t_then_exit ?_
 refine t_then_exit ?_
 refine t_hit ?_
 refine t_then ?_
 refine tri_seq ?_
 refine tri_region ?_
 refine oA (sp_assign (.const (.bool true)) (bv true) rfl) I0 ?_
 refine kN 27 [] [(4, bv true)] ?_
 refine t_then ?_
 refine tri_ret ?_
 refine tri_end1 Try.results13 (.tmp rfl) ?_
 exact rfl
set_option linter.unusedSimpArgs false in
set_option linter.unusedVariables false in
set_option maxRecDepth 100000 in
set_option maxHeartbeats 6400000 in
theorem lawShapes_c (n : Int) : Ctr Try.prog (fun _ => True) 4 [iv n] (bv true) := by
 refine ctr_of_tri Try.func4 rfl (by intro X hX; simp only [List.mem_cons, List.not_mem_nil, or_false] at hX; rcases hX with rfl; exact .v _) (n := 28) rfl (by simp) (fun w0 => ?_)
 refine kW 28 [] [(0, iv n)] ?_
 refine tri_seq ?_
 refine tri_region ?_
 refine oA (sp_assign (.const (.bool false)) (bv false) rfl) I0 ?_
 refine kN 28 [] [(0, iv n), (2, bv false)] ?_
 refine t_then ?_
 refine tri_seq ?_
 refine tri_region ?_
 refine oA (sp_move (.tmp 0) (iv n) rfl) I0 ?_
 refine oC (sp_callP (c := .func 11) (xs := #[.tmp 8]) [] (Sh.Shapes_p n) rfl (by kernel_rfl) rfl (Xs := [iv n]) rfl rfl) I0 I0 ?_
 refine oA (sp_move (.tmp 9) (.tup [slA 1 cLi (Sh.shX n), iv (Sh.shZ n)]) rfl) I0 ?_
 refine oA (sp_extract (X := slA 1 cLi (Sh.shX n)) (.tmp 7) rfl rfl) I0 ?_
 refine oA (sp_extract (X := iv (Sh.shZ n)) (.tmp 7) rfl rfl) I0 ?_
 refine oA (sp_assign (.tmp 10) (slA 1 cLi (Sh.shX n)) rfl) I0 ?_
 refine oA (sp_assign (.tmp 11) (iv (Sh.shZ n)) rfl) I0 ?_
 refine kN 28 [] [(0, iv n), (2, bv false), (3, slA 1 cLi (Sh.shX n)), (4, iv (Sh.shZ n))] ?_
 refine t_then ?_
 refine tri_seq ?_
 refine tri_region ?_
 refine oA (sp_move (.tmp 0) (iv n) rfl) I0 ?_
 refine oC (sp_call (c := .func 12) (xs := #[.tmp 13]) [] (rShapes_c n) rfl (by kernel_rfl) rfl (Xs := [iv n]) rfl rfl rfl) I0 I0 ?_
 refine oA (sp_move (.tmp 14) (.tup [.fr (slA 1 cLi (Sh.shX n)), iv (Sh.shZ n)]) rfl) I0 ?_
 refine oA (sp_extract (X := .fr (slA 1 cLi (Sh.shX n))) (.tmp 12) rfl rfl) I0 ?_
 refine oA (sp_extract (X := iv (Sh.shZ n)) (.tmp 12) rfl rfl) I0 ?_
 refine oA (sp_assign (.tmp 15) (.fr (slA 1 cLi (Sh.shX n))) rfl) I0 ?_
 refine oA (sp_assign (.tmp 16) (iv (Sh.shZ n)) rfl) I0 ?_
 refine kN 28 [] [(2, bv false), (3, slA 1 cLi (Sh.shX n)), (4, iv (Sh.shZ n)), (5, .fr (slA 1 cLi (Sh.shX n))), (6, iv (Sh.shZ n))] ?_
 refine t_then ?_
 refine tri_seq ?_
 refine tri_region ?_
 refine oA (sp_move (.tmp 4) (iv (Sh.shZ n)) rfl) I0 ?_
 refine oA (sp_move (.tmp 6) (iv (Sh.shZ n)) rfl) I0 ?_
 refine oC (sp_eql rfl (dT rfl)) I0 I0 ?_
 refine oA (sp_move (.tmp 19) (bv true) rfl) I0 ?_
 refine gA (sp_move (.tmp 3) (slA 1 cLi (Sh.shX n)) rfl) I0 ?_
 refine gA (sp_move (.tmp 5) (.fr (slA 1 cLi (Sh.shX n))) rfl) I0 ?_
 refine t_opG rfl (sp_call (c := .func 13) (xs := #[.tmp 21, .tmp 22]) [] (SameShapes_l (Sh.shX_len n) (fun xs hx => (Sh.shX_mem n xs hx).2)) rfl (by kernel_rfl) rfl (Xs := [slA 1 cLi (Sh.shX n), slA 1 cLi (Sh.shX n)]) rfl rfl rfl) ⟨I0, I0, .inr (.inl rfl), T0⟩ T0 T0 ?_
 refine oD (sp_pick (.tmp 20) (.tmp 23) (.const (.bool false)) true (bv true) (bv false) rfl) I0 I0 I0 ?_
 refine oA (sp_move (.tmp 24) (bv true) rfl) I0 ?_
 refine gA (sp_call (c := .func 8) (xs := #[]) [] Sh.zknown_c rfl (by kernel_rfl) rfl (Xs := []) rfl rfl rfl) I0 ?_
 refine oD (sp_pick (.tmp 25) (.tmp 26) (.const (.bool false)) true (bv true) (bv false) rfl) I0 I0 I0 ?_
 refine oA (sp_assign (.tmp 27) (bv true) rfl) I0 ?_
 refine kN 28 [] [(2, bv true)] ?_
 refine t_then ?_
 refine tri_ret ?_
 refine tri_end1 Try.results4 (.tmp rfl) ?_
 exact rfl
theorem walk_Shapes {n : Int} (w : World) (_ : I64 n) :
    Calls Try.prog 4 #[.int .i64 n] w fun e w' => e = .returned (.bool true) ∧ Below w.heap.size w w' :=
  (lawShapes_c n w #[.int .i64 n] (fun _ _ => T0) rfl fun j hj => (match j, hj with | 0, _ => .v _)).mono fun _ _ ⟨_, he, hp, hb⟩ => ⟨by rw [he, hp.v_inv], hb⟩
end Go.Proofs.Ytgbgfkhkjlakbaa

namespace Go.Proofs.Ytgbgfkhkjlakbaa
open Go.RowKit Go.Deep Go.ChangeShapes Go.WideShapes Go.ChangeAt Go.Joins
end Go.Proofs.Ytgbgfkhkjlakbaa
