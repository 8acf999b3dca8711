import Derived.Test.YtgbgfkhkjlakbaaGrpimhecjjg
import Derived.Test.YtgbgfkhkjlakbaaGrpololmmkd
set_option linter.all false
namespace Go.Proofs.Ytgbgfkhkjlakbaa
open Go.RowKit Go.Deep
variable {J : World → Prop}
theorem Sh_pos {c : Nat} : ∀ xs ∈ Sh.shX ((c : Nat) : Int), 0 < xs.length := by
  unfold Sh.shX
  split
  · intro xs h; cases h
  · split
    · intro xs h; cases h
    · rename_i h1 h2
      rw [Int.toNat_natCast]
      obtain rfl | rfl | rfl | rfl : c = 1 ∨ c = 3 ∨ c = 5 ∨ c = 7 := by omega
      all_goals decide
set_option linter.unusedSimpArgs false in
set_option linter.unusedVariables false in
set_option maxRecDepth 100000 in
set_option maxHeartbeats 6400000 in
theorem place_w {top : Int} {c : Nat} (hc : c ≤ 8) (xs : Nat → Value) : CtrW Try.prog J 55 [.box 1000000 0] 1000000 (.box 71 [.v (xs 0), iv top, .v (xs 2), .v (xs 3), .v (xs 4), .v (xs 5), .v (xs 6), .v (xs 7), .v (xs 8), .v (xs 9), .v (xs 10), .v (xs 11), .v (xs 12), iv c, .v (xs 14), .v (xs 15), .v (xs 16), .v (xs 17), .v (xs 18), .v (xs 19), .v (xs 20), .v (xs 21), .v (xs 22), .v (xs 23), .v (xs 24), .v (xs 25), .v (xs 26), .v (xs 27), .v (xs 28), .v (xs 29), .v (xs 30), .v (.slice none 0 0), .v (.slice none 0 0)]) (.box 71 [.v (xs 0), iv top, .v (xs 2), .v (xs 3), .v (xs 4), .v (xs 5), .v (xs 6), .v (xs 7), .v (xs 8), .v (xs 9), .v (xs 10), .v (xs 11), .v (xs 12), iv c, .v (xs 14), .v (xs 15), .v (xs 16), .v (xs 17), .v (xs 18), .v (xs 19), .v (xs 20), .v (xs 21), .v (xs 22), .v (xs 23), .v (xs 24), .v (xs 25), .v (xs 26), .v (xs 27), .v (xs 28), .v (xs 29), .v (xs 30), .any, .any]) (.v (.tuple #[])) := by
 have hsh := Sh_pos (c := c)
 have hsl := Sh.shX_len ((c : Nat) : Int)
 refine ctrW_of_tri (by decide) Try.func55 rfl (n := 64) rfl (by simp) (fun w0 => ?_)
 refine kW 64 [(1000000, .box 71 [.v (xs 0), iv top, .v (xs 2), .v (xs 3), .v (xs 4), .v (xs 5), .v (xs 6), .v (xs 7), .v (xs 8), .v (xs 9), .v (xs 10), .v (xs 11), .v (xs 12), iv c, .v (xs 14), .v (xs 15), .v (xs 16), .v (xs 17), .v (xs 18), .v (xs 19), .v (xs 20), .v (xs 21), .v (xs 22), .v (xs 23), .v (xs 24), .v (xs 25), .v (xs 26), .v (xs 27), .v (xs 28), .v (xs 29), .v (xs 30), .v (.slice none 0 0), .v (.slice none 0 0)])] [(0, .box 1000000 0)] ?_
 refine tri_seq ?_
 refine tri_region ?_
 refine oA (sp_move (.tmp 0) (.box 1000000 0) rfl) I0 ?_
 refine oA (sp_nilBox (off := 0) (.tmp 4) rfl) I0 ?_
 refine oA (fB 0 (.tmp 5) rfl Try.underlying71 rfl 10 rfl) I0 ?_
 refine oA (fB 1 (.tmp 6) rfl Try.underlying27 rfl 1 rfl) I0 ?_
 refine oB (lB (.box 71 [.v (xs 0), iv top, .v (xs 2), .v (xs 3), .v (xs 4), .v (xs 5), .v (xs 6), .v (xs 7), .v (xs 8), .v (xs 9), .v (xs 10), .v (xs 11), .v (xs 12), iv c, .v (xs 14), .v (xs 15), .v (xs 16), .v (xs 17), .v (xs 18), .v (xs 19), .v (xs 20), .v (xs 21), .v (xs 22), .v (xs 23), .v (xs 24), .v (xs 25), .v (xs 26), .v (xs 27), .v (xs 28), .v (xs 29), .v (xs 30), .v (.slice none 0 0), .v (.slice none 0 0)]) (iv top) (.tmp 7) rfl Try.underlying3 rfl rfl) I0 rfl ?_
 refine kN 64 [(1000000, .box 71 [.v (xs 0), iv top, .v (xs 2), .v (xs 3), .v (xs 4), .v (xs 5), .v (xs 6), .v (xs 7), .v (xs 8), .v (xs 9), .v (xs 10), .v (xs 11), .v (xs 12), iv c, .v (xs 14), .v (xs 15), .v (xs 16), .v (xs 17), .v (xs 18), .v (xs 19), .v (xs 20), .v (xs 21), .v (xs 22), .v (xs 23), .v (xs 24), .v (xs 25), .v (xs 26), .v (xs 27), .v (xs 28), .v (xs 29), .v (xs 30), .v (.slice none 0 0), .v (.slice none 0 0)])] [(0, .box 1000000 0), (8, iv top)] ?_
 refine t_then ?_
 refine tri_block ?_
 refine tri_seq ?_
 refine tri_seq ?_
 by_cases hs1 : top = 2
 refine tri_region ?_
 refine oC (sp_eql rfl (dT hs1)) I0 I0 ?_
 refine oA (sp_assign (.tmp 10) (bv true) rfl) I0 ?_
 refine kN 64 [(1000000, .box 71 [.v (xs 0), iv top, .v (xs 2), .v (xs 3), .v (xs 4), .v (xs 5), .v (xs 6), .v (xs 7), .v (xs 8), .v (xs 9), .v (xs 10), .v (xs 11), .v (xs 12), iv c, .v (xs 14), .v (xs 15), .v (xs 16), .v (xs 17), .v (xs 18), .v (xs 19), .v (xs 20), .v (xs 21), .v (xs 22), .v (xs 23), .v (xs 24), .v (xs 25), .v (xs 26), .v (xs 27), .v (xs 28), .v (xs 29), .v (xs 30), .v (.slice none 0 0), .v (.slice none 0 0)])] [(0, .box 1000000 0), (8, iv top), (9, bv true)] ?_
 refine t_then ?_
 refine t_condT rfl ?_
 refine tri_skip ?_
 refine t_then ?_
 refine t_condT rfl ?_
 refine tri_draw [⟨[(.tmp 0, .box 1000000 0)], [], .box 1000000 0, .no⟩, ⟨[(.tmp 0, .box 1000000 0)], [], .box 1000000 0, .no⟩, ⟨[(.tmp 13, .box 1000000 0)], [], .box 1000000 0, .no⟩, ⟨[(.tmp 14, .box 1000000 0)], [], .box 1000000 0, .no⟩, ⟨[(.tmp 15, .box 1000000 0)], [], .box 1000000 1, .no⟩, ⟨[(.tmp 16, .box 1000000 1)], [(1000000, .box 71 [.v (xs 0), iv top, .v (xs 2), .v (xs 3), .v (xs 4), .v (xs 5), .v (xs 6), .v (xs 7), .v (xs 8), .v (xs 9), .v (xs 10), .v (xs 11), .v (xs 12), iv c, .v (xs 14), .v (xs 15), .v (xs 16), .v (xs 17), .v (xs 18), .v (xs 19), .v (xs 20), .v (xs 21), .v (xs 22), .v (xs 23), .v (xs 24), .v (xs 25), .v (xs 26), .v (xs 27), .v (xs 28), .v (xs 29), .v (xs 30), .v (.slice none 0 0), .v (.slice none 0 0)])], iv top, .no⟩, ⟨[(.tmp 0, .box 1000000 0)], [], .box 1000000 0, .no⟩, ⟨[(.tmp 18, .box 1000000 0)], [], .box 1000000 0, .no⟩, ⟨[(.tmp 19, .box 1000000 0)], [], .box 1000000 13, .no⟩, ⟨[(.tmp 20, .box 1000000 13)], [(1000000, .box 71 [.v (xs 0), iv top, .v (xs 2), .v (xs 3), .v (xs 4), .v (xs 5), .v (xs 6), .v (xs 7), .v (xs 8), .v (xs 9), .v (xs 10), .v (xs 11), .v (xs 12), iv c, .v (xs 14), .v (xs 15), .v (xs 16), .v (xs 17), .v (xs 18), .v (xs 19), .v (xs 20), .v (xs 21), .v (xs 22), .v (xs 23), .v (xs 24), .v (xs 25), .v (xs 26), .v (xs 27), .v (xs 28), .v (xs 29), .v (xs 30), .v (.slice none 0 0), .v (.slice none 0 0)])], iv c, .no⟩, ⟨[(.func 43, .v (.func (.func 43) #[] #[])), (.tmp 17, iv top), (.const (.slice none 0 0), .v (.slice none 0 0)), (.tmp 21, iv c)], [], .fr (.sl 3 c (Ns.lkZ top c c)), .no⟩, ⟨[(.tmp 22, .fr (.sl 3 c (Ns.lkZ top c c)))], [], .own 1, .new 1 (.row false 92 1 1 ([.fr (.sl 3 c (Ns.lkZ top c c))]))⟩, ⟨[(.tmp 12, .box 1000000 0)], [], .box 1000000 0, .no⟩, ⟨[(.tmp 24, .box 1000000 0)], [], .box 1000000 32, .no⟩, ⟨[(.tmp 25, .box 1000000 32), (.tmp 23, .own 1)], [(1000000, .box 71 [.v (xs 0), iv top, .v (xs 2), .v (xs 3), .v (xs 4), .v (xs 5), .v (xs 6), .v (xs 7), .v (xs 8), .v (xs 9), .v (xs 10), .v (xs 11), .v (xs 12), iv c, .v (xs 14), .v (xs 15), .v (xs 16), .v (xs 17), .v (xs 18), .v (xs 19), .v (xs 20), .v (xs 21), .v (xs 22), .v (xs 23), .v (xs 24), .v (xs 25), .v (xs 26), .v (xs 27), .v (xs 28), .v (xs 29), .v (xs 30), .v (.slice none 0 0), .v (.slice none 0 0)])], .v undef, .st 1000000 (.box 71 [.v (xs 0), iv top, .v (xs 2), .v (xs 3), .v (xs 4), .v (xs 5), .v (xs 6), .v (xs 7), .v (xs 8), .v (xs 9), .v (xs 10), .v (xs 11), .v (xs 12), iv c, .v (xs 14), .v (xs 15), .v (xs 16), .v (xs 17), .v (xs 18), .v (xs 19), .v (xs 20), .v (xs 21), .v (xs 22), .v (xs 23), .v (xs 24), .v (xs 25), .v (xs 26), .v (xs 27), .v (xs 28), .v (xs 29), .v (xs 30), .v (.slice none 0 0), .own 1])⟩] (by kernel_rfl) (by kernel_rfl) ?_
 refine ⟨app_yes rfl (sp_move (.tmp 0) (.box 1000000 0) rfl) ⟨I0, T0⟩ T0 T0, ?_⟩
 refine ⟨app_yes rfl (sp_move (.tmp 0) (.box 1000000 0) rfl) ⟨I0, T0⟩ T0 T0, ?_⟩
 refine ⟨app_yes rfl (sp_nilBox (off := 0) (.tmp 13) rfl) ⟨I0, T0⟩ T0 T0, ?_⟩
 refine ⟨app_yes rfl (fB 0 (.tmp 14) rfl Try.underlying71 rfl 10 rfl) ⟨I0, T0⟩ T0 T0, ?_⟩
 refine ⟨app_yes rfl (fB 1 (.tmp 15) rfl Try.underlying27 rfl 1 rfl) ⟨I0, T0⟩ T0 T0, ?_⟩
 refine ⟨app_yes rfl (lB (.box 71 [.v (xs 0), iv top, .v (xs 2), .v (xs 3), .v (xs 4), .v (xs 5), .v (xs 6), .v (xs 7), .v (xs 8), .v (xs 9), .v (xs 10), .v (xs 11), .v (xs 12), iv c, .v (xs 14), .v (xs 15), .v (xs 16), .v (xs 17), .v (xs 18), .v (xs 19), .v (xs 20), .v (xs 21), .v (xs 22), .v (xs 23), .v (xs 24), .v (xs 25), .v (xs 26), .v (xs 27), .v (xs 28), .v (xs 29), .v (xs 30), .v (.slice none 0 0), .v (.slice none 0 0)]) (iv top) (.tmp 16) rfl Try.underlying3 rfl rfl) ⟨I0, T0⟩ ⟨rfl, T0⟩ T0, ?_⟩
 refine ⟨app_yes rfl (sp_move (.tmp 0) (.box 1000000 0) rfl) ⟨I0, T0⟩ T0 T0, ?_⟩
 refine ⟨app_yes rfl (sp_nilBox (off := 0) (.tmp 18) rfl) ⟨I0, T0⟩ T0 T0, ?_⟩
 refine ⟨app_yes rfl (fB 13 (.tmp 19) rfl Try.underlying71 rfl 1 rfl) ⟨I0, T0⟩ T0 T0, ?_⟩
 refine ⟨app_yes rfl (lB (.box 71 [.v (xs 0), iv top, .v (xs 2), .v (xs 3), .v (xs 4), .v (xs 5), .v (xs 6), .v (xs 7), .v (xs 8), .v (xs 9), .v (xs 10), .v (xs 11), .v (xs 12), iv c, .v (xs 14), .v (xs 15), .v (xs 16), .v (xs 17), .v (xs 18), .v (xs 19), .v (xs 20), .v (xs 21), .v (xs 22), .v (xs 23), .v (xs 24), .v (xs 25), .v (xs 26), .v (xs 27), .v (xs 28), .v (xs 29), .v (xs 30), .v (.slice none 0 0), .v (.slice none 0 0)]) (iv c) (.tmp 20) rfl Try.underlying3 rfl rfl) ⟨I0, T0⟩ ⟨rfl, T0⟩ T0, ?_⟩
 refine ⟨app_yes rfl (sp_call (c := .func 43) (xs := #[.tmp 17, .const (.slice none 0 0), .tmp 21]) [] (linksOf_row (.inl hs1) hc) rfl (by kernel_rfl) rfl (Xs := [iv top, .v (.slice none 0 0), iv c]) rfl rfl rfl) ⟨I0, I0, I0, I0, T0⟩ T0 T0, ?_⟩
 refine ⟨app_yes rfl (sp_build (z := 1) (k := 1) (fr := false) (cs := [.fr (.sl 3 c (Ns.lkZ top c c))]) [.tmp 22] [.fr (.sl 3 c (Ns.lkZ top c c))] rfl Try.underlying69 (by kernel_rfl) (by decide) (by decide) rfl rfl rfl (by kernel_rfl) (by decide) (fun h => Bool.noConfusion h) (by kernel_rfl)) ⟨I0, T0⟩ T0 rfl, ?_⟩
 refine ⟨app_yes rfl (sp_nilBox (off := 0) (.tmp 12) rfl) ⟨I0, T0⟩ T0 T0, ?_⟩
 refine ⟨app_yes rfl (fB 32 (.tmp 24) rfl Try.underlying71 rfl 1 rfl) ⟨I0, T0⟩ T0 T0, ?_⟩
 refine ⟨app_yes rfl (sp_storeBox (T0 := 71) (X := .own 1) (cs := [.v (xs 0), iv top, .v (xs 2), .v (xs 3), .v (xs 4), .v (xs 5), .v (xs 6), .v (xs 7), .v (xs 8), .v (xs 9), .v (xs 10), .v (xs 11), .v (xs 12), iv c, .v (xs 14), .v (xs 15), .v (xs 16), .v (xs 17), .v (xs 18), .v (xs 19), .v (xs 20), .v (xs 21), .v (xs 22), .v (xs 23), .v (xs 24), .v (xs 25), .v (xs 26), .v (xs 27), .v (xs 28), .v (xs 29), .v (xs 30), .v (.slice none 0 0), .v (.slice none 0 0)]) (ds := [.v (xs 0), iv top, .v (xs 2), .v (xs 3), .v (xs 4), .v (xs 5), .v (xs 6), .v (xs 7), .v (xs 8), .v (xs 9), .v (xs 10), .v (xs 11), .v (xs 12), iv c, .v (xs 14), .v (xs 15), .v (xs 16), .v (xs 17), .v (xs 18), .v (xs 19), .v (xs 20), .v (xs 21), .v (xs 22), .v (xs 23), .v (xs 24), .v (xs 25), .v (xs 26), .v (xs 27), .v (xs 28), .v (xs 29), .v (xs 30), .v (.slice none 0 0), .own 1]) (z := 1) (.tmp 25) (.tmp 23) rfl (by kernel_rfl) (by kernel_rfl) (by kernel_rfl) (of_decide_eq_true (by kernel_rfl)) (by kernel_rfl)) ⟨I0, I0, T0⟩ ⟨rfl, T0⟩ rfl, ?_⟩
 show ETri J w0 _ _ _
 refine kW 64 [(1, .row false 92 1 1 ([.fr (.sl 3 c (Ns.lkZ top c c))])), (1000000, .box 71 [.v (xs 0), iv top, .v (xs 2), .v (xs 3), .v (xs 4), .v (xs 5), .v (xs 6), .v (xs 7), .v (xs 8), .v (xs 9), .v (xs 10), .v (xs 11), .v (xs 12), iv c, .v (xs 14), .v (xs 15), .v (xs 16), .v (xs 17), .v (xs 18), .v (xs 19), .v (xs 20), .v (xs 21), .v (xs 22), .v (xs 23), .v (xs 24), .v (xs 25), .v (xs 26), .v (xs 27), .v (xs 28), .v (xs 29), .v (xs 30), .v (.slice none 0 0), .own 1])] [] ?_
 refine t_block ?_
 refine t_end_normalW ?_
 refine tri_wk (wk_anyB 1000000 [false, false, false, false, false, false, false, false, false, false, false, false, false, false, false, false, false, false, false, false, false, false, false, false, false, false, false, false, false, false, false, true, true] rfl (ds := [.v (xs 0), iv top, .v (xs 2), .v (xs 3), .v (xs 4), .v (xs 5), .v (xs 6), .v (xs 7), .v (xs 8), .v (xs 9), .v (xs 10), .v (xs 11), .v (xs 12), iv c, .v (xs 14), .v (xs 15), .v (xs 16), .v (xs 17), .v (xs 18), .v (xs 19), .v (xs 20), .v (xs 21), .v (xs 22), .v (xs 23), .v (xs 24), .v (xs 25), .v (xs 26), .v (xs 27), .v (xs 28), .v (xs 29), .v (xs 30), .any, .any]) rfl) ?_
 exact tri_back0 Try.results55  (by decide) (by kernel_rfl)
 refine tri_region ?_
 refine oC (sp_eql rfl (dF hs1)) I0 I0 ?_
 refine oA (sp_assign (.tmp 10) (bv false) rfl) I0 ?_
 refine kN 64 [(1000000, .box 71 [.v (xs 0), iv top, .v (xs 2), .v (xs 3), .v (xs 4), .v (xs 5), .v (xs 6), .v (xs 7), .v (xs 8), .v (xs 9), .v (xs 10), .v (xs 11), .v (xs 12), iv c, .v (xs 14), .v (xs 15), .v (xs 16), .v (xs 17), .v (xs 18), .v (xs 19), .v (xs 20), .v (xs 21), .v (xs 22), .v (xs 23), .v (xs 24), .v (xs 25), .v (xs 26), .v (xs 27), .v (xs 28), .v (xs 29), .v (xs 30), .v (.slice none 0 0), .v (.slice none 0 0)])] [(0, .box 1000000 0), (8, iv top), (9, bv false)] ?_
 refine t_then ?_
 refine t_condF rfl ?_
 by_cases hs2 : top = 3
 refine tri_region ?_
 refine oC (sp_eql rfl (dT hs2)) I0 I0 ?_
 refine oA (sp_assign (.tmp 11) (bv true) rfl) I0 ?_
 refine kN 64 [(1000000, .box 71 [.v (xs 0), iv top, .v (xs 2), .v (xs 3), .v (xs 4), .v (xs 5), .v (xs 6), .v (xs 7), .v (xs 8), .v (xs 9), .v (xs 10), .v (xs 11), .v (xs 12), iv c, .v (xs 14), .v (xs 15), .v (xs 16), .v (xs 17), .v (xs 18), .v (xs 19), .v (xs 20), .v (xs 21), .v (xs 22), .v (xs 23), .v (xs 24), .v (xs 25), .v (xs 26), .v (xs 27), .v (xs 28), .v (xs 29), .v (xs 30), .v (.slice none 0 0), .v (.slice none 0 0)])] [(0, .box 1000000 0), (8, iv top), (9, bv true)] ?_
 refine t_then ?_
 refine t_condT rfl ?_
 refine tri_draw [⟨[(.tmp 0, .box 1000000 0)], [], .box 1000000 0, .no⟩, ⟨[(.tmp 0, .box 1000000 0)], [], .box 1000000 0, .no⟩, ⟨[(.tmp 13, .box 1000000 0)], [], .box 1000000 0, .no⟩, ⟨[(.tmp 14, .box 1000000 0)], [], .box 1000000 0, .no⟩, ⟨[(.tmp 15, .box 1000000 0)], [], .box 1000000 1, .no⟩, ⟨[(.tmp 16, .box 1000000 1)], [(1000000, .box 71 [.v (xs 0), iv top, .v (xs 2), .v (xs 3), .v (xs 4), .v (xs 5), .v (xs 6), .v (xs 7), .v (xs 8), .v (xs 9), .v (xs 10), .v (xs 11), .v (xs 12), iv c, .v (xs 14), .v (xs 15), .v (xs 16), .v (xs 17), .v (xs 18), .v (xs 19), .v (xs 20), .v (xs 21), .v (xs 22), .v (xs 23), .v (xs 24), .v (xs 25), .v (xs 26), .v (xs 27), .v (xs 28), .v (xs 29), .v (xs 30), .v (.slice none 0 0), .v (.slice none 0 0)])], iv top, .no⟩, ⟨[(.tmp 0, .box 1000000 0)], [], .box 1000000 0, .no⟩, ⟨[(.tmp 18, .box 1000000 0)], [], .box 1000000 0, .no⟩, ⟨[(.tmp 19, .box 1000000 0)], [], .box 1000000 13, .no⟩, ⟨[(.tmp 20, .box 1000000 13)], [(1000000, .box 71 [.v (xs 0), iv top, .v (xs 2), .v (xs 3), .v (xs 4), .v (xs 5), .v (xs 6), .v (xs 7), .v (xs 8), .v (xs 9), .v (xs 10), .v (xs 11), .v (xs 12), iv c, .v (xs 14), .v (xs 15), .v (xs 16), .v (xs 17), .v (xs 18), .v (xs 19), .v (xs 20), .v (xs 21), .v (xs 22), .v (xs 23), .v (xs 24), .v (xs 25), .v (xs 26), .v (xs 27), .v (xs 28), .v (xs 29), .v (xs 30), .v (.slice none 0 0), .v (.slice none 0 0)])], iv c, .no⟩, ⟨[(.func 43, .v (.func (.func 43) #[] #[])), (.tmp 17, iv top), (.const (.slice none 0 0), .v (.slice none 0 0)), (.tmp 21, iv c)], [], .fr (.sl 3 c (Ns.lkZ top c c)), .no⟩, ⟨[(.tmp 22, .fr (.sl 3 c (Ns.lkZ top c c)))], [], .own 1, .new 1 (.row false 92 1 1 ([.fr (.sl 3 c (Ns.lkZ top c c))]))⟩, ⟨[(.tmp 12, .box 1000000 0)], [], .box 1000000 0, .no⟩, ⟨[(.tmp 24, .box 1000000 0)], [], .box 1000000 32, .no⟩, ⟨[(.tmp 25, .box 1000000 32), (.tmp 23, .own 1)], [(1000000, .box 71 [.v (xs 0), iv top, .v (xs 2), .v (xs 3), .v (xs 4), .v (xs 5), .v (xs 6), .v (xs 7), .v (xs 8), .v (xs 9), .v (xs 10), .v (xs 11), .v (xs 12), iv c, .v (xs 14), .v (xs 15), .v (xs 16), .v (xs 17), .v (xs 18), .v (xs 19), .v (xs 20), .v (xs 21), .v (xs 22), .v (xs 23), .v (xs 24), .v (xs 25), .v (xs 26), .v (xs 27), .v (xs 28), .v (xs 29), .v (xs 30), .v (.slice none 0 0), .v (.slice none 0 0)])], .v undef, .st 1000000 (.box 71 [.v (xs 0), iv top, .v (xs 2), .v (xs 3), .v (xs 4), .v (xs 5), .v (xs 6), .v (xs 7), .v (xs 8), .v (xs 9), .v (xs 10), .v (xs 11), .v (xs 12), iv c, .v (xs 14), .v (xs 15), .v (xs 16), .v (xs 17), .v (xs 18), .v (xs 19), .v (xs 20), .v (xs 21), .v (xs 22), .v (xs 23), .v (xs 24), .v (xs 25), .v (xs 26), .v (xs 27), .v (xs 28), .v (xs 29), .v (xs 30), .v (.slice none 0 0), .own 1])⟩] (by kernel_rfl) (by kernel_rfl) ?_
 refine ⟨app_yes rfl (sp_move (.tmp 0) (.box 1000000 0) rfl) ⟨I0, T0⟩ T0 T0, ?_⟩
 refine ⟨app_yes rfl (sp_move (.tmp 0) (.box 1000000 0) rfl) ⟨I0, T0⟩ T0 T0, ?_⟩
 refine ⟨app_yes rfl (sp_nilBox (off := 0) (.tmp 13) rfl) ⟨I0, T0⟩ T0 T0, ?_⟩
 refine ⟨app_yes rfl (fB 0 (.tmp 14) rfl Try.underlying71 rfl 10 rfl) ⟨I0, T0⟩ T0 T0, ?_⟩
 refine ⟨app_yes rfl (fB 1 (.tmp 15) rfl Try.underlying27 rfl 1 rfl) ⟨I0, T0⟩ T0 T0, ?_⟩
 refine ⟨app_yes rfl (lB (.box 71 [.v (xs 0), iv top, .v (xs 2), .v (xs 3), .v (xs 4), .v (xs 5), .v (xs 6), .v (xs 7), .v (xs 8), .v (xs 9), .v (xs 10), .v (xs 11), .v (xs 12), iv c, .v (xs 14), .v (xs 15), .v (xs 16), .v (xs 17), .v (xs 18), .v (xs 19), .v (xs 20), .v (xs 21), .v (xs 22), .v (xs 23), .v (xs 24), .v (xs 25), .v (xs 26), .v (xs 27), .v (xs 28), .v (xs 29), .v (xs 30), .v (.slice none 0 0), .v (.slice none 0 0)]) (iv top) (.tmp 16) rfl Try.underlying3 rfl rfl) ⟨I0, T0⟩ ⟨rfl, T0⟩ T0, ?_⟩
 refine ⟨app_yes rfl (sp_move (.tmp 0) (.box 1000000 0) rfl) ⟨I0, T0⟩ T0 T0, ?_⟩
 refine ⟨app_yes rfl (sp_nilBox (off := 0) (.tmp 18) rfl) ⟨I0, T0⟩ T0 T0, ?_⟩
 refine ⟨app_yes rfl (fB 13 (.tmp 19) rfl Try.underlying71 rfl 1 rfl) ⟨I0, T0⟩ T0 T0, ?_⟩
 refine ⟨app_yes rfl (lB (.box 71 [.v (xs 0), iv top, .v (xs 2), .v (xs 3), .v (xs 4), .v (xs 5), .v (xs 6), .v (xs 7), .v (xs 8), .v (xs 9), .v (xs 10), .v (xs 11), .v (xs 12), iv c, .v (xs 14), .v (xs 15), .v (xs 16), .v (xs 17), .v (xs 18), .v (xs 19), .v (xs 20), .v (xs 21), .v (xs 22), .v (xs 23), .v (xs 24), .v (xs 25), .v (xs 26), .v (xs 27), .v (xs 28), .v (xs 29), .v (xs 30), .v (.slice none 0 0), .v (.slice none 0 0)]) (iv c) (.tmp 20) rfl Try.underlying3 rfl rfl) ⟨I0, T0⟩ ⟨rfl, T0⟩ T0, ?_⟩
 refine ⟨app_yes rfl (sp_call (c := .func 43) (xs := #[.tmp 17, .const (.slice none 0 0), .tmp 21]) [] (linksOf_row (.inr hs2) hc) rfl (by kernel_rfl) rfl (Xs := [iv top, .v (.slice none 0 0), iv c]) rfl rfl rfl) ⟨I0, I0, I0, I0, T0⟩ T0 T0, ?_⟩
 refine ⟨app_yes rfl (sp_build (z := 1) (k := 1) (fr := false) (cs := [.fr (.sl 3 c (Ns.lkZ top c c))]) [.tmp 22] [.fr (.sl 3 c (Ns.lkZ top c c))] rfl Try.underlying69 (by kernel_rfl) (by decide) (by decide) rfl rfl rfl (by kernel_rfl) (by decide) (fun h => Bool.noConfusion h) (by kernel_rfl)) ⟨I0, T0⟩ T0 rfl, ?_⟩
 refine ⟨app_yes rfl (sp_nilBox (off := 0) (.tmp 12) rfl) ⟨I0, T0⟩ T0 T0, ?_⟩
 refine ⟨app_yes rfl (fB 32 (.tmp 24) rfl Try.underlying71 rfl 1 rfl) ⟨I0, T0⟩ T0 T0, ?_⟩
 refine ⟨app_yes rfl (sp_storeBox (T0 := 71) (X := .own 1) (cs := [.v (xs 0), iv top, .v (xs 2), .v (xs 3), .v (xs 4), .v (xs 5), .v (xs 6), .v (xs 7), .v (xs 8), .v (xs 9), .v (xs 10), .v (xs 11), .v (xs 12), iv c, .v (xs 14), .v (xs 15), .v (xs 16), .v (xs 17), .v (xs 18), .v (xs 19), .v (xs 20), .v (xs 21), .v (xs 22), .v (xs 23), .v (xs 24), .v (xs 25), .v (xs 26), .v (xs 27), .v (xs 28), .v (xs 29), .v (xs 30), .v (.slice none 0 0), .v (.slice none 0 0)]) (ds := [.v (xs 0), iv top, .v (xs 2), .v (xs 3), .v (xs 4), .v (xs 5), .v (xs 6), .v (xs 7), .v (xs 8), .v (xs 9), .v (xs 10), .v (xs 11), .v (xs 12), iv c, .v (xs 14), .v (xs 15), .v (xs 16), .v (xs 17), .v (xs 18), .v (xs 19), .v (xs 20), .v (xs 21), .v (xs 22), .v (xs 23), .v (xs 24), .v (xs 25), .v (xs 26), .v (xs 27), .v (xs 28), .v (xs 29), .v (xs 30), .v (.slice none 0 0), .own 1]) (z := 1) (.tmp 25) (.tmp 23) rfl (by kernel_rfl) (by kernel_rfl) (by kernel_rfl) (of_decide_eq_true (by kernel_rfl)) (by kernel_rfl)) ⟨I0, I0, T0⟩ ⟨rfl, T0⟩ rfl, ?_⟩
 show ETri J w0 _ _ _
 refine kW 64 [(1, .row false 92 1 1 ([.fr (.sl 3 c (Ns.lkZ top c c))])), (1000000, .box 71 [.v (xs 0), iv top, .v (xs 2), .v (xs 3), .v (xs 4), .v (xs 5), .v (xs 6), .v (xs 7), .v (xs 8), .v (xs 9), .v (xs 10), .v (xs 11), .v (xs 12), iv c, .v (xs 14), .v (xs 15), .v (xs 16), .v (xs 17), .v (xs 18), .v (xs 19), .v (xs 20), .v (xs 21), .v (xs 22), .v (xs 23), .v (xs 24), .v (xs 25), .v (xs 26), .v (xs 27), .v (xs 28), .v (xs 29), .v (xs 30), .v (.slice none 0 0), .own 1])] [] ?_
 refine t_block ?_
 refine t_end_normalW ?_
 refine tri_wk (wk_anyB 1000000 [false, false, false, false, false, false, false, false, false, false, false, false, false, false, false, false, false, false, false, false, false, false, false, false, false, false, false, false, false, false, false, true, true] rfl (ds := [.v (xs 0), iv top, .v (xs 2), .v (xs 3), .v (xs 4), .v (xs 5), .v (xs 6), .v (xs 7), .v (xs 8), .v (xs 9), .v (xs 10), .v (xs 11), .v (xs 12), iv c, .v (xs 14), .v (xs 15), .v (xs 16), .v (xs 17), .v (xs 18), .v (xs 19), .v (xs 20), .v (xs 21), .v (xs 22), .v (xs 23), .v (xs 24), .v (xs 25), .v (xs 26), .v (xs 27), .v (xs 28), .v (xs 29), .v (xs 30), .any, .any]) rfl) ?_
 exact tri_back0 Try.results55  (by decide) (by kernel_rfl)
 refine tri_region ?_
 refine oC (sp_eql rfl (dF hs2)) I0 I0 ?_
 refine oA (sp_assign (.tmp 11) (bv false) rfl) I0 ?_
 refine kN 64 [(1000000, .box 71 [.v (xs 0), iv top, .v (xs 2), .v (xs 3), .v (xs 4), .v (xs 5), .v (xs 6), .v (xs 7), .v (xs 8), .v (xs 9), .v (xs 10), .v (xs 11), .v (xs 12), iv c, .v (xs 14), .v (xs 15), .v (xs 16), .v (xs 17), .v (xs 18), .v (xs 19), .v (xs 20), .v (xs 21), .v (xs 22), .v (xs 23), .v (xs 24), .v (xs 25), .v (xs 26), .v (xs 27), .v (xs 28), .v (xs 29), .v (xs 30), .v (.slice none 0 0), .v (.slice none 0 0)])] [(0, .box 1000000 0), (8, iv top), (9, bv false)] ?_
 refine t_then ?_
 refine t_condF rfl ?_
 refine tri_seq ?_
 by_cases hs3 : top = 4
 refine tri_region ?_
 refine oC (sp_eql rfl (dT hs3)) I0 I0 ?_
 refine oA (sp_assign (.tmp 27) (bv true) rfl) I0 ?_
 refine kN 64 [(1000000, .box 71 [.v (xs 0), iv top, .v (xs 2), .v (xs 3), .v (xs 4), .v (xs 5), .v (xs 6), .v (xs 7), .v (xs 8), .v (xs 9), .v (xs 10), .v (xs 11), .v (xs 12), iv c, .v (xs 14), .v (xs 15), .v (xs 16), .v (xs 17), .v (xs 18), .v (xs 19), .v (xs 20), .v (xs 21), .v (xs 22), .v (xs 23), .v (xs 24), .v (xs 25), .v (xs 26), .v (xs 27), .v (xs 28), .v (xs 29), .v (xs 30), .v (.slice none 0 0), .v (.slice none 0 0)])] [(0, .box 1000000 0), (26, bv true)] ?_
 refine t_then ?_
 refine t_condT rfl ?_
 refine tri_seq ?_
 refine tri_region ?_
 refine oA (sp_move (.tmp 0) (.box 1000000 0) rfl) I0 ?_
 refine oA (sp_move (.tmp 0) (.box 1000000 0) rfl) I0 ?_
 refine oA (sp_nilBox (off := 0) (.tmp 30) rfl) I0 ?_
 refine oA (fB 13 (.tmp 31) rfl Try.underlying71 rfl 1 rfl) I0 ?_
 refine oB (lB (.box 71 [.v (xs 0), iv top, .v (xs 2), .v (xs 3), .v (xs 4), .v (xs 5), .v (xs 6), .v (xs 7), .v (xs 8), .v (xs 9), .v (xs 10), .v (xs 11), .v (xs 12), iv c, .v (xs 14), .v (xs 15), .v (xs 16), .v (xs 17), .v (xs 18), .v (xs 19), .v (xs 20), .v (xs 21), .v (xs 22), .v (xs 23), .v (xs 24), .v (xs 25), .v (xs 26), .v (xs 27), .v (xs 28), .v (xs 29), .v (xs 30), .v (.slice none 0 0), .v (.slice none 0 0)]) (iv c) (.tmp 32) rfl Try.underlying3 rfl rfl) I0 rfl ?_
 refine oC (sp_callP (c := .func 11) (xs := #[.tmp 33]) [] (Sh.Shapes_p _) rfl (by kernel_rfl) rfl (Xs := [iv c]) rfl rfl) I0 I0 ?_
 refine oA (sp_move (.tmp 34) (.tup [slA 1 cLi (Sh.shX ((c : Nat) : Int)), iv (Sh.shZ ((c : Nat) : Int))]) rfl) I0 ?_
 refine oA (sp_extract (X := slA 1 cLi (Sh.shX ((c : Nat) : Int))) (.tmp 28) rfl rfl) I0 ?_
 refine oA (sp_extract (X := iv (Sh.shZ ((c : Nat) : Int))) (.tmp 28) rfl rfl) I0 ?_
 refine oA (sp_nilBox (off := 0) (.tmp 29) rfl) I0 ?_
 refine oA (fB 31 (.tmp 37) rfl Try.underlying71 rfl 1 rfl) I0 ?_
 refine t_op rfl (sp_storeBox (T0 := 71) (X := slA 1 cLi (Sh.shX ((c : Nat) : Int))) (cs := [.v (xs 0), iv top, .v (xs 2), .v (xs 3), .v (xs 4), .v (xs 5), .v (xs 6), .v (xs 7), .v (xs 8), .v (xs 9), .v (xs 10), .v (xs 11), .v (xs 12), iv c, .v (xs 14), .v (xs 15), .v (xs 16), .v (xs 17), .v (xs 18), .v (xs 19), .v (xs 20), .v (xs 21), .v (xs 22), .v (xs 23), .v (xs 24), .v (xs 25), .v (xs 26), .v (xs 27), .v (xs 28), .v (xs 29), .v (xs 30), .v (.slice none 0 0), .v (.slice none 0 0)]) (ds := [.v (xs 0), iv top, .v (xs 2), .v (xs 3), .v (xs 4), .v (xs 5), .v (xs 6), .v (xs 7), .v (xs 8), .v (xs 9), .v (xs 10), .v (xs 11), .v (xs 12), iv c, .v (xs 14), .v (xs 15), .v (xs 16), .v (xs 17), .v (xs 18), .v (xs 19), .v (xs 20), .v (xs 21), .v (xs 22), .v (xs 23), .v (xs 24), .v (xs 25), .v (xs 26), .v (xs 27), .v (xs 28), .v (xs 29), .v (xs 30), slA 1 cLi (Sh.shX ((c : Nat) : Int)), .v (.slice none 0 0)]) (z := 1) (.tmp 38) (.tmp 35) rfl (by kernel_rfl) (by kernel_rfl) (by kernel_rfl) (of_decide_eq_true (by kernel_rfl)) (by kernel_rfl)) ⟨I0, I0, T0⟩ ⟨rfl, T0⟩ rfl ?_
 refine kN 64 [(1000000, .box 71 [.v (xs 0), iv top, .v (xs 2), .v (xs 3), .v (xs 4), .v (xs 5), .v (xs 6), .v (xs 7), .v (xs 8), .v (xs 9), .v (xs 10), .v (xs 11), .v (xs 12), iv c, .v (xs 14), .v (xs 15), .v (xs 16), .v (xs 17), .v (xs 18), .v (xs 19), .v (xs 20), .v (xs 21), .v (xs 22), .v (xs 23), .v (xs 24), .v (xs 25), .v (xs 26), .v (xs 27), .v (xs 28), .v (xs 29), .v (xs 30), slA 1 cLi (Sh.shX ((c : Nat) : Int)), .v (.slice none 0 0)])] [(0, .box 1000000 0)] ?_
 refine t_then ?_
 refine tri_seq ?_
 refine tri_region ?_
 refine oA (sp_move (.tmp 0) (.box 1000000 0) rfl) I0 ?_
 refine oA (sp_nilBox (off := 0) (.tmp 39) rfl) I0 ?_
 refine oA (fB 31 (.tmp 40) rfl Try.underlying71 rfl 1 rfl) I0 ?_
 refine oB (lB (.box 71 [.v (xs 0), iv top, .v (xs 2), .v (xs 3), .v (xs 4), .v (xs 5), .v (xs 6), .v (xs 7), .v (xs 8), .v (xs 9), .v (xs 10), .v (xs 11), .v (xs 12), iv c, .v (xs 14), .v (xs 15), .v (xs 16), .v (xs 17), .v (xs 18), .v (xs 19), .v (xs 20), .v (xs 21), .v (xs 22), .v (xs 23), .v (xs 24), .v (xs 25), .v (xs 26), .v (xs 27), .v (xs 28), .v (xs 29), .v (xs 30), slA 1 cLi (Sh.shX ((c : Nat) : Int)), .v (.slice none 0 0)]) (slA 1 cLi (Sh.shX ((c : Nat) : Int))) (.tmp 41) rfl Try.underlying34 rfl rfl) I0 rfl ?_
 refine oA (sp_lenSl (.tmp 42) rfl Try.underlying34) I0 ?_
 refine oA (sp_move (.const (.int .i64 0)) (iv 0) rfl) I0 ?_
 refine kN 64 [(1000000, .box 71 [.v (xs 0), iv top, .v (xs 2), .v (xs 3), .v (xs 4), .v (xs 5), .v (xs 6), .v (xs 7), .v (xs 8), .v (xs 9), .v (xs 10), .v (xs 11), .v (xs 12), iv c, .v (xs 14), .v (xs 15), .v (xs 16), .v (xs 17), .v (xs 18), .v (xs 19), .v (xs 20), .v (xs 21), .v (xs 22), .v (xs 23), .v (xs 24), .v (xs 25), .v (xs 26), .v (xs 27), .v (xs 28), .v (xs 29), .v (xs 30), slA 1 cLi (Sh.shX ((c : Nat) : Int)), .v (.slice none 0 0)])] [(0, .box 1000000 0), (42, slA 1 cLi (Sh.shX ((c : Nat) : Int))), (43, iv ((Sh.shX ((c : Nat) : Int)).length : Nat)), (44, iv 0)] ?_
 refine t_then ?_
 refine tri_block ?_
 refine tri_wk (wk_adoptB 1000000 32 1 true 92 1 rfl rfl rfl rfl) ?_
 refine tri_loop (σ := {j : Nat // j ≤ (Sh.shX ((c : Nat) : Int)).length}) (fun s => (ofL [(1, .row true 92 1 (((Sh.shX ((c : Nat) : Int)).take s.1).length) (((Sh.shX ((c : Nat) : Int)).take s.1).flatMap Ns.cLk)), (1000000, .box 71 [.v (xs 0), iv top, .v (xs 2), .v (xs 3), .v (xs 4), .v (xs 5), .v (xs 6), .v (xs 7), .v (xs 8), .v (xs 9), .v (xs 10), .v (xs 11), .v (xs 12), iv c, .v (xs 14), .v (xs 15), .v (xs 16), .v (xs 17), .v (xs 18), .v (xs 19), .v (xs 20), .v (xs 21), .v (xs 22), .v (xs 23), .v (xs 24), .v (xs 25), .v (xs 26), .v (xs 27), .v (xs 28), .v (xs 29), .v (xs 30), slA 1 cLi (Sh.shX ((c : Nat) : Int)), .own 1])], ofT 64 [(0, .box 1000000 0), (42, slA 1 cLi (Sh.shX ((c : Nat) : Int))), (43, iv ((Sh.shX ((c : Nat) : Int)).length : Nat)), (44, iv s.1)])) (fun s => (Sh.shX ((c : Nat) : Int)).length - s.1) ⟨0, Nat.zero_le _⟩ (wk_keep _ _ rfl (by kernel_rfl) (by kernel_rfl)) (fun s => ?_)
 obtain ⟨j, hj0⟩ := s
 show ETri J w0 (ofL [(1, .row true 92 1 (((Sh.shX ((c : Nat) : Int)).take j).length) (((Sh.shX ((c : Nat) : Int)).take j).flatMap Ns.cLk)), (1000000, .box 71 [.v (xs 0), iv top, .v (xs 2), .v (xs 3), .v (xs 4), .v (xs 5), .v (xs 6), .v (xs 7), .v (xs 8), .v (xs 9), .v (xs 10), .v (xs 11), .v (xs 12), iv c, .v (xs 14), .v (xs 15), .v (xs 16), .v (xs 17), .v (xs 18), .v (xs 19), .v (xs 20), .v (xs 21), .v (xs 22), .v (xs 23), .v (xs 24), .v (xs 25), .v (xs 26), .v (xs 27), .v (xs 28), .v (xs 29), .v (xs 30), slA 1 cLi (Sh.shX ((c : Nat) : Int)), .own 1])]) (ofT 64 [(0, .box 1000000 0), (42, slA 1 cLi (Sh.shX ((c : Nat) : Int))), (43, iv ((Sh.shX ((c : Nat) : Int)).length : Nat)), (44, iv j)]) _
 have l1 : ((Sh.shX ((c : Nat) : Int)).take j).length ≤ j := List.length_take_le _ _
 refine tri_seq ?_
 by_cases hs4 : ((j : Nat) : Int) < (((Sh.shX ((c : Nat) : Int)).length : Nat) : Int)
 have hj1 : j < (Sh.shX ((c : Nat) : Int)).length := by omega
 have hx0 : 0 < (Sh.shX ((c : Nat) : Int))[j].length := hsh _ (List.getElem_mem hj1)
 have hx1 : (Sh.shX ((c : Nat) : Int))[j].length ≤ 100 := Nat.le_trans (Sh.shX_mem _ _ (List.getElem_mem hj1)).1 (by decide)
 refine tri_region ?_
 refine oC (sp_lss rfl (dT hs4)) I0 I0 ?_
 refine kN 64 [(1, .row true 92 1 (((Sh.shX ((c : Nat) : Int)).take j).length) (((Sh.shX ((c : Nat) : Int)).take j).flatMap Ns.cLk)), (1000000, .box 71 [.v (xs 0), iv top, .v (xs 2), .v (xs 3), .v (xs 4), .v (xs 5), .v (xs 6), .v (xs 7), .v (xs 8), .v (xs 9), .v (xs 10), .v (xs 11), .v (xs 12), iv c, .v (xs 14), .v (xs 15), .v (xs 16), .v (xs 17), .v (xs 18), .v (xs 19), .v (xs 20), .v (xs 21), .v (xs 22), .v (xs 23), .v (xs 24), .v (xs 25), .v (xs 26), .v (xs 27), .v (xs 28), .v (xs 29), .v (xs 30), slA 1 cLi (Sh.shX ((c : Nat) : Int)), .own 1])] [(0, .box 1000000 0), (42, slA 1 cLi (Sh.shX ((c : Nat) : Int))), (43, iv ((Sh.shX ((c : Nat) : Int)).length : Nat)), (44, iv j), (45, bv true)] ?_
 refine t_then ?_
 refine tri_seq ?_
 refine t_condT rfl ?_
 refine tri_skip ?_
 refine t_then ?_
 refine tri_seq ?_
 refine tri_block ?_
 refine tri_seq ?_
 refine tri_region ?_
 refine oC (sp_indexSl (off := j * 1) (.tmp 42) (.tmp 44) rfl Try.underlying34 (by kernel_rfl) (by omega) (by omega) rfl) I0 I0 ?_
 refine oA (sp_loadEl1 (X := intsA ((Sh.shX ((c : Nat) : Int))[j])) (.tmp 46) rfl Try.underlying24 rfl ((eflat_get lenLi (Sh.shX ((c : Nat) : Int)) j 0 (by omega) (by decide)).trans rfl)) I0 ?_
 refine oA (sp_assign (.tmp 47) (intsA ((Sh.shX ((c : Nat) : Int))[j])) rfl) I0 ?_
 refine kN 64 [(1, .row true 92 1 (((Sh.shX ((c : Nat) : Int)).take j).length) (((Sh.shX ((c : Nat) : Int)).take j).flatMap Ns.cLk)), (1000000, .box 71 [.v (xs 0), iv top, .v (xs 2), .v (xs 3), .v (xs 4), .v (xs 5), .v (xs 6), .v (xs 7), .v (xs 8), .v (xs 9), .v (xs 10), .v (xs 11), .v (xs 12), iv c, .v (xs 14), .v (xs 15), .v (xs 16), .v (xs 17), .v (xs 18), .v (xs 19), .v (xs 20), .v (xs 21), .v (xs 22), .v (xs 23), .v (xs 24), .v (xs 25), .v (xs 26), .v (xs 27), .v (xs 28), .v (xs 29), .v (xs 30), slA 1 cLi (Sh.shX ((c : Nat) : Int)), .own 1])] [(0, .box 1000000 0), (3, intsA ((Sh.shX ((c : Nat) : Int))[j])), (42, slA 1 cLi (Sh.shX ((c : Nat) : Int))), (43, iv ((Sh.shX ((c : Nat) : Int)).length : Nat)), (44, iv j), (45, bv true)] ?_
 refine t_then ?_
 refine tri_draw [⟨[(.tmp 0, .box 1000000 0)], [], .box 1000000 0, .no⟩, ⟨[(.tmp 0, .box 1000000 0)], [], .box 1000000 0, .no⟩, ⟨[(.tmp 49, .box 1000000 0)], [], .box 1000000 0, .no⟩, ⟨[(.tmp 50, .box 1000000 0)], [], .box 1000000 32, .no⟩, ⟨[(.tmp 51, .box 1000000 32)], [(1000000, .box 71 [.v (xs 0), iv top, .v (xs 2), .v (xs 3), .v (xs 4), .v (xs 5), .v (xs 6), .v (xs 7), .v (xs 8), .v (xs 9), .v (xs 10), .v (xs 11), .v (xs 12), iv c, .v (xs 14), .v (xs 15), .v (xs 16), .v (xs 17), .v (xs 18), .v (xs 19), .v (xs 20), .v (xs 21), .v (xs 22), .v (xs 23), .v (xs 24), .v (xs 25), .v (xs 26), .v (xs 27), .v (xs 28), .v (xs 29), .v (xs 30), slA 1 cLi (Sh.shX ((c : Nat) : Int)), .own 1])], .own 1, .no⟩, ⟨[(.tmp 3, intsA ((Sh.shX ((c : Nat) : Int))[j]))], [], intsA ((Sh.shX ((c : Nat) : Int))[j]), .no⟩, ⟨[(.tmp 0, .box 1000000 0)], [], .box 1000000 0, .no⟩, ⟨[(.tmp 54, .box 1000000 0)], [], .box 1000000 0, .no⟩, ⟨[(.tmp 55, .box 1000000 0)], [], .box 1000000 13, .no⟩, ⟨[(.tmp 56, .box 1000000 13)], [(1000000, .box 71 [.v (xs 0), iv top, .v (xs 2), .v (xs 3), .v (xs 4), .v (xs 5), .v (xs 6), .v (xs 7), .v (xs 8), .v (xs 9), .v (xs 10), .v (xs 11), .v (xs 12), iv c, .v (xs 14), .v (xs 15), .v (xs 16), .v (xs 17), .v (xs 18), .v (xs 19), .v (xs 20), .v (xs 21), .v (xs 22), .v (xs 23), .v (xs 24), .v (xs 25), .v (xs 26), .v (xs 27), .v (xs 28), .v (xs 29), .v (xs 30), slA 1 cLi (Sh.shX ((c : Nat) : Int)), .own 1])], iv c, .no⟩, ⟨[(.func 43, .v (.func (.func 43) #[] #[])), (.const (.int .i64 4), iv 4), (.tmp 53, intsA ((Sh.shX ((c : Nat) : Int))[j])), (.tmp 57, iv c)], [], .fr (Ns.lkT ((Sh.shX ((c : Nat) : Int))[j])), .no⟩, ⟨[(.tmp 58, .fr (Ns.lkT ((Sh.shX ((c : Nat) : Int))[j])))], [], .own 2, .new 2 (.row false 92 1 1 ([.fr (Ns.lkT ((Sh.shX ((c : Nat) : Int))[j]))]))⟩, ⟨[(.tmp 52, .own 1), (.tmp 59, .own 2)], [(1, .row true 92 1 (((Sh.shX ((c : Nat) : Int)).take j).length) (((Sh.shX ((c : Nat) : Int)).take j).flatMap Ns.cLk)), (2, .row false 92 1 1 ([.fr (Ns.lkT ((Sh.shX ((c : Nat) : Int))[j]))]))], .own 1, .ap 1 (.row true 92 1 (((Sh.shX ((c : Nat) : Int)).take j).length + 1) (((Sh.shX ((c : Nat) : Int)).take (j + 1)).flatMap Ns.cLk))⟩, ⟨[(.tmp 48, .box 1000000 0)], [], .box 1000000 0, .no⟩, ⟨[(.tmp 61, .box 1000000 0)], [], .box 1000000 32, .no⟩, ⟨[(.tmp 62, .box 1000000 32), (.tmp 60, .own 1)], [(1000000, .box 71 [.v (xs 0), iv top, .v (xs 2), .v (xs 3), .v (xs 4), .v (xs 5), .v (xs 6), .v (xs 7), .v (xs 8), .v (xs 9), .v (xs 10), .v (xs 11), .v (xs 12), iv c, .v (xs 14), .v (xs 15), .v (xs 16), .v (xs 17), .v (xs 18), .v (xs 19), .v (xs 20), .v (xs 21), .v (xs 22), .v (xs 23), .v (xs 24), .v (xs 25), .v (xs 26), .v (xs 27), .v (xs 28), .v (xs 29), .v (xs 30), slA 1 cLi (Sh.shX ((c : Nat) : Int)), .any])], .v undef, .st 1000000 (.box 71 [.v (xs 0), iv top, .v (xs 2), .v (xs 3), .v (xs 4), .v (xs 5), .v (xs 6), .v (xs 7), .v (xs 8), .v (xs 9), .v (xs 10), .v (xs 11), .v (xs 12), iv c, .v (xs 14), .v (xs 15), .v (xs 16), .v (xs 17), .v (xs 18), .v (xs 19), .v (xs 20), .v (xs 21), .v (xs 22), .v (xs 23), .v (xs 24), .v (xs 25), .v (xs 26), .v (xs 27), .v (xs 28), .v (xs 29), .v (xs 30), slA 1 cLi (Sh.shX ((c : Nat) : Int)), .own 1])⟩] (by kernel_rfl) (by kernel_rfl) ?_
 refine ⟨app_yes rfl (sp_move (.tmp 0) (.box 1000000 0) rfl) ⟨I0, T0⟩ T0 T0, ?_⟩
 refine ⟨app_yes rfl (sp_move (.tmp 0) (.box 1000000 0) rfl) ⟨I0, T0⟩ T0 T0, ?_⟩
 refine ⟨app_yes rfl (sp_nilBox (off := 0) (.tmp 49) rfl) ⟨I0, T0⟩ T0 T0, ?_⟩
 refine ⟨app_yes rfl (fB 32 (.tmp 50) rfl Try.underlying71 rfl 1 rfl) ⟨I0, T0⟩ T0 T0, ?_⟩
 refine ⟨app_yes rfl (lB (.box 71 [.v (xs 0), iv top, .v (xs 2), .v (xs 3), .v (xs 4), .v (xs 5), .v (xs 6), .v (xs 7), .v (xs 8), .v (xs 9), .v (xs 10), .v (xs 11), .v (xs 12), iv c, .v (xs 14), .v (xs 15), .v (xs 16), .v (xs 17), .v (xs 18), .v (xs 19), .v (xs 20), .v (xs 21), .v (xs 22), .v (xs 23), .v (xs 24), .v (xs 25), .v (xs 26), .v (xs 27), .v (xs 28), .v (xs 29), .v (xs 30), slA 1 cLi (Sh.shX ((c : Nat) : Int)), .own 1]) (.own 1) (.tmp 51) rfl Try.underlying69 rfl rfl) ⟨I0, T0⟩ ⟨rfl, T0⟩ T0, ?_⟩
 refine ⟨app_yes rfl (sp_move (.tmp 3) (intsA ((Sh.shX ((c : Nat) : Int))[j])) rfl) ⟨I0, T0⟩ T0 T0, ?_⟩
 refine ⟨app_yes rfl (sp_move (.tmp 0) (.box 1000000 0) rfl) ⟨I0, T0⟩ T0 T0, ?_⟩
 refine ⟨app_yes rfl (sp_nilBox (off := 0) (.tmp 54) rfl) ⟨I0, T0⟩ T0 T0, ?_⟩
 refine ⟨app_yes rfl (fB 13 (.tmp 55) rfl Try.underlying71 rfl 1 rfl) ⟨I0, T0⟩ T0 T0, ?_⟩
 refine ⟨app_yes rfl (lB (.box 71 [.v (xs 0), iv top, .v (xs 2), .v (xs 3), .v (xs 4), .v (xs 5), .v (xs 6), .v (xs 7), .v (xs 8), .v (xs 9), .v (xs 10), .v (xs 11), .v (xs 12), iv c, .v (xs 14), .v (xs 15), .v (xs 16), .v (xs 17), .v (xs 18), .v (xs 19), .v (xs 20), .v (xs 21), .v (xs 22), .v (xs 23), .v (xs 24), .v (xs 25), .v (xs 26), .v (xs 27), .v (xs 28), .v (xs 29), .v (xs 30), slA 1 cLi (Sh.shX ((c : Nat) : Int)), .own 1]) (iv c) (.tmp 56) rfl Try.underlying3 rfl rfl) ⟨I0, T0⟩ ⟨rfl, T0⟩ T0, ?_⟩
 refine ⟨app_yes rfl (sp_call (c := .func 43) (xs := #[.const (.int .i64 4), .tmp 53, .tmp 57]) [] (linksOf_tree (Sh.shX_mem _ _ (List.getElem_mem (by omega))).2 hx0 hx1) rfl (by kernel_rfl) rfl (Xs := [iv 4, intsA ((Sh.shX ((c : Nat) : Int))[j]), iv c]) rfl rfl rfl) ⟨I0, I0, I0, I0, T0⟩ T0 T0, ?_⟩
 refine ⟨app_yes rfl (sp_build (z := 1) (k := 2) (fr := false) (cs := [.fr (Ns.lkT ((Sh.shX ((c : Nat) : Int))[j]))]) [.tmp 58] [.fr (Ns.lkT ((Sh.shX ((c : Nat) : Int))[j]))] rfl Try.underlying69 (by kernel_rfl) (by decide) (by decide) rfl rfl rfl (by kernel_rfl) (by decide) (fun h => Bool.noConfusion h) (by kernel_rfl)) ⟨I0, T0⟩ T0 rfl, ?_⟩
 refine ⟨app_yes rfl (sp_appendOwn (n := ((Sh.shX ((c : Nat) : Int)).take j).length) (cs := (((Sh.shX ((c : Nat) : Int)).take j).flatMap Ns.cLk)) (fr := true) (m := 1) (ds := [.fr (Ns.lkT ((Sh.shX ((c : Nat) : Int))[j]))]) (⟨Try.underlying69, by kernel_rfl, by decide⟩ : Elt Try.prog 69 92 1 24) (.tmp 52) (.tmp 59) rfl (fun _ => Ns.newLk (Sh.shX ((c : Nat) : Int))[j]) (by unfold maxLen; omega) (by omega) (Ns.cellLk (Sh.shX ((c : Nat) : Int))[j]) (es := (((Sh.shX ((c : Nat) : Int)).take (j + 1)).flatMap Ns.cLk)) (Ns.snocLk (by omega))) ⟨I0, I0, T0⟩ ⟨rfl, rfl, T0⟩ rfl, ?_⟩
 refine ⟨app_yes rfl (sp_nilBox (off := 0) (.tmp 48) rfl) ⟨I0, T0⟩ T0 T0, ?_⟩
 refine ⟨app_yes rfl (fB 32 (.tmp 61) rfl Try.underlying71 rfl 1 rfl) ⟨I0, T0⟩ T0 T0, ?_⟩
 refine ⟨app_yes rfl (sp_storeBox (T0 := 71) (X := .own 1) (cs := [.v (xs 0), iv top, .v (xs 2), .v (xs 3), .v (xs 4), .v (xs 5), .v (xs 6), .v (xs 7), .v (xs 8), .v (xs 9), .v (xs 10), .v (xs 11), .v (xs 12), iv c, .v (xs 14), .v (xs 15), .v (xs 16), .v (xs 17), .v (xs 18), .v (xs 19), .v (xs 20), .v (xs 21), .v (xs 22), .v (xs 23), .v (xs 24), .v (xs 25), .v (xs 26), .v (xs 27), .v (xs 28), .v (xs 29), .v (xs 30), slA 1 cLi (Sh.shX ((c : Nat) : Int)), .any]) (ds := [.v (xs 0), iv top, .v (xs 2), .v (xs 3), .v (xs 4), .v (xs 5), .v (xs 6), .v (xs 7), .v (xs 8), .v (xs 9), .v (xs 10), .v (xs 11), .v (xs 12), iv c, .v (xs 14), .v (xs 15), .v (xs 16), .v (xs 17), .v (xs 18), .v (xs 19), .v (xs 20), .v (xs 21), .v (xs 22), .v (xs 23), .v (xs 24), .v (xs 25), .v (xs 26), .v (xs 27), .v (xs 28), .v (xs 29), .v (xs 30), slA 1 cLi (Sh.shX ((c : Nat) : Int)), .own 1]) (z := 1) (.tmp 62) (.tmp 60) rfl (by kernel_rfl) (by kernel_rfl) (by kernel_rfl) (of_decide_eq_true (by kernel_rfl)) (by kernel_rfl)) ⟨I0, I0, T0⟩ ⟨rfl, T0⟩ rfl, ?_⟩
 show ETri J w0 _ _ _
 refine kW 64 [(1, .row true 92 1 (((Sh.shX ((c : Nat) : Int)).take j).length + 1) (((Sh.shX ((c : Nat) : Int)).take (j + 1)).flatMap Ns.cLk)), (1000000, .box 71 [.v (xs 0), iv top, .v (xs 2), .v (xs 3), .v (xs 4), .v (xs 5), .v (xs 6), .v (xs 7), .v (xs 8), .v (xs 9), .v (xs 10), .v (xs 11), .v (xs 12), iv c, .v (xs 14), .v (xs 15), .v (xs 16), .v (xs 17), .v (xs 18), .v (xs 19), .v (xs 20), .v (xs 21), .v (xs 22), .v (xs 23), .v (xs 24), .v (xs 25), .v (xs 26), .v (xs 27), .v (xs 28), .v (xs 29), .v (xs 30), slA 1 cLi (Sh.shX ((c : Nat) : Int)), .own 1])] [(0, .box 1000000 0), (3, intsA ((Sh.shX ((c : Nat) : Int))[j])), (42, slA 1 cLi (Sh.shX ((c : Nat) : Int))), (43, iv ((Sh.shX ((c : Nat) : Int)).length : Nat)), (44, iv j), (45, bv true)] ?_
 refine t_block ?_
 refine t_then ?_
 refine tri_region ?_
 refine oC (sp_add (c := ((j + 1 : Nat) : Int)) rfl (w64 (by omega) (by omega) (by omega))) I0 I0 ?_
 refine oA (sp_move (.tmp 63) (iv (j + 1 : Nat)) rfl) I0 ?_
 refine kN 64 [(1, .row true 92 1 (((Sh.shX ((c : Nat) : Int)).take j).length + 1) (((Sh.shX ((c : Nat) : Int)).take (j + 1)).flatMap Ns.cLk)), (1000000, .box 71 [.v (xs 0), iv top, .v (xs 2), .v (xs 3), .v (xs 4), .v (xs 5), .v (xs 6), .v (xs 7), .v (xs 8), .v (xs 9), .v (xs 10), .v (xs 11), .v (xs 12), iv c, .v (xs 14), .v (xs 15), .v (xs 16), .v (xs 17), .v (xs 18), .v (xs 19), .v (xs 20), .v (xs 21), .v (xs 22), .v (xs 23), .v (xs 24), .v (xs 25), .v (xs 26), .v (xs 27), .v (xs 28), .v (xs 29), .v (xs 30), slA 1 cLi (Sh.shX ((c : Nat) : Int)), .own 1])] [(0, .box 1000000 0), (3, intsA ((Sh.shX ((c : Nat) : Int))[j])), (42, slA 1 cLi (Sh.shX ((c : Nat) : Int))), (43, iv ((Sh.shX ((c : Nat) : Int)).length : Nat)), (44, iv (j + 1 : Nat)), (45, bv true)] ?_
 refine t_then ?_
 refine tri_again ⟨j + 1, by omega⟩ (show (Sh.shX ((c : Nat) : Int)).length - (j + 1) < (Sh.shX ((c : Nat) : Int)).length - j by omega) ?_
 show Wk _ _ (ofL [(1, .row true 92 1 (((Sh.shX ((c : Nat) : Int)).take (j + 1)).length) (((Sh.shX ((c : Nat) : Int)).take (j + 1)).flatMap Ns.cLk)), (1000000, .box 71 [.v (xs 0), iv top, .v (xs 2), .v (xs 3), .v (xs 4), .v (xs 5), .v (xs 6), .v (xs 7), .v (xs 8), .v (xs 9), .v (xs 10), .v (xs 11), .v (xs 12), iv c, .v (xs 14), .v (xs 15), .v (xs 16), .v (xs 17), .v (xs 18), .v (xs 19), .v (xs 20), .v (xs 21), .v (xs 22), .v (xs 23), .v (xs 24), .v (xs 25), .v (xs 26), .v (xs 27), .v (xs 28), .v (xs 29), .v (xs 30), slA 1 cLi (Sh.shX ((c : Nat) : Int)), .own 1])]) (ofT 64 [(0, .box 1000000 0), (42, slA 1 cLi (Sh.shX ((c : Nat) : Int))), (43, iv ((Sh.shX ((c : Nat) : Int)).length : Nat)), (44, iv ((j + 1) : Nat))])
 rw [show ((Sh.shX ((c : Nat) : Int)).take (j + 1)).length = ((Sh.shX ((c : Nat) : Int)).take j).length + 1 by rw [List.length_take, List.length_take]; omega]
 exact wk_keep _ _ rfl (by kernel_rfl) (by kernel_rfl)
 refine tri_region ?_
 refine oC (sp_lss rfl (dF hs4)) I0 I0 ?_
 refine kN 64 [(1, .row true 92 1 (((Sh.shX ((c : Nat) : Int)).take j).length) (((Sh.shX ((c : Nat) : Int)).take j).flatMap Ns.cLk)), (1000000, .box 71 [.v (xs 0), iv top, .v (xs 2), .v (xs 3), .v (xs 4), .v (xs 5), .v (xs 6), .v (xs 7), .v (xs 8), .v (xs 9), .v (xs 10), .v (xs 11), .v (xs 12), iv c, .v (xs 14), .v (xs 15), .v (xs 16), .v (xs 17), .v (xs 18), .v (xs 19), .v (xs 20), .v (xs 21), .v (xs 22), .v (xs 23), .v (xs 24), .v (xs 25), .v (xs 26), .v (xs 27), .v (xs 28), .v (xs 29), .v (xs 30), slA 1 cLi (Sh.shX ((c : Nat) : Int)), .own 1])] [(0, .box 1000000 0), (42, slA 1 cLi (Sh.shX ((c : Nat) : Int))), (43, iv ((Sh.shX ((c : Nat) : Int)).length : Nat)), (44, iv j), (45, bv false)] ?_
 refine t_then ?_
 refine tri_seq ?_
 refine t_condF rfl ?_
 refine tri_exit ?_
 refine t_then_exit ?_
 refine t_then_exit ?_
 refine t_hit ?_
 refine t_block ?_
 refine t_end_normalW ?_
 refine tri_wk (wk_anyB 1000000 [false, false, false, false, false, false, false, false, false, false, false, false, false, false, false, false, false, false, false, false, false, false, false, false, false, false, false, false, false, false, false, true, true] rfl (ds := [.v (xs 0), iv top, .v (xs 2), .v (xs 3), .v (xs 4), .v (xs 5), .v (xs 6), .v (xs 7), .v (xs 8), .v (xs 9), .v (xs 10), .v (xs 11), .v (xs 12), iv c, .v (xs 14), .v (xs 15), .v (xs 16), .v (xs 17), .v (xs 18), .v (xs 19), .v (xs 20), .v (xs 21), .v (xs 22), .v (xs 23), .v (xs 24), .v (xs 25), .v (xs 26), .v (xs 27), .v (xs 28), .v (xs 29), .v (xs 30), .any, .any]) rfl) ?_
 exact tri_back0 Try.results55  (by decide) (by kernel_rfl)
 refine tri_region ?_
 refine oC (sp_eql rfl (dF hs3)) I0 I0 ?_
 refine oA (sp_assign (.tmp 27) (bv false) rfl) I0 ?_
 refine kN 64 [(1000000, .box 71 [.v (xs 0), iv top, .v (xs 2), .v (xs 3), .v (xs 4), .v (xs 5), .v (xs 6), .v (xs 7), .v (xs 8), .v (xs 9), .v (xs 10), .v (xs 11), .v (xs 12), iv c, .v (xs 14), .v (xs 15), .v (xs 16), .v (xs 17), .v (xs 18), .v (xs 19), .v (xs 20), .v (xs 21), .v (xs 22), .v (xs 23), .v (xs 24), .v (xs 25), .v (xs 26), .v (xs 27), .v (xs 28), .v (xs 29), .v (xs 30), .v (.slice none 0 0), .v (.slice none 0 0)])] [(0, .box 1000000 0), (26, bv false)] ?_
 refine t_then ?_
 refine t_condF rfl ?_
 refine tri_skip ?_
 refine t_block ?_
 refine t_end_normalW ?_
 refine tri_wk (wk_anyB 1000000 [false, false, false, false, false, false, false, false, false, false, false, false, false, false, false, false, false, false, false, false, false, false, false, false, false, false, false, false, false, false, false, true, true] rfl (ds := [.v (xs 0), iv top, .v (xs 2), .v (xs 3), .v (xs 4), .v (xs 5), .v (xs 6), .v (xs 7), .v (xs 8), .v (xs 9), .v (xs 10), .v (xs 11), .v (xs 12), iv c, .v (xs 14), .v (xs 15), .v (xs 16), .v (xs 17), .v (xs 18), .v (xs 19), .v (xs 20), .v (xs 21), .v (xs 22), .v (xs 23), .v (xs 24), .v (xs 25), .v (xs 26), .v (xs 27), .v (xs 28), .v (xs 29), .v (xs 30), .any, .any]) rfl) ?_
 exact tri_back0 Try.results55  (by decide) (by kernel_rfl)
end Go.Proofs.Ytgbgfkhkjlakbaa

namespace Go.Proofs.Ytgbgfkhkjlakbaa
open Go.RowKit Go.Deep
variable {J : World → Prop}
namespace Ns
theorem cnt_lo {p : Fm} {n f : Int} (h : 1 ≤ n ∧ n ≤ 1048576 ∧ 0 ≤ f ∧ f ≤ n) : 0 ≤ cntE p n f := by unfold cntE; split <;> omega
theorem cnt_hi {p : Fm} {n f : Int} (h : 1 ≤ n ∧ n ≤ 1048576 ∧ 0 ≤ f ∧ f ≤ n) (h8 : ¬ 8 < n) : cntE p n f ≤ 8 := by unfold cntE; split <;> omega
theorem place_c {top c : Int} (h0 : 0 ≤ c) (h8 : c ≤ 8) (xs : Nat → Value) : CtrW Try.prog J 55 [.box 1000000 0] 1000000 (.box 71 [.v (xs 0), iv top, .v (xs 2), .v (xs 3), .v (xs 4), .v (xs 5), .v (xs 6), .v (xs 7), .v (xs 8), .v (xs 9), .v (xs 10), .v (xs 11), .v (xs 12), iv c, .v (xs 14), .v (xs 15), .v (xs 16), .v (xs 17), .v (xs 18), .v (xs 19), .v (xs 20), .v (xs 21), .v (xs 22), .v (xs 23), .v (xs 24), .v (xs 25), .v (xs 26), .v (xs 27), .v (xs 28), .v (xs 29), .v (xs 30), .v (.slice none 0 0), .v (.slice none 0 0)]) (.box 71 [.v (xs 0), iv top, .v (xs 2), .v (xs 3), .v (xs 4), .v (xs 5), .v (xs 6), .v (xs 7), .v (xs 8), .v (xs 9), .v (xs 10), .v (xs 11), .v (xs 12), iv c, .v (xs 14), .v (xs 15), .v (xs 16), .v (xs 17), .v (xs 18), .v (xs 19), .v (xs 20), .v (xs 21), .v (xs 22), .v (xs 23), .v (xs 24), .v (xs 25), .v (xs 26), .v (xs 27), .v (xs 28), .v (xs 29), .v (xs 30), .any, .any]) (.v (.tuple #[])) := by
  obtain ⟨m, rfl⟩ := Int.eq_ofNat_of_zero_le h0
  exact place_w (by omega) xs
theorem plain_sys (p : Fm) (n t f : Int) : ∀ X ∈ sysC p n t f, Plain X := by
  intro X hX
  unfold sysC at hX
  rcases List.mem_append.1 hX with h | h
  · exact plain_fm p X h
  · simp only [List.mem_cons, List.not_mem_nil, or_false] at h
    rcases h with rfl | rfl | rfl | rfl | rfl | rfl | rfl | rfl | rfl | rfl | rfl | rfl | rfl | rfl | rfl | rfl | rfl | rfl | rfl | rfl | rfl | rfl | rfl <;> first | exact .v _ | exact .any
theorem plain_mask {m : List Bool} {c0 : List AV} (h : ∀ xs, (maskC m xs c0).all AV.isV = true) : ∀ xs, ∀ X ∈ maskC m xs c0, Plain X := fun xs X hX => by
  have := List.all_eq_true.1 (h xs) X hX
  cases X <;> first | exact .v _ | cases this
theorem pw1 {k o : Nat} : ∀ X ∈ [AV.box k o], PlainW X := fun X hX => by
  rw [List.mem_singleton] at hX; rw [hX]; exact .box _ _
theorem place_m {p : Fm} {n t f : Int} (h0 : 0 ≤ cntE p n f) (h8 : cntE p n f ≤ 8) : ∀ xs' : Nat → Value, CtrW Try.prog J 55 [.box 1000000 0] 1000000 (.box 71 (maskC [true, false, true, true, true, true, true, true, true, true, true, true, true, false, true, true, true, true, true, true, true, true, true, true, true, true, true, true, true, true, true, false, false] xs' [sv p.nm, iv p.top, strsA p.states, strsA p.msgs, strsA p.vals, iv p.fault, slA 4 cLn p.res, intsA p.init, intsA p.leader, slA 18 cRu p.rules, iv n, iv t, iv f, iv (cntE p n f), iv (n - f), .any, .any, .any, .any, .any, .any, .any, .any, .any, .any, .any, .any, .any, .any, .any, .any, .v (.slice none 0 0), .v (.slice none 0 0)])) (.box 71 (maskC [true, false, true, true, true, true, true, true, true, true, true, true, true, false, true, true, true, true, true, true, true, true, true, true, true, true, true, true, true, true, true, false, false] xs' [sv p.nm, iv p.top, strsA p.states, strsA p.msgs, strsA p.vals, iv p.fault, slA 4 cLn p.res, intsA p.init, intsA p.leader, slA 18 cRu p.rules, iv n, iv t, iv f, iv (cntE p n f), iv (n - f), .any, .any, .any, .any, .any, .any, .any, .any, .any, .any, .any, .any, .any, .any, .any, .any, .any, .any])) (.v (.tuple #[])) := fun xs => place_c h0 h8 xs
end Ns
set_option linter.unusedSimpArgs false in
set_option linter.unusedVariables false in
set_option maxRecDepth 100000 in
set_option maxHeartbeats 6400000 in
theorem newSystem_err {p : Fm} (HP : FmOk p) {n t f : Int} (hs : ¬ Ns.sysE p n t f = 0) : CtrA Try.prog J 28 [.agg (cFm p), .agg (cSz n t f)] (.tup [.v (.pointer none), iv (Ns.sysE p n t f)]) := by
 refine ctrA_of_tri Try.func28 rfl (by intro X hX; simp only [List.mem_cons, List.not_mem_nil, or_false] at hX; rcases hX with rfl | rfl; exact plain_agg (plain_fm p); exact plain_agg (plain_sz n t f)) (n := 80) rfl (by simp) (fun w0 => ?_)
 refine kW 80 [] [(0, .agg (cFm p)), (1, .agg (cSz n t f))] ?_
 refine tri_seq ?_
 refine tri_region ?_
 refine t_op rfl (sp_box (X := .agg (cFm p)) (k := 1) (.tmp 0) rfl rfl) ⟨I0, T0⟩ T0 rfl ?_
 refine t_op rfl (sp_box (X := .agg (cSz n t f)) (k := 2) (.tmp 1) rfl rfl) ⟨I0, T0⟩ T0 rfl ?_
 refine oA (sp_assign (.const (.pointer none)) (.v (.pointer none)) rfl) I0 ?_
 refine oA (sp_assign (.const (.int .i64 0)) (iv 0) rfl) I0 ?_
 refine kN 80 [(1, .box 27 (cFm p)), (2, .box 29 (cSz n t f))] [(2, .box 1 0), (3, .box 2 0), (4, .v (.pointer none)), (5, iv 0)] ?_
 refine t_then ?_
 refine tri_seq ?_
 refine tri_seq ?_
 refine tri_region ?_
 refine oB (sp_loadBoxS (Y := .box 27 (cFm p)) (ds := cFm p) (z := 10) (.tmp 2) rfl Try.underlying27 rfl (by kernel_rfl) (by decide) (by kernel_rfl) (by kernel_rfl)) I0 rfl ?_
 refine oC (sp_call (c := .func 52) (xs := #[.tmp 12]) [] (qValidate_c HP) rfl (by kernel_rfl) rfl (Xs := [.agg (cFm p)]) rfl rfl rfl) I0 I0 ?_
 refine oA (sp_assign (.tmp 13) (iv (valE p)) rfl) I0 ?_
 refine kN 80 [(1, .box 27 (cFm p)), (2, .box 29 (cSz n t f))] [(2, .box 1 0), (3, .box 2 0), (4, .v (.pointer none)), (5, iv 0), (6, iv (valE p))] ?_
 refine t_then ?_
 refine tri_seq ?_
 by_cases hs1 : valE p = 0
 obtain ⟨hr8, hg2⟩ := Ns.val_lims hs1
 refine tri_region ?_
 refine oA (sp_move (.tmp 6) (iv (valE p)) rfl) I0 ?_
 refine oC (sp_neq rfl (dT' hs1)) I0 I0 ?_
 refine kN 80 [(1, .box 27 (cFm p)), (2, .box 29 (cSz n t f))] [(2, .box 1 0), (3, .box 2 0), (4, .v (.pointer none)), (5, iv 0), (6, iv (valE p)), (15, bv false)] ?_
 refine t_then ?_
 refine t_condF rfl ?_
 refine tri_skip ?_
 refine t_then ?_
 refine tri_seq ?_
 refine tri_seq ?_
 by_cases hs2 : (admB p n t f) = true
 have hai := Ns.adm_in hs2
 refine tri_region ?_
 refine oB (sp_loadBoxS (Y := .box 27 (cFm p)) (ds := cFm p) (z := 10) (.tmp 2) rfl Try.underlying27 rfl (by kernel_rfl) (by decide) (by kernel_rfl) (by kernel_rfl)) I0 rfl ?_
 refine oB (sp_loadBoxS (Y := .box 29 (cSz n t f)) (ds := cSz n t f) (z := 3) (.tmp 3) rfl Try.underlying29 rfl (by kernel_rfl) (by decide) (by kernel_rfl) (by kernel_rfl)) I0 rfl ?_
 refine oD (sp_call (c := .func 53) (xs := #[.tmp 17, .tmp 18]) [] (ctr_b (Ns.adm_c HP hs1) hs2) rfl (by kernel_rfl) rfl (Xs := [.agg (cFm p), .agg (cSz n t f)]) rfl rfl rfl) I0 I0 I0 ?_
 refine oA (sp_not rfl rfl) I0 ?_
 refine kN 80 [(1, .box 27 (cFm p)), (2, .box 29 (cSz n t f))] [(2, .box 1 0), (3, .box 2 0), (4, .v (.pointer none)), (5, iv 0), (20, bv false)] ?_
 refine t_then ?_
 refine t_condF rfl ?_
 refine tri_skip ?_
 refine t_then ?_
 refine tri_seq ?_
 refine tri_seq ?_
 refine tri_region ?_
 refine oA (fB 0 (.tmp 3) rfl Try.underlying29 rfl 1 rfl) I0 ?_
 refine oB (lB (.box 29 (cSz n t f)) (iv n) (.tmp 21) rfl Try.underlying3 rfl rfl) I0 rfl ?_
 refine oC (sp_gtr rfl (dT (Ns.sys_big hs1 hs2 hs))) I0 I0 ?_
 refine kN 80 [(1, .box 27 (cFm p)), (2, .box 29 (cSz n t f))] [(2, .box 1 0), (3, .box 2 0), (4, .v (.pointer none)), (5, iv 0), (23, bv true)] ?_
 refine t_then ?_
 refine t_condT rfl ?_
 refine tri_seq ?_
 refine tri_region ?_
 refine oA (sp_assign (.const (.pointer none)) (.v (.pointer none)) rfl) I0 ?_
 refine oA (sp_assign (.const (.int .i64 4)) (iv 4) rfl) I0 ?_
 refine kN 80 [(1, .box 27 (cFm p)), (2, .box 29 (cSz n t f))] [(2, .box 1 0), (3, .box 2 0), (4, .v (.pointer none)), (5, iv 4)] ?_
 refine t_then ?_
 refine tri_ret ?_
 refine t_then_ret ?_
 refine tri_endA2 [(1, .box 27 (cFm p)), (2, .box 29 (cSz n t f))] Try.results28 (.tmp rfl) (.tmp rfl) (by kernel_rfl) rfl rfl rfl ?_ ?_ ?_
 · exact .v _
 · exact .v _
 · rw [Ns.sys_e3 hs1 hs2 (Ns.sys_big hs1 hs2 hs)]; rfl
 have hs2f : (admB p n t f) = false := by simpa using hs2
 refine tri_region ?_
 refine oB (sp_loadBoxS (Y := .box 27 (cFm p)) (ds := cFm p) (z := 10) (.tmp 2) rfl Try.underlying27 rfl (by kernel_rfl) (by decide) (by kernel_rfl) (by kernel_rfl)) I0 rfl ?_
 refine oB (sp_loadBoxS (Y := .box 29 (cSz n t f)) (ds := cSz n t f) (z := 3) (.tmp 3) rfl Try.underlying29 rfl (by kernel_rfl) (by decide) (by kernel_rfl) (by kernel_rfl)) I0 rfl ?_
 refine oD (sp_call (c := .func 53) (xs := #[.tmp 17, .tmp 18]) [] (ctr_b (Ns.adm_c HP hs1) hs2f) rfl (by kernel_rfl) rfl (Xs := [.agg (cFm p), .agg (cSz n t f)]) rfl rfl rfl) I0 I0 I0 ?_
 refine oA (sp_not rfl rfl) I0 ?_
 refine kN 80 [(1, .box 27 (cFm p)), (2, .box 29 (cSz n t f))] [(2, .box 1 0), (3, .box 2 0), (4, .v (.pointer none)), (5, iv 0), (20, bv true)] ?_
 refine t_then ?_
 refine t_condT rfl ?_
 refine tri_seq ?_
 refine tri_region ?_
 refine oA (sp_assign (.const (.pointer none)) (.v (.pointer none)) rfl) I0 ?_
 refine oA (sp_assign (.const (.int .i64 8)) (iv 8) rfl) I0 ?_
 refine kN 80 [(1, .box 27 (cFm p)), (2, .box 29 (cSz n t f))] [(2, .box 1 0), (3, .box 2 0), (4, .v (.pointer none)), (5, iv 8)] ?_
 refine t_then ?_
 refine tri_ret ?_
 refine t_then_ret ?_
 refine tri_endA2 [(1, .box 27 (cFm p)), (2, .box 29 (cSz n t f))] Try.results28 (.tmp rfl) (.tmp rfl) (by kernel_rfl) rfl rfl rfl ?_ ?_ ?_
 · exact .v _
 · exact .v _
 · rw [Ns.sys_e2 hs1 hs2f]; rfl
 refine tri_region ?_
 refine oA (sp_move (.tmp 6) (iv (valE p)) rfl) I0 ?_
 refine oC (sp_neq rfl (dF' hs1)) I0 I0 ?_
 refine kN 80 [(1, .box 27 (cFm p)), (2, .box 29 (cSz n t f))] [(2, .box 1 0), (3, .box 2 0), (4, .v (.pointer none)), (5, iv 0), (6, iv (valE p)), (15, bv true)] ?_
 refine t_then ?_
 refine t_condT rfl ?_
 refine tri_seq ?_
 refine tri_region ?_
 refine oA (sp_move (.tmp 6) (iv (valE p)) rfl) I0 ?_
 refine oA (sp_assign (.const (.pointer none)) (.v (.pointer none)) rfl) I0 ?_
 refine oA (sp_assign (.tmp 16) (iv (valE p)) rfl) I0 ?_
 refine kN 80 [(1, .box 27 (cFm p)), (2, .box 29 (cSz n t f))] [(2, .box 1 0), (3, .box 2 0), (4, .v (.pointer none)), (5, iv (valE p))] ?_
 refine t_then ?_
 refine tri_ret ?_
 refine t_then_ret ?_
 refine tri_endA2 [(1, .box 27 (cFm p)), (2, .box 29 (cSz n t f))] Try.results28 (.tmp rfl) (.tmp rfl) (by kernel_rfl) rfl rfl rfl ?_ ?_ ?_
 · exact .v _
 · exact .v _
 · rw [Ns.sys_e1 hs1]; rfl
set_option linter.unusedSimpArgs false in
set_option linter.unusedVariables false in
set_option maxRecDepth 100000 in
set_option maxHeartbeats 6400000 in
theorem newSystem_ok {p : Fm} (HP : FmOk p) {n t f : Int} (hs : Ns.sysE p n t f = 0) : CtrA Try.prog J 28 [.agg (cFm p), .agg (cSz n t f)] (.tup [.el (Ns.sysC p n t f) 0, iv 0]) := by
 obtain ⟨hv, ha, h8⟩ := Ns.sys_ok hs
 obtain ⟨hr8, hg2⟩ := Ns.val_lims hv
 have hai := Ns.adm_in ha
 have hc0 := Ns.cnt_lo (p := p) hai
 have hc8 := Ns.cnt_hi (p := p) hai h8
 refine ctrA_of_tri Try.func28 rfl (by intro X hX; simp only [List.mem_cons, List.not_mem_nil, or_false] at hX; rcases hX with rfl | rfl; exact plain_agg (plain_fm p); exact plain_agg (plain_sz n t f)) (n := 80) rfl (by simp) (fun w0 => ?_)
 refine kW 80 [] [(0, .agg (cFm p)), (1, .agg (cSz n t f))] ?_
 refine tri_seq ?_
 refine tri_region ?_
 refine t_op rfl (sp_box (X := .agg (cFm p)) (k := 1) (.tmp 0) rfl rfl) ⟨I0, T0⟩ T0 rfl ?_
 refine t_op rfl (sp_box (X := .agg (cSz n t f)) (k := 2) (.tmp 1) rfl rfl) ⟨I0, T0⟩ T0 rfl ?_
 refine oA (sp_assign (.const (.pointer none)) (.v (.pointer none)) rfl) I0 ?_
 refine oA (sp_assign (.const (.int .i64 0)) (iv 0) rfl) I0 ?_
 refine kN 80 [(1, .box 27 (cFm p)), (2, .box 29 (cSz n t f))] [(2, .box 1 0), (3, .box 2 0), (4, .v (.pointer none)), (5, iv 0)] ?_
 refine t_then ?_
 refine tri_seq ?_
 refine tri_seq ?_
 refine tri_region ?_
 refine oB (sp_loadBoxS (Y := .box 27 (cFm p)) (ds := cFm p) (z := 10) (.tmp 2) rfl Try.underlying27 rfl (by kernel_rfl) (by decide) (by kernel_rfl) (by kernel_rfl)) I0 rfl ?_
 refine oC (sp_call (c := .func 52) (xs := #[.tmp 12]) [] (qValidate_c HP) rfl (by kernel_rfl) rfl (Xs := [.agg (cFm p)]) rfl rfl rfl) I0 I0 ?_
 refine oA (sp_assign (.tmp 13) (iv (valE p)) rfl) I0 ?_
 refine kN 80 [(1, .box 27 (cFm p)), (2, .box 29 (cSz n t f))] [(2, .box 1 0), (3, .box 2 0), (4, .v (.pointer none)), (5, iv 0), (6, iv (valE p))] ?_
 refine t_then ?_
 refine tri_seq ?_
 refine tri_region ?_
 refine oA (sp_move (.tmp 6) (iv (valE p)) rfl) I0 ?_
 refine oC (sp_neq rfl (dT' hv)) I0 I0 ?_
 refine kN 80 [(1, .box 27 (cFm p)), (2, .box 29 (cSz n t f))] [(2, .box 1 0), (3, .box 2 0), (4, .v (.pointer none)), (5, iv 0), (6, iv (valE p)), (15, bv false)] ?_
 refine t_then ?_
 refine t_condF rfl ?_
 refine tri_skip ?_
 refine t_then ?_
 refine tri_seq ?_
 refine tri_seq ?_
 refine tri_region ?_
 refine oB (sp_loadBoxS (Y := .box 27 (cFm p)) (ds := cFm p) (z := 10) (.tmp 2) rfl Try.underlying27 rfl (by kernel_rfl) (by decide) (by kernel_rfl) (by kernel_rfl)) I0 rfl ?_
 refine oB (sp_loadBoxS (Y := .box 29 (cSz n t f)) (ds := cSz n t f) (z := 3) (.tmp 3) rfl Try.underlying29 rfl (by kernel_rfl) (by decide) (by kernel_rfl) (by kernel_rfl)) I0 rfl ?_
 refine oD (sp_call (c := .func 53) (xs := #[.tmp 17, .tmp 18]) [] (ctr_b (Ns.adm_c HP hv) ha) rfl (by kernel_rfl) rfl (Xs := [.agg (cFm p), .agg (cSz n t f)]) rfl rfl rfl) I0 I0 I0 ?_
 refine oA (sp_not rfl rfl) I0 ?_
 refine kN 80 [(1, .box 27 (cFm p)), (2, .box 29 (cSz n t f))] [(2, .box 1 0), (3, .box 2 0), (4, .v (.pointer none)), (5, iv 0), (20, bv false)] ?_
 refine t_then ?_
 refine t_condF rfl ?_
 refine tri_skip ?_
 refine t_then ?_
 refine tri_seq ?_
 refine tri_seq ?_
 refine tri_region ?_
 refine oA (fB 0 (.tmp 3) rfl Try.underlying29 rfl 1 rfl) I0 ?_
 refine oB (lB (.box 29 (cSz n t f)) (iv n) (.tmp 21) rfl Try.underlying3 rfl rfl) I0 rfl ?_
 refine oC (sp_gtr rfl (dF h8)) I0 I0 ?_
 refine kN 80 [(1, .box 27 (cFm p)), (2, .box 29 (cSz n t f))] [(2, .box 1 0), (3, .box 2 0), (4, .v (.pointer none)), (5, iv 0), (23, bv false)] ?_
 refine t_then ?_
 refine t_condF rfl ?_
 refine tri_skip ?_
 refine t_then ?_
 refine tri_seq ?_
 refine tri_region ?_
 refine oB (sp_loadBoxS (Y := .box 27 (cFm p)) (ds := cFm p) (z := 10) (.tmp 2) rfl Try.underlying27 rfl (by kernel_rfl) (by decide) (by kernel_rfl) (by kernel_rfl)) I0 rfl ?_
 refine oB (sp_loadBoxS (Y := .box 29 (cSz n t f)) (ds := cSz n t f) (z := 3) (.tmp 3) rfl Try.underlying29 rfl (by kernel_rfl) (by decide) (by kernel_rfl) (by kernel_rfl)) I0 rfl ?_
 refine oA (fB 0 (.tmp 3) rfl Try.underlying29 rfl 1 rfl) I0 ?_
 refine oB (lB (.box 29 (cSz n t f)) (iv n) (.tmp 26) rfl Try.underlying3 rfl rfl) I0 rfl ?_
 refine oA (fB 0 (.tmp 3) rfl Try.underlying29 rfl 1 rfl) I0 ?_
 refine oB (lB (.box 29 (cSz n t f)) (iv n) (.tmp 28) rfl Try.underlying3 rfl rfl) I0 rfl ?_
 refine oA (fB 2 (.tmp 3) rfl Try.underlying29 rfl 1 rfl) I0 ?_
 refine oB (lB (.box 29 (cSz n t f)) (iv f) (.tmp 30) rfl Try.underlying3 rfl rfl) I0 rfl ?_
 refine oC (sp_sub (c := n - f) rfl (w64 (by omega) (by omega) (by omega))) I0 I0 ?_
 refine t_op rfl (sp_bldG [0, 1, 2, 3] [.tmp 24, .tmp 25, .tmp 27, .tmp 32] [.agg (cFm p), .agg (cSz n t f), iv n, iv (n - f)] [.inr 0, .inr 1, .inr 2, .inr 3, .inr 4, .inr 5, .inr 6, .inr 7, .inr 8, .inr 9, .inr 10, .inr 11, .inr 12, .inr 13, .inr 14, .inl (.int .i64 0), .inl (.int .i64 0), .inl (.int .i64 0), .inl (.int .i64 0), .inl (.int .i64 0), .inl (.int .i64 0), .inl (.int .i64 0), .inl (.int .i64 0), .inl (.int .i64 0), .inl (.int .i64 0), .inl (.int .i64 0), .inl (.int .i64 0), .inl (.int .i64 0), .inl (.int .i64 0), .inl (.int .i64 0), .inl (.int .i64 0), .inl (.slice none 0 0), .inl (.slice none 0 0)] rfl rfl rfl rfl rfl (fun _ => by kernel_rfl) rfl (ds := [sv p.nm, iv p.top, strsA p.states, strsA p.msgs, strsA p.vals, iv p.fault, slA 4 cLn p.res, intsA p.init, intsA p.leader, slA 18 cRu p.rules, iv n, iv t, iv f, iv n, iv (n - f), iv 0, iv 0, iv 0, iv 0, iv 0, iv 0, iv 0, iv 0, iv 0, iv 0, iv 0, iv 0, iv 0, iv 0, iv 0, iv 0, .v (.slice none 0 0), .v (.slice none 0 0)]) rfl) ⟨I0, I0, I0, I0, T0⟩ T0 T0 ?_
 refine t_op rfl (sp_box (X := .agg [sv p.nm, iv p.top, strsA p.states, strsA p.msgs, strsA p.vals, iv p.fault, slA 4 cLn p.res, intsA p.init, intsA p.leader, slA 18 cRu p.rules, iv n, iv t, iv f, iv n, iv (n - f), iv 0, iv 0, iv 0, iv 0, iv 0, iv 0, iv 0, iv 0, iv 0, iv 0, iv 0, iv 0, iv 0, iv 0, iv 0, iv 0, .v (.slice none 0 0), .v (.slice none 0 0)]) (k := 3) (.tmp 33) rfl rfl) ⟨I0, T0⟩ T0 rfl ?_
 refine oA (sp_assign (.tmp 34) (.box 3 0) rfl) I0 ?_
 refine kN 80 [(1, .box 27 (cFm p)), (2, .box 29 (cSz n t f)), (3, .box 71 [sv p.nm, iv p.top, strsA p.states, strsA p.msgs, strsA p.vals, iv p.fault, slA 4 cLn p.res, intsA p.init, intsA p.leader, slA 18 cRu p.rules, iv n, iv t, iv f, iv n, iv (n - f), iv 0, iv 0, iv 0, iv 0, iv 0, iv 0, iv 0, iv 0, iv 0, iv 0, iv 0, iv 0, iv 0, iv 0, iv 0, iv 0, .v (.slice none 0 0), .v (.slice none 0 0)])] [(2, .box 1 0), (3, .box 2 0), (4, .v (.pointer none)), (5, iv 0), (7, .box 3 0)] ?_
 refine t_then ?_
 refine tri_seq ?_
 refine tri_seq ?_
 refine tri_region ?_
 refine oA (fB 5 (.tmp 2) rfl Try.underlying27 rfl 1 rfl) I0 ?_
 refine oB (lB (.box 27 (cFm p)) (iv p.fault) (.tmp 35) rfl Try.underlying3 rfl rfl) I0 rfl ?_
 refine oC (sp_eql rfl rfl) I0 I0 ?_
 refine kN 80 [(1, .box 27 (cFm p)), (2, .box 29 (cSz n t f)), (3, .box 71 [sv p.nm, iv p.top, strsA p.states, strsA p.msgs, strsA p.vals, iv p.fault, slA 4 cLn p.res, intsA p.init, intsA p.leader, slA 18 cRu p.rules, iv n, iv t, iv f, iv n, iv (n - f), iv 0, iv 0, iv 0, iv 0, iv 0, iv 0, iv 0, iv 0, iv 0, iv 0, iv 0, iv 0, iv 0, iv 0, iv 0, iv 0, .v (.slice none 0 0), .v (.slice none 0 0)])] [(2, .box 1 0), (3, .box 2 0), (4, .v (.pointer none)), (5, iv 0), (7, .box 3 0), (37, bv (decide (p.fault = 3)))] ?_
 refine t_then ?_
 refine t_cut (True) (ofL [(1, .box 27 (cFm p)), (2, .box 29 (cSz n t f)), (3, .box 71 [sv p.nm, iv p.top, strsA p.states, strsA p.msgs, strsA p.vals, iv p.fault, slA 4 cLn p.res, intsA p.init, intsA p.leader, slA 18 cRu p.rules, iv n, iv t, iv f, iv (Ns.cntE p n f), iv (n - f), iv 0, iv 0, iv 0, iv 0, iv 0, iv 0, iv 0, iv 0, iv 0, iv 0, iv 0, iv 0, iv 0, iv 0, iv 0, iv 0, .v (.slice none 0 0), .v (.slice none 0 0)])]) (ofT 80 [(2, .box 1 0), (3, .box 2 0), (4, .v (.pointer none)), (5, iv 0), (7, .box 3 0)]) ?_ (fun _ => ?_)
 by_cases hs1 : p.fault = 3
 rw [dT hs1]
 refine kW 80 [(1, .box 27 (cFm p)), (2, .box 29 (cSz n t f)), (3, .box 71 [sv p.nm, iv p.top, strsA p.states, strsA p.msgs, strsA p.vals, iv p.fault, slA 4 cLn p.res, intsA p.init, intsA p.leader, slA 18 cRu p.rules, iv n, iv t, iv f, iv n, iv (n - f), iv 0, iv 0, iv 0, iv 0, iv 0, iv 0, iv 0, iv 0, iv 0, iv 0, iv 0, iv 0, iv 0, iv 0, iv 0, iv 0, .v (.slice none 0 0), .v (.slice none 0 0)])] [(2, .box 1 0), (3, .box 2 0), (4, .v (.pointer none)), (5, iv 0), (7, .box 3 0), (37, bv true)] ?_
 refine t_condT rfl ?_
 refine tri_region ?_
 refine oA (sp_move (.tmp 7) (.box 3 0) rfl) I0 ?_
 refine oA (sp_move (.tmp 7) (.box 3 0) rfl) I0 ?_
 refine oA (sp_nilBox (off := 0) (.tmp 39) rfl) I0 ?_
 refine oA (fB 14 (.tmp 40) rfl Try.underlying71 rfl 1 rfl) I0 ?_
 refine oB (lB (.box 71 [sv p.nm, iv p.top, strsA p.states, strsA p.msgs, strsA p.vals, iv p.fault, slA 4 cLn p.res, intsA p.init, intsA p.leader, slA 18 cRu p.rules, iv n, iv t, iv f, iv n, iv (n - f), iv 0, iv 0, iv 0, iv 0, iv 0, iv 0, iv 0, iv 0, iv 0, iv 0, iv 0, iv 0, iv 0, iv 0, iv 0, iv 0, .v (.slice none 0 0), .v (.slice none 0 0)]) (iv (n - f)) (.tmp 41) rfl Try.underlying3 rfl rfl) I0 rfl ?_
 refine oA (sp_nilBox (off := 0) (.tmp 38) rfl) I0 ?_
 refine oA (fB 13 (.tmp 43) rfl Try.underlying71 rfl 1 rfl) I0 ?_
 refine t_op rfl (sp_storeBox (T0 := 71) (X := iv (n - f)) (cs := [sv p.nm, iv p.top, strsA p.states, strsA p.msgs, strsA p.vals, iv p.fault, slA 4 cLn p.res, intsA p.init, intsA p.leader, slA 18 cRu p.rules, iv n, iv t, iv f, iv n, iv (n - f), iv 0, iv 0, iv 0, iv 0, iv 0, iv 0, iv 0, iv 0, iv 0, iv 0, iv 0, iv 0, iv 0, iv 0, iv 0, iv 0, .v (.slice none 0 0), .v (.slice none 0 0)]) (ds := [sv p.nm, iv p.top, strsA p.states, strsA p.msgs, strsA p.vals, iv p.fault, slA 4 cLn p.res, intsA p.init, intsA p.leader, slA 18 cRu p.rules, iv n, iv t, iv f, iv (n - f), iv (n - f), iv 0, iv 0, iv 0, iv 0, iv 0, iv 0, iv 0, iv 0, iv 0, iv 0, iv 0, iv 0, iv 0, iv 0, iv 0, iv 0, .v (.slice none 0 0), .v (.slice none 0 0)]) (z := 1) (.tmp 44) (.tmp 42) rfl (by kernel_rfl) (by kernel_rfl) (by kernel_rfl) (of_decide_eq_true (by kernel_rfl)) (by kernel_rfl)) ⟨I0, I0, T0⟩ ⟨rfl, T0⟩ rfl ?_
 refine kN 80 [(1, .box 27 (cFm p)), (2, .box 29 (cSz n t f)), (3, .box 71 [sv p.nm, iv p.top, strsA p.states, strsA p.msgs, strsA p.vals, iv p.fault, slA 4 cLn p.res, intsA p.init, intsA p.leader, slA 18 cRu p.rules, iv n, iv t, iv f, iv (n - f), iv (n - f), iv 0, iv 0, iv 0, iv 0, iv 0, iv 0, iv 0, iv 0, iv 0, iv 0, iv 0, iv 0, iv 0, iv 0, iv 0, iv 0, .v (.slice none 0 0), .v (.slice none 0 0)])] [(2, .box 1 0), (3, .box 2 0), (4, .v (.pointer none)), (5, iv 0), (7, .box 3 0)] ?_
 rw [show Ns.cntE p n f = n - f from if_pos hs1]
 exact t_meet T0 (wk_keep _ _ rfl (by kernel_rfl) (by kernel_rfl))
 rw [dF hs1]
 refine kW 80 [(1, .box 27 (cFm p)), (2, .box 29 (cSz n t f)), (3, .box 71 [sv p.nm, iv p.top, strsA p.states, strsA p.msgs, strsA p.vals, iv p.fault, slA 4 cLn p.res, intsA p.init, intsA p.leader, slA 18 cRu p.rules, iv n, iv t, iv f, iv n, iv (n - f), iv 0, iv 0, iv 0, iv 0, iv 0, iv 0, iv 0, iv 0, iv 0, iv 0, iv 0, iv 0, iv 0, iv 0, iv 0, iv 0, .v (.slice none 0 0), .v (.slice none 0 0)])] [(2, .box 1 0), (3, .box 2 0), (4, .v (.pointer none)), (5, iv 0), (7, .box 3 0), (37, bv false)] ?_
 refine t_condF rfl ?_
 refine tri_skip ?_
 rw [show Ns.cntE p n f = n from if_neg hs1]
 exact t_meet T0 (wk_keep _ _ rfl (by kernel_rfl) (by kernel_rfl))
 refine t_then ?_
 refine tri_seq ?_
 refine tri_seq ?_
 refine tri_wk (wk_anyB 3 [false, false, false, false, false, false, false, false, false, false, false, false, false, false, false, true, true, true, true, true, true, true, true, true, true, true, true, true, true, true, true, false, false] rfl (ds := [sv p.nm, iv p.top, strsA p.states, strsA p.msgs, strsA p.vals, iv p.fault, slA 4 cLn p.res, intsA p.init, intsA p.leader, slA 18 cRu p.rules, iv n, iv t, iv f, iv (Ns.cntE p n f), iv (n - f), .any, .any, .any, .any, .any, .any, .any, .any, .any, .any, .any, .any, .any, .any, .any, .any, .v (.slice none 0 0), .v (.slice none 0 0)]) rfl) ?_
 refine kW 80 [(1, .box 27 (cFm p)), (2, .box 29 (cSz n t f)), (3, .box 71 [sv p.nm, iv p.top, strsA p.states, strsA p.msgs, strsA p.vals, iv p.fault, slA 4 cLn p.res, intsA p.init, intsA p.leader, slA 18 cRu p.rules, iv n, iv t, iv f, iv (Ns.cntE p n f), iv (n - f), .any, .any, .any, .any, .any, .any, .any, .any, .any, .any, .any, .any, .any, .any, .any, .any, .v (.slice none 0 0), .v (.slice none 0 0)])] [(2, .box 1 0), (3, .box 2 0), (4, .v (.pointer none)), (5, iv 0), (7, .box 3 0)] ?_
 refine tri_region ?_
 refine oA (fB 9 (.tmp 2) rfl Try.underlying27 rfl 1 rfl) I0 ?_
 refine oB (lB (.box 27 (cFm p)) (slA 18 cRu p.rules) (.tmp 45) rfl Try.underlying25 rfl rfl) I0 rfl ?_
 refine oA (sp_lenSl (.tmp 46) rfl Try.underlying25) I0 ?_
 refine oA (sp_move (.const (.int .i64 0)) (iv 0) rfl) I0 ?_
 refine kN 80 [(2, .box 29 (cSz n t f)), (3, .box 71 [sv p.nm, iv p.top, strsA p.states, strsA p.msgs, strsA p.vals, iv p.fault, slA 4 cLn p.res, intsA p.init, intsA p.leader, slA 18 cRu p.rules, iv n, iv t, iv f, iv (Ns.cntE p n f), iv (n - f), .any, .any, .any, .any, .any, .any, .any, .any, .any, .any, .any, .any, .any, .any, .any, .any, .v (.slice none 0 0), .v (.slice none 0 0)])] [(3, .box 2 0), (4, .v (.pointer none)), (5, iv 0), (7, .box 3 0), (46, slA 18 cRu p.rules), (47, iv p.rules.length), (48, iv 0)] ?_
 refine t_then ?_
 refine tri_block ?_
 refine tri_loop (σ := {j : Nat // j ≤ p.rules.length}) (fun s => (ofL [(2, .box 29 (cSz n t f)), (3, .box 71 [sv p.nm, iv p.top, strsA p.states, strsA p.msgs, strsA p.vals, iv p.fault, slA 4 cLn p.res, intsA p.init, intsA p.leader, slA 18 cRu p.rules, iv n, iv t, iv f, iv (Ns.cntE p n f), iv (n - f), .any, .any, .any, .any, .any, .any, .any, .any, .any, .any, .any, .any, .any, .any, .any, .any, .v (.slice none 0 0), .v (.slice none 0 0)])], ofT 80 [(3, .box 2 0), (4, .v (.pointer none)), (5, iv 0), (7, .box 3 0), (46, slA 18 cRu p.rules), (47, iv p.rules.length), (48, iv s.1)])) (fun s => p.rules.length - s.1) ⟨0, Nat.zero_le _⟩ (wk_keep _ _ rfl (by kernel_rfl) (by kernel_rfl)) (fun s => ?_)
 obtain ⟨j, hj0⟩ := s
 show ETri J w0 (ofL [(2, .box 29 (cSz n t f)), (3, .box 71 [sv p.nm, iv p.top, strsA p.states, strsA p.msgs, strsA p.vals, iv p.fault, slA 4 cLn p.res, intsA p.init, intsA p.leader, slA 18 cRu p.rules, iv n, iv t, iv f, iv (Ns.cntE p n f), iv (n - f), .any, .any, .any, .any, .any, .any, .any, .any, .any, .any, .any, .any, .any, .any, .any, .any, .v (.slice none 0 0), .v (.slice none 0 0)])]) (ofT 80 [(3, .box 2 0), (4, .v (.pointer none)), (5, iv 0), (7, .box 3 0), (46, slA 18 cRu p.rules), (47, iv p.rules.length), (48, iv j)]) _
 refine tri_seq ?_
 by_cases hs2 : ((j : Nat) : Int) < ((p.rules.length : Nat) : Int)
 have hj1 : j < p.rules.length := by omega
 have hgj := hg2 _ (List.getElem_mem hj1)
 refine tri_region ?_
 refine oC (sp_lss rfl (dT hs2)) I0 I0 ?_
 refine kN 80 [(2, .box 29 (cSz n t f)), (3, .box 71 [sv p.nm, iv p.top, strsA p.states, strsA p.msgs, strsA p.vals, iv p.fault, slA 4 cLn p.res, intsA p.init, intsA p.leader, slA 18 cRu p.rules, iv n, iv t, iv f, iv (Ns.cntE p n f), iv (n - f), .any, .any, .any, .any, .any, .any, .any, .any, .any, .any, .any, .any, .any, .any, .any, .any, .v (.slice none 0 0), .v (.slice none 0 0)])] [(3, .box 2 0), (4, .v (.pointer none)), (5, iv 0), (7, .box 3 0), (46, slA 18 cRu p.rules), (47, iv p.rules.length), (48, iv j), (49, bv true)] ?_
 refine t_then ?_
 refine tri_seq ?_
 refine t_condT rfl ?_
 refine tri_skip ?_
 refine t_then ?_
 refine tri_seq ?_
 refine tri_block ?_
 refine tri_seq ?_
 refine tri_region ?_
 refine oA (sp_move (.tmp 48) (iv j) rfl) I0 ?_
 refine oC (sp_indexSl (off := j * 18) (.tmp 46) (.tmp 48) rfl Try.underlying25 (by kernel_rfl) (by omega) (by omega) rfl) I0 I0 ?_
 refine oA (sp_loadElS (z := 18) (.tmp 51) rfl Try.underlying59 rfl (by kernel_rfl) (flat_take lenRu p.rules j (by omega)) rfl) I0 ?_
 refine t_op rfl (sp_alloc (z := .agg #[.string (⟨#[]⟩), .int .i64 0, .int .i64 0, .int .i64 0, .int .i64 0, .int .i64 0, .slice none 0 0, .slice none 0 0, .slice none 0 0, .slice none 0 0, .int .i64 0, .int .i64 0, .slice none 0 0, .int .i64 0, .slice none 0 0, .slice none 0 0, .slice none 0 0, .int .i64 0]) (k := 4) rfl (by kernel_rfl)) T0 T0 rfl ?_
 refine oA (sp_assign (.tmp 50) (iv j) rfl) I0 ?_
 refine t_op rfl (sp_storeBox (T0 := 59) (X := .agg (cRu p.rules[j])) (cs := [sv (⟨#[]⟩), iv 0, iv 0, iv 0, iv 0, iv 0, .v (.slice none 0 0), .v (.slice none 0 0), .v (.slice none 0 0), .v (.slice none 0 0), iv 0, iv 0, .v (.slice none 0 0), iv 0, .v (.slice none 0 0), .v (.slice none 0 0), .v (.slice none 0 0), iv 0]) (ds := cRu p.rules[j]) (z := 18) (.tmp 9) (.tmp 52) rfl (by kernel_rfl) (by kernel_rfl) (by kernel_rfl) (of_decide_eq_true (by kernel_rfl)) (by kernel_rfl)) ⟨I0, I0, T0⟩ ⟨rfl, T0⟩ rfl ?_
 refine kN 80 [(2, .box 29 (cSz n t f)), (3, .box 71 [sv p.nm, iv p.top, strsA p.states, strsA p.msgs, strsA p.vals, iv p.fault, slA 4 cLn p.res, intsA p.init, intsA p.leader, slA 18 cRu p.rules, iv n, iv t, iv f, iv (Ns.cntE p n f), iv (n - f), .any, .any, .any, .any, .any, .any, .any, .any, .any, .any, .any, .any, .any, .any, .any, .any, .v (.slice none 0 0), .v (.slice none 0 0)]), (4, .box 59 (cRu p.rules[j]))] [(3, .box 2 0), (4, .v (.pointer none)), (5, iv 0), (7, .box 3 0), (8, iv j), (9, .box 4 0), (46, slA 18 cRu p.rules), (47, iv p.rules.length), (48, iv j), (49, bv true)] ?_
 refine t_then ?_
 refine tri_seq ?_
 refine tri_region ?_
 refine oA (fB 7 (.tmp 9) rfl Try.underlying59 rfl 1 rfl) I0 ?_
 refine oB (lB (.box 59 (cRu p.rules[j])) (slA 6 cTh p.rules[j].guards) (.tmp 53) rfl Try.underlying57 rfl rfl) I0 rfl ?_
 refine oA (sp_lenSl (.tmp 54) rfl Try.underlying57) I0 ?_
 refine oA (sp_move (.const (.int .i64 0)) (iv 0) rfl) I0 ?_
 refine kN 80 [(2, .box 29 (cSz n t f)), (3, .box 71 [sv p.nm, iv p.top, strsA p.states, strsA p.msgs, strsA p.vals, iv p.fault, slA 4 cLn p.res, intsA p.init, intsA p.leader, slA 18 cRu p.rules, iv n, iv t, iv f, iv (Ns.cntE p n f), iv (n - f), .any, .any, .any, .any, .any, .any, .any, .any, .any, .any, .any, .any, .any, .any, .any, .any, .v (.slice none 0 0), .v (.slice none 0 0)]), (4, .box 59 (cRu p.rules[j]))] [(3, .box 2 0), (4, .v (.pointer none)), (5, iv 0), (7, .box 3 0), (8, iv j), (9, .box 4 0), (46, slA 18 cRu p.rules), (47, iv p.rules.length), (48, iv j), (49, bv true), (54, slA 6 cTh p.rules[j].guards), (55, iv (p.rules[j].guards.length : Nat)), (56, iv 0)] ?_
 refine t_then ?_
 refine tri_block ?_
 refine tri_loop (σ := {k : Nat // k ≤ p.rules[j].guards.length}) (fun s => (ofL [(2, .box 29 (cSz n t f)), (3, .box 71 [sv p.nm, iv p.top, strsA p.states, strsA p.msgs, strsA p.vals, iv p.fault, slA 4 cLn p.res, intsA p.init, intsA p.leader, slA 18 cRu p.rules, iv n, iv t, iv f, iv (Ns.cntE p n f), iv (n - f), .any, .any, .any, .any, .any, .any, .any, .any, .any, .any, .any, .any, .any, .any, .any, .any, .v (.slice none 0 0), .v (.slice none 0 0)]), (4, .box 59 (cRu p.rules[j]))], ofT 80 [(3, .box 2 0), (4, .v (.pointer none)), (5, iv 0), (7, .box 3 0), (8, iv j), (9, .box 4 0), (46, slA 18 cRu p.rules), (47, iv p.rules.length), (48, iv j), (49, bv true), (54, slA 6 cTh p.rules[j].guards), (55, iv (p.rules[j].guards.length : Nat)), (56, iv s.1)])) (fun s => p.rules[j].guards.length - s.1) ⟨0, Nat.zero_le _⟩ (wk_keep _ _ rfl (by kernel_rfl) (by kernel_rfl)) (fun s => ?_)
 obtain ⟨k, hk0⟩ := s
 show ETri J w0 (ofL [(2, .box 29 (cSz n t f)), (3, .box 71 [sv p.nm, iv p.top, strsA p.states, strsA p.msgs, strsA p.vals, iv p.fault, slA 4 cLn p.res, intsA p.init, intsA p.leader, slA 18 cRu p.rules, iv n, iv t, iv f, iv (Ns.cntE p n f), iv (n - f), .any, .any, .any, .any, .any, .any, .any, .any, .any, .any, .any, .any, .any, .any, .any, .any, .v (.slice none 0 0), .v (.slice none 0 0)]), (4, .box 59 (cRu p.rules[j]))]) (ofT 80 [(3, .box 2 0), (4, .v (.pointer none)), (5, iv 0), (7, .box 3 0), (8, iv j), (9, .box 4 0), (46, slA 18 cRu p.rules), (47, iv p.rules.length), (48, iv j), (49, bv true), (54, slA 6 cTh p.rules[j].guards), (55, iv (p.rules[j].guards.length : Nat)), (56, iv k)]) _
 refine tri_seq ?_
 by_cases hs3 : ((k : Nat) : Int) < ((p.rules[j].guards.length : Nat) : Int)
 refine tri_region ?_
 refine oC (sp_lss rfl (dT hs3)) I0 I0 ?_
 refine kN 80 [(2, .box 29 (cSz n t f)), (3, .box 71 [sv p.nm, iv p.top, strsA p.states, strsA p.msgs, strsA p.vals, iv p.fault, slA 4 cLn p.res, intsA p.init, intsA p.leader, slA 18 cRu p.rules, iv n, iv t, iv f, iv (Ns.cntE p n f), iv (n - f), .any, .any, .any, .any, .any, .any, .any, .any, .any, .any, .any, .any, .any, .any, .any, .any, .v (.slice none 0 0), .v (.slice none 0 0)]), (4, .box 59 (cRu p.rules[j]))] [(3, .box 2 0), (4, .v (.pointer none)), (5, iv 0), (7, .box 3 0), (8, iv j), (9, .box 4 0), (46, slA 18 cRu p.rules), (47, iv p.rules.length), (48, iv j), (49, bv true), (54, slA 6 cTh p.rules[j].guards), (55, iv (p.rules[j].guards.length : Nat)), (56, iv k), (57, bv true)] ?_
 refine t_then ?_
 refine tri_seq ?_
 refine t_condT rfl ?_
 refine tri_skip ?_
 refine t_then ?_
 refine tri_seq ?_
 refine tri_block ?_
 refine tri_seq ?_
 refine tri_region ?_
 refine oA (sp_move (.tmp 56) (iv k) rfl) I0 ?_
 refine oC (sp_indexSl (off := k * 6) (.tmp 54) (.tmp 56) rfl Try.underlying57 (by kernel_rfl) (by omega) (by omega) rfl) I0 I0 ?_
 refine oA (sp_loadElS (z := 6) (.tmp 59) rfl Try.underlying106 rfl (by kernel_rfl) (flat_take lenTh p.rules[j].guards k (by omega)) rfl) I0 ?_
 refine t_op rfl (sp_alloc (z := .agg #[.int .i64 0, .int .i64 0, .int .i64 0, .int .i64 0, .int .i64 0, .int .i64 0]) (k := 5) rfl (by kernel_rfl)) T0 T0 rfl ?_
 refine oA (sp_assign (.tmp 58) (iv k) rfl) I0 ?_
 refine t_op rfl (sp_storeBox (T0 := 106) (X := .agg (cTh p.rules[j].guards[k])) (cs := [iv 0, iv 0, iv 0, iv 0, iv 0, iv 0]) (ds := cTh p.rules[j].guards[k]) (z := 6) (.tmp 11) (.tmp 60) rfl (by kernel_rfl) (by kernel_rfl) (by kernel_rfl) (of_decide_eq_true (by kernel_rfl)) (by kernel_rfl)) ⟨I0, I0, T0⟩ ⟨rfl, T0⟩ rfl ?_
 refine kN 80 [(2, .box 29 (cSz n t f)), (3, .box 71 [sv p.nm, iv p.top, strsA p.states, strsA p.msgs, strsA p.vals, iv p.fault, slA 4 cLn p.res, intsA p.init, intsA p.leader, slA 18 cRu p.rules, iv n, iv t, iv f, iv (Ns.cntE p n f), iv (n - f), .any, .any, .any, .any, .any, .any, .any, .any, .any, .any, .any, .any, .any, .any, .any, .any, .v (.slice none 0 0), .v (.slice none 0 0)]), (4, .box 59 (cRu p.rules[j])), (5, .box 106 (cTh p.rules[j].guards[k]))] [(3, .box 2 0), (4, .v (.pointer none)), (5, iv 0), (7, .box 3 0), (8, iv j), (9, .box 4 0), (10, iv k), (11, .box 5 0), (46, slA 18 cRu p.rules), (47, iv p.rules.length), (48, iv j), (49, bv true), (54, slA 6 cTh p.rules[j].guards), (55, iv (p.rules[j].guards.length : Nat)), (56, iv k), (57, bv true)] ?_
 refine t_then ?_
 refine tri_draw [⟨[(.tmp 7, .box 3 0)], [], .box 3 0, .no⟩, ⟨[(.tmp 8, iv j)], [], iv j, .no⟩, ⟨[(.tmp 10, iv k)], [], iv k, .no⟩, ⟨[(.tmp 11, .box 5 0)], [], .box 5 2, .no⟩, ⟨[(.tmp 65, .box 5 2)], [(5, .box 106 (cTh p.rules[j].guards[k]))], .agg [iv p.rules[j].guards[k].bd.c, iv p.rules[j].guards[k].bd.n, iv p.rules[j].guards[k].bd.t, iv p.rules[j].guards[k].bd.f], .no⟩, ⟨[(.tmp 3, .box 2 0)], [(2, .box 29 (cSz n t f))], .agg (cSz n t f), .no⟩, ⟨[(.func 54, .v (.func (.func 54) #[] #[])), (.tmp 66, .agg [iv p.rules[j].guards[k].bd.c, iv p.rules[j].guards[k].bd.n, iv p.rules[j].guards[k].bd.t, iv p.rules[j].guards[k].bd.f]), (.tmp 67, .agg (cSz n t f))], [], .tup [iv (evN p.rules[j].guards[k].bd.c p.rules[j].guards[k].bd.n p.rules[j].guards[k].bd.t p.rules[j].guards[k].bd.f n t f), iv (evE p.rules[j].guards[k].bd.c p.rules[j].guards[k].bd.n p.rules[j].guards[k].bd.t p.rules[j].guards[k].bd.f n t f)], .no⟩, ⟨[(.tmp 68, .tup [iv (evN p.rules[j].guards[k].bd.c p.rules[j].guards[k].bd.n p.rules[j].guards[k].bd.t p.rules[j].guards[k].bd.f n t f), iv (evE p.rules[j].guards[k].bd.c p.rules[j].guards[k].bd.n p.rules[j].guards[k].bd.t p.rules[j].guards[k].bd.f n t f)])], [], .tup [iv (evN p.rules[j].guards[k].bd.c p.rules[j].guards[k].bd.n p.rules[j].guards[k].bd.t p.rules[j].guards[k].bd.f n t f), iv (evE p.rules[j].guards[k].bd.c p.rules[j].guards[k].bd.n p.rules[j].guards[k].bd.t p.rules[j].guards[k].bd.f n t f)], .no⟩, ⟨[(.tmp 61, .tup [iv (evN p.rules[j].guards[k].bd.c p.rules[j].guards[k].bd.n p.rules[j].guards[k].bd.t p.rules[j].guards[k].bd.f n t f), iv (evE p.rules[j].guards[k].bd.c p.rules[j].guards[k].bd.n p.rules[j].guards[k].bd.t p.rules[j].guards[k].bd.f n t f)])], [], iv (evN p.rules[j].guards[k].bd.c p.rules[j].guards[k].bd.n p.rules[j].guards[k].bd.t p.rules[j].guards[k].bd.f n t f), .no⟩, ⟨[(.tmp 61, .tup [iv (evN p.rules[j].guards[k].bd.c p.rules[j].guards[k].bd.n p.rules[j].guards[k].bd.t p.rules[j].guards[k].bd.f n t f), iv (evE p.rules[j].guards[k].bd.c p.rules[j].guards[k].bd.n p.rules[j].guards[k].bd.t p.rules[j].guards[k].bd.f n t f)])], [], iv (evE p.rules[j].guards[k].bd.c p.rules[j].guards[k].bd.n p.rules[j].guards[k].bd.t p.rules[j].guards[k].bd.f n t f), .no⟩, ⟨[(.tmp 62, .box 3 0)], [], .box 3 0, .no⟩, ⟨[(.tmp 71, .box 3 0)], [], .box 3 15, .no⟩, ⟨[(.tmp 72, .box 3 15), (.tmp 63, iv j)], [], .box 3 (15 + j * 2), .no⟩, ⟨[(.tmp 73, .box 3 (15 + j * 2)), (.tmp 64, iv k)], [], .box 3 ((15 + j * 2) + k * 1), .no⟩, ⟨[(.tmp 74, .box 3 ((15 + j * 2) + k * 1)), (.tmp 69, iv (evN p.rules[j].guards[k].bd.c p.rules[j].guards[k].bd.n p.rules[j].guards[k].bd.t p.rules[j].guards[k].bd.f n t f))], [(3, .box 71 [sv p.nm, iv p.top, strsA p.states, strsA p.msgs, strsA p.vals, iv p.fault, slA 4 cLn p.res, intsA p.init, intsA p.leader, slA 18 cRu p.rules, iv n, iv t, iv f, iv (Ns.cntE p n f), iv (n - f), .any, .any, .any, .any, .any, .any, .any, .any, .any, .any, .any, .any, .any, .any, .any, .any, .v (.slice none 0 0), .v (.slice none 0 0)])], .v undef, .st 3 (.box 71 [sv p.nm, iv p.top, strsA p.states, strsA p.msgs, strsA p.vals, iv p.fault, slA 4 cLn p.res, intsA p.init, intsA p.leader, slA 18 cRu p.rules, iv n, iv t, iv f, iv (Ns.cntE p n f), iv (n - f), .any, .any, .any, .any, .any, .any, .any, .any, .any, .any, .any, .any, .any, .any, .any, .any, .v (.slice none 0 0), .v (.slice none 0 0)])⟩] (by kernel_rfl) (by kernel_rfl) ?_
 refine ⟨app_yes rfl (sp_move (.tmp 7) (.box 3 0) rfl) ⟨I0, T0⟩ T0 T0, ?_⟩
 refine ⟨app_yes rfl (sp_move (.tmp 8) (iv j) rfl) ⟨I0, T0⟩ T0 T0, ?_⟩
 refine ⟨app_yes rfl (sp_move (.tmp 10) (iv k) rfl) ⟨I0, T0⟩ T0 T0, ?_⟩
 refine ⟨app_yes rfl (fB 2 (.tmp 11) rfl Try.underlying106 rfl 4 rfl) ⟨I0, T0⟩ T0 T0, ?_⟩
 refine ⟨app_yes rfl (sp_loadBoxS (Y := .box 106 (cTh p.rules[j].guards[k])) (ds := [iv p.rules[j].guards[k].bd.c, iv p.rules[j].guards[k].bd.n, iv p.rules[j].guards[k].bd.t, iv p.rules[j].guards[k].bd.f]) (z := 4) (.tmp 65) rfl Try.underlying104 rfl (by kernel_rfl) (by decide) (by kernel_rfl) (by kernel_rfl)) ⟨I0, T0⟩ ⟨rfl, T0⟩ T0, ?_⟩
 refine ⟨app_yes rfl (sp_loadBoxS (Y := .box 29 (cSz n t f)) (ds := cSz n t f) (z := 3) (.tmp 3) rfl Try.underlying29 rfl (by kernel_rfl) (by decide) (by kernel_rfl) (by kernel_rfl)) ⟨I0, T0⟩ ⟨rfl, T0⟩ T0, ?_⟩
 refine ⟨app_yes rfl (sp_call (c := .func 54) (xs := #[.tmp 66, .tmp 67]) [] (Ns.Evaluate_c (l := p.rules[j].guards[k].bd)) rfl (by kernel_rfl) rfl (Xs := [.agg [iv p.rules[j].guards[k].bd.c, iv p.rules[j].guards[k].bd.n, iv p.rules[j].guards[k].bd.t, iv p.rules[j].guards[k].bd.f], .agg (cSz n t f)]) rfl rfl rfl) ⟨I0, I0, I0, T0⟩ T0 T0, ?_⟩
 refine ⟨app_yes rfl (sp_move (.tmp 68) (.tup [iv (evN p.rules[j].guards[k].bd.c p.rules[j].guards[k].bd.n p.rules[j].guards[k].bd.t p.rules[j].guards[k].bd.f n t f), iv (evE p.rules[j].guards[k].bd.c p.rules[j].guards[k].bd.n p.rules[j].guards[k].bd.t p.rules[j].guards[k].bd.f n t f)]) rfl) ⟨I0, T0⟩ T0 T0, ?_⟩
 refine ⟨app_yes rfl (sp_extract (X := iv (evN p.rules[j].guards[k].bd.c p.rules[j].guards[k].bd.n p.rules[j].guards[k].bd.t p.rules[j].guards[k].bd.f n t f)) (.tmp 61) rfl rfl) ⟨I0, T0⟩ T0 T0, ?_⟩
 refine ⟨app_yes rfl (sp_extract (X := iv (evE p.rules[j].guards[k].bd.c p.rules[j].guards[k].bd.n p.rules[j].guards[k].bd.t p.rules[j].guards[k].bd.f n t f)) (.tmp 61) rfl rfl) ⟨I0, T0⟩ T0 T0, ?_⟩
 refine ⟨app_yes rfl (sp_nilBox (off := 0) (.tmp 62) rfl) ⟨I0, T0⟩ T0 T0, ?_⟩
 refine ⟨app_yes rfl (fB 15 (.tmp 71) rfl Try.underlying71 rfl 16 rfl) ⟨I0, T0⟩ T0 T0, ?_⟩
 refine ⟨app_yes rfl (sp_indexArr (off' := 15 + j * 2) (.tmp 72) (.tmp 63) rfl Try.underlying68 (by kernel_rfl) (by omega) (by omega) rfl) ⟨I0, I0, T0⟩ T0 T0, ?_⟩
 refine ⟨app_yes rfl (sp_indexArr (off' := (15 + j * 2) + k * 1) (.tmp 73) (.tmp 64) rfl Try.underlying67 (by kernel_rfl) (by omega) (by omega) rfl) ⟨I0, I0, T0⟩ T0 T0, ?_⟩
 refine ⟨app_yes rfl (sp_storeAny (T0 := 71) (X := iv (evN p.rules[j].guards[k].bd.c p.rules[j].guards[k].bd.n p.rules[j].guards[k].bd.t p.rules[j].guards[k].bd.f n t f)) (cs := [sv p.nm, iv p.top, strsA p.states, strsA p.msgs, strsA p.vals, iv p.fault, slA 4 cLn p.res, intsA p.init, intsA p.leader, slA 18 cRu p.rules, iv n, iv t, iv f, iv (Ns.cntE p n f), iv (n - f), .any, .any, .any, .any, .any, .any, .any, .any, .any, .any, .any, .any, .any, .any, .any, .any, .v (.slice none 0 0), .v (.slice none 0 0)]) (z := 1) (.tmp 74) (.tmp 69) rfl (by kernel_rfl) (by kernel_rfl) (by kernel_rfl) (by show _ ≤ 33; omega) (fun i h1 h2 => any_in (lo := 15) (hi := 31) (by kernel_rfl) (Nat.le_of_ble_eq_true rfl) (by omega) (by omega))) ⟨I0, I0, T0⟩ ⟨rfl, T0⟩ rfl, ?_⟩
 show ETri J w0 _ _ _
 refine kW 80 [(2, .box 29 (cSz n t f)), (3, .box 71 [sv p.nm, iv p.top, strsA p.states, strsA p.msgs, strsA p.vals, iv p.fault, slA 4 cLn p.res, intsA p.init, intsA p.leader, slA 18 cRu p.rules, iv n, iv t, iv f, iv (Ns.cntE p n f), iv (n - f), .any, .any, .any, .any, .any, .any, .any, .any, .any, .any, .any, .any, .any, .any, .any, .any, .v (.slice none 0 0), .v (.slice none 0 0)]), (4, .box 59 (cRu p.rules[j])), (5, .box 106 (cTh p.rules[j].guards[k]))] [(3, .box 2 0), (4, .v (.pointer none)), (5, iv 0), (7, .box 3 0), (8, iv j), (9, .box 4 0), (10, iv k), (11, .box 5 0), (46, slA 18 cRu p.rules), (47, iv p.rules.length), (48, iv j), (49, bv true), (54, slA 6 cTh p.rules[j].guards), (55, iv (p.rules[j].guards.length : Nat)), (56, iv k), (57, bv true)] ?_
 refine t_block ?_
 refine t_then ?_
 refine tri_region ?_
 refine oC (sp_add (c := ((k + 1 : Nat) : Int)) rfl (w64 (by omega) (by omega) (by omega))) I0 I0 ?_
 refine oA (sp_move (.tmp 75) (iv (k + 1 : Nat)) rfl) I0 ?_
 refine kN 80 [(2, .box 29 (cSz n t f)), (3, .box 71 [sv p.nm, iv p.top, strsA p.states, strsA p.msgs, strsA p.vals, iv p.fault, slA 4 cLn p.res, intsA p.init, intsA p.leader, slA 18 cRu p.rules, iv n, iv t, iv f, iv (Ns.cntE p n f), iv (n - f), .any, .any, .any, .any, .any, .any, .any, .any, .any, .any, .any, .any, .any, .any, .any, .any, .v (.slice none 0 0), .v (.slice none 0 0)]), (4, .box 59 (cRu p.rules[j])), (5, .box 106 (cTh p.rules[j].guards[k]))] [(3, .box 2 0), (4, .v (.pointer none)), (5, iv 0), (7, .box 3 0), (8, iv j), (9, .box 4 0), (10, iv k), (11, .box 5 0), (46, slA 18 cRu p.rules), (47, iv p.rules.length), (48, iv j), (49, bv true), (54, slA 6 cTh p.rules[j].guards), (55, iv (p.rules[j].guards.length : Nat)), (56, iv (k + 1 : Nat)), (57, bv true)] ?_
 refine t_then ?_
 refine tri_again ⟨k + 1, by omega⟩ (show p.rules[j].guards.length - (k + 1) < p.rules[j].guards.length - k by omega) ?_
 exact wk_keep _ _ rfl (by kernel_rfl) (by kernel_rfl)
 refine tri_region ?_
 refine oC (sp_lss rfl (dF hs3)) I0 I0 ?_
 refine kN 80 [(2, .box 29 (cSz n t f)), (3, .box 71 [sv p.nm, iv p.top, strsA p.states, strsA p.msgs, strsA p.vals, iv p.fault, slA 4 cLn p.res, intsA p.init, intsA p.leader, slA 18 cRu p.rules, iv n, iv t, iv f, iv (Ns.cntE p n f), iv (n - f), .any, .any, .any, .any, .any, .any, .any, .any, .any, .any, .any, .any, .any, .any, .any, .any, .v (.slice none 0 0), .v (.slice none 0 0)]), (4, .box 59 (cRu p.rules[j]))] [(3, .box 2 0), (4, .v (.pointer none)), (5, iv 0), (7, .box 3 0), (8, iv j), (9, .box 4 0), (46, slA 18 cRu p.rules), (47, iv p.rules.length), (48, iv j), (49, bv true), (54, slA 6 cTh p.rules[j].guards), (55, iv (p.rules[j].guards.length : Nat)), (56, iv k), (57, bv false)] ?_
 refine t_then ?_
 refine tri_seq ?_
 refine t_condF rfl ?_
 refine tri_exit ?_
 refine t_then_exit ?_
 refine t_then_exit ?_
 refine t_hit ?_
 refine t_block ?_
 refine t_then ?_
 refine tri_region ?_
 refine oC (sp_add (c := ((j + 1 : Nat) : Int)) rfl (w64 (by omega) (by omega) (by omega))) I0 I0 ?_
 refine oA (sp_move (.tmp 76) (iv (j + 1 : Nat)) rfl) I0 ?_
 refine kN 80 [(2, .box 29 (cSz n t f)), (3, .box 71 [sv p.nm, iv p.top, strsA p.states, strsA p.msgs, strsA p.vals, iv p.fault, slA 4 cLn p.res, intsA p.init, intsA p.leader, slA 18 cRu p.rules, iv n, iv t, iv f, iv (Ns.cntE p n f), iv (n - f), .any, .any, .any, .any, .any, .any, .any, .any, .any, .any, .any, .any, .any, .any, .any, .any, .v (.slice none 0 0), .v (.slice none 0 0)]), (4, .box 59 (cRu p.rules[j]))] [(3, .box 2 0), (4, .v (.pointer none)), (5, iv 0), (7, .box 3 0), (8, iv j), (9, .box 4 0), (46, slA 18 cRu p.rules), (47, iv p.rules.length), (48, iv (j + 1 : Nat)), (49, bv true), (54, slA 6 cTh p.rules[j].guards), (55, iv (p.rules[j].guards.length : Nat)), (56, iv k), (57, bv false)] ?_
 refine t_then ?_
 refine tri_again ⟨j + 1, by omega⟩ (show p.rules.length - (j + 1) < p.rules.length - j by omega) ?_
 exact wk_keep _ _ rfl (by kernel_rfl) (by kernel_rfl)
 refine tri_region ?_
 refine oC (sp_lss rfl (dF hs2)) I0 I0 ?_
 refine kN 80 [(2, .box 29 (cSz n t f)), (3, .box 71 [sv p.nm, iv p.top, strsA p.states, strsA p.msgs, strsA p.vals, iv p.fault, slA 4 cLn p.res, intsA p.init, intsA p.leader, slA 18 cRu p.rules, iv n, iv t, iv f, iv (Ns.cntE p n f), iv (n - f), .any, .any, .any, .any, .any, .any, .any, .any, .any, .any, .any, .any, .any, .any, .any, .any, .v (.slice none 0 0), .v (.slice none 0 0)])] [(3, .box 2 0), (4, .v (.pointer none)), (5, iv 0), (7, .box 3 0), (46, slA 18 cRu p.rules), (47, iv p.rules.length), (48, iv j), (49, bv false)] ?_
 refine t_then ?_
 refine tri_seq ?_
 refine t_condF rfl ?_
 refine tri_exit ?_
 refine t_then_exit ?_
 refine t_then_exit ?_
 refine t_hit ?_
 refine t_then ?_
 refine tri_seq ?_
 refine tri_region ?_
 refine oA (sp_move (.tmp 7) (.box 3 0) rfl) I0 ?_
 refine t_op rfl (sp_callWB (T := 71) (cs := [sv p.nm, iv p.top, strsA p.states, strsA p.msgs, strsA p.vals, iv p.fault, slA 4 cLn p.res, intsA p.init, intsA p.leader, slA 18 cRu p.rules, iv n, iv t, iv f, iv (Ns.cntE p n f), iv (n - f), .any, .any, .any, .any, .any, .any, .any, .any, .any, .any, .any, .any, .any, .any, .any, .any, .v (.slice none 0 0), .v (.slice none 0 0)]) (ds := [sv p.nm, iv p.top, strsA p.states, strsA p.msgs, strsA p.vals, iv p.fault, slA 4 cLn p.res, intsA p.init, intsA p.leader, slA 18 cRu p.rules, iv n, iv t, iv f, iv (Ns.cntE p n f), iv (n - f), .any, .any, .any, .any, .any, .any, .any, .any, .any, .any, .any, .any, .any, .any, .any, .any, .any, .any]) (c := .func 55) (xs := #[.tmp 77]) (k := 3) 1000000 [true, false, true, true, true, true, true, true, true, true, true, true, true, false, true, true, true, true, true, true, true, true, true, true, true, true, true, true, true, true, true, false, false] [] (fun xs_ => (Ns.place_m (p := p) (n := n) (t := t) (f := f) hc0 hc8 xs_)) rfl (by kernel_rfl) rfl (Xs := [.box 3 0]) rfl rfl (Ns.pw1) rfl rfl rfl (Ns.plain_mask (fun _ => by kernel_rfl)) rfl rfl rfl) ⟨I0, I0, T0⟩ ⟨rfl, T0⟩ rfl ?_
 refine kN 80 [(3, .box 71 [sv p.nm, iv p.top, strsA p.states, strsA p.msgs, strsA p.vals, iv p.fault, slA 4 cLn p.res, intsA p.init, intsA p.leader, slA 18 cRu p.rules, iv n, iv t, iv f, iv (Ns.cntE p n f), iv (n - f), .any, .any, .any, .any, .any, .any, .any, .any, .any, .any, .any, .any, .any, .any, .any, .any, .any, .any])] [(4, .v (.pointer none)), (5, iv 0), (7, .box 3 0)] ?_
 refine t_then ?_
 refine tri_seq ?_
 refine tri_region ?_
 refine oA (sp_move (.tmp 7) (.box 3 0) rfl) I0 ?_
 refine oA (sp_assign (.tmp 79) (.box 3 0) rfl) I0 ?_
 refine oA (sp_assign (.const (.int .i64 0)) (iv 0) rfl) I0 ?_
 refine kN 80 [(3, .box 71 [sv p.nm, iv p.top, strsA p.states, strsA p.msgs, strsA p.vals, iv p.fault, slA 4 cLn p.res, intsA p.init, intsA p.leader, slA 18 cRu p.rules, iv n, iv t, iv f, iv (Ns.cntE p n f), iv (n - f), .any, .any, .any, .any, .any, .any, .any, .any, .any, .any, .any, .any, .any, .any, .any, .any, .any, .any])] [(4, .box 3 0), (5, iv 0)] ?_
 refine t_then ?_
 refine tri_ret ?_
 refine tri_endA2 [(3, .box 71 [sv p.nm, iv p.top, strsA p.states, strsA p.msgs, strsA p.vals, iv p.fault, slA 4 cLn p.res, intsA p.init, intsA p.leader, slA 18 cRu p.rules, iv n, iv t, iv f, iv (Ns.cntE p n f), iv (n - f), .any, .any, .any, .any, .any, .any, .any, .any, .any, .any, .any, .any, .any, .any, .any, .any, .any, .any])] Try.results28 (.tmp rfl) (.tmp rfl) (by kernel_rfl) rfl rfl rfl ?_ ?_ ?_
 · exact (show Plain (.el (Ns.sysC p n t f) 0) from .el (plain_all (Ns.plain_sys p n t f)))
 · exact .v _
 · kernel_rfl
end Go.Proofs.Ytgbgfkhkjlakbaa
