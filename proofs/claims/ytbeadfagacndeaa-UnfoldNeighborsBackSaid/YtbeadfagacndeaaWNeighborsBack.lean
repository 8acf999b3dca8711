/-
  THE WALK OF UnfoldNeighborsBack: neighbors are mutual.
-/
import Derived.Test.YtbeadfagacndeaaZKnown
namespace Go.Proofs.Ytbeadfagacndeaa
open Go.RowKit Go.Deep
theorem Neighbors_at {w : World} {v : Value} {xs : List Int} {top count : Int} (h : IsInts 0 w v xs) (hn : xs.length ≤ 100) (hc : count ≤ 9223372036854775807) (j a b c : Int) (e : nbr top xs count j = (a, b, c)) :
    ∀ w' : World, Below w.heap.size w w' → Calls Try.prog 8 #[.int .i64 top, v, .int .i64 count, .int .i64 j] w' fun e w'' => e = .returned (.tuple #[.int .i64 a, .int .i64 b, .int .i64 c]) ∧ Below w'.heap.size w' w'' := by
  intro w' hb
  have := Neighbors_any top count j (h.below hb) hn hc
  rw [e] at this
  exact this
set_option maxRecDepth 100000 in
set_option maxHeartbeats 3200000 in
theorem walk_NeighborsBack {v : Value} {xs : List Int} {top count i : Int} (w : World) (_bt : I64 top) (bc : I64 count) (h : IsInts 0 w v xs) (_bi : I64 i) :
    Calls Try.prog 3 #[.agg #[.int .i64 top, .int .i64 count, v], .int .i64 i] w fun e w' => e = .returned (.bool true) ∧ Below w.heap.size w w' := by
  obtain ⟨av, cv, rfl⟩ := h.shape
  have hbd : xs.length ≤ 9223372036854775807 := by obtain ⟨_, _, _, hh, hm, _⟩ := h; unfold maxLen at hm; omega
  have hc : count ≤ 9223372036854775807 := bc.2
  by_cases hl : 100 < xs.length
  · have hl' : (100 : Int) < (xs.length : Int) := by omega
    clear h
    go_enter Try.func3, Try.ntmps3
    go_wp2_with (go_at_call 7; refine (zknown_any _).mono ?_; rintro e w1 ⟨rfl, hb1⟩)
    go_ret
    exact ⟨rfl, Below.trans (by go_grown) (hb1.mono (by go_size))⟩
  · have hl' : ¬ (100 : Int) < (xs.length : Int) := by omega
    obtain ⟨a, b, c, e1⟩ : ∃ a b c, nbr top xs count i = (a, b, c) := ⟨_, _, _, rfl⟩
    obtain ⟨a1, b1, c1, e2⟩ : ∃ a1 b1 c1, nbr top xs count a = (a1, b1, c1) := ⟨_, _, _, rfl⟩
    obtain ⟨a2, b2, c2, e3⟩ : ∃ a2 b2 c2, nbr top xs count b = (a2, b2, c2) := ⟨_, _, _, rfl⟩
    obtain ⟨a3, b3, c3, e4⟩ : ∃ a3 b3 c3, nbr top xs count c = (a3, b3, c3) := ⟨_, _, _, rfl⟩
    have N1 := Lib.hid (Neighbors_at h (by omega) hc i a b c e1)
    have N2 := Lib.hid (Neighbors_at h (by omega) hc a a1 b1 c1 e2)
    have N3 := Lib.hid (Neighbors_at h (by omega) hc b a2 b2 c2 e3)
    have N4 := Lib.hid (Neighbors_at h (by omega) hc c a3 b3 c3 e4)
    have HR := Lib.hid (fun ht : top = 2 ∨ top = 3 => row_back top xs count i ht)
    have HT := Lib.hid (fun ht : ¬ (top = 2 ∨ top = 3) => tree_back top xs count i ht)
    rw [e1] at HR HT
    dsimp only at HR HT
    rw [e2, e3] at HR
    rw [e2, e3, e4] at HT
    dsimp only at HR HT
    clear e1 e2 e3 e4 h bc
    by_cases ht : top = 2 ∨ top = 3
    · obtain ⟨q0, q1, q2⟩ := HR.out ht
      clear HR HT
      have t0 : (c == -1) = true := by simpa using q0
      have HTop := Lib.hid ht
      have ht' : (top == 2) = true ∨ (top == 2) = false ∧ (top == 3) = true := by
        rcases ht with rfl | rfl
        · exact .inl rfl
        · exact .inr ⟨rfl, rfl⟩
      have hA : (a == -1) = true ∨ (a == -1) = false ∧ (b1 == i) = true := by
        by_cases e : a = -1
        · exact .inl (by simpa using e)
        · exact .inr ⟨by simpa using e, by rcases q1 with q | q
                                           · exact absurd q e
                                           · simpa using q⟩
      have hB : (b == -1) = true ∨ (b == -1) = false ∧ (a2 == i) = true := by
        by_cases e : b = -1
        · exact .inl (by simpa using e)
        · exact .inr ⟨by simpa using e, by rcases q2 with q | q
                                           · exact absurd q e
                                           · simpa using q⟩
      clear q0 q1 q2 ht
      rcases ht' with ht' | ⟨ht', ht2⟩
      all_goals
        rcases hA with hA | ⟨hA, hA2⟩
        all_goals
          rcases hB with hB | ⟨hB, hB2⟩
          all_goals
            go_enter Try.func3, Try.ntmps3
            go_wp2_with fail
            refine (N1.out _ (by go_grown)).mono ?_
            rintro e w1 ⟨rfl, hb1⟩
            have HB1 := Lib.hid (Below.trans (by go_grown) (hb1.mono (by go_size)) : Below w.heap.size w w1)
            have x0 := keep1 (new_cell w #[.int .i64 top, .int .i64 count, .slice av xs.length cv] 24 0 rfl) hb1
            have x1 := keep1 (new_cell w #[.int .i64 top, .int .i64 count, .slice av xs.length cv] 24 1 rfl) hb1
            have x2 := keep1 (new_cell w #[.int .i64 top, .int .i64 count, .slice av xs.length cv] 24 2 rfl) hb1
            clear hb1
            go_wp2_with fail
            refine (N2.out _ HB1.out).mono ?_
            rintro e w2 ⟨rfl, hb2⟩
            have HB2 := Lib.hid (thenBelow HB1.out hb2)
            have y0 := keep1 x0 hb2
            have y1 := keep1 x1 hb2
            have y2 := keep1 x2 hb2
            clear hb2 x0 x1 x2
            go_wp2_with fail
            refine (N3.out _ HB2.out).mono ?_
            rintro e w3 ⟨rfl, hb3⟩
            have HB3 := Lib.hid (thenBelow HB2.out hb3)
            have z0 := keep1 y0 hb3
            have z1 := keep1 y1 hb3
            have z2 := keep1 y2 hb3
            clear hb3 y0 y1 y2
            go_wp2_with (go_at_call 7; refine (zknown_any _).mono ?_; rintro e w4 ⟨rfl, hb4⟩)
            go_ret
            exact ⟨rfl, thenBelow HB3.out hb4⟩
    · obtain ⟨q1, q2, q3, q4⟩ := HT.out ht
      clear HR HT
      have hT2 : (top == 2) = false := by simp; omega
      have hT3 : (top == 3) = false := by simp; omega
      have hA : (a == -1) = true ∧ (b == -1) = true ∨ (a == -1) = false ∧ (c1 == i) = true ∧ (b == -1) = false ∧ (c2 == i) = true := by
        by_cases e : a = -1
        · exact .inl ⟨by simpa using e, by simpa using q4.1 e⟩
        · have e' : b ≠ -1 := fun h => e (q4.2 h)
          refine .inr ⟨by simpa using e, ?_, by simpa using e', ?_⟩
          · rcases q1 with q | q
            · exact absurd q e
            · simpa using q
          · rcases q2 with q | q
            · exact absurd q e'
            · simpa using q
      have hC : (c == -1) = true ∨ (c == -1) = false ∧ (a3 == i) = true ∨ (c == -1) = false ∧ (a3 == i) = false ∧ (b3 == i) = true := by
        by_cases e : c = -1
        · exact .inl (by simpa using e)
        · by_cases e' : a3 = i
          · exact .inr (.inl ⟨by simpa using e, by simpa using e'⟩)
          · refine .inr (.inr ⟨by simpa using e, by simpa using e', ?_⟩)
            rcases q3 with q | q | q
            · exact absurd q e
            · exact absurd q e'
            · simpa using q
      clear q1 q2 q3 q4 ht
      rcases hA with ⟨hA, hB⟩ | ⟨hA, hA2, hB, hB2⟩
      all_goals
        rcases hC with hC | ⟨hC, hC2⟩ | ⟨hC, hC2, hC3⟩
        all_goals
          go_enter Try.func3, Try.ntmps3
          go_wp2_with fail
          refine (N1.out _ (by go_grown)).mono ?_
          rintro e w1 ⟨rfl, hb1⟩
          have HB1 := Lib.hid (Below.trans (by go_grown) (hb1.mono (by go_size)) : Below w.heap.size w w1)
          have x0 := keep1 (new_cell w #[.int .i64 top, .int .i64 count, .slice av xs.length cv] 24 0 rfl) hb1
          have x1 := keep1 (new_cell w #[.int .i64 top, .int .i64 count, .slice av xs.length cv] 24 1 rfl) hb1
          have x2 := keep1 (new_cell w #[.int .i64 top, .int .i64 count, .slice av xs.length cv] 24 2 rfl) hb1
          clear hb1
          go_wp2_with fail
          refine (N2.out _ HB1.out).mono ?_
          rintro e w2 ⟨rfl, hb2⟩
          have HB2 := Lib.hid (thenBelow HB1.out hb2)
          have y0 := keep1 x0 hb2
          have y1 := keep1 x1 hb2
          have y2 := keep1 x2 hb2
          clear hb2 x0 x1 x2
          go_wp2_with fail
          refine (N3.out _ HB2.out).mono ?_
          rintro e w3 ⟨rfl, hb3⟩
          have HB3 := Lib.hid (thenBelow HB2.out hb3)
          have z0 := keep1 y0 hb3
          have z1 := keep1 y1 hb3
          have z2 := keep1 y2 hb3
          clear hb3 y0 y1 y2
          go_wp2_with fail
          refine (N4.out _ HB3.out).mono ?_
          rintro e w4 ⟨rfl, hb4⟩
          have HB4 := Lib.hid (thenBelow HB3.out hb4)
          clear hb4 z0 z1 z2
          go_wp2_with (go_at_call 7; refine (zknown_any _).mono ?_; rintro e w5 ⟨rfl, hb5⟩)
          go_ret
          exact ⟨rfl, thenBelow HB4.out hb5⟩
end Go.Proofs.Ytbeadfagacndeaa
