/-
  THE WALK OF LinearSigns: which rows are contradictory and which are trivial, and that no point decides otherwise.
-/
import Derived.Test.YtbppooajhoejcaaDoorKnown
import Derived.Test.YtbppooajhoejcaaDoorSigns
import Derived.Deep.RegionHeld3
namespace Go.Proofs.YtbppooajhoejcaaDoor
open Go.RowKit Go.Deep

theorem dot_nonpos : ∀ (xs ys : List Int), xs.any posB = false → ys.all coB = true → dot xs ys ≤ 0
  | [], _, _, _ => by simp [dot]
  | _ :: _, [], _, _ => by simp [dot]
  | x :: xs, y :: ys, h, h' => by
    simp only [List.any_cons, Bool.or_eq_false_iff, List.all_cons, Bool.and_eq_true] at h h'
    have ih := dot_nonpos xs ys h.2 h'.2
    have hx : x ≤ 0 := by have := h.1; simp [posB] at this; exact this
    have hy := (coB_true.1 h'.1).1
    have := Int.mul_nonpos_of_nonpos_of_nonneg hx hy
    simp only [dot]
    omega
theorem dot_nonneg : ∀ (xs ys : List Int), xs.any negB = false → ys.all coB = true → 0 ≤ dot xs ys
  | [], _, _, _ => by simp [dot]
  | _ :: _, [], _, _ => by simp [dot]
  | x :: xs, y :: ys, h, h' => by
    simp only [List.any_cons, Bool.or_eq_false_iff, List.all_cons, Bool.and_eq_true] at h h'
    have ih := dot_nonneg xs ys h.2 h'.2
    have hx : 0 ≤ x := by have := h.1; simp [negB] at this; exact this
    have hy := (coB_true.1 h'.1).1
    have := Int.mul_nonneg hx hy
    simp only [dot]
    omega
theorem not_both (xs : List Int) (c : Int) : conB xs c = true → triB xs c = false := fun h => by
  simp only [conB, Bool.and_eq_true, decide_eq_true_iff] at h
  simp only [triB, Bool.and_eq_false_iff, decide_eq_false_iff_not]
  exact .inl (by omega)
theorem point_of_valE {xs ys : List Int} {c : Int} (h : valE xs ys c = 0) : ys.all coB = true := by
  unfold valE at h
  split at h
  · omega
  · rename_i hn
    cases hc : ys.all coB
    · exact absurd (.inr (.inr hc)) hn
    · rfl
theorem con_neg {xs ys : List Int} {c : Int} (h : conB xs c = true) (hv : valE xs ys c = 0) : valN xs ys c < 0 := by
  rw [valN, if_pos hv]
  simp only [conB, Bool.and_eq_true, decide_eq_true_iff, Bool.not_eq_true'] at h
  have := dot_nonpos xs ys h.2 (point_of_valE hv)
  omega
theorem tri_nonneg {xs ys : List Int} {c : Int} (h : triB xs c = true) (hv : valE xs ys c = 0) : 0 ≤ valN xs ys c := by
  rw [valN, if_pos hv]
  simp only [triB, Bool.and_eq_true, decide_eq_true_iff, Bool.not_eq_true'] at h
  have := dot_nonneg xs ys h.2 (point_of_valE hv)
  omega

set_option maxHeartbeats 6400000 in
theorem walk_Signs {u v : Value} {xs ys : List Int} {c : Int} (w : World) (H0 : IsInts 0 w u xs) (_b0 : I64 c) (H1 : IsInts 0 w v ys) :
    Calls Tryd.prog 4 #[.agg #[u, .int .i64 c], v] w fun e w' => e = .returned (.bool true) ∧ Below w.heap.size w w' := by
  obtain ⟨a, cap, rfl⟩ := H0.shape
  obtain ⟨a', cap', rfl⟩ := H1.shape
  have G0 := hid0 H0
  have G1 := hid0 H1
  clear H0 H1
  by_cases h1 : 200 < xs.length
  · have h1' : (200 : Int) < xs.length := by omega
    go_enter Tryd.func4, Tryd.ntmps4
    go_wp2_with (first | (go_at_call 12; refine (long_any _ _ _ _ _).mono ?_; rintro e w1 ⟨rfl, hb1⟩; have hB1 : Below w.heap.size w w1 := (Below.trans (by go_grown) (hb1.mono (by go_size))); obtain ⟨p1, p2⟩ := blk hb1 (n := w.heap.size) (by go_size); have hz1 : w.heap.size < w1.heap.size := (by have := hb1.size; simp at this; omega); clear hb1) | (go_at_call 13; refine (known_any _).mono ?_; rintro e wk ⟨rfl, hbk⟩))
    go_ret
    exact ⟨rfl, thenBelow hB1 hbk⟩
  · have h1' : ¬ (200 : Int) < xs.length := by omega
    by_cases h2 : 200 < ys.length
    · have h2' : (200 : Int) < ys.length := by omega
      go_enter Tryd.func4, Tryd.ntmps4
      go_wp2_with (first | (go_at_call 12; refine (long_any _ _ _ _ _).mono ?_; rintro e w1 ⟨rfl, hb1⟩; have hB1 : Below w.heap.size w w1 := (Below.trans (by go_grown) (hb1.mono (by go_size))); obtain ⟨p1, p2⟩ := blk hb1 (n := w.heap.size) (by go_size); have hz1 : w.heap.size < w1.heap.size := (by have := hb1.size; simp at this; omega); clear hb1) | (go_at_call 13; refine (known_any _).mono ?_; rintro e wk ⟨rfl, hbk⟩))
      go_ret
      exact ⟨rfl, thenBelow hB1 hbk⟩
    · have h2' : ¬ (200 : Int) < ys.length := by omega
      by_cases h3 : valE xs ys c = 0
      · have h3' : (valE xs ys c != 0) = false := by simpa using h3
        have hc := hid0 fun h => con_neg (ys := ys) h h3
        have ht := hid0 fun h => tri_nonneg (ys := ys) h h3
        have hb := hid0 (not_both xs c)
        clear h3
        cases hcon : conB xs c with
        | true =>
          have htri : triB xs c = false := hb.out hcon
          have hneg : valN xs ys c < 0 := hc.out hcon
          clear hc ht hb
          go_enter Tryd.func4, Tryd.ntmps4
          go_wp2_with (go_at_call 12; refine (long_any _ _ _ _ _).mono ?_; rintro e w1 ⟨rfl, hb1⟩; have hB1 : Below w.heap.size w w1 := (Below.trans (by go_grown) (hb1.mono (by go_size))); obtain ⟨p1, p2⟩ := blk hb1 (n := w.heap.size) (by go_size); have hz1 : w.heap.size < w1.heap.size := (by have := hb1.size; simp at this; omega); clear hb1)
          have y0 : w1.cell? ⟨w.heap.size, 0, none⟩ = some (.slice a xs.length cap) := by rw [p1]; simp
          have y1 : w1.cell? ⟨w.heap.size, 1, none⟩ = some (.int .i64 c) := by rw [p1]; simp
          clear p1 p2
          go_region_held3 (fun w' => w'.cell? ⟨w.heap.size, 0, none⟩ = some (.slice a xs.length cap) ∧ w'.cell? ⟨w.heap.size, 1, none⟩ = some (.int .i64 c) ∧ Below w.heap.size w w') (first | exact ⟨y0, y1, hB1⟩ | exact keepS ⟨y0, y1, hB1⟩ (drewBelow _) | exact keepS (by assumption) (by assumption)) (first | (go_at_call 17; refine (Contradictory_any c (G0.out.below (held3 (by assumption)))).mono ?_; rintro e w2 ⟨rfl, hb2⟩) | (go_at_call 18; refine (Trivial_any c (G0.out.below (held3 (by assumption)))).mono ?_; rintro e w3 ⟨rfl, hb3⟩))
          obtain ⟨s0, s1, hB3⟩ := (by assumption : _ ∧ _ ∧ Below w.heap.size w w3)
          have hz3 : w.heap.size < w3.heap.size := cell_lt s0
          go_wp2_with (first | (go_at_call 19; refine (rContradictory_any c (G0.out.below hB3)).mono ?_; rintro e w4 ⟨rfl, hb4⟩; have hB4 : Below w.heap.size w w4 := (thenBelow hB3 hb4); obtain ⟨p41, p42⟩ := blk hb4 (n := w.heap.size) hz3; have hz4 : w.heap.size < w4.heap.size := (by have := hb4.size; omega); clear hb4) | (go_at_call 20; refine (rTrivial_any c (G0.out.below hB4)).mono ?_; rintro e w5 ⟨rfl, hb5⟩; have hB5 : Below w.heap.size w w5 := (thenBelow hB4 hb5); obtain ⟨p51, p52⟩ := blk hb5 (n := w.heap.size) hz4; have hz5 : w.heap.size < w5.heap.size := (by have := hb5.size; omega); clear hb5) | (go_at_call 21; refine (Value_any c (G0.out.below hB5) (G1.out.below hB5)).mono ?_; rintro e w6 ⟨rfl, hb6⟩; have hB6 : Below w.heap.size w w6 := (thenBelow hB5 hb6); clear hb6) | (go_at_call 13; refine (known_any _).mono ?_; rintro e wk ⟨rfl, hbk⟩))
          go_ret
          exact ⟨rfl, thenBelow hB6 hbk⟩
        | false =>
          cases htri : triB xs c with
          | true =>
            have hnn : 0 ≤ valN xs ys c := ht.out htri
            clear hc ht hb
            go_enter Tryd.func4, Tryd.ntmps4
            go_wp2_with (go_at_call 12; refine (long_any _ _ _ _ _).mono ?_; rintro e w1 ⟨rfl, hb1⟩; have hB1 : Below w.heap.size w w1 := (Below.trans (by go_grown) (hb1.mono (by go_size))); obtain ⟨p1, p2⟩ := blk hb1 (n := w.heap.size) (by go_size); have hz1 : w.heap.size < w1.heap.size := (by have := hb1.size; simp at this; omega); clear hb1)
            have y0 : w1.cell? ⟨w.heap.size, 0, none⟩ = some (.slice a xs.length cap) := by rw [p1]; simp
            have y1 : w1.cell? ⟨w.heap.size, 1, none⟩ = some (.int .i64 c) := by rw [p1]; simp
            clear p1 p2
            go_region_held3 (fun w' => w'.cell? ⟨w.heap.size, 0, none⟩ = some (.slice a xs.length cap) ∧ w'.cell? ⟨w.heap.size, 1, none⟩ = some (.int .i64 c) ∧ Below w.heap.size w w') (first | exact ⟨y0, y1, hB1⟩ | exact keepS ⟨y0, y1, hB1⟩ (drewBelow _) | exact keepS (by assumption) (by assumption)) (first | (go_at_call 17; refine (Contradictory_any c (G0.out.below (held3 (by assumption)))).mono ?_; rintro e w2 ⟨rfl, hb2⟩) | (go_at_call 18; refine (Trivial_any c (G0.out.below (held3 (by assumption)))).mono ?_; rintro e w3 ⟨rfl, hb3⟩))
            obtain ⟨s0, s1, hB3⟩ := (by assumption : _ ∧ _ ∧ Below w.heap.size w w3)
            have hz3 : w.heap.size < w3.heap.size := cell_lt s0
            go_wp2_with (first | (go_at_call 19; refine (rContradictory_any c (G0.out.below hB3)).mono ?_; rintro e w4 ⟨rfl, hb4⟩; have hB4 : Below w.heap.size w w4 := (thenBelow hB3 hb4); obtain ⟨p41, p42⟩ := blk hb4 (n := w.heap.size) hz3; have hz4 : w.heap.size < w4.heap.size := (by have := hb4.size; omega); clear hb4) | (go_at_call 20; refine (rTrivial_any c (G0.out.below hB4)).mono ?_; rintro e w5 ⟨rfl, hb5⟩; have hB5 : Below w.heap.size w w5 := (thenBelow hB4 hb5); obtain ⟨p51, p52⟩ := blk hb5 (n := w.heap.size) hz4; have hz5 : w.heap.size < w5.heap.size := (by have := hb5.size; omega); clear hb5) | (go_at_call 21; refine (Value_any c (G0.out.below hB5) (G1.out.below hB5)).mono ?_; rintro e w6 ⟨rfl, hb6⟩; have hB6 : Below w.heap.size w w6 := (thenBelow hB5 hb6); clear hb6) | (go_at_call 13; refine (known_any _).mono ?_; rintro e wk ⟨rfl, hbk⟩))
            go_ret
            exact ⟨rfl, thenBelow hB6 hbk⟩
          | false =>
            clear hc ht hb
            go_enter Tryd.func4, Tryd.ntmps4
            go_wp2_with (go_at_call 12; refine (long_any _ _ _ _ _).mono ?_; rintro e w1 ⟨rfl, hb1⟩; have hB1 : Below w.heap.size w w1 := (Below.trans (by go_grown) (hb1.mono (by go_size))); obtain ⟨p1, p2⟩ := blk hb1 (n := w.heap.size) (by go_size); have hz1 : w.heap.size < w1.heap.size := (by have := hb1.size; simp at this; omega); clear hb1)
            have y0 : w1.cell? ⟨w.heap.size, 0, none⟩ = some (.slice a xs.length cap) := by rw [p1]; simp
            have y1 : w1.cell? ⟨w.heap.size, 1, none⟩ = some (.int .i64 c) := by rw [p1]; simp
            clear p1 p2
            go_region_held3 (fun w' => w'.cell? ⟨w.heap.size, 0, none⟩ = some (.slice a xs.length cap) ∧ w'.cell? ⟨w.heap.size, 1, none⟩ = some (.int .i64 c) ∧ Below w.heap.size w w') (first | exact ⟨y0, y1, hB1⟩ | exact keepS ⟨y0, y1, hB1⟩ (drewBelow _) | exact keepS (by assumption) (by assumption)) (first | (go_at_call 17; refine (Contradictory_any c (G0.out.below (held3 (by assumption)))).mono ?_; rintro e w2 ⟨rfl, hb2⟩) | (go_at_call 18; refine (Trivial_any c (G0.out.below (held3 (by assumption)))).mono ?_; rintro e w3 ⟨rfl, hb3⟩))
            obtain ⟨s0, s1, hB3⟩ := (by assumption : _ ∧ _ ∧ Below w.heap.size w w3)
            have hz3 : w.heap.size < w3.heap.size := cell_lt s0
            go_wp2_with (first | (go_at_call 19; refine (rContradictory_any c (G0.out.below hB3)).mono ?_; rintro e w4 ⟨rfl, hb4⟩; have hB4 : Below w.heap.size w w4 := (thenBelow hB3 hb4); obtain ⟨p41, p42⟩ := blk hb4 (n := w.heap.size) hz3; have hz4 : w.heap.size < w4.heap.size := (by have := hb4.size; omega); clear hb4) | (go_at_call 20; refine (rTrivial_any c (G0.out.below hB4)).mono ?_; rintro e w5 ⟨rfl, hb5⟩; have hB5 : Below w.heap.size w w5 := (thenBelow hB4 hb5); obtain ⟨p51, p52⟩ := blk hb5 (n := w.heap.size) hz4; have hz5 : w.heap.size < w5.heap.size := (by have := hb5.size; omega); clear hb5) | (go_at_call 21; refine (Value_any c (G0.out.below hB5) (G1.out.below hB5)).mono ?_; rintro e w6 ⟨rfl, hb6⟩; have hB6 : Below w.heap.size w w6 := (thenBelow hB5 hb6); clear hb6) | (go_at_call 13; refine (known_any _).mono ?_; rintro e wk ⟨rfl, hbk⟩))
            go_ret
            exact ⟨rfl, thenBelow hB6 hbk⟩
      · have h3' : (valE xs ys c != 0) = true := by simpa using h3
        have hb := hid0 (not_both xs c)
        clear h3
        cases hcon : conB xs c with
        | true =>
          have htri : triB xs c = false := hb.out hcon
          clear hb
          go_enter Tryd.func4, Tryd.ntmps4
          go_wp2_with (go_at_call 12; refine (long_any _ _ _ _ _).mono ?_; rintro e w1 ⟨rfl, hb1⟩; have hB1 : Below w.heap.size w w1 := (Below.trans (by go_grown) (hb1.mono (by go_size))); obtain ⟨p1, p2⟩ := blk hb1 (n := w.heap.size) (by go_size); have hz1 : w.heap.size < w1.heap.size := (by have := hb1.size; simp at this; omega); clear hb1)
          have y0 : w1.cell? ⟨w.heap.size, 0, none⟩ = some (.slice a xs.length cap) := by rw [p1]; simp
          have y1 : w1.cell? ⟨w.heap.size, 1, none⟩ = some (.int .i64 c) := by rw [p1]; simp
          clear p1 p2
          go_region_held3 (fun w' => w'.cell? ⟨w.heap.size, 0, none⟩ = some (.slice a xs.length cap) ∧ w'.cell? ⟨w.heap.size, 1, none⟩ = some (.int .i64 c) ∧ Below w.heap.size w w') (first | exact ⟨y0, y1, hB1⟩ | exact keepS ⟨y0, y1, hB1⟩ (drewBelow _) | exact keepS (by assumption) (by assumption)) (first | (go_at_call 17; refine (Contradictory_any c (G0.out.below (held3 (by assumption)))).mono ?_; rintro e w2 ⟨rfl, hb2⟩) | (go_at_call 18; refine (Trivial_any c (G0.out.below (held3 (by assumption)))).mono ?_; rintro e w3 ⟨rfl, hb3⟩))
          obtain ⟨s0, s1, hB3⟩ := (by assumption : _ ∧ _ ∧ Below w.heap.size w w3)
          have hz3 : w.heap.size < w3.heap.size := cell_lt s0
          go_wp2_with (first | (go_at_call 19; refine (rContradictory_any c (G0.out.below hB3)).mono ?_; rintro e w4 ⟨rfl, hb4⟩; have hB4 : Below w.heap.size w w4 := (thenBelow hB3 hb4); obtain ⟨p41, p42⟩ := blk hb4 (n := w.heap.size) hz3; have hz4 : w.heap.size < w4.heap.size := (by have := hb4.size; omega); clear hb4) | (go_at_call 20; refine (rTrivial_any c (G0.out.below hB4)).mono ?_; rintro e w5 ⟨rfl, hb5⟩; have hB5 : Below w.heap.size w w5 := (thenBelow hB4 hb5); obtain ⟨p51, p52⟩ := blk hb5 (n := w.heap.size) hz4; have hz5 : w.heap.size < w5.heap.size := (by have := hb5.size; omega); clear hb5) | (go_at_call 21; refine (Value_any c (G0.out.below hB5) (G1.out.below hB5)).mono ?_; rintro e w6 ⟨rfl, hb6⟩; have hB6 : Below w.heap.size w w6 := (thenBelow hB5 hb6); clear hb6) | (go_at_call 13; refine (known_any _).mono ?_; rintro e wk ⟨rfl, hbk⟩))
          go_ret
          exact ⟨rfl, thenBelow hB6 hbk⟩
        | false =>
          cases htri : triB xs c with
          | true =>
            clear hb
            go_enter Tryd.func4, Tryd.ntmps4
            go_wp2_with (go_at_call 12; refine (long_any _ _ _ _ _).mono ?_; rintro e w1 ⟨rfl, hb1⟩; have hB1 : Below w.heap.size w w1 := (Below.trans (by go_grown) (hb1.mono (by go_size))); obtain ⟨p1, p2⟩ := blk hb1 (n := w.heap.size) (by go_size); have hz1 : w.heap.size < w1.heap.size := (by have := hb1.size; simp at this; omega); clear hb1)
            have y0 : w1.cell? ⟨w.heap.size, 0, none⟩ = some (.slice a xs.length cap) := by rw [p1]; simp
            have y1 : w1.cell? ⟨w.heap.size, 1, none⟩ = some (.int .i64 c) := by rw [p1]; simp
            clear p1 p2
            go_region_held3 (fun w' => w'.cell? ⟨w.heap.size, 0, none⟩ = some (.slice a xs.length cap) ∧ w'.cell? ⟨w.heap.size, 1, none⟩ = some (.int .i64 c) ∧ Below w.heap.size w w') (first | exact ⟨y0, y1, hB1⟩ | exact keepS ⟨y0, y1, hB1⟩ (drewBelow _) | exact keepS (by assumption) (by assumption)) (first | (go_at_call 17; refine (Contradictory_any c (G0.out.below (held3 (by assumption)))).mono ?_; rintro e w2 ⟨rfl, hb2⟩) | (go_at_call 18; refine (Trivial_any c (G0.out.below (held3 (by assumption)))).mono ?_; rintro e w3 ⟨rfl, hb3⟩))
            obtain ⟨s0, s1, hB3⟩ := (by assumption : _ ∧ _ ∧ Below w.heap.size w w3)
            have hz3 : w.heap.size < w3.heap.size := cell_lt s0
            go_wp2_with (first | (go_at_call 19; refine (rContradictory_any c (G0.out.below hB3)).mono ?_; rintro e w4 ⟨rfl, hb4⟩; have hB4 : Below w.heap.size w w4 := (thenBelow hB3 hb4); obtain ⟨p41, p42⟩ := blk hb4 (n := w.heap.size) hz3; have hz4 : w.heap.size < w4.heap.size := (by have := hb4.size; omega); clear hb4) | (go_at_call 20; refine (rTrivial_any c (G0.out.below hB4)).mono ?_; rintro e w5 ⟨rfl, hb5⟩; have hB5 : Below w.heap.size w w5 := (thenBelow hB4 hb5); obtain ⟨p51, p52⟩ := blk hb5 (n := w.heap.size) hz4; have hz5 : w.heap.size < w5.heap.size := (by have := hb5.size; omega); clear hb5) | (go_at_call 21; refine (Value_any c (G0.out.below hB5) (G1.out.below hB5)).mono ?_; rintro e w6 ⟨rfl, hb6⟩; have hB6 : Below w.heap.size w w6 := (thenBelow hB5 hb6); clear hb6) | (go_at_call 13; refine (known_any _).mono ?_; rintro e wk ⟨rfl, hbk⟩))
            go_ret
            exact ⟨rfl, thenBelow hB6 hbk⟩
          | false =>
            clear hb
            go_enter Tryd.func4, Tryd.ntmps4
            go_wp2_with (go_at_call 12; refine (long_any _ _ _ _ _).mono ?_; rintro e w1 ⟨rfl, hb1⟩; have hB1 : Below w.heap.size w w1 := (Below.trans (by go_grown) (hb1.mono (by go_size))); obtain ⟨p1, p2⟩ := blk hb1 (n := w.heap.size) (by go_size); have hz1 : w.heap.size < w1.heap.size := (by have := hb1.size; simp at this; omega); clear hb1)
            have y0 : w1.cell? ⟨w.heap.size, 0, none⟩ = some (.slice a xs.length cap) := by rw [p1]; simp
            have y1 : w1.cell? ⟨w.heap.size, 1, none⟩ = some (.int .i64 c) := by rw [p1]; simp
            clear p1 p2
            go_region_held3 (fun w' => w'.cell? ⟨w.heap.size, 0, none⟩ = some (.slice a xs.length cap) ∧ w'.cell? ⟨w.heap.size, 1, none⟩ = some (.int .i64 c) ∧ Below w.heap.size w w') (first | exact ⟨y0, y1, hB1⟩ | exact keepS ⟨y0, y1, hB1⟩ (drewBelow _) | exact keepS (by assumption) (by assumption)) (first | (go_at_call 17; refine (Contradictory_any c (G0.out.below (held3 (by assumption)))).mono ?_; rintro e w2 ⟨rfl, hb2⟩) | (go_at_call 18; refine (Trivial_any c (G0.out.below (held3 (by assumption)))).mono ?_; rintro e w3 ⟨rfl, hb3⟩))
            obtain ⟨s0, s1, hB3⟩ := (by assumption : _ ∧ _ ∧ Below w.heap.size w w3)
            have hz3 : w.heap.size < w3.heap.size := cell_lt s0
            go_wp2_with (first | (go_at_call 19; refine (rContradictory_any c (G0.out.below hB3)).mono ?_; rintro e w4 ⟨rfl, hb4⟩; have hB4 : Below w.heap.size w w4 := (thenBelow hB3 hb4); obtain ⟨p41, p42⟩ := blk hb4 (n := w.heap.size) hz3; have hz4 : w.heap.size < w4.heap.size := (by have := hb4.size; omega); clear hb4) | (go_at_call 20; refine (rTrivial_any c (G0.out.below hB4)).mono ?_; rintro e w5 ⟨rfl, hb5⟩; have hB5 : Below w.heap.size w w5 := (thenBelow hB4 hb5); obtain ⟨p51, p52⟩ := blk hb5 (n := w.heap.size) hz4; have hz5 : w.heap.size < w5.heap.size := (by have := hb5.size; omega); clear hb5) | (go_at_call 21; refine (Value_any c (G0.out.below hB5) (G1.out.below hB5)).mono ?_; rintro e w6 ⟨rfl, hb6⟩; have hB6 : Below w.heap.size w w6 := (thenBelow hB5 hb6); clear hb6) | (go_at_call 13; refine (known_any _).mono ?_; rintro e wk ⟨rfl, hbk⟩))
            go_ret
            exact ⟨rfl, thenBelow hB6 hbk⟩
end Go.Proofs.YtbppooajhoejcaaDoor
