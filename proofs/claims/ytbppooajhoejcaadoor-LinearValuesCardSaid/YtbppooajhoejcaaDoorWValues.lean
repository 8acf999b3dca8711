/-
  THE WALK OF LinearValues: what Value and Satisfies return for all rows, systems and points.
-/
import Derived.Test.YtbppooajhoejcaaDoorKnown
import Derived.Test.YtbppooajhoejcaaDoorRefSys
import Derived.Deep.RegionHeld3
namespace Go.Proofs.YtbppooajhoejcaaDoor
open Go.RowKit Go.Deep

set_option maxHeartbeats 3200000 in
theorem walk_Values {u v s : Value} {xs ys : List Int} {c vars : Int} {rs : List Rw} (w : World) (H0 : IsInts 0 w u xs) (_b0 : I64 c) (HR : IsRows 0 w s rs) (_b1 : I64 vars) (H1 : IsInts 0 w v ys) :
    Calls Tryd.prog 5 #[.agg #[u, .int .i64 c], .agg #[.int .i64 vars, s], v] w fun e w' => e = .returned (.bool true) ∧ Below w.heap.size w w' := by
  obtain ⟨a, cap, rfl⟩ := H0.shape
  obtain ⟨a', cap', rfl⟩ := H1.shape
  obtain ⟨a2, cap2, rfl⟩ := HR.shape
  have G0 := hid0 H0
  have G1 := hid0 H1
  have GR := hid0 HR
  clear H0 H1 HR
  by_cases h1 : 200 < xs.length
  · have h1' : (200 : Int) < xs.length := by omega
    go_enter Tryd.func5, Tryd.ntmps5
    go_wp2_with (first | (go_at_call 12; refine (long_any _ _ _ _ _).mono ?_; rintro e w1 ⟨rfl, hb1⟩; have hB1 : Below w.heap.size w w1 := (Below.trans (by go_grown) (hb1.mono (by go_size))); obtain ⟨p1, p2⟩ := blk hb1 (n := w.heap.size) (by go_size); obtain ⟨p7, p8⟩ := blk hb1 (n := w.heap.size + 1) (by go_size); have hz1 : w.heap.size < w1.heap.size := (by have := hb1.size; simp at this; omega); have hz2 : w.heap.size + 1 < w1.heap.size := (by have := hb1.size; simp at this; omega); clear hb1) | (go_at_call 13; refine (known_any _).mono ?_; rintro e wk ⟨rfl, hbk⟩))
    go_ret
    exact ⟨rfl, thenBelow hB1 hbk⟩
  · have h1' : ¬ (200 : Int) < xs.length := by omega
    cases h2 : wideB rs with
    | true =>
      go_enter Tryd.func5, Tryd.ntmps5
      go_wp2_with (first | (go_at_call 12; refine (long_any _ _ _ _ _).mono ?_; rintro e w1 ⟨rfl, hb1⟩; have hB1 : Below w.heap.size w w1 := (Below.trans (by go_grown) (hb1.mono (by go_size))); obtain ⟨p1, p2⟩ := blk hb1 (n := w.heap.size) (by go_size); obtain ⟨p7, p8⟩ := blk hb1 (n := w.heap.size + 1) (by go_size); have hz1 : w.heap.size < w1.heap.size := (by have := hb1.size; simp at this; omega); have hz2 : w.heap.size + 1 < w1.heap.size := (by have := hb1.size; simp at this; omega); clear hb1) | (go_at_call 22; refine (wide_any _ (GR.out.below hB1)).mono ?_; rintro e w2 ⟨rfl, hb2⟩; have hB2 : Below w.heap.size w w2 := (thenBelow hB1 hb2); obtain ⟨p3, p4⟩ := blk hb2 (n := w.heap.size) (by go_size); obtain ⟨p5, p6⟩ := blk hb2 (n := w.heap.size + 1) (by go_size); have hz3 : w.heap.size < w2.heap.size := (by have := hb2.size; omega); have hz4 : w.heap.size + 1 < w2.heap.size := (by have := hb2.size; omega); clear hb2) | (go_at_call 13; refine (known_any _).mono ?_; rintro e wk ⟨rfl, hbk⟩))
      go_ret
      exact ⟨rfl, thenBelow hB2 hbk⟩
    | false =>
      by_cases h3 : 200 < ys.length
      · have h3' : (200 : Int) < ys.length := by omega
        go_enter Tryd.func5, Tryd.ntmps5
        go_wp2_with (first | (go_at_call 12; refine (long_any _ _ _ _ _).mono ?_; rintro e w1 ⟨rfl, hb1⟩; have hB1 : Below w.heap.size w w1 := (Below.trans (by go_grown) (hb1.mono (by go_size))); obtain ⟨p1, p2⟩ := blk hb1 (n := w.heap.size) (by go_size); obtain ⟨p7, p8⟩ := blk hb1 (n := w.heap.size + 1) (by go_size); have hz1 : w.heap.size < w1.heap.size := (by have := hb1.size; simp at this; omega); have hz2 : w.heap.size + 1 < w1.heap.size := (by have := hb1.size; simp at this; omega); clear hb1) | (go_at_call 22; refine (wide_any _ (GR.out.below hB1)).mono ?_; rintro e w2 ⟨rfl, hb2⟩; have hB2 : Below w.heap.size w w2 := (thenBelow hB1 hb2); obtain ⟨p3, p4⟩ := blk hb2 (n := w.heap.size) (by go_size); obtain ⟨p5, p6⟩ := blk hb2 (n := w.heap.size + 1) (by go_size); have hz3 : w.heap.size < w2.heap.size := (by have := hb2.size; omega); have hz4 : w.heap.size + 1 < w2.heap.size := (by have := hb2.size; omega); clear hb2) | (go_at_call 13; refine (known_any _).mono ?_; rintro e wk ⟨rfl, hbk⟩))
        go_ret
        exact ⟨rfl, thenBelow hB2 hbk⟩
      · have h3' : ¬ (200 : Int) < ys.length := by omega
        go_enter Tryd.func5, Tryd.ntmps5
        go_wp2_with (first | (go_at_call 12; refine (long_any _ _ _ _ _).mono ?_; rintro e w1 ⟨rfl, hb1⟩; have hB1 : Below w.heap.size w w1 := (Below.trans (by go_grown) (hb1.mono (by go_size))); obtain ⟨p1, p2⟩ := blk hb1 (n := w.heap.size) (by go_size); obtain ⟨p7, p8⟩ := blk hb1 (n := w.heap.size + 1) (by go_size); have hz1 : w.heap.size < w1.heap.size := (by have := hb1.size; simp at this; omega); have hz2 : w.heap.size + 1 < w1.heap.size := (by have := hb1.size; simp at this; omega); clear hb1) | (go_at_call 22; refine (wide_any _ (GR.out.below hB1)).mono ?_; rintro e w2 ⟨rfl, hb2⟩; have hB2 : Below w.heap.size w w2 := (thenBelow hB1 hb2); obtain ⟨p3, p4⟩ := blk hb2 (n := w.heap.size) (by go_size); obtain ⟨p5, p6⟩ := blk hb2 (n := w.heap.size + 1) (by go_size); have hz3 : w.heap.size < w2.heap.size := (by have := hb2.size; omega); have hz4 : w.heap.size + 1 < w2.heap.size := (by have := hb2.size; omega); clear hb2) | (go_at_call 21; refine (Value_any c (G0.out.below hB2) (G1.out.below hB2)).mono ?_; rintro e w3 ⟨rfl, hb3⟩; have hB3 : Below w.heap.size w w3 := (thenBelow hB2 hb3); obtain ⟨q1, q2⟩ := blk hb3 (n := w.heap.size) (by go_size); obtain ⟨q3, q4⟩ := blk hb3 (n := w.heap.size + 1) (by go_size); have hz5 : w.heap.size < w3.heap.size := (by have := hb3.size; omega); have hz6 : w.heap.size + 1 < w3.heap.size := (by have := hb3.size; omega); clear hb3) | (go_at_call 23; refine (rValue_any c (G0.out.below hB3) (G1.out.below hB3)).mono ?_; rintro e w4 ⟨rfl, hb4⟩; have hB4 : Below w.heap.size w w4 := (thenBelow hB3 hb4); obtain ⟨q5, q6⟩ := blk hb4 (n := w.heap.size) (by go_size); obtain ⟨q7, q8⟩ := blk hb4 (n := w.heap.size + 1) (by go_size); have hz7 : w.heap.size < w4.heap.size := (by have := hb4.size; omega); have hz8 : w.heap.size + 1 < w4.heap.size := (by have := hb4.size; omega); clear hb4))
        have y0 : w4.cell? ⟨w.heap.size + 1, 0, none⟩ = some (.int .i64 vars) := by rw [q7, q3, p5, p7]; simp
        have y1 : w4.cell? ⟨w.heap.size + 1, 1, none⟩ = some (.slice a2 rs.length cap2) := by rw [q7, q3, p5, p7]; simp
        clear p1 p2 p3 p4 p5 p6 p7 p8 q1 q2 q3 q4 q5 q6 q7 q8 hB1 hB2 hB3 hz1 hz2 hz3 hz4 hz5 hz6 hz7 hz8
        go_region_held3 (fun w' => w'.cell? ⟨w.heap.size + 1, 0, none⟩ = some (.int .i64 vars) ∧ w'.cell? ⟨w.heap.size + 1, 1, none⟩ = some (.slice a2 rs.length cap2) ∧ Below w.heap.size w w') (first | exact ⟨y0, y1, hB4⟩ | exact keepS ⟨y0, y1, hB4⟩ (drewBelow _) | exact keepS (by assumption) (by assumption)) (first | (go_at_call 24; refine (Satisfies_any vars (GR.out.below (held3 (by assumption))) (G1.out.below (held3 (by assumption)))).mono ?_; rintro e w5 ⟨rfl, hb5⟩) | (go_at_call 25; refine (rSatisfies_any vars (GR.out.below (held3 (by assumption))) (G1.out.below (held3 (by assumption)))).mono ?_; rintro e w6 ⟨rfl, hb6⟩) | (go_at_call 13; refine (known_any _).mono ?_; rintro e w7 ⟨rfl, hb7⟩))
        have hE := held3 (by assumption : _ ∧ _ ∧ Below w.heap.size w w7)
        go_wp2_with fail
        go_ret
        exact ⟨rfl, hE⟩
end Go.Proofs.YtbppooajhoejcaaDoor
