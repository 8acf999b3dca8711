/-
  THE WALK OF LinearNegates: Negate is that of the reference, and a row and its negation never hold at one point.
-/
import Derived.Test.YtbppooajhoejcaaDoorKnown
import Derived.Test.YtbppooajhoejcaaDoorRefNeg
namespace Go.Proofs.YtbppooajhoejcaaDoor
open Go.RowKit Go.Deep

theorem dot_neg : ∀ (xs ys : List Int), dot (xs.map (fun x => -x)) ys = -dot xs ys
  | [], _ => by simp [dot]
  | _ :: _, [] => by simp [dot]
  | x :: xs, y :: ys => by
    have ih := dot_neg xs ys
    simp only [List.map_cons, dot, ih, Int.neg_mul]
    omega
theorem neg_vals {xs ys : List Int} {c : Int} (h0 : negE xs c = 0) (h1 : valE xs ys c = 0) : valE (negX xs c) ys (negC xs c) = 0 ∧ valN (negX xs c) ys (negC xs c) = -valN xs ys c - 1 := by
  have hX : negX xs c = xs.map (fun x => -x) := by unfold negX; rw [if_pos h0]
  have hC : negC xs c = -c - 1 := by unfold negC; rw [if_pos h0]
  have hs : smR (xs.map (fun x => -x), -c - 1) = true := by
    unfold negE at h0
    split at h0
    · rename_i h; exact h.2
    · omega
  have hl : ¬ (xs.length ≠ ys.length ∨ 96 < xs.length ∨ ys.all coB = false) := fun h => by
    unfold valE at h1; rw [if_pos h] at h1; omega
  have hE : valE (xs.map (fun x => -x)) ys (-c - 1) = 0 := by
    unfold valE
    rw [if_neg (by simpa using hl), if_neg (by simp [hs])]
  rw [hX, hC]
  refine ⟨hE, ?_⟩
  rw [valN, if_pos hE, valN, if_pos h1, dot_neg]
  omega
theorem Value_neg {lo lo' : Nat} {w : World} {v v' : Value} {xs ys : List Int} {c : Int} (h0 : negE xs c = 0) (h1 : valE xs ys c = 0) (h : IsInts lo w v (negX xs c)) (h' : IsInts lo' w v' ys) :
    Calls Tryd.prog 21 #[.agg #[v, .int .i64 (negC xs c)], v'] w fun e w' => e = .returned (.tuple #[.int .i64 (-valN xs ys c - 1), .int .i64 0]) ∧ Below w.heap.size w w' := by
  have := Value_any (negC xs c) h h'
  rwa [(neg_vals h0 h1).1, (neg_vals h0 h1).2] at this
theorem SameRow_self {lo lo' : Nat} {w : World} {v v' : Value} {xs : List Int} (c : Int) (h : IsInts lo w v xs) (h' : IsInts lo' w v' xs) :
    Calls Tryd.prog 16 #[.agg #[v, .int .i64 c], .agg #[v', .int .i64 c]] w fun e w' => e = .returned (.bool true) ∧ Below w.heap.size w w' := by
  have := SameRow_any c c h h'
  rwa [show sameR (xs, c) (xs, c) = true by simp [sameR]] at this

set_option maxHeartbeats 6400000 in
theorem walk_Negates {u0 v1 : Value} {xs ys : List Int} {c : Int} (w : World) (H0 : IsInts 0 w u0 xs) (_b0 : I64 c) (H1 : IsInts 0 w v1 ys) :
    Calls Tryd.prog 10 #[.agg #[u0, .int .i64 c], v1] w fun e w' => e = .returned (.bool true) ∧ Below w.heap.size w w' := by
  obtain ⟨a, cap, rfl⟩ := H0.shape
  obtain ⟨a1, cap1, rfl⟩ := H1.shape
  have G0 := hid0 H0
  have G1 := hid0 H1
  clear H0 H1
  by_cases h1 : 200 < xs.length
  · have h1' : (200 : Int) < xs.length := by omega
    go_enter Tryd.func10, Tryd.ntmps10
    go_wp2_with (first | (go_at_call 12; refine (long_any _ _ _ _ _).mono ?_; rintro e w1 ⟨rfl, hb1⟩; have hB1 : Below w.heap.size w w1 := (Below.trans (by go_grown) (hb1.mono (by go_size))); obtain ⟨p1, p2⟩ := blk hb1 (n := w.heap.size) (by go_size); have hz1 : w.heap.size < w1.heap.size := (by have := hb1.size; simp at this; omega); clear hb1) | (go_at_call 13; refine (known_any _).mono ?_; rintro e wk ⟨rfl, hbk⟩))
    go_ret
    exact ⟨rfl, thenBelow hB1 hbk⟩
  · have h1' : ¬ (200 : Int) < xs.length := by omega
    have hn : xs.length ≤ 1000 := by omega
    by_cases h2 : 200 < ys.length
    · have h2' : (200 : Int) < ys.length := by omega
      go_enter Tryd.func10, Tryd.ntmps10
      go_wp2_with (first | (go_at_call 12; refine (long_any _ _ _ _ _).mono ?_; rintro e w1 ⟨rfl, hb1⟩; have hB1 : Below w.heap.size w w1 := (Below.trans (by go_grown) (hb1.mono (by go_size))); obtain ⟨p1, p2⟩ := blk hb1 (n := w.heap.size) (by go_size); have hz1 : w.heap.size < w1.heap.size := (by have := hb1.size; simp at this; omega); clear hb1) | (go_at_call 13; refine (known_any _).mono ?_; rintro e wk ⟨rfl, hbk⟩))
      go_ret
      exact ⟨rfl, thenBelow hB1 hbk⟩
    · have h2' : ¬ (200 : Int) < ys.length := by omega
      by_cases h3 : negE xs c = 0
      · have h3' : (negE xs c != 0) = false := by simpa using h3
        by_cases h4 : valE xs ys c = 0
        · have h4' : (valE xs ys c != 0) = false := by simpa using h4
          have E0 := hid0 h3
          have E1 := hid0 h4
          clear h3 h4 h1 h2
          go_enter Tryd.func10, Tryd.ntmps10
          go_wp2_with (first | (go_at_call 12; refine (long_any _ _ _ _ _).mono ?_; rintro e w1 ⟨rfl, hb1⟩; have hB1 : Below w.heap.size w w1 := (Below.trans (by go_grown) (hb1.mono (by go_size))); obtain ⟨p1, p2⟩ := blk hb1 (n := w.heap.size) (by go_size); have hz1 : w.heap.size < w1.heap.size := (by have := hb1.size; simp at this; omega); clear hb1) | (go_at_call 36; refine (Negate_any c (G0.out.below hB1) hn).mono ?_; rintro e w2 ⟨v', rfl, hI2, hb2⟩; obtain ⟨a', k', rfl⟩ := hI2.shape; have hB2 : Below w.heap.size w w2 := thenBelow hB1 hb2; obtain ⟨p21, p22⟩ := blk hb2 (n := w.heap.size) hz1; have hz2 : w.heap.size < w2.heap.size := (by have := hb2.size; omega); have HI2 := hid0 hI2; clear hI2 hb2) | (go_at_call 37; refine (rNegate_any c (G0.out.below (thenBelow hB2 (allocBelow _ _))) hn).mono ?_; rintro e w3 ⟨v'', rfl, hI3, hb3⟩; obtain ⟨a'', k'', rfl⟩ := hI3.shape; have hB3 : Below w.heap.size w w3 := thenBelow (thenBelow hB2 (allocBelow _ _)) hb3; have hC3 : Below w2.heap.size w2 w3 := thenBelow (allocBelow _ _) hb3; obtain ⟨p31, p32⟩ := blk hb3 (n := w.heap.size) (by go_size); obtain ⟨p33, p34⟩ := blk hb3 (n := w2.heap.size) (by go_size); have hy3 : w2.heap.size < w3.heap.size := (by have := hb3.size; simp at this; omega); have hz3 : w.heap.size < w3.heap.size := (by omega); have HI3 := hid0 hI3; clear hI3 hb3) | (go_at_call 16; refine (SameRow_self (negC xs c) (HI2.out.below (thenBelow hC3 (allocBelow _ _))) (HI3.out.below (allocBelow _ _))).mono ?_; rintro e w4 ⟨rfl, hb4⟩; have hB4 : Below w.heap.size w w4 := thenBelow (thenBelow hB3 (allocBelow _ _)) hb4; have hC4 : Below w2.heap.size w2 w4 := thenBelow (thenBelow hC3 (allocBelow _ _)) hb4; obtain ⟨p41, p42⟩ := blk hb4 (n := w.heap.size) (by go_size); obtain ⟨p43, p44⟩ := blk hb4 (n := w2.heap.size) (by go_size); have hz4 : w3.heap.size < w4.heap.size := (by have := hb4.size; simp at this; omega); have hz4' : w.heap.size < w4.heap.size := (by omega); have hz4'' : w2.heap.size < w4.heap.size := (by omega); clear hb4) | (go_at_call 21; refine (Value_neg E0.out E1.out (HI2.out.below hC5) (G1.out.below hB5)).mono ?_; rintro e w6 ⟨rfl, hb6⟩; have hB6 : Below w.heap.size w w6 := thenBelow hB5 hb6; clear hb6) | (go_at_call 21; refine (Value_any c (G0.out.below hB4) (G1.out.below hB4)).mono ?_; rintro e w5 ⟨rfl, hb5⟩; have hB5 : Below w.heap.size w w5 := thenBelow hB4 hb5; have hC5 : Below w2.heap.size w2 w5 := thenBelow hC4 hb5; obtain ⟨p51, p52⟩ := blk hb5 (n := w.heap.size) hz4'; obtain ⟨p53, p54⟩ := blk hb5 (n := w2.heap.size) hz4''; clear hb5) | (go_at_call 13; refine (known_any _).mono ?_; rintro e wk ⟨rfl, hbk⟩))
          go_ret
          refine ⟨ret_bool ?_, ?_⟩
          · by_cases e : 0 ≤ valN xs ys c
            · simp [e]; omega
            · simp [e]; omega
          · exact thenBelow hB6 hbk
        · have h4' : (valE xs ys c != 0) = true := by simpa using h4
          clear h3 h4 h1 h2
          go_enter Tryd.func10, Tryd.ntmps10
          go_wp2_with (first | (go_at_call 12; refine (long_any _ _ _ _ _).mono ?_; rintro e w1 ⟨rfl, hb1⟩; have hB1 : Below w.heap.size w w1 := (Below.trans (by go_grown) (hb1.mono (by go_size))); obtain ⟨p1, p2⟩ := blk hb1 (n := w.heap.size) (by go_size); have hz1 : w.heap.size < w1.heap.size := (by have := hb1.size; simp at this; omega); clear hb1) | (go_at_call 36; refine (Negate_any c (G0.out.below hB1) hn).mono ?_; rintro e w2 ⟨v', rfl, hI2, hb2⟩; obtain ⟨a', k', rfl⟩ := hI2.shape; have hB2 : Below w.heap.size w w2 := thenBelow hB1 hb2; obtain ⟨p21, p22⟩ := blk hb2 (n := w.heap.size) hz1; have hz2 : w.heap.size < w2.heap.size := (by have := hb2.size; omega); have HI2 := hid0 hI2; clear hI2 hb2) | (go_at_call 37; refine (rNegate_any c (G0.out.below (thenBelow hB2 (allocBelow _ _))) hn).mono ?_; rintro e w3 ⟨v'', rfl, hI3, hb3⟩; obtain ⟨a'', k'', rfl⟩ := hI3.shape; have hB3 : Below w.heap.size w w3 := thenBelow (thenBelow hB2 (allocBelow _ _)) hb3; have hC3 : Below w2.heap.size w2 w3 := thenBelow (allocBelow _ _) hb3; obtain ⟨p31, p32⟩ := blk hb3 (n := w.heap.size) (by go_size); obtain ⟨p33, p34⟩ := blk hb3 (n := w2.heap.size) (by go_size); have hy3 : w2.heap.size < w3.heap.size := (by have := hb3.size; simp at this; omega); have hz3 : w.heap.size < w3.heap.size := (by omega); have HI3 := hid0 hI3; clear hI3 hb3) | (go_at_call 16; refine (SameRow_self (negC xs c) (HI2.out.below (thenBelow hC3 (allocBelow _ _))) (HI3.out.below (allocBelow _ _))).mono ?_; rintro e w4 ⟨rfl, hb4⟩; have hB4 : Below w.heap.size w w4 := thenBelow (thenBelow hB3 (allocBelow _ _)) hb4; have hC4 : Below w2.heap.size w2 w4 := thenBelow (thenBelow hC3 (allocBelow _ _)) hb4; obtain ⟨p41, p42⟩ := blk hb4 (n := w.heap.size) (by go_size); obtain ⟨p43, p44⟩ := blk hb4 (n := w2.heap.size) (by go_size); have hz4 : w3.heap.size < w4.heap.size := (by have := hb4.size; simp at this; omega); have hz4' : w.heap.size < w4.heap.size := (by omega); have hz4'' : w2.heap.size < w4.heap.size := (by omega); clear hb4) | (go_at_call 21; refine (Value_any c (G0.out.below hB4) (G1.out.below hB4)).mono ?_; rintro e w5 ⟨rfl, hb5⟩; have hB5 : Below w.heap.size w w5 := thenBelow hB4 hb5; have hC5 : Below w2.heap.size w2 w5 := thenBelow hC4 hb5; obtain ⟨p51, p52⟩ := blk hb5 (n := w.heap.size) hz4'; obtain ⟨p53, p54⟩ := blk hb5 (n := w2.heap.size) hz4''; clear hb5) | (go_at_call 13; refine (known_any _).mono ?_; rintro e wk ⟨rfl, hbk⟩))
          go_ret
          exact ⟨rfl, thenBelow hB5 hbk⟩
      · have h3' : (negE xs c != 0) = true := by simpa using h3
        clear h3 h1 h2
        go_enter Tryd.func10, Tryd.ntmps10
        go_wp2_with (first | (go_at_call 12; refine (long_any _ _ _ _ _).mono ?_; rintro e w1 ⟨rfl, hb1⟩; have hB1 : Below w.heap.size w w1 := (Below.trans (by go_grown) (hb1.mono (by go_size))); obtain ⟨p1, p2⟩ := blk hb1 (n := w.heap.size) (by go_size); have hz1 : w.heap.size < w1.heap.size := (by have := hb1.size; simp at this; omega); clear hb1) | (go_at_call 36; refine (Negate_any c (G0.out.below hB1) hn).mono ?_; rintro e w2 ⟨v', rfl, hI2, hb2⟩; obtain ⟨a', k', rfl⟩ := hI2.shape; have hB2 : Below w.heap.size w w2 := thenBelow hB1 hb2; obtain ⟨p21, p22⟩ := blk hb2 (n := w.heap.size) hz1; have hz2 : w.heap.size < w2.heap.size := (by have := hb2.size; omega); have HI2 := hid0 hI2; clear hI2 hb2) | (go_at_call 37; refine (rNegate_any c (G0.out.below (thenBelow hB2 (allocBelow _ _))) hn).mono ?_; rintro e w3 ⟨v'', rfl, hI3, hb3⟩; obtain ⟨a'', k'', rfl⟩ := hI3.shape; have hB3 : Below w.heap.size w w3 := thenBelow (thenBelow hB2 (allocBelow _ _)) hb3; have hC3 : Below w2.heap.size w2 w3 := thenBelow (allocBelow _ _) hb3; obtain ⟨p31, p32⟩ := blk hb3 (n := w.heap.size) (by go_size); obtain ⟨p33, p34⟩ := blk hb3 (n := w2.heap.size) (by go_size); have hy3 : w2.heap.size < w3.heap.size := (by have := hb3.size; simp at this; omega); have hz3 : w.heap.size < w3.heap.size := (by omega); have HI3 := hid0 hI3; clear hI3 hb3) | (go_at_call 16; refine (SameRow_self (negC xs c) (HI2.out.below (thenBelow hC3 (allocBelow _ _))) (HI3.out.below (allocBelow _ _))).mono ?_; rintro e w4 ⟨rfl, hb4⟩; have hB4 : Below w.heap.size w w4 := thenBelow (thenBelow hB3 (allocBelow _ _)) hb4; have hC4 : Below w2.heap.size w2 w4 := thenBelow (thenBelow hC3 (allocBelow _ _)) hb4; obtain ⟨p41, p42⟩ := blk hb4 (n := w.heap.size) (by go_size); obtain ⟨p43, p44⟩ := blk hb4 (n := w2.heap.size) (by go_size); have hz4 : w3.heap.size < w4.heap.size := (by have := hb4.size; simp at this; omega); have hz4' : w.heap.size < w4.heap.size := (by omega); have hz4'' : w2.heap.size < w4.heap.size := (by omega); clear hb4) | (go_at_call 21; refine (Value_any c (G0.out.below hB4) (G1.out.below hB4)).mono ?_; rintro e w5 ⟨rfl, hb5⟩; have hB5 : Below w.heap.size w w5 := thenBelow hB4 hb5; have hC5 : Below w2.heap.size w2 w5 := thenBelow hC4 hb5; obtain ⟨p51, p52⟩ := blk hb5 (n := w.heap.size) hz4'; obtain ⟨p53, p54⟩ := blk hb5 (n := w2.heap.size) hz4''; clear hb5) | (go_at_call 13; refine (known_any _).mono ?_; rintro e wk ⟨rfl, hbk⟩))
        go_ret
        exact ⟨rfl, thenBelow hB5 hbk⟩
end Go.Proofs.YtbppooajhoejcaaDoor
