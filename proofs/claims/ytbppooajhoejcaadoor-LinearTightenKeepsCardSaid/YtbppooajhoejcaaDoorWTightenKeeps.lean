/-
  THE WALK OF LinearTightenKeeps: a point satisfies a row exactly if it satisfies the tightened row.
-/
import Derived.Test.YtbppooajhoejcaaDoorKnown
namespace Go.Proofs.YtbppooajhoejcaaDoor
open Go.RowKit Go.Deep

theorem gcdL_dvd : ∀ (xs : List Int) (g : Nat), (gcdL xs g ∣ g) ∧ ∀ x ∈ xs, ((gcdL xs g : Nat) : Int) ∣ x
  | [], g => ⟨Nat.dvd_refl _, fun _ h => by cases h⟩
  | x :: xs, g => by
    obtain ⟨h1, h2⟩ := gcdL_dvd xs (Int.gcd g x)
    have hg : Int.gcd g x ∣ g := by have := Nat.gcd_dvd_left g x.natAbs; simpa [Int.gcd] using this
    have hx : ((Int.gcd g x : Nat) : Int) ∣ x := Int.gcd_dvd_right ..
    refine ⟨Nat.dvd_trans h1 hg, fun y hy => ?_⟩
    rcases List.mem_cons.1 hy with rfl | hy
    · exact Int.dvd_trans (Int.natCast_dvd_natCast.2 h1) hx
    · exact h2 y hy
theorem dot_div (g : Int) (hg : g ≠ 0) : ∀ (xs ys : List Int), (∀ x ∈ xs, g ∣ x) → dot xs ys = g * dot (xs.map fun x => x.tdiv g) ys
  | [], ys, _ => by simp [dot]
  | x :: xs, [], _ => by simp [dot]
  | x :: xs, y :: ys, h => by
    have ih := dot_div g hg xs ys fun z hz => h z (List.mem_cons_of_mem _ hz)
    obtain ⟨k, rfl⟩ := h x (List.mem_cons_self ..)
    simp only [List.map_cons, dot, Int.mul_tdiv_cancel_left _ hg]
    rw [Int.mul_add, ← ih, Int.mul_assoc]
/-- A tightened row is small again. -/
theorem tight_small {xs : List Int} {c : Int} (h : smR (xs, c) = true) : smR (tX xs c, tC xs c) = true := by
  unfold tX tC
  split
  · rename_i hh
    obtain ⟨h1, h2⟩ := smR_true.1 h
    have hg : (1 : Int) ≤ gcdL xs 0 := by have := hh.2; omega
    rw [smR_true]
    constructor
    · rw [List.all_eq_true]
      intro y hy
      obtain ⟨x, hx, rfl⟩ := List.mem_map.1 hy
      rw [smB_true]
      exact tdiv_small (List.all_eq_true.1 h1 x hx)
    · rw [smB_true] at h2 ⊢
      obtain ⟨a, b⟩ := h2
      generalize ((gcdL xs 0 : Nat) : Int) = g at hg
      constructor
      · exact (Int.le_ediv_iff_mul_le (a := -68719476736) (b := c) (by omega : 0 < g)).2 (by omega)
      · by_cases hc : 0 ≤ c
        · exact Int.le_trans (Int.ediv_le_self _ hc) b
        · have h3 : c / g ≤ 0 := by
            have := Int.ediv_le_ediv (by omega : 0 < g) (by omega : c ≤ 0)
            simpa using this
          omega
  · exact h
theorem tight_value {xs ys : List Int} {c : Int} : 0 ≤ c + dot xs ys ↔ 0 ≤ tC xs c + dot (tX xs c) ys := by
  unfold tX tC
  split
  · rename_i hh
    have hg0 : ((gcdL xs 0 : Nat) : Int) ≠ 0 := by have := hh.2; omega
    have hg : (0 : Int) < gcdL xs 0 := by omega
    have hd := dot_div _ hg0 xs ys (gcdL_dvd xs 0).2
    rw [hd]
    generalize dot (xs.map fun x => x.tdiv ((gcdL xs 0 : Nat) : Int)) ys = d
    generalize ((gcdL xs 0 : Nat) : Int) = g at *
    have h1 := Int.le_ediv_iff_mul_le (a := -d) (b := c) hg
    have h2 : -d * g = -(g * d) := by rw [Int.neg_mul, Int.mul_comm]
    rw [h2] at h1
    omega
  · exact Iff.rfl

set_option maxHeartbeats 1600000 in
theorem walk_TightenKeeps {u v : Value} {xs ys : List Int} {c : Int} (w : World) (H0 : IsInts 0 w u xs) (_b0 : I64 c) (H1 : IsInts 0 w v ys) :
    Calls Tryd.prog 8 #[.agg #[u, .int .i64 c], v] w fun e w' => e = .returned (.bool true) ∧ Below w.heap.size w w' := by
  obtain ⟨a, cap, rfl⟩ := H0.shape
  obtain ⟨a', cap', rfl⟩ := H1.shape
  have G0 := hid0 H0
  have G1 := hid0 H1
  clear H0 H1
  by_cases h1 : 200 < xs.length
  · have h1' : (200 : Int) < xs.length := by omega
    go_enter Tryd.func8, Tryd.ntmps8
    go_wp2_with (first | (go_at_call 12; refine (long_any _ _ _ _ _).mono ?_; rintro e w1 ⟨rfl, hb1⟩; have hB1 : Below w.heap.size w w1 := (thenBelow (allocBelow _ _) hb1); obtain ⟨p1, p2⟩ := blk hb1 (n := w.heap.size) (by go_size); have hz1 : w.heap.size < w1.heap.size := (by have := hb1.size; simp at this; omega); clear hb1) | (go_at_call 13; refine (known_any _).mono ?_; rintro e wk ⟨rfl, hbk⟩))
    go_ret
    exact ⟨rfl, thenBelow hB1 hbk⟩
  · have h1' : ¬ (200 : Int) < xs.length := by omega
    by_cases h2 : 200 < ys.length
    · have h2' : (200 : Int) < ys.length := by omega
      go_enter Tryd.func8, Tryd.ntmps8
      go_wp2_with (first | (go_at_call 12; refine (long_any _ _ _ _ _).mono ?_; rintro e w1 ⟨rfl, hb1⟩; have hB1 : Below w.heap.size w w1 := (thenBelow (allocBelow _ _) hb1); obtain ⟨p1, p2⟩ := blk hb1 (n := w.heap.size) (by go_size); have hz1 : w.heap.size < w1.heap.size := (by have := hb1.size; simp at this; omega); clear hb1) | (go_at_call 13; refine (known_any _).mono ?_; rintro e wk ⟨rfl, hbk⟩))
      go_ret
      exact ⟨rfl, thenBelow hB1 hbk⟩
    · have h2' : ¬ (200 : Int) < ys.length := by omega
      by_cases h3 : valE xs ys c = 0
      · have h3' : (valE xs ys c != 0) = false := by simpa using h3
        have hE : xs.length = ys.length ∧ xs.length ≤ 96 ∧ ys.all coB = true ∧ smR (xs, c) = true := by
          unfold valE at h3
          split at h3
          · omega
          · rename_i hn
            split at h3
            · omega
            · rename_i hs
              exact ⟨Decidable.byContradiction fun e => hn (.inl e), by omega, by simpa using fun e => hn (.inr (.inr e)), by simpa using hs⟩
        have hT : smR (tX xs c, tC xs c) = true := tight_small hE.2.2.2
        have e4 : valE (tX xs c) ys (tC xs c) = 0 := by
          unfold valE
          rw [if_neg (by rw [tX_length]; simp [hE.1, hE.2.2.1]; omega), if_neg (by simp [hT])]
        have h4' : (valE (tX xs c) ys (tC xs c) == 0) = true := by simp [e4]
        have V1 : valN xs ys c = c + dot xs ys := by simp [valN, h3]
        have V2 : valN (tX xs c) ys (tC xs c) = tC xs c + dot (tX xs c) ys := by simp [valN, e4]
        have h5 : (decide (0 ≤ valN xs ys c) == decide (0 ≤ valN (tX xs c) ys (tC xs c))) = true := by
          rw [V1, V2, beq_iff_eq, decide_eq_decide]; exact tight_value
        have hn : xs.length ≤ 1000 := by omega
        have HN := hid0 hn
        clear h3 hE hT e4 V1 V2 hn
        go_enter Tryd.func8, Tryd.ntmps8
        go_wp2_with (first | (go_at_call 12; refine (long_any _ _ _ _ _).mono ?_; rintro e w1 ⟨rfl, hb1⟩; have hB1 : Below w.heap.size w w1 := (thenBelow (allocBelow _ _) hb1); obtain ⟨p1, p2⟩ := blk hb1 (n := w.heap.size) (by go_size); have hz1 : w.heap.size < w1.heap.size := (by have := hb1.size; simp at this; omega); clear hb1) | (go_at_call 21; (with_reducible refine (Value_any c (G0.out.below hB1) (G1.out.below hB1)).mono ?_); rintro e w2 ⟨rfl, hb2⟩; have hB2 : Below w.heap.size w w2 := (thenBelow hB1 hb2); obtain ⟨q1, q2⟩ := blk hb2 (n := w.heap.size) hz1; have hz2 : w.heap.size < w2.heap.size := (by have := hb2.size; omega); clear hb2) | (go_at_call 31; refine (Tighten_every c (G0.out.below hB2) HN.out).mono ?_; rintro e w3 ⟨g, rfl, hO, hb3⟩; have HO : Hid (IsInts w2.heap.size w3 (.slice (some ⟨g, 0, none⟩) xs.length xs.length) (tX xs c)) := (by have hh := hO.ints; rw [tX_length] at hh; exact hh); have hB3 : Below w.heap.size w w3 := (thenBelow hB2 hb3); clear hO hb3) | (go_at_call 13; refine (known_any _).mono ?_; rintro e wk ⟨rfl, hbk⟩))
        refine (Value_any (tC xs c) HO.out (G1.out.below hB3)).mono ?_
        rintro e w4 ⟨rfl, hb4⟩
        have hB4 : Below w.heap.size w w4 := thenBelow hB3 hb4
        go_wp2_with (go_at_call 13; refine (known_any _).mono ?_; rintro e wk ⟨rfl, hbk⟩)
        go_ret
        exact ⟨rfl, thenBelow hB4 hbk⟩
      · have h3' : (valE xs ys c != 0) = true := by simpa using h3
        clear h3
        go_enter Tryd.func8, Tryd.ntmps8
        go_wp2_with (first | (go_at_call 12; refine (long_any _ _ _ _ _).mono ?_; rintro e w1 ⟨rfl, hb1⟩; have hB1 : Below w.heap.size w w1 := (thenBelow (allocBelow _ _) hb1); obtain ⟨p1, p2⟩ := blk hb1 (n := w.heap.size) (by go_size); have hz1 : w.heap.size < w1.heap.size := (by have := hb1.size; simp at this; omega); clear hb1) | (go_at_call 21; (with_reducible refine (Value_any c (G0.out.below hB1) (G1.out.below hB1)).mono ?_); rintro e w2 ⟨rfl, hb2⟩; have hB2 : Below w.heap.size w w2 := (thenBelow hB1 hb2); obtain ⟨q1, q2⟩ := blk hb2 (n := w.heap.size) hz1; have hz2 : w.heap.size < w2.heap.size := (by have := hb2.size; omega); clear hb2) | (go_at_call 13; refine (known_any _).mono ?_; rintro e wk ⟨rfl, hbk⟩))
        go_ret
        exact ⟨rfl, thenBelow hB2 hbk⟩
end Go.Proofs.YtbppooajhoejcaaDoor
