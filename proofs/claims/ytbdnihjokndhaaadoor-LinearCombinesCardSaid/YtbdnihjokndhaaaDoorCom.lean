/-
  Combine OF THE PROGRAM.
-/
import Derived.Test.YtbdnihjokndhaaaDoorNeg
import Derived.Test.YtbdnihjokndhaaaDoorHold
import Derived.BigRegion
namespace Go.Proofs.YtbdnihjokndhaaaDoor
open Go.RowKit Go.Deep

def facB (k : Int) : Bool := decide (0 ≤ k) && decide (k ≤ 65536)
theorem facB_true {k : Int} : facB k = true ↔ 0 ≤ k ∧ k ≤ 65536 := by simp [facB]
def sumL (ka kb : Int) (xs ys : List Int) : List Int := List.zipWith (fun x y => ka * x + kb * y) xs ys
/-- The errno of Combine. -/
def comE (xs : List Int) (c ka : Int) (ys : List Int) (d kb : Int) : Int :=
  if xs.length ≠ ys.length ∨ 96 < xs.length ∨ facB ka = false ∨ facB kb = false then 1 else if smR (xs, c) = false ∨ smR (ys, d) = false then 4 else if smR (sumL ka kb xs ys, ka * c + kb * d) = true then 0 else 4
def comX (xs : List Int) (c ka : Int) (ys : List Int) (d kb : Int) : List Int := if comE xs c ka ys d kb = 0 then sumL ka kb xs ys else []
def comC (xs : List Int) (c ka : Int) (ys : List Int) (d kb : Int) : Int := if comE xs c ka ys d kb = 0 then ka * c + kb * d else 0
theorem mul_fac {k x : Int} (hk : facB k = true) (hx : smB x = true) : -4503599627370496 ≤ k * x ∧ k * x ≤ 4503599627370496 := by
  rw [facB_true] at hk
  rw [smB_true] at hx
  have h1 : k * x ≤ k * 68719476736 := Int.mul_le_mul_of_nonneg_left hx.2 hk.1
  have h2 : k * -68719476736 ≤ k * x := Int.mul_le_mul_of_nonneg_left hx.1 hk.1
  constructor <;> omega

theorem isFactor_any (n : Int) (w : World) :
    Calls Tryd.prog 47 #[.int .i64 n] w fun e w' => e = .returned (.bool (facB n)) ∧ w = w' := by
  have hf : facB n = (decide (0 ≤ n) && decide (n ≤ 65536)) := rfl
  have HF := hid0 hf
  clear hf
  go_enter Tryd.func47, Tryd.ntmps47
  go_wp2_with fail
  all_goals go_ret
  all_goals exact ⟨ret_bool (by rw [HF.out]; simp; omega), rfl⟩

set_option maxHeartbeats 800000 in
theorem Combine_err {lo lo' : Nat} {w : World} {v v' : Value} {xs ys : List Int} (c ka d kb : Int) (h : IsInts lo w v xs) (h' : IsInts lo' w v' ys) (he : xs.length ≠ ys.length ∨ 96 < xs.length ∨ facB ka = false ∨ facB kb = false) :
    Calls Tryd.prog 19 #[.agg #[v, .int .i64 c], .int .i64 ka, .agg #[v', .int .i64 d], .int .i64 kb] w fun e w' => e = .returned (.tuple #[.agg #[.slice none 0 0, .int .i64 0], .int .i64 1]) ∧ Below w.heap.size w w' := by
  obtain ⟨a, cap, rfl, _, hm, _⟩ := h
  obtain ⟨a', cap', rfl, _, hm', _⟩ := h'
  unfold maxLen at hm hm'
  by_cases h1 : xs.length = ys.length
  · by_cases h2 : 96 < xs.length
    · have h2' : (96 : Int) < xs.length := by omega
      go_enter Tryd.func19, Tryd.ntmps19
      go_wp2_with (go_at_call 47; refine (isFactor_any _ _).mono ?_; rintro e w1 ⟨rfl, rfl⟩)
      refine bodyPost_ret (v := .tuple #[.agg #[.slice none 0 0, .int .i64 0], .int .i64 1]) (by simp [results, Tryd.results19, go_sem]) rfl ⟨rfl, by go_grown⟩
    · have h2' : ¬ (96 : Int) < xs.length := by omega
      cases hk : facB ka with
      | false =>
        go_enter Tryd.func19, Tryd.ntmps19
        go_wp2_with (go_at_call 47; refine (isFactor_any _ _).mono ?_; rintro e w1 ⟨rfl, rfl⟩)
        refine bodyPost_ret (v := .tuple #[.agg #[.slice none 0 0, .int .i64 0], .int .i64 1]) (by simp [results, Tryd.results19, go_sem]) rfl ⟨rfl, by go_grown⟩
      | true =>
        have hl : facB kb = false := by
          rcases he with he | he | he | he
          · exact absurd h1 he
          · exact absurd he h2
          · rw [hk] at he; cases he
          · exact he
        go_enter Tryd.func19, Tryd.ntmps19
        go_wp2_with (go_at_call 47; refine (isFactor_any _ _).mono ?_; rintro e w1 ⟨rfl, rfl⟩)
        refine bodyPost_ret (v := .tuple #[.agg #[.slice none 0 0, .int .i64 0], .int .i64 1]) (by simp [results, Tryd.results19, go_sem]) rfl ⟨rfl, by go_grown⟩
  · have h1' : ¬ (xs.length : Int) = ys.length := by omega
    go_enter Tryd.func19, Tryd.ntmps19
    go_wp2_with (go_at_call 47; refine (isFactor_any _ _).mono ?_; rintro e w1 ⟨rfl, rfl⟩)
    refine bodyPost_ret (v := .tuple #[.agg #[.slice none 0 0, .int .i64 0], .int .i64 1]) (by simp [results, Tryd.results19, go_sem]) rfl ⟨rfl, by go_grown⟩

theorem new_frz (w : World) (cs : Array Value) (t : TypeId) (o : Nat) {n : Nat} (h : n = w.heap.size) : (w.alloc (.cells cs t)).frozen? ⟨n, o, none⟩ = false := by subst h; simp
theorem boxes3 {w w2 : World} {c1 c2 c3 : Array Value} {t1 t2 t3 : TypeId} (hb : Below (((w.alloc (.cells c1 t1)).alloc (.cells c2 t2)).alloc (.cells c3 t3)).heap.size (((w.alloc (.cells c1 t1)).alloc (.cells c2 t2)).alloc (.cells c3 t3)) w2) :
    (∀ i, w2.cell? ⟨w.heap.size, i, none⟩ = c1[i]?) ∧ (∀ i, w2.cell? ⟨w.heap.size + 1, i, none⟩ = c2[i]?) ∧ (∀ i, w2.cell? ⟨w.heap.size + 1 + 1, i, none⟩ = c3[i]?) ∧ (∀ i, w2.frozen? ⟨w.heap.size + 1 + 1, i, none⟩ = false) ∧ w.heap.size + 2 < w2.heap.size ∧ Below w.heap.size w w2 := by
  have hs := hb.size
  simp only [World.size_alloc] at hs
  have n2 : w.heap.size + 1 = (w.alloc (.cells c1 t1)).heap.size := by simp
  have n3 : w.heap.size + 1 + 1 = ((w.alloc (.cells c1 t1)).alloc (.cells c2 t2)).heap.size := by simp
  refine ⟨fun i => ?_, fun i => ?_, fun i => ?_, fun i => ?_, by omega, Below.trans (by go_grown) (hb.mono (by go_size))⟩
  · refine (hb.cell (p := ⟨w.heap.size, i, none⟩) (by simp only [World.size_alloc]; omega)).trans ?_
    refine ((allocBelow _ _).cell (p := ⟨w.heap.size, i, none⟩) (by simp only [World.size_alloc]; omega)).trans ?_
    exact ((allocBelow _ _).cell (p := ⟨w.heap.size, i, none⟩) (by simp only [World.size_alloc]; omega)).trans (new_cell _ _ _ i rfl)
  · refine (hb.cell (p := ⟨w.heap.size + 1, i, none⟩) (by simp only [World.size_alloc]; omega)).trans ?_
    exact ((allocBelow _ _).cell (p := ⟨w.heap.size + 1, i, none⟩) (by simp only [World.size_alloc]; omega)).trans (new_cell _ _ _ i n2)
  · exact (hb.cell (p := ⟨w.heap.size + 1 + 1, i, none⟩) (by simp only [World.size_alloc]; omega)).trans (new_cell _ _ _ i n3)
  · refine (hb.frozen (p := ⟨w.heap.size + 1 + 1, i, none⟩) (by simp only [World.size_alloc]; omega)).trans ?_
    exact new_frz _ _ _ i n3

set_option maxHeartbeats 1600000 in
theorem Combine_large {lo lo' : Nat} {w : World} {v v' : Value} {xs ys : List Int} (c ka d kb : Int) (h : IsInts lo w v xs) (h' : IsInts lo' w v' ys) (h1 : xs.length = ys.length) (h2 : ¬ 96 < xs.length) (hka : facB ka = true) (hkb : facB kb = true) (he : smR (xs, c) = false ∨ smR (ys, d) = false) :
    Calls Tryd.prog 19 #[.agg #[v, .int .i64 c], .int .i64 ka, .agg #[v', .int .i64 d], .int .i64 kb] w fun e w' => e = .returned (.tuple #[.agg #[.slice none 0 0, .int .i64 0], .int .i64 4]) ∧ Below w.heap.size w w' := by
  obtain ⟨a, cap, rfl⟩ := h.shape
  obtain ⟨a', cap', rfl⟩ := h'.shape
  obtain ⟨n, hn⟩ : ∃ n, n = xs.length := ⟨_, rfl⟩
  rw [← h1, ← hn] at h'
  rw [← hn] at h
  rw [← h1, ← hn]
  have G0 := hid0 h
  have G1 := hid0 h'
  have h2' : ¬ (96 : Int) < n := by omega
  clear h h' h1 h2 hn
  cases hs : smR (xs, c) with
  | false =>
    clear he
    go_enter Tryd.func19, Tryd.ntmps19
    go_wp2_with (first | (go_at_call 47; refine (isFactor_any _ _).mono ?_; rintro e w1 ⟨rfl, rfl⟩) | (go_at_call 42; refine (small_any c (G0.out.below (by go_grown))).mono ?_; rintro e w2 ⟨rfl, hb2⟩; obtain ⟨f1, f2, f3, f4, l2, hB2⟩ := boxes3 hb2; have y0 : w2.cell? ⟨w.heap.size, 0, none⟩ = some (.slice a n cap) := f1 0; have y1 : w2.cell? ⟨w.heap.size, 1, none⟩ = some (.int .i64 c) := f1 1; have y2 : w2.cell? ⟨w.heap.size + 1, 0, none⟩ = some (.slice a' n cap') := f2 0; have y3 : w2.cell? ⟨w.heap.size + 1, 1, none⟩ = some (.int .i64 d) := f2 1; have y4 : w2.cell? ⟨w.heap.size + 1 + 1, 0, none⟩ = some (.slice none 0 0) := f3 0; have y5 : w2.cell? ⟨w.heap.size + 1 + 1, 1, none⟩ = some (.int .i64 0) := f3 1; clear f1 f2 f3 hb2))
    refine bodyPost_ret (v := .tuple #[.agg #[.slice none 0 0, .int .i64 0], .int .i64 4]) (by simp [results, Tryd.results19, go_sem, y4, y5]) rfl ⟨rfl, (hB2.setCell (by simp; omega) _).setCell (by simp; omega) _⟩
  | true =>
    have hs' : smR (ys, d) = false := by
      rcases he with he | he
      · rw [hs] at he; cases he
      · exact he
    clear he
    go_enter Tryd.func19, Tryd.ntmps19
    go_wp2_with (first | (go_at_call 47; refine (isFactor_any _ _).mono ?_; rintro e w1 ⟨rfl, rfl⟩) | (go_at_call 42; refine (small_any d (G1.out.below hB2)).mono ?_; rintro e w3 ⟨rfl, hb3⟩; have hB3 : Below w.heap.size w w3 := thenBelow hB2 hb3; have z0 := keep1 y0 hb3; have z1 := keep1 y1 hb3; have z2 := keep1 y2 hb3; have z3 := keep1 y3 hb3; have z4 := keep1 y4 hb3; have z5 := keep1 y5 hb3; have z6 : (∀ o, w3.frozen? ⟨w.heap.size + 1 + 1, o, none⟩ = false) := fun o => (hb3.frozen (p := ⟨w.heap.size + 1 + 1, o, none⟩) (by show w.heap.size + 1 + 1 < _; omega)).trans (f4 o); have l3 : w.heap.size + 2 < w3.heap.size := (by have := hb3.size; omega)) | (go_at_call 42; refine (small_any c (G0.out.below (by go_grown))).mono ?_; rintro e w2 ⟨rfl, hb2⟩; obtain ⟨f1, f2, f3, f4, l2, hB2⟩ := boxes3 hb2; have y0 : w2.cell? ⟨w.heap.size, 0, none⟩ = some (.slice a n cap) := f1 0; have y1 : w2.cell? ⟨w.heap.size, 1, none⟩ = some (.int .i64 c) := f1 1; have y2 : w2.cell? ⟨w.heap.size + 1, 0, none⟩ = some (.slice a' n cap') := f2 0; have y3 : w2.cell? ⟨w.heap.size + 1, 1, none⟩ = some (.int .i64 d) := f2 1; have y4 : w2.cell? ⟨w.heap.size + 1 + 1, 0, none⟩ = some (.slice none 0 0) := f3 0; have y5 : w2.cell? ⟨w.heap.size + 1 + 1, 1, none⟩ = some (.int .i64 0) := f3 1; clear f1 f2 f3 hb2))
    refine bodyPost_ret (v := .tuple #[.agg #[.slice none 0 0, .int .i64 0], .int .i64 4]) (by simp [results, Tryd.results19, go_sem, z4, z5]) rfl ⟨rfl, (hB3.setCell (by simp; omega) _).setCell (by simp; omega) _⟩
end Go.Proofs.YtbdnihjokndhaaaDoor
