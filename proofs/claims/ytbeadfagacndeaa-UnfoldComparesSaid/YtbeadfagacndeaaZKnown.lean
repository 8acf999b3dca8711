/-
  known OF THE LAWS OF unfold.
-/
import Derived.Test.YtbeadfagacndeaaShapes
import Derived.Test.YtbeadfagacndeaaRShp
namespace Go.Proofs.Ytbeadfagacndeaa
open Go.RowKit Go.Deep
set_option maxHeartbeats 800000 in
theorem Shapes_bad (n : Int) (h : n < 1 ∨ 8 < n) (w : World) :
    Calls Try.prog 9 #[.int .i64 n] w fun e w' => e = .returned (.tuple #[.slice none 0 0, .int .i64 1]) ∧ w = w' := by
  by_cases h1 : n < 1
  · go_enter Try.func9, Try.ntmps9
    go_wp2_with fail
    go_ret2
    exact ⟨rfl, rfl⟩
  · have h2 : 8 < n := by omega
    go_enter Try.func9, Try.ntmps9
    go_wp2_with fail
    go_ret2
    exact ⟨rfl, rfl⟩
theorem shL_five : shL 5 = [[2, 0, 2, 0, 0], [2, 2, 0, 0, 0]] := by decide +kernel
theorem nbr_known (w : World) : Calls Try.prog 8 #[.int .i64 3, .slice none 0 0, .int .i64 2, .int .i64 0] w fun e w' => e = .returned (.tuple #[.int .i64 1, .int .i64 1, .int .i64 (-1)]) ∧ Below w.heap.size w w' := by
  have h := Neighbors_any (lo := 0) (w := w) (v := .slice none 0 0) (xs := []) 3 2 0 ⟨none, 0, rfl, by simp, by simp [maxLen], by simp, .inl rfl⟩ (by simp) (by omega)
  have e : nbr 3 [] 2 0 = (1, 1, -1) := by decide
  rw [e] at h
  exact h
theorem shapes_known (w : World) : Calls Try.prog 9 #[.int .i64 5] w fun e w' => ∃ u, e = .returned (.tuple #[u, .int .i64 0]) ∧ IsSl 1 IntsEl w.heap.size w' u [[2, 0, 2, 0, 0], [2, 2, 0, 0, 0]] ∧ Below w.heap.size w w' := by
  have h := Shapes_ok 5 (by omega) (by omega) w
  rw [shL_five] at h
  exact h
theorem lit5 {w : World} {g : Nat} {t : TypeId} (h : w.heap[g]? = some (.cells #[.int .i64 2, .int .i64 0, .int .i64 2, .int .i64 0, .int .i64 0] t (0, 0))) : IsInts 0 w (.slice (some ⟨g, 0, none⟩) 5 5) [2, 0, 2, 0, 0] :=
  ints_of_block (xs := [2, 0, 2, 0, 0]) h (Nat.zero_le _) rfl (Nat.le_refl _) (by simp [maxLen]) (fun x hx => by have : x = 0 ∨ x = 2 := (by simp at hx; omega); constructor <;> omega)
    fun i hi => match i, hi with
      | 0, _ => rfl
      | 1, _ => rfl
      | 2, _ => rfl
      | 3, _ => rfl
      | 4, _ => rfl
set_option maxHeartbeats 1600000 in
theorem zknown_any (w : World) : Calls Try.prog 7 #[] w fun e w' => e = .returned (.bool true) ∧ Below w.heap.size w w' := by
  go_enter Try.func7, Try.ntmps7
  go_wp2_with (first | (go_at_call 8; refine (nbr_known _).mono ?_; rintro e w1 ⟨rfl, hb1⟩; have HB1 := Lib.hid hb1; clear hb1) | (go_at_call 9; refine (shapes_known _).mono ?_; rintro e w2 ⟨u, rfl, hu, hb2⟩; obtain ⟨au, cu, rfl⟩ := hu.shape; obtain ⟨b, off, cs, rfl, hlb, hbw, _, hcell, v0, rfl, hv0⟩ := hu.at 0 (by simp); obtain ⟨a0, c0, rfl⟩ := hv0.shape; have g0 := hcell 0 (by omega); have HB2 := Lib.hid (thenBelow HB1.out hb2); have HV := Lib.hid hv0; simp only [Nat.zero_mul, Nat.add_zero, List.getElem?_cons_zero] at g0; clear hcell hv0 hu hb2) | (go_at_call 11; refine (SameInts_any (HV.out.below (by go_grown)) (lit5 (heap_new _ _ (by go_size)))).mono ?_; rintro e w3 ⟨rfl, hb3⟩))
  go_ret
  exact ⟨rfl, thenBelow HB2.out (Below.trans (by go_grown) (hb3.mono (by go_size)))⟩
end Go.Proofs.Ytbeadfagacndeaa
