/-
  THE WALK OF LinearValidates: Validate is that of the reference, on a copy that stays as it was.
-/
import Derived.Test.YtbppooajhoejcaaDoorKnown
import Derived.Test.YtbppooajhoejcaaDoorCopySys
import Derived.Test.YtbppooajhoejcaaDoorHold
import Derived.Deep.RegionHeld3
namespace Go.Proofs.YtbppooajhoejcaaDoor
open Go.RowKit Go.Deep

set_option maxHeartbeats 6400000 in
theorem walk_Validates {u : Value} {vars : Int} {rs : List Rw} (w : World) (H0 : IsRows 0 w u rs) (_b0 : I64 vars) :
    Calls Tryd.prog 6 #[.agg #[.int .i64 vars, u]] w fun e w' => e = .returned (.bool true) ∧ Below w.heap.size w w' := by
  obtain ⟨a, cap, rfl⟩ := H0.shape
  have G0 := hid0 H0
  clear H0
  cases hw : wideB rs with
  | true =>
    go_enter Tryd.func6, Tryd.ntmps6
    go_wp2_with (first | (go_at_call 22; refine (wide_any vars (G0.out.below (by go_grown))).mono ?_; rintro e w1 ⟨rfl, hb1⟩; have hB1 : Below w.heap.size w w1 := (Below.trans (by go_grown) (hb1.mono (by go_size))); clear hb1) | (go_at_call 13; refine (known_any _).mono ?_; rintro e wk ⟨rfl, hbk⟩))
    go_ret
    exact ⟨rfl, thenBelow hB1 hbk⟩
  | false =>
    go_enter Tryd.func6, Tryd.ntmps6
    go_wp2_with (first | (go_at_call 22; refine (wide_any vars (G0.out.below (by go_grown))).mono ?_; rintro e w1 ⟨rfl, hb1⟩; have hB1 : Below w.heap.size w w1 := (Below.trans (by go_grown) (hb1.mono (by go_size))); obtain ⟨p1, p2⟩ := blk hb1 (n := w.heap.size) (by go_size); have hz1 : w.heap.size < w1.heap.size := (by have := hb1.size; simp at this; omega); clear hb1) | (go_at_call 26; refine (CopySystem_any vars (G0.out.below hB1) hw).mono ?_; rintro e w2 ⟨u2, ps, rfl, hO2, hps, hb2⟩; obtain ⟨a2, c2, rfl⟩ := rows_shape hO2.1; have hB2 : Below w.heap.size w w2 := thenBelow hB1 hb2; obtain ⟨p21, p22⟩ := blk hb2 (n := w.heap.size) hz1; have hz2 : w.heap.size < w2.heap.size := (by have := hb2.size; omega); have HR2 := hid0 (hps ▸ hO2.rows : IsRows _ _ _ rs); clear hb2 hO2))
    have y0 : w2.cell? ⟨w.heap.size, 0, none⟩ = some (.int .i64 vars) := by rw [p21, p1]; simp
    have y1 : w2.cell? ⟨w.heap.size, 1, none⟩ = some (.slice a rs.length cap) := by rw [p21, p1]; simp
    obtain ⟨W, hW⟩ : ∃ W : World, W = w2.alloc (.cells #[.int .i64 vars, .slice a2 ps.length c2] 36) := ⟨_, rfl⟩
    rw [← hW]
    have hS := hid0 (show W.cell? ⟨w.heap.size, 0, none⟩ = some (.int .i64 vars) ∧ W.cell? ⟨w.heap.size, 1, none⟩ = some (.slice a rs.length cap) ∧ W.cell? ⟨w2.heap.size, 0, none⟩ = some (.int .i64 vars) ∧ W.cell? ⟨w2.heap.size, 1, none⟩ = some (.slice a2 ps.length c2) ∧ Below w2.heap.size w2 W from by
      rw [hW]
      exact ⟨keep1 y0 (allocBelow _ _), keep1 y1 (allocBelow _ _), new_cell _ _ _ 0 rfl, new_cell _ _ _ 1 rfl, allocBelow _ _⟩)
    have HB2 := hid0 hB2
    clear hW y0 y1 p1 p2 p21 p22 hB1 hB2
    go_region_held3 (fun w' => w'.cell? ⟨w.heap.size, 0, none⟩ = some (.int .i64 vars) ∧ w'.cell? ⟨w.heap.size, 1, none⟩ = some (.slice a rs.length cap) ∧ w'.cell? ⟨w2.heap.size, 0, none⟩ = some (.int .i64 vars) ∧ w'.cell? ⟨w2.heap.size, 1, none⟩ = some (.slice a2 ps.length c2) ∧ Below w2.heap.size w2 w') (first | exact hS.out | exact keepF hS.out (drewBelow _) | exact keepF (by assumption) (by assumption)) (first | (go_at_call 27; refine (Validate_any vars (HR2.out.below (heldF (by assumption)))).mono ?_; rintro e w3 ⟨rfl, hb3⟩) | (go_at_call 28; refine (rValidate_any vars (G0.out.below (thenBelow HB2.out (heldF (by assumption))))).mono ?_; rintro e w3 ⟨rfl, hb3⟩) | (go_at_call 29; refine (SameSystem_refl vars (HR2.out.below (heldF (by assumption))) (G0.out.below (thenBelow HB2.out (heldF (by assumption))))).mono ?_; rintro e w3 ⟨rfl, hb3⟩) | (go_at_call 13; refine (known_any _).mono ?_; rintro e w3 ⟨rfl, hb3⟩))
    all_goals
      have hE := heldF (by assumption : _ ∧ _ ∧ _ ∧ _ ∧ Below w2.heap.size w2 _)
      go_wp2_with fail
      go_ret
      exact ⟨rfl, thenBelow HB2.out hE⟩
end Go.Proofs.YtbppooajhoejcaaDoor
