/-
  THE WALK OF LinearTightens: what Tighten returns for all rows, in new memory.
-/
import Derived.Test.YtbppooajhoejcaaDoorKnown
import Derived.Test.YtbppooajhoejcaaDoorRefTight
import Derived.Test.YtbppooajhoejcaaDoorHold
namespace Go.Proofs.YtbppooajhoejcaaDoor
open Go.RowKit Go.Deep

theorem hLT {lo : Nat} {w : World} {g : Nat} {xs : List Int} {c : Int} (h : IsInts lo w (.slice (some ⟨g, 0, none⟩) (tX xs c).length (tX xs c).length) (tX xs c)) : IsInts lo w (.slice (some ⟨g, 0, none⟩) xs.length xs.length) (tX xs c) := by
  rw [tX_length] at h; exact h

set_option maxHeartbeats 3200000 in
theorem walk_Tightens {u : Value} {xs : List Int} {c : Int} (w : World) (H0 : IsInts 0 w u xs) (_b0 : I64 c) :
    Calls Tryd.prog 7 #[.agg #[u, .int .i64 c]] w fun e w' => e = .returned (.bool true) ∧ Below w.heap.size w w' := by
  obtain ⟨a, cap, rfl⟩ := H0.shape
  have G0 := hid0 H0
  clear H0
  by_cases h1 : 200 < xs.length
  · have h1' : (200 : Int) < xs.length := by omega
    go_enter Tryd.func7, Tryd.ntmps7
    go_wp2_with (first | (go_at_call 12; refine (long_any _ _ _ _ _).mono ?_; rintro e w1 ⟨rfl, hb1⟩; have hB1 : Below w.heap.size w w1 := (Below.trans (by go_grown) (hb1.mono (by go_size))); obtain ⟨p1, p2⟩ := blk hb1 (n := w.heap.size) (by go_size); have hz1 : w.heap.size < w1.heap.size := (by have := hb1.size; simp at this; omega); clear hb1) | (go_at_call 13; refine (known_any _).mono ?_; rintro e wk ⟨rfl, hbk⟩))
    go_ret
    exact ⟨rfl, thenBelow hB1 hbk⟩
  · have h1' : ¬ (200 : Int) < xs.length := by omega
    have HN : Hid (xs.length ≤ 1000) := by show _ ≤ _; omega
    go_enter Tryd.func7, Tryd.ntmps7
    go_wp2_with (first | (go_at_call 12; refine (long_any _ _ _ _ _).mono ?_; rintro e w1 ⟨rfl, hb1⟩; have hB1 : Below w.heap.size w w1 := (Below.trans (by go_grown) (hb1.mono (by go_size))); obtain ⟨p1, p2⟩ := blk hb1 (n := w.heap.size) (by go_size); have hz1 : w.heap.size < w1.heap.size := (by have := hb1.size; simp at this; omega); clear hb1) | (go_at_call 30; refine (CopyRow_any c (G0.out.below hB1) HN.out).mono ?_; rintro e w2 ⟨vo, rfl, hO, hb2⟩; have HO := hid0 hO; have HB12 := hid0 hb2; have hB2 : Below w.heap.size w w2 := (thenBelow hB1 hb2); obtain ⟨p3, p4⟩ := blk hb2 (n := w.heap.size) hz1; have hz2 : w.heap.size < w2.heap.size := (by have := hb2.size; omega); obtain ⟨ao, co, rfl⟩ := hO.shape; clear hO hb2))
    refine (Tighten_every c (HO.out.ints.below (by go_grown)) HN.out).mono ?_
    rintro e w3 ⟨g, rfl, hT, hb3⟩
    have HT := hid0 hT
    have HB23 : Hid (Below w2.heap.size w2 w3) := Below.trans (by go_grown) (hb3.mono (by go_size))
    have hB3 : Below w.heap.size w w3 := thenBelow hB2 HB23.out
    have hsz3 : w2.heap.size + 1 ≤ w3.heap.size := by have := hb3.size; simpa using this
    have hz3 : w.heap.size < w3.heap.size := by omega
    have hz3' : w2.heap.size < w3.heap.size := by omega
    go_wp2_with fail
    obtain ⟨W, hW⟩ : ∃ W, W = w3.alloc (.cells #[.slice (some ⟨g, 0, none⟩) xs.length xs.length, .int .i64 (tC xs c)] 24) := ⟨_, rfl⟩
    rw [← hW]
    have HB3W : Hid (Below w3.heap.size w3 W) := by rw [hW]; exact allocBelow _ _
    have t0 : W.cell? ⟨w3.heap.size, 0, none⟩ = some (.slice (some ⟨g, 0, none⟩) xs.length xs.length) := by rw [hW]; simp
    have t1 : W.cell? ⟨w3.heap.size, 1, none⟩ = some (.int .i64 (tC xs c)) := by rw [hW]; simp
    have o0 : W.cell? ⟨w2.heap.size, 0, none⟩ = some (.slice ao xs.length co) := by
      rw [HB3W.out.cell (p := ⟨w2.heap.size, 0, none⟩) hz3', (blk hb3 (n := w2.heap.size) (by go_size)).1]; simp
    have o1 : W.cell? ⟨w2.heap.size, 1, none⟩ = some (.int .i64 c) := by
      rw [HB3W.out.cell (p := ⟨w2.heap.size, 1, none⟩) hz3', (blk hb3 (n := w2.heap.size) (by go_size)).1]; simp
    have r0 : W.cell? ⟨w.heap.size, 0, none⟩ = some (.slice a xs.length cap) := by
      rw [HB3W.out.cell (p := ⟨w.heap.size, 0, none⟩) hz3, HB23.out.cell (p := ⟨w.heap.size, 0, none⟩) hz2, p3, p1]; simp
    have r1 : W.cell? ⟨w.heap.size, 1, none⟩ = some (.int .i64 c) := by
      rw [HB3W.out.cell (p := ⟨w.heap.size, 1, none⟩) hz3, HB23.out.cell (p := ⟨w.heap.size, 1, none⟩) hz2, p3, p1]; simp
    have hBW : Below w.heap.size w W := thenBelow hB3 HB3W.out
    have HBW := hid0 hBW
    have HTW := hid0 (HT.out.below HB3W.out)
    have HOW := hid0 ((HO.out.below HB23.out).below HB3W.out)
    have ET : Hid (sameR (tX xs c, tC xs c) (tX xs c, tC xs c) = true) := by show _ = _; simp [sameR]
    have EO : Hid (sameR (xs, c) (xs, c) = true) := by show _ = _; simp [sameR]
    have EL : Hid ((tX xs c).length = xs.length) := tX_length xs c
    have hzW : w3.heap.size < W.heap.size := cell_lt t0
    clear hW p1 p2 p3 p4 hb3 hT hB1 hB2 hB3 hBW
    go_region_held3 (fun w' => w'.cell? ⟨w3.heap.size, 0, none⟩ = some (.slice (some ⟨g, 0, none⟩) xs.length xs.length) ∧ w'.cell? ⟨w3.heap.size, 1, none⟩ = some (.int .i64 (tC xs c)) ∧ w'.cell? ⟨w.heap.size, 0, none⟩ = some (.slice a xs.length cap) ∧ w'.cell? ⟨w.heap.size, 1, none⟩ = some (.int .i64 c) ∧ Below W.heap.size W w') (first | exact ⟨t0, t1, r0, r1, Below.refl _ _⟩ | exact keepF ⟨t0, t1, r0, r1, Below.refl _ _⟩ (drewBelow _) | exact keepF (by assumption) (by assumption)) (first | (go_at_call 32; refine (rTighten_any c (G0.out.below (thenBelow HBW.out (heldF (by assumption)))) HN.out).mono ?_; rintro e w4 ⟨vt, rfl, hV, hb4⟩; have HV := hid0 hV; obtain ⟨at', ct, hvt⟩ := hV.shape; rw [EL.out] at hvt; subst hvt) | (go_at_call 16; refine (SameRow_any (tC xs c) (tC xs c) (hLT (HTW.out.below (heldF (by assumption))).ints) HV.out.ints).mono ?_; rw [ET.out]; rintro e w5 ⟨rfl, hb5⟩))
    obtain ⟨s0, s1, s2, s3, hB5⟩ := (by assumption : _ ∧ _ ∧ _ ∧ _ ∧ Below W.heap.size W w5)
    have hlo : w2.heap.size + 1 ≤ w3.heap.size := hsz3
    have HT5 := hid0 (HTW.out.below hB5)
    have o0' := keep1 o0 hB5
    have o1' := keep1 o1 hB5
    clear t0 t1 r0 r1 o0 o1
    have HB2W : Hid (Below w2.heap.size w2 w5) := thenBelow (thenBelow HB23.out HB3W.out) hB5
    have HB05 : Hid (Below w.heap.size w w5) := thenBelow HBW.out hB5
    have hn5 : xs.length ≤ 9223372036854775807 := by omega
    go_wp2_with fail
    refine (spoil_row _ g xs.length xs.length w5 (tX xs c) EL.out hn5 HT5.out).mono ?_
    rintro e w6 ⟨rfl, hb6⟩
    simp only [World.size_alloc] at hb6
    have hsz5 : w2.heap.size < w5.heap.size := cell_lt o0'
    have a0 : w6.cell? ⟨w2.heap.size, 0, none⟩ = some (.slice ao xs.length co) := (hb6.cell (p := ⟨w2.heap.size, 0, none⟩) (by simp)).trans o0'
    have a1 : w6.cell? ⟨w2.heap.size, 1, none⟩ = some (.int .i64 c) := (hb6.cell (p := ⟨w2.heap.size, 1, none⟩) (by simp)).trans o1'
    have a2 : w6.cell? ⟨w.heap.size, 0, none⟩ = some (.slice a xs.length cap) := (hb6.cell (p := ⟨w.heap.size, 0, none⟩) (by simp; omega)).trans s2
    have a3 : w6.cell? ⟨w.heap.size, 1, none⟩ = some (.int .i64 c) := (hb6.cell (p := ⟨w.heap.size, 1, none⟩) (by simp; omega)).trans s3
    have HO6 := hid0 (HO.out.ints.below (HB2W.out.trans (hb6.mono (by omega))))
    have HB06 : Hid (Below w.heap.size w w6) := HB05.out.trans (hb6.mono (by omega))
    clear s0 s1 s2 s3 o0' o1' hb6 hB5
    go_wp2_with fail
    refine (SameRow_any c c HO6.out (G0.out.below HB06.out)).mono ?_
    rintro e w7 ⟨rfl, hb7⟩
    rw [EO.out]
    have hB7 := thenBelow HB06.out hb7
    go_wp2_with (go_at_call 13; refine (known_any _).mono ?_; rintro e wk ⟨rfl, hbk⟩)
    go_ret
    exact ⟨rfl, thenBelow hB7 hbk⟩
end Go.Proofs.YtbppooajhoejcaaDoor
