/-
  Combine OF THE REFERENCE, for all rows.
-/
import Derived.Test.YtbdnihjokndhaaaDoorRefCom2
namespace Go.Proofs.YtbdnihjokndhaaaDoor
open Go.RowKit Go.Deep

theorem within_fac (n : Int) (w : World) : Calls Tryd.prog 48 #[.int .i64 n, .int .i64 0, .int .i64 65536] w fun e w' => e = .returned (.bool (facB n)) ∧ w = w' := within_any _ _ _ _

set_option maxHeartbeats 800000 in
theorem rCombine_err {lo lo' : Nat} {w : World} {v v' : Value} {xs ys : List Int} (c ka d kb : Int) (h : IsInts lo w v xs) (h' : IsInts lo' w v' ys) (he : xs.length ≠ ys.length ∨ 96 < xs.length ∨ facB ka = false ∨ facB kb = false) :
    Calls Tryd.prog 20 #[.agg #[v, .int .i64 c], .int .i64 ka, .agg #[v', .int .i64 d], .int .i64 kb] w fun e w' => e = .returned (.tuple #[.agg #[.slice none 0 0, .int .i64 0], .int .i64 1]) ∧ Below w.heap.size w w' := by
  obtain ⟨a, cap, rfl, _, hm, _⟩ := h
  obtain ⟨a', cap', rfl, _, hm', _⟩ := h'
  unfold maxLen at hm hm'
  by_cases h1 : xs.length = ys.length
  · by_cases h2 : 96 < xs.length
    · have h2' : (96 : Int) < xs.length := by omega
      go_enter Tryd.func20, Tryd.ntmps20
      go_wp2_with (go_at_call 48; refine (within_fac _ _).mono ?_; rintro e w1 ⟨rfl, rfl⟩)
      refine bodyPost_ret (v := .tuple #[.agg #[.slice none 0 0, .int .i64 0], .int .i64 1]) (by simp [results, Tryd.results20, go_sem]) rfl ⟨rfl, by go_grown⟩
    · have h2' : ¬ (96 : Int) < xs.length := by omega
      cases hk : facB ka with
      | false =>
        go_enter Tryd.func20, Tryd.ntmps20
        go_wp2_with (go_at_call 48; refine (within_fac _ _).mono ?_; rintro e w1 ⟨rfl, rfl⟩)
        refine bodyPost_ret (v := .tuple #[.agg #[.slice none 0 0, .int .i64 0], .int .i64 1]) (by simp [results, Tryd.results20, go_sem]) rfl ⟨rfl, by go_grown⟩
      | true =>
        have hl : facB kb = false := by
          rcases he with he | he | he | he
          · exact absurd h1 he
          · exact absurd he h2
          · rw [hk] at he; cases he
          · exact he
        go_enter Tryd.func20, Tryd.ntmps20
        go_wp2_with (go_at_call 48; refine (within_fac _ _).mono ?_; rintro e w1 ⟨rfl, rfl⟩)
        refine bodyPost_ret (v := .tuple #[.agg #[.slice none 0 0, .int .i64 0], .int .i64 1]) (by simp [results, Tryd.results20, go_sem]) rfl ⟨rfl, by go_grown⟩
  · have h1' : ¬ (xs.length : Int) = ys.length := by omega
    go_enter Tryd.func20, Tryd.ntmps20
    go_wp2_with (go_at_call 48; refine (within_fac _ _).mono ?_; rintro e w1 ⟨rfl, rfl⟩)
    refine bodyPost_ret (v := .tuple #[.agg #[.slice none 0 0, .int .i64 0], .int .i64 1]) (by simp [results, Tryd.results20, go_sem]) rfl ⟨rfl, by go_grown⟩

set_option maxHeartbeats 1600000 in
theorem rCombine_large {lo lo' : Nat} {w : World} {v v' : Value} {xs ys : List Int} (c ka d kb : Int) (h : IsInts lo w v xs) (h' : IsInts lo' w v' ys) (h1 : xs.length = ys.length) (h2 : ¬ 96 < xs.length) (hka : facB ka = true) (hkb : facB kb = true) (he : smR (xs, c) = false ∨ smR (ys, d) = false) :
    Calls Tryd.prog 20 #[.agg #[v, .int .i64 c], .int .i64 ka, .agg #[v', .int .i64 d], .int .i64 kb] w fun e w' => e = .returned (.tuple #[.agg #[.slice none 0 0, .int .i64 0], .int .i64 4]) ∧ Below w.heap.size w w' := by
  obtain ⟨a, cap, rfl⟩ := h.shape
  obtain ⟨a', cap', rfl⟩ := h'.shape
  obtain ⟨n, hn⟩ : ∃ n, n = xs.length := ⟨_, rfl⟩
  rw [← h1, ← hn] at h'
  rw [← hn] at h
  rw [← h1, ← hn]
  have G0 := hid0 h
  have G1 := hid0 h'
  have h2' : ¬ (96 : Int) < n := by omega
  clear h h' h1 h2 hn
  cases hs : smR (xs, c) with
  | false =>
    clear he
    go_enter Tryd.func20, Tryd.ntmps20
    go_wp2_with (first | (go_at_call 48; refine (within_fac _ _).mono ?_; rintro e w1 ⟨rfl, rfl⟩) | (go_at_call 43; refine (rSmall_any c (G0.out.below (by go_grown))).mono ?_; rintro e w2 ⟨rfl, hb2⟩; obtain ⟨f1, f2, f3, f4, l2, hB2⟩ := boxes3 hb2; have y0 : w2.cell? ⟨w.heap.size, 0, none⟩ = some (.slice a n cap) := f1 0; have y1 : w2.cell? ⟨w.heap.size, 1, none⟩ = some (.int .i64 c) := f1 1; have y2 : w2.cell? ⟨w.heap.size + 1, 0, none⟩ = some (.slice a' n cap') := f2 0; have y3 : w2.cell? ⟨w.heap.size + 1, 1, none⟩ = some (.int .i64 d) := f2 1; have y4 : w2.cell? ⟨w.heap.size + 1 + 1, 0, none⟩ = some (.slice none 0 0) := f3 0; have y5 : w2.cell? ⟨w.heap.size + 1 + 1, 1, none⟩ = some (.int .i64 0) := f3 1; clear f1 f2 f3 hb2))
    refine bodyPost_ret (v := .tuple #[.agg #[.slice none 0 0, .int .i64 0], .int .i64 4]) (by simp [results, Tryd.results20, go_sem, y4, y5]) rfl ⟨rfl, (hB2.setCell (by simp; omega) _).setCell (by simp; omega) _⟩
  | true =>
    have hs' : smR (ys, d) = false := by
      rcases he with he | he
      · rw [hs] at he; cases he
      · exact he
    clear he
    go_enter Tryd.func20, Tryd.ntmps20
    go_wp2_with (first | (go_at_call 48; refine (within_fac _ _).mono ?_; rintro e w1 ⟨rfl, rfl⟩) | (go_at_call 43; refine (rSmall_any d (G1.out.below hB2)).mono ?_; rintro e w3 ⟨rfl, hb3⟩; have hB3 : Below w.heap.size w w3 := thenBelow hB2 hb3; have z0 := keep1 y0 hb3; have z1 := keep1 y1 hb3; have z2 := keep1 y2 hb3; have z3 := keep1 y3 hb3; have z4 := keep1 y4 hb3; have z5 := keep1 y5 hb3; have z6 : (∀ o, w3.frozen? ⟨w.heap.size + 1 + 1, o, none⟩ = false) := fun o => (hb3.frozen (p := ⟨w.heap.size + 1 + 1, o, none⟩) (by show w.heap.size + 1 + 1 < _; omega)).trans (f4 o); have l3 : w.heap.size + 2 < w3.heap.size := (by have := hb3.size; omega)) | (go_at_call 43; refine (rSmall_any c (G0.out.below (by go_grown))).mono ?_; rintro e w2 ⟨rfl, hb2⟩; obtain ⟨f1, f2, f3, f4, l2, hB2⟩ := boxes3 hb2; have y0 : w2.cell? ⟨w.heap.size, 0, none⟩ = some (.slice a n cap) := f1 0; have y1 : w2.cell? ⟨w.heap.size, 1, none⟩ = some (.int .i64 c) := f1 1; have y2 : w2.cell? ⟨w.heap.size + 1, 0, none⟩ = some (.slice a' n cap') := f2 0; have y3 : w2.cell? ⟨w.heap.size + 1, 1, none⟩ = some (.int .i64 d) := f2 1; have y4 : w2.cell? ⟨w.heap.size + 1 + 1, 0, none⟩ = some (.slice none 0 0) := f3 0; have y5 : w2.cell? ⟨w.heap.size + 1 + 1, 1, none⟩ = some (.int .i64 0) := f3 1; clear f1 f2 f3 hb2))
    refine bodyPost_ret (v := .tuple #[.agg #[.slice none 0 0, .int .i64 0], .int .i64 4]) (by simp [results, Tryd.results20, go_sem, z4, z5]) rfl ⟨rfl, (hB3.setCell (by simp; omega) _).setCell (by simp; omega) _⟩

set_option maxHeartbeats 3200000 in
theorem rCombine_ok {lo lo' : Nat} {w : World} {v v' : Value} {xs ys : List Int} (c ka d kb : Int) (h : IsInts lo w v xs) (h' : IsInts lo' w v' ys) (h1 : xs.length = ys.length) (h2 : ¬ 96 < xs.length) (hka : facB ka = true) (hkb : facB kb = true) (hs : smR (xs, c) = true) (hs' : smR (ys, d) = true) :
    Calls Tryd.prog 20 #[.agg #[v, .int .i64 c], .int .i64 ka, .agg #[v', .int .i64 d], .int .i64 kb] w fun e w' => ∃ u, e = .returned (.tuple #[.agg #[u, .int .i64 (comC xs c ka ys d kb)], .int .i64 (comE xs c ka ys d kb)]) ∧ IsInts w.heap.size w' u (comX xs c ka ys d kb) ∧ Below w.heap.size w w' := by
  have HE : Hid (comE xs c ka ys d kb = if smR (sumL ka kb xs ys, ka * c + kb * d) = true then 0 else 4) := by
    show _ = _
    unfold comE
    rw [if_neg (by rw [hka, hkb, h1]; simp; omega), if_neg (by rw [hs, hs']; simp)]
  have HL := hid0 (And.intro h1 (by omega : xs.length ≤ 96))
  have HK := hid0 (And.intro hka hkb)
  have HS := hid0 (And.intro hs hs')
  obtain ⟨a, cap, rfl⟩ := h.shape
  obtain ⟨a', cap', rfl⟩ := h'.shape
  obtain ⟨n, hn⟩ : ∃ n, n = xs.length := ⟨_, rfl⟩
  rw [← h1, ← hn] at h'
  rw [← hn] at h
  rw [← h1, ← hn]
  have G0 := hid0 h
  have G1 := hid0 h'
  have h2' : ¬ (96 : Int) < n := by omega
  clear h h' h1 h2 hn
  cases hsm : smR (sumL ka kb xs ys, ka * c + kb * d) with
  | true =>
    have E := hid0 (show comE xs c ka ys d kb = 0 by rw [HE.out, if_pos hsm])
    go_enter Tryd.func20, Tryd.ntmps20
    go_wp2_with (first | (go_at_call 43; refine (rSmall_any (ka * c + kb * d) (HO.out.ints.below (allocBelow _ _))).mono ?_; rintro e w5 ⟨rfl, hb5⟩; have hb45 := thenBelow (allocBelow _ _) hb5; have t4 := keep1 q4 hb45; have t5 := keep1 q5 hb45; have t6 : (∀ o, w5.frozen? ⟨w.heap.size + 1 + 1, o, none⟩ = false) := fun o => (hb45.frozen (p := ⟨w.heap.size + 1 + 1, o, none⟩) l4).trans (q6 o); have HB5 := hid0 (thenBelow HB4.out hb45); obtain ⟨n1, n2⟩ := blk hb5 (n := w4.heap.size) (by go_size)) | (go_at_call 49; refine (mix_any c ka d kb (G0.out.below hB3) (G1.out.below hB3) HL.out.1 HL.out.2 HK.out.1 HK.out.2 HS.out.1 HS.out.2).mono ?_; rintro e w4 ⟨u, rfl, hO, hb4⟩; obtain ⟨au, cu, rfl⟩ := hO.shape; have q4 := keep1 z4 hb4; have q5 := keep1 z5 hb4; have q6 : (∀ o, w4.frozen? ⟨w.heap.size + 1 + 1, o, none⟩ = false) := fun o => (hb4.frozen (p := ⟨w.heap.size + 1 + 1, o, none⟩) (by show w.heap.size + 1 + 1 < _; omega)).trans (z6 o); have l4 : w.heap.size + 1 + 1 < w4.heap.size := cell_lt q4; have HB4 := hid0 (thenBelow hB3 hb4); have HO := hid0 hO) | (go_at_call 48; refine (within_fac _ _).mono ?_; rintro e w1 ⟨rfl, rfl⟩) | (go_at_call 43; refine (rSmall_any d (G1.out.below hB2)).mono ?_; rintro e w3 ⟨rfl, hb3⟩; have hB3 : Below w.heap.size w w3 := thenBelow hB2 hb3; have z0 := keep1 y0 hb3; have z1 := keep1 y1 hb3; have z2 := keep1 y2 hb3; have z3 := keep1 y3 hb3; have z4 := keep1 y4 hb3; have z5 := keep1 y5 hb3; have z6 : (∀ o, w3.frozen? ⟨w.heap.size + 1 + 1, o, none⟩ = false) := fun o => (hb3.frozen (p := ⟨w.heap.size + 1 + 1, o, none⟩) (by show w.heap.size + 1 + 1 < _; omega)).trans (f4 o); have l3 : w.heap.size + 2 < w3.heap.size := (by have := hb3.size; omega)) | (go_at_call 43; refine (rSmall_any c (G0.out.below (by go_grown))).mono ?_; rintro e w2 ⟨rfl, hb2⟩; obtain ⟨f1, f2, f3, f4, l2, hB2⟩ := boxes3 hb2; have y0 : w2.cell? ⟨w.heap.size, 0, none⟩ = some (.slice a n cap) := f1 0; have y1 : w2.cell? ⟨w.heap.size, 1, none⟩ = some (.int .i64 c) := f1 1; have y2 : w2.cell? ⟨w.heap.size + 1, 0, none⟩ = some (.slice a' n cap') := f2 0; have y3 : w2.cell? ⟨w.heap.size + 1, 1, none⟩ = some (.int .i64 d) := f2 1; have y4 : w2.cell? ⟨w.heap.size + 1 + 1, 0, none⟩ = some (.slice none 0 0) := f3 0; have y5 : w2.cell? ⟨w.heap.size + 1 + 1, 1, none⟩ = some (.int .i64 0) := f3 1; clear f1 f2 f3 hb2))
    refine bodyPost_ret (v := .tuple #[.agg #[.slice au (sumL ka kb xs ys).length cu, .int .i64 (ka * c + kb * d)], .int .i64 0]) (by simp [results, Tryd.results20, go_sem, t4, t5]) rfl ⟨_, by rw [show comC xs c ka ys d kb = ka * c + kb * d by unfold comC; rw [if_pos E.out], E.out], ?_, (HB5.out.setCell (by simp; omega) _).setCell (by simp; omega) _⟩
    rw [show comX xs c ka ys d kb = sumL ka kb xs ys by unfold comX; rw [if_pos E.out]]
    exact ((HO.out.below hb45).setBoth (lo := w.heap.size) (by omega) _ (by omega) _ _).ints
  | false =>
    have E := hid0 (show comE xs c ka ys d kb = 4 by rw [HE.out, hsm]; rfl)
    go_enter Tryd.func20, Tryd.ntmps20
    go_wp2_with (first | (go_at_call 43; refine (rSmall_any (ka * c + kb * d) (HO.out.ints.below (allocBelow _ _))).mono ?_; rintro e w5 ⟨rfl, hb5⟩; have hb45 := thenBelow (allocBelow _ _) hb5; have t4 := keep1 q4 hb45; have t5 := keep1 q5 hb45; have t6 : (∀ o, w5.frozen? ⟨w.heap.size + 1 + 1, o, none⟩ = false) := fun o => (hb45.frozen (p := ⟨w.heap.size + 1 + 1, o, none⟩) l4).trans (q6 o); have HB5 := hid0 (thenBelow HB4.out hb45); obtain ⟨n1, n2⟩ := blk hb5 (n := w4.heap.size) (by go_size)) | (go_at_call 49; refine (mix_any c ka d kb (G0.out.below hB3) (G1.out.below hB3) HL.out.1 HL.out.2 HK.out.1 HK.out.2 HS.out.1 HS.out.2).mono ?_; rintro e w4 ⟨u, rfl, hO, hb4⟩; obtain ⟨au, cu, rfl⟩ := hO.shape; have q4 := keep1 z4 hb4; have q5 := keep1 z5 hb4; have q6 : (∀ o, w4.frozen? ⟨w.heap.size + 1 + 1, o, none⟩ = false) := fun o => (hb4.frozen (p := ⟨w.heap.size + 1 + 1, o, none⟩) (by show w.heap.size + 1 + 1 < _; omega)).trans (z6 o); have l4 : w.heap.size + 1 + 1 < w4.heap.size := cell_lt q4; have HB4 := hid0 (thenBelow hB3 hb4); have HO := hid0 hO) | (go_at_call 48; refine (within_fac _ _).mono ?_; rintro e w1 ⟨rfl, rfl⟩) | (go_at_call 43; refine (rSmall_any d (G1.out.below hB2)).mono ?_; rintro e w3 ⟨rfl, hb3⟩; have hB3 : Below w.heap.size w w3 := thenBelow hB2 hb3; have z0 := keep1 y0 hb3; have z1 := keep1 y1 hb3; have z2 := keep1 y2 hb3; have z3 := keep1 y3 hb3; have z4 := keep1 y4 hb3; have z5 := keep1 y5 hb3; have z6 : (∀ o, w3.frozen? ⟨w.heap.size + 1 + 1, o, none⟩ = false) := fun o => (hb3.frozen (p := ⟨w.heap.size + 1 + 1, o, none⟩) (by show w.heap.size + 1 + 1 < _; omega)).trans (f4 o); have l3 : w.heap.size + 2 < w3.heap.size := (by have := hb3.size; omega)) | (go_at_call 43; refine (rSmall_any c (G0.out.below (by go_grown))).mono ?_; rintro e w2 ⟨rfl, hb2⟩; obtain ⟨f1, f2, f3, f4, l2, hB2⟩ := boxes3 hb2; have y0 : w2.cell? ⟨w.heap.size, 0, none⟩ = some (.slice a n cap) := f1 0; have y1 : w2.cell? ⟨w.heap.size, 1, none⟩ = some (.int .i64 c) := f1 1; have y2 : w2.cell? ⟨w.heap.size + 1, 0, none⟩ = some (.slice a' n cap') := f2 0; have y3 : w2.cell? ⟨w.heap.size + 1, 1, none⟩ = some (.int .i64 d) := f2 1; have y4 : w2.cell? ⟨w.heap.size + 1 + 1, 0, none⟩ = some (.slice none 0 0) := f3 0; have y5 : w2.cell? ⟨w.heap.size + 1 + 1, 1, none⟩ = some (.int .i64 0) := f3 1; clear f1 f2 f3 hb2))
    refine bodyPost_ret (v := .tuple #[.agg #[.slice none 0 0, .int .i64 0], .int .i64 4]) (by simp [results, Tryd.results20, go_sem, t4, t5]) rfl ⟨_, by rw [show comC xs c ka ys d kb = 0 by unfold comC; rw [E.out]; rfl, E.out], ?_, (HB5.out.setCell (by simp; omega) _).setCell (by simp; omega) _⟩
    rw [show comX xs c ka ys d kb = [] by unfold comX; rw [E.out]; rfl]
    exact IsInts.nil _ _

theorem rCombine_any {lo lo' : Nat} {w : World} {v v' : Value} {xs ys : List Int} (c ka d kb : Int) (h : IsInts lo w v xs) (h' : IsInts lo' w v' ys) :
    Calls Tryd.prog 20 #[.agg #[v, .int .i64 c], .int .i64 ka, .agg #[v', .int .i64 d], .int .i64 kb] w fun e w' => ∃ u, e = .returned (.tuple #[.agg #[u, .int .i64 (comC xs c ka ys d kb)], .int .i64 (comE xs c ka ys d kb)]) ∧ IsInts w.heap.size w' u (comX xs c ka ys d kb) ∧ Below w.heap.size w w' := by
  by_cases he : xs.length ≠ ys.length ∨ 96 < xs.length ∨ facB ka = false ∨ facB kb = false
  · have E : comE xs c ka ys d kb = 1 := by unfold comE; rw [if_pos he]
    refine (rCombine_err c ka d kb h h' he).mono ?_
    rintro e w' ⟨rfl, hb⟩
    exact ⟨_, by rw [show comC xs c ka ys d kb = 0 by unfold comC; rw [E]; rfl, E], by rw [show comX xs c ka ys d kb = [] by unfold comX; rw [E]; rfl]; exact IsInts.nil _ _, hb⟩
  · have h1 : xs.length = ys.length := Decidable.byContradiction fun e => he (.inl e)
    have h2 : ¬ 96 < xs.length := fun e => he (.inr (.inl e))
    have hka : facB ka = true := by cases e : facB ka; · exact absurd (.inr (.inr (.inl e))) he
                                    · rfl
    have hkb : facB kb = true := by cases e : facB kb; · exact absurd (.inr (.inr (.inr e))) he
                                    · rfl
    by_cases hl : smR (xs, c) = false ∨ smR (ys, d) = false
    · have E : comE xs c ka ys d kb = 4 := by unfold comE; rw [if_neg he, if_pos hl]
      refine (rCombine_large c ka d kb h h' h1 h2 hka hkb hl).mono ?_
      rintro e w' ⟨rfl, hb⟩
      exact ⟨_, by rw [show comC xs c ka ys d kb = 0 by unfold comC; rw [E]; rfl, E], by rw [show comX xs c ka ys d kb = [] by unfold comX; rw [E]; rfl]; exact IsInts.nil _ _, hb⟩
    · have hs : smR (xs, c) = true := by cases e : smR (xs, c); · exact absurd (.inl e) hl
                                         · rfl
      have hs' : smR (ys, d) = true := by cases e : smR (ys, d); · exact absurd (.inr e) hl
                                          · rfl
      exact rCombine_ok c ka d kb h h' h1 h2 hka hkb hs hs'
end Go.Proofs.YtbdnihjokndhaaaDoor
