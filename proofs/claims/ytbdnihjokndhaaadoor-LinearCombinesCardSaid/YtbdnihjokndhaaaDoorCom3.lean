/-
  Combine OF THE PROGRAM, for all rows.
-/
import Derived.Test.YtbdnihjokndhaaaDoorCom2
namespace Go.Proofs.YtbdnihjokndhaaaDoor
open Go.RowKit Go.Deep

theorem IsInts.zero (lo : Nat) (w : World) (g : Nat) : IsInts lo w (.slice (some ⟨g, 0, none⟩) 0 0) [] := ⟨some ⟨g, 0, none⟩, 0, rfl, Nat.le_refl _, by unfold maxLen; omega, ⟨by simp, fun e => by cases e⟩, .inl rfl⟩
set_option maxHeartbeats 3200000 in
theorem Combine_empty {lo lo' : Nat} {w : World} {a a' : Option Addr} {cap cap' : Nat} (c ka d kb : Int) (h : IsInts lo w (.slice a 0 cap) []) (h' : IsInts lo' w (.slice a' 0 cap') []) (hka : facB ka = true) (hkb : facB kb = true)
    (hs : smR ([], c) = true) (hs' : smR ([], d) = true) :
    Calls Tryd.prog 19 #[.agg #[.slice a 0 cap, .int .i64 c], .int .i64 ka, .agg #[.slice a' 0 cap', .int .i64 d], .int .i64 kb] w fun e w' => ∃ v', e = .returned (.tuple #[.agg #[v', .int .i64 (comC [] c ka [] d kb)], .int .i64 (comE [] c ka [] d kb)]) ∧ OwnV w.heap.size w' v' (comX [] c ka [] d kb) ∧ Below w.heap.size w w' := by
  have G0 := hid0 h
  have G1 := hid0 h'
  have HS := hid0 (smR_true.1 hs)
  have HS' := hid0 (smR_true.1 hs')
  have hm1 := mul_fac hka (smR_true.1 hs).2
  have hm2 := mul_fac hkb (smR_true.1 hs').2
  have e1 : IntKind.i64.wrap (ka * c) = ka * c := IntWalk.i64_in _ (by omega)
  have e2 : IntKind.i64.wrap (kb * d) = kb * d := IntWalk.i64_in _ (by omega)
  have e3 : IntKind.i64.wrap (ka * c + kb * d) = ka * c + kb * d := IntWalk.i64_in _ (by omega)
  have HE : Hid (comE [] c ka [] d kb = if smR ([], ka * c + kb * d) = true then 0 else 4) := by
    show _ = _
    unfold comE
    rw [if_neg (by rw [hka, hkb]; simp), if_neg (by rw [hs, hs']; simp)]; rfl
  have HK := hid0 (And.intro hka hkb)
  have hmk := run_make_row' (P := Tryd.prog) 22 3 (.int .i64 0) 8 Tryd.underlying22 info_int rfl .i64 .i64 0 (by omega) (by omega)
  have hM := hid0 (And.intro hm1 hm2)
  clear h h' hm1 hm2
  rw [show (((0 : Nat) : Int)) = 0 from rfl] at hmk
  go_enter Tryd.func19, Tryd.ntmps19
  go_wp2_with (first | (go_at_call 47; refine (isFactor_any _ _).mono ?_; rintro e w1 ⟨rfl, rfl⟩) | (go_at_call 42; refine (small_any d (G1.out.below hB2)).mono ?_; rintro e w3 ⟨rfl, hb3⟩; have hB3 : Below w.heap.size w w3 := thenBelow hB2 hb3; have z0 := keep1 y0 hb3; have z1 := keep1 y1 hb3; have z2 := keep1 y2 hb3; have z3 := keep1 y3 hb3; have z4 := keep1 y4 hb3; have z5 := keep1 y5 hb3; have z6 : (∀ o, w3.frozen? ⟨w.heap.size + 1 + 1, o, none⟩ = false) := fun o => (hb3.frozen (p := ⟨w.heap.size + 1 + 1, o, none⟩) (by show w.heap.size + 1 + 1 < _; omega)).trans (f4 o); have l3 : w.heap.size + 2 < w3.heap.size := (by have := hb3.size; omega)) | (go_at_call 42; refine (small_any c (G0.out.below (by go_grown))).mono ?_; rintro e w2 ⟨rfl, hb2⟩; obtain ⟨f1, f2, f3, f4, l2, hB2⟩ := boxes3 hb2; have y0 : w2.cell? ⟨w.heap.size, 0, none⟩ = some (.slice a 0 cap) := f1 0; have y1 : w2.cell? ⟨w.heap.size, 1, none⟩ = some (.int .i64 c) := f1 1; have y2 : w2.cell? ⟨w.heap.size + 1, 0, none⟩ = some (.slice a' 0 cap') := f2 0; have y3 : w2.cell? ⟨w.heap.size + 1, 1, none⟩ = some (.int .i64 d) := f2 1; have y4 : w2.cell? ⟨w.heap.size + 1 + 1, 0, none⟩ = some (.slice none 0 0) := f3 0; have y5 : w2.cell? ⟨w.heap.size + 1 + 1, 1, none⟩ = some (.int .i64 0) := f3 1; clear f1 f2 f3 hb2))
  have l0 : w.heap.size < w3.heap.size := by omega
  have l1 : w.heap.size + 1 < w3.heap.size := by omega
  have l2 : w.heap.size + 1 + 1 < w3.heap.size := by omega
  have HB3 := hid0 hB3
  clear y0 y1 y2 y3 y4 y5 f4 hB2 hB3 hb3
  go_region
  · go_wp2_with fail
    obtain ⟨W, hW⟩ : ∃ W : World, W = ((w3.alloc (.cells (madeCells #[Value.int .i64 0] 0) 3)).alloc (.cells #[Value.slice (some ⟨w3.heap.size, 0, none⟩) 0 0, Value.int .i64 (ka * c + kb * d)] 24)).drew := ⟨_, rfl⟩
    rw [← hW]
    have HO3 : Hid (OwnInts w3.heap.size W (w3.heap.size) []) := by
      show OwnInts _ _ _ _
      rw [hW]
      exact ⟨by omega, by simp [maxLen], by simp, _, 3, (heap_old _ _ (by simp)).trans (heap_new _ _ (by simp)), fun i hi => absurd hi (by simp)⟩
    have HB : Hid (Below w3.heap.size w3 W) := by rw [hW]; show Below _ _ _; go_grown
    have x1 : W.cell? ⟨w3.heap.size + 1, 0, none⟩ = some (.slice (some ⟨w3.heap.size, 0, none⟩) 0 0) := by rw [hW]; simp
    have x2 : W.cell? ⟨w3.heap.size + 1, 1, none⟩ = some (.int .i64 (ka * c + kb * d)) := by rw [hW]; simp
    have hWs : w3.heap.size + 1 < W.heap.size := by rw [hW]; simp
    clear hW hmk
    have hgn : w3.heap.size ≠ w3.heap.size + 1 := by omega
    have hg2 : w3.heap.size ≤ w3.heap.size := by omega
    have v2 := keep1 z4 HB.out
    have v3 := keep1 z5 HB.out
    have v4 : ∀ o, W.frozen? ⟨w.heap.size + 1 + 1, o, none⟩ = false := fun o => (HB.out.frozen (p := ⟨w.heap.size + 1 + 1, o, none⟩) l2).trans (z6 o)
    have l1 : w.heap.size + 1 + 1 < W.heap.size := cell_lt v2
    have ln := cell_lt x1
    clear z0 z1 z2 z3 z4 z5 z6
    have HB0 := hid0 (thenBelow HB3.out HB.out)
    cases hsm : smR ([], ka * c + kb * d) with
    | true =>
      have E := hid0 (show comE [] c ka [] d kb = 0 by rw [HE.out, if_pos hsm])
      refine wp_loop_rounds 1 ?_
      rw [rounds_succ]
      go_wp2_with (go_at_call 42; refine (small_any (ka * c + kb * d) (IsInts.zero 0 _ _)).mono ?_; rintro e w4 ⟨rfl, hb4⟩; have t1 := keep1 x1 hb4; have t2 := keep1 x2 hb4; have t3 := keep1 v2 hb4; have t4 := keep1 v3 hb4; have t5 : (∀ o, w4.frozen? ⟨w.heap.size + 1 + 1, o, none⟩ = false) := fun o => (hb4.frozen (p := ⟨w.heap.size + 1 + 1, o, none⟩) l1).trans (v4 o))
      have HB4 := hid0 (thenBelow HB0.out hb4)
      refine bodyPost_ret (v := .tuple #[.agg #[.slice (some ⟨w3.heap.size, 0, none⟩) 0 0, .int .i64 (ka * c + kb * d)], .int .i64 0]) (by simp [results, Tryd.results19, go_sem, t3, t4]) rfl ⟨_, by rw [show comC [] c ka [] d kb = ka * c + kb * d by unfold comC; rw [if_pos E.out], E.out], ?_, (HB4.out.setCell (by simp; omega) _).setCell (by simp; omega) _⟩
      rw [show comX [] c ka [] d kb = [] by unfold comX; rw [if_pos E.out]; rfl]
      have hO3 := ((HO3.out.below hb4).setOther ⟨w.heap.size + 1 + 1, 0, none⟩ (.slice (some ⟨w3.heap.size, 0, none⟩) 0 0) (by simp; omega)).setOther ⟨w.heap.size + 1 + 1, 1, none⟩ (.int .i64 (ka * c + kb * d)) (by simp; omega)
      exact .inr ⟨w3.heap.size, 0, rfl, Nat.le_refl _, by unfold maxLen; omega, hO3.mono (lo' := w.heap.size) (by omega)⟩
    | false =>
      have E := hid0 (show comE [] c ka [] d kb = 4 by rw [HE.out, hsm]; rfl)
      refine wp_loop_rounds 1 ?_
      rw [rounds_succ]
      go_wp2_with (go_at_call 42; refine (small_any (ka * c + kb * d) (IsInts.zero 0 _ _)).mono ?_; rintro e w4 ⟨rfl, hb4⟩; have t1 := keep1 x1 hb4; have t2 := keep1 x2 hb4; have t3 := keep1 v2 hb4; have t4 := keep1 v3 hb4; have t5 : (∀ o, w4.frozen? ⟨w.heap.size + 1 + 1, o, none⟩ = false) := fun o => (hb4.frozen (p := ⟨w.heap.size + 1 + 1, o, none⟩) l1).trans (v4 o))
      have HB4 := hid0 (thenBelow HB0.out hb4)
      refine bodyPost_ret (v := .tuple #[.agg #[.slice none 0 0, .int .i64 0], .int .i64 4]) (by simp [results, Tryd.results19, go_sem, t3, t4]) rfl ⟨_, by rw [show comC [] c ka [] d kb = 0 by unfold comC; rw [E.out]; rfl, E.out], ?_, (HB4.out.setCell (by simp; omega) _).setCell (by simp; omega) _⟩
      rw [show comX [] c ka [] d kb = [] by unfold comX; rw [E.out]; rfl]
      exact .inl ⟨rfl, rfl⟩
  · go_wp2_with fail
    obtain ⟨W, hW⟩ : ∃ W : World, W = ((w3.alloc (.cells #[Value.slice (some ⟨w3.heap.size + 1, 0, none⟩) 0 0, Value.int .i64 (ka * c + kb * d)] 24)).alloc (.cells (madeCells #[Value.int .i64 0] 0) 3)).drew := ⟨_, rfl⟩
    rw [← hW]
    have HO3 : Hid (OwnInts w3.heap.size W (w3.heap.size + 1) []) := by
      show OwnInts _ _ _ _
      rw [hW]
      exact ⟨by omega, by simp [maxLen], by simp, _, 3, heap_new _ _ (by simp), fun i hi => absurd hi (by simp)⟩
    have HB : Hid (Below w3.heap.size w3 W) := by rw [hW]; show Below _ _ _; go_grown
    have x1 : W.cell? ⟨w3.heap.size, 0, none⟩ = some (.slice (some ⟨w3.heap.size + 1, 0, none⟩) 0 0) := by rw [hW]; simp
    have x2 : W.cell? ⟨w3.heap.size, 1, none⟩ = some (.int .i64 (ka * c + kb * d)) := by rw [hW]; simp
    have hWs : w3.heap.size + 1 < W.heap.size := by rw [hW]; simp
    clear hW hmk
    have hgn : w3.heap.size + 1 ≠ w3.heap.size := by omega
    have hg2 : w3.heap.size ≤ w3.heap.size + 1 := by omega
    have v2 := keep1 z4 HB.out
    have v3 := keep1 z5 HB.out
    have v4 : ∀ o, W.frozen? ⟨w.heap.size + 1 + 1, o, none⟩ = false := fun o => (HB.out.frozen (p := ⟨w.heap.size + 1 + 1, o, none⟩) l2).trans (z6 o)
    have l1 : w.heap.size + 1 + 1 < W.heap.size := cell_lt v2
    have ln := cell_lt x1
    clear z0 z1 z2 z3 z4 z5 z6
    have HB0 := hid0 (thenBelow HB3.out HB.out)
    cases hsm : smR ([], ka * c + kb * d) with
    | true =>
      have E := hid0 (show comE [] c ka [] d kb = 0 by rw [HE.out, if_pos hsm])
      refine wp_loop_rounds 1 ?_
      rw [rounds_succ]
      go_wp2_with (go_at_call 42; refine (small_any (ka * c + kb * d) (IsInts.zero 0 _ _)).mono ?_; rintro e w4 ⟨rfl, hb4⟩; have t1 := keep1 x1 hb4; have t2 := keep1 x2 hb4; have t3 := keep1 v2 hb4; have t4 := keep1 v3 hb4; have t5 : (∀ o, w4.frozen? ⟨w.heap.size + 1 + 1, o, none⟩ = false) := fun o => (hb4.frozen (p := ⟨w.heap.size + 1 + 1, o, none⟩) l1).trans (v4 o))
      have HB4 := hid0 (thenBelow HB0.out hb4)
      refine bodyPost_ret (v := .tuple #[.agg #[.slice (some ⟨w3.heap.size + 1, 0, none⟩) 0 0, .int .i64 (ka * c + kb * d)], .int .i64 0]) (by simp [results, Tryd.results19, go_sem, t3, t4]) rfl ⟨_, by rw [show comC [] c ka [] d kb = ka * c + kb * d by unfold comC; rw [if_pos E.out], E.out], ?_, (HB4.out.setCell (by simp; omega) _).setCell (by simp; omega) _⟩
      rw [show comX [] c ka [] d kb = [] by unfold comX; rw [if_pos E.out]; rfl]
      have hO3 := ((HO3.out.below hb4).setOther ⟨w.heap.size + 1 + 1, 0, none⟩ (.slice (some ⟨w3.heap.size + 1, 0, none⟩) 0 0) (by simp; omega)).setOther ⟨w.heap.size + 1 + 1, 1, none⟩ (.int .i64 (ka * c + kb * d)) (by simp; omega)
      exact .inr ⟨w3.heap.size + 1, 0, rfl, Nat.le_refl _, by unfold maxLen; omega, hO3.mono (lo' := w.heap.size) (by omega)⟩
    | false =>
      have E := hid0 (show comE [] c ka [] d kb = 4 by rw [HE.out, hsm]; rfl)
      refine wp_loop_rounds 1 ?_
      rw [rounds_succ]
      go_wp2_with (go_at_call 42; refine (small_any (ka * c + kb * d) (IsInts.zero 0 _ _)).mono ?_; rintro e w4 ⟨rfl, hb4⟩; have t1 := keep1 x1 hb4; have t2 := keep1 x2 hb4; have t3 := keep1 v2 hb4; have t4 := keep1 v3 hb4; have t5 : (∀ o, w4.frozen? ⟨w.heap.size + 1 + 1, o, none⟩ = false) := fun o => (hb4.frozen (p := ⟨w.heap.size + 1 + 1, o, none⟩) l1).trans (v4 o))
      have HB4 := hid0 (thenBelow HB0.out hb4)
      refine bodyPost_ret (v := .tuple #[.agg #[.slice none 0 0, .int .i64 0], .int .i64 4]) (by simp [results, Tryd.results19, go_sem, t3, t4]) rfl ⟨_, by rw [show comC [] c ka [] d kb = 0 by unfold comC; rw [E.out]; rfl, E.out], ?_, (HB4.out.setCell (by simp; omega) _).setCell (by simp; omega) _⟩
      rw [show comX [] c ka [] d kb = [] by unfold comX; rw [E.out]; rfl]
      exact .inl ⟨rfl, rfl⟩

theorem Combine_any {lo lo' : Nat} {w : World} {v v' : Value} {xs ys : List Int} (c ka d kb : Int) (h : IsInts lo w v xs) (h' : IsInts lo' w v' ys) :
    Calls Tryd.prog 19 #[.agg #[v, .int .i64 c], .int .i64 ka, .agg #[v', .int .i64 d], .int .i64 kb] w fun e w' => ∃ u, e = .returned (.tuple #[.agg #[u, .int .i64 (comC xs c ka ys d kb)], .int .i64 (comE xs c ka ys d kb)]) ∧ OwnV w.heap.size w' u (comX xs c ka ys d kb) ∧ Below w.heap.size w w' := by
  by_cases he : xs.length ≠ ys.length ∨ 96 < xs.length ∨ facB ka = false ∨ facB kb = false
  · have E : comE xs c ka ys d kb = 1 := by unfold comE; rw [if_pos he]
    refine (Combine_err c ka d kb h h' he).mono ?_
    rintro e w' ⟨rfl, hb⟩
    exact ⟨_, by rw [show comC xs c ka ys d kb = 0 by unfold comC; rw [E]; rfl, E], by rw [show comX xs c ka ys d kb = [] by unfold comX; rw [E]; rfl]; exact .inl ⟨rfl, rfl⟩, hb⟩
  · have h1 : xs.length = ys.length := Decidable.byContradiction fun e => he (.inl e)
    have h2 : ¬ 96 < xs.length := fun e => he (.inr (.inl e))
    have hka : facB ka = true := by cases e : facB ka; · exact absurd (.inr (.inr (.inl e))) he
                                    · rfl
    have hkb : facB kb = true := by cases e : facB kb; · exact absurd (.inr (.inr (.inr e))) he
                                    · rfl
    by_cases hl : smR (xs, c) = false ∨ smR (ys, d) = false
    · have E : comE xs c ka ys d kb = 4 := by unfold comE; rw [if_neg he, if_pos hl]
      refine (Combine_large c ka d kb h h' h1 h2 hka hkb hl).mono ?_
      rintro e w' ⟨rfl, hb⟩
      exact ⟨_, by rw [show comC xs c ka ys d kb = 0 by unfold comC; rw [E]; rfl, E], by rw [show comX xs c ka ys d kb = [] by unfold comX; rw [E]; rfl]; exact .inl ⟨rfl, rfl⟩, hb⟩
    · have hs : smR (xs, c) = true := by cases e : smR (xs, c); · exact absurd (.inl e) hl
                                         · rfl
      have hs' : smR (ys, d) = true := by cases e : smR (ys, d); · exact absurd (.inr e) hl
                                          · rfl
      have H := h
      have H' := h'
      obtain ⟨a, cap, rfl, _, _, _, hc⟩ := h
      obtain ⟨a', cap', rfl, _, _, _, hc'⟩ := h'
      have hnil : ∀ {xs ys : List Int}, xs = [] → ys = [] → IsInts lo w (.slice a xs.length cap) xs → IsInts lo' w (.slice a' ys.length cap') ys → smR (xs, c) = true → smR (ys, d) = true → Calls Tryd.prog 19 #[.agg #[.slice a xs.length cap, .int .i64 c], .int .i64 ka, .agg #[.slice a' ys.length cap', .int .i64 d], .int .i64 kb] w fun e w' => ∃ u, e = .returned (.tuple #[.agg #[u, .int .i64 (comC xs c ka ys d kb)], .int .i64 (comE xs c ka ys d kb)]) ∧ OwnV w.heap.size w' u (comX xs c ka ys d kb) ∧ Below w.heap.size w w' := fun e e' G G' s s' => by
        subst e; subst e'; exact Combine_empty c ka d kb G G' hka hkb s s'
      rcases hc with e | ⟨b, off, rfl, _, hb, hc⟩
      · exact hnil e (List.eq_nil_of_length_eq_zero (by rw [← h1, e]; rfl)) H H' hs hs'
      · rcases hc' with e | ⟨b', off', rfl, _, hb', hc'⟩
        · exact hnil (List.eq_nil_of_length_eq_zero (by rw [h1, e]; rfl)) e H H' hs hs'
        · have G := H'
          rw [← h1] at G ⊢
          exact Combine_full c ka d kb rfl h1.symm H G (by omega) hka hkb hs hs' hb hb' hc (fun i hi => hc' i (by omega))
end Go.Proofs.YtbdnihjokndhaaaDoor
