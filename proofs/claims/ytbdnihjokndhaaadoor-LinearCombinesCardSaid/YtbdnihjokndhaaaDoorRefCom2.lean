/-
  mix OF THE REFERENCE, for all rows.
-/
import Derived.Test.YtbdnihjokndhaaaDoorRefCom
namespace Go.Proofs.YtbdnihjokndhaaaDoor
open Go.RowKit Go.Deep

set_option maxHeartbeats 6400000 in
theorem mix_empty {w : World} {a a' : Option Addr} {cap cap' : Nat} (c ka d kb : Int) (hka : facB ka = true) (hkb : facB kb = true)
    (hs : smR ([], c) = true) (hs' : smR ([], d) = true) :
    Calls Tryd.prog 49 #[.agg #[.slice a 0 cap, .int .i64 c], .int .i64 ka, .agg #[.slice a' 0 cap', .int .i64 d], .int .i64 kb] w fun e w' => ∃ u, e = .returned (.agg #[u, .int .i64 (ka * c + kb * d)]) ∧ OwnV w.heap.size w' u ([]) ∧ Below w.heap.size w w' := by
  have hm1 := mul_fac hka (smR_true.1 hs).2
  have hm2 := mul_fac hkb (smR_true.1 hs').2
  have e1 : IntKind.i64.wrap (ka * c) = ka * c := IntWalk.i64_in _ (by omega)
  have e2 : IntKind.i64.wrap (kb * d) = kb * d := IntWalk.i64_in _ (by omega)
  have e3 : IntKind.i64.wrap (ka * c + kb * d) = ka * c + kb * d := IntWalk.i64_in _ (by omega)
  clear hm1 hm2
  go_enter Tryd.func49, Tryd.ntmps49
  go_wp2_with fail
  obtain ⟨w2, hw2⟩ : ∃ W : World, W = ((w.alloc (.cells #[.slice a 0 cap, .int .i64 c] 24)).alloc (.cells #[.slice a' 0 cap', .int .i64 d] 24)).alloc (.cells #[.slice none 0 0, .int .i64 0] 24) := ⟨_, rfl⟩
  obtain ⟨W, hW⟩ : ∃ W : World, W = w2.alloc (.cells #[.slice none 0 0, .int .i64 (ka * c + kb * d)] 24) := ⟨_, rfl⟩
  obtain ⟨f1, f2, f3, f4, l2, hB2⟩ := boxes3 (w2 := w2) (by rw [← hw2]; exact Below.refl _ _)
  have hn3 : w.heap.size + 1 + 1 + 1 = w2.heap.size := by rw [hw2]; simp
  rw [← hw2, ← hW]
  have hB := allocBelow w2 (.cells #[.slice none 0 0, .int .i64 (ka * c + kb * d)] 24)
  rw [← hW] at hB
  have x0 : W.cell? ⟨w.heap.size, 0, none⟩ = some (.slice a 0 cap) := keep1 (f1 0) hB
  have x1 : W.cell? ⟨w.heap.size + 1, 0, none⟩ = some (.slice a' 0 cap') := keep1 (f2 0) hB
  have x2 : W.cell? ⟨w.heap.size + 1 + 1, 0, none⟩ = some (.slice none 0 0) := keep1 (f3 0) hB
  have x3 : W.cell? ⟨w.heap.size + 1 + 1, 1, none⟩ = some (.int .i64 0) := keep1 (f3 1) hB
  have x4 : ∀ o, W.frozen? ⟨w.heap.size + 1 + 1, o, none⟩ = false := fun o => (hB.frozen (p := ⟨w.heap.size + 1 + 1, o, none⟩) l2).trans (f4 o)
  have x5 : W.cell? ⟨w.heap.size + 1 + 1 + 1, 0, none⟩ = some (.slice none 0 0) := by rw [hW]; exact new_cell _ _ _ 0 hn3
  have x6 : W.cell? ⟨w.heap.size + 1 + 1 + 1, 1, none⟩ = some (.int .i64 (ka * c + kb * d)) := by rw [hW]; exact new_cell _ _ _ 1 hn3
  have x7 : ∀ o, W.frozen? ⟨w.heap.size + 1 + 1 + 1, o, none⟩ = false := fun o => by rw [hW]; exact new_frz _ _ _ o hn3
  have HB := hid0 (thenBelow hB2 hB)
  have hWs : w.heap.size + 1 + 1 + 1 < W.heap.size := cell_lt x5
  clear hW hw2 f1 f2 f3 f4 l2 hB2 hB hn3
  have l2 : w.heap.size + 1 + 1 < W.heap.size := by omega
  have l1 : w.heap.size + 1 < W.heap.size := by omega
  have l0 : w.heap.size < W.heap.size := by omega
  refine wp_loop_rounds 1 ?_
  rw [rounds_succ]
  go_wp2_with fail
  exact bodyPost_ret (v := .agg #[.slice none 0 0, .int .i64 (ka * c + kb * d)]) (by simp [results, Tryd.results49, go_sem, x2, x3]) rfl ⟨_, rfl, .inl ⟨rfl, rfl⟩, (HB.out.setCell (by simp; omega) _).setCell (by simp; omega) _⟩

theorem mix_any {lo lo' : Nat} {w : World} {v v' : Value} {xs ys : List Int} (c ka d kb : Int) (h : IsInts lo w v xs) (h' : IsInts lo' w v' ys) (hl : xs.length = ys.length) (hn : xs.length ≤ 96) (hka : facB ka = true) (hkb : facB kb = true) (hs : smR (xs, c) = true) (hs' : smR (ys, d) = true) :
    Calls Tryd.prog 49 #[.agg #[v, .int .i64 c], .int .i64 ka, .agg #[v', .int .i64 d], .int .i64 kb] w fun e w' => ∃ u, e = .returned (.agg #[u, .int .i64 (ka * c + kb * d)]) ∧ OwnV w.heap.size w' u (sumL ka kb xs ys) ∧ Below w.heap.size w w' := by
  obtain ⟨a, cap, rfl, _, _, _, hc⟩ := h
  obtain ⟨a', cap', rfl, _, _, _, hc'⟩ := h'
  rcases hc with rfl | ⟨b, off, rfl, _, hb, hc⟩
  · obtain rfl : ys = [] := List.eq_nil_of_length_eq_zero (by rw [← hl]; rfl)
    exact mix_empty c ka d kb hka hkb hs hs'
  · rcases hc' with rfl | ⟨b', off', rfl, _, hb', hc'⟩
    · obtain rfl : xs = [] := List.eq_nil_of_length_eq_zero (by rw [hl]; rfl)
      exact mix_empty c ka d kb hka hkb hs hs'
    · rw [← hl]
      exact mix_full c ka d kb rfl hl.symm hn hka hkb hs hs' hb hb' hc (fun i hi => hc' i (by omega))
end Go.Proofs.YtbdnihjokndhaaaDoor
