/-
  mix AND Combine OF THE REFERENCE.
-/
import Derived.Test.YtbdnihjokndhaaaDoorCom2
import Derived.Test.YtbdnihjokndhaaaDoorRefNeg
namespace Go.Proofs.YtbdnihjokndhaaaDoor
open Go.RowKit Go.Deep

theorem sumL_I64 {ka kb : Int} {xs ys : List Int} (hka : facB ka = true) (hkb : facB kb = true) (hx : xs.all smB = true) (hy : ys.all smB = true) : ∀ x ∈ sumL ka kb xs ys, I64 x := by
  intro z hz
  obtain ⟨i, hi, rfl⟩ := List.mem_iff_getElem.1 hz
  simp only [sumL, List.getElem_zipWith]
  have h1 := mul_fac hka (List.all_eq_true.1 hx _ (List.getElem_mem (by simp [sumL] at hi; omega : i < xs.length)))
  have h2 := mul_fac hkb (List.all_eq_true.1 hy _ (List.getElem_mem (by simp [sumL] at hi; omega : i < ys.length)))
  constructor <;> omega

set_option maxHeartbeats 6400000 in
theorem mix_full {w : World} {xs ys : List Int} {b off cap b' off' cap' n : Nat} (c ka d kb : Int) (hx : xs.length = n) (hy : ys.length = n) (hn : n ≤ 96) (hka : facB ka = true) (hkb : facB kb = true)
    (hs : smR (xs, c) = true) (hs' : smR (ys, d) = true) (hb : b < w.heap.size) (hb' : b' < w.heap.size)
    (hc : ∀ i, i < n → w.cell? ⟨b, off + i, none⟩ = some (.int .i64 (xs.getD i 0))) (hc' : ∀ i, i < n → w.cell? ⟨b', off' + i, none⟩ = some (.int .i64 (ys.getD i 0))) :
    Calls Tryd.prog 49 #[.agg #[.slice (some ⟨b, off, none⟩) n cap, .int .i64 c], .int .i64 ka, .agg #[.slice (some ⟨b', off', none⟩) n cap', .int .i64 d], .int .i64 kb] w fun e w' => ∃ u, e = .returned (.agg #[u, .int .i64 (ka * c + kb * d)]) ∧ OwnV w.heap.size w' u (sumL ka kb xs ys) ∧ Below w.heap.size w w' := by
  have HS := hid0 (smR_true.1 hs)
  have HS' := hid0 (smR_true.1 hs')
  have HC := hid0 hc
  have HC' := hid0 hc'
  have HX := hid0 hx
  have HY := hid0 hy
  have hm1 := mul_fac hka (smR_true.1 hs).2
  have hm2 := mul_fac hkb (smR_true.1 hs').2
  have e1 : IntKind.i64.wrap (ka * c) = ka * c := IntWalk.i64_in _ (by omega)
  have e2 : IntKind.i64.wrap (kb * d) = kb * d := IntWalk.i64_in _ (by omega)
  have e3 : IntKind.i64.wrap (ka * c + kb * d) = ka * c + kb * d := IntWalk.i64_in _ (by omega)
  have HK := hid0 (And.intro hka hkb)
  obtain ⟨i0, hi0, hz0, hz1, hz2⟩ := info_int4
  clear hc hc' hx hy hm1 hm2
  go_enter Tryd.func49, Tryd.ntmps49
  go_wp2_with fail
  obtain ⟨w2, hw2⟩ : ∃ W : World, W = ((w.alloc (.cells #[.slice (some ⟨b, off, none⟩) n cap, .int .i64 c] 24)).alloc (.cells #[.slice (some ⟨b', off', none⟩) n cap', .int .i64 d] 24)).alloc (.cells #[.slice none 0 0, .int .i64 0] 24) := ⟨_, rfl⟩
  obtain ⟨W, hW⟩ : ∃ W : World, W = w2.alloc (.cells #[.slice none 0 0, .int .i64 (ka * c + kb * d)] 24) := ⟨_, rfl⟩
  obtain ⟨f1, f2, f3, f4, l2, hB2⟩ := boxes3 (w2 := w2) (by rw [← hw2]; exact Below.refl _ _)
  have hn3 : w.heap.size + 1 + 1 + 1 = w2.heap.size := by rw [hw2]; simp
  rw [← hw2, ← hW]
  have hB := allocBelow w2 (.cells #[.slice none 0 0, .int .i64 (ka * c + kb * d)] 24)
  rw [← hW] at hB
  have x0 : W.cell? ⟨w.heap.size, 0, none⟩ = some (.slice (some ⟨b, off, none⟩) n cap) := keep1 (f1 0) hB
  have x1 : W.cell? ⟨w.heap.size + 1, 0, none⟩ = some (.slice (some ⟨b', off', none⟩) n cap') := keep1 (f2 0) hB
  have x2 : W.cell? ⟨w.heap.size + 1 + 1, 0, none⟩ = some (.slice none 0 0) := keep1 (f3 0) hB
  have x3 : W.cell? ⟨w.heap.size + 1 + 1, 1, none⟩ = some (.int .i64 0) := keep1 (f3 1) hB
  have x4 : ∀ o, W.frozen? ⟨w.heap.size + 1 + 1, o, none⟩ = false := fun o => (hB.frozen (p := ⟨w.heap.size + 1 + 1, o, none⟩) l2).trans (f4 o)
  have x5 : W.cell? ⟨w.heap.size + 1 + 1 + 1, 0, none⟩ = some (.slice none 0 0) := by rw [hW]; exact new_cell _ _ _ 0 hn3
  have x6 : W.cell? ⟨w.heap.size + 1 + 1 + 1, 1, none⟩ = some (.int .i64 (ka * c + kb * d)) := by rw [hW]; exact new_cell _ _ _ 1 hn3
  have x7 : ∀ o, W.frozen? ⟨w.heap.size + 1 + 1 + 1, o, none⟩ = false := fun o => by rw [hW]; exact new_frz _ _ _ o hn3
  have HB := hid0 (thenBelow hB2 hB)
  have hWs : w.heap.size + 1 + 1 + 1 < W.heap.size := cell_lt x5
  clear hW hw2 f1 f2 f3 f4 l2 hB2 hB hn3
  go_loopw [10] (fun v wr => ∃ (k : Nat) (u : Value), k ≤ n ∧ v = .int .i64 k ∧ wr.cell? ⟨w.heap.size + 1 + 1 + 1, 0, none⟩ = some u ∧ wr.cell? ⟨w.heap.size + 1 + 1 + 1, 1, none⟩ = some (.int .i64 (ka * c + kb * d)) ∧ (∀ o, wr.frozen? ⟨w.heap.size + 1 + 1 + 1, o, none⟩ = false) ∧ wr.ownsRow (w.heap.size + 4) 3 1 u k ((sumL ka kb (xs.take k) (ys.take k)).map (Value.int .i64)) ∧ Below (w.heap.size + 3) W wr) (fun v _ => n - (intOf v).toNat)
  case atStart => exact ⟨0, _, Nat.zero_le _, rfl, x5, x6, x7, World.ownsRow_nil _ _ _ _, Below.refl _ _⟩
  case round =>
    obtain ⟨k, u, hk, rfl, z1, z2, z3, hO, hB⟩ := hrel
    have HOk := hid0 hO
    have HBr := hid0 hB
    have HB0 : Hid (Below w.heap.size w wr) := HB.out.trans (hB.mono (by omega))
    have hsz := hB.size
    have l0 : w.heap.size < wr.heap.size := by omega
    have l1 : w.heap.size + 1 < wr.heap.size := by omega
    have l2 : w.heap.size + 1 + 1 < wr.heap.size := by omega
    have l3 : w.heap.size + 1 + 1 + 1 < wr.heap.size := by omega
    have g0 : wr.cell? ⟨w.heap.size, 0, none⟩ = some (.slice (some ⟨b, off, none⟩) n cap) := (hB.cell (p := ⟨w.heap.size, 0, none⟩) (by show w.heap.size < _; omega)).trans x0
    have g0' : wr.cell? ⟨w.heap.size + 1, 0, none⟩ = some (.slice (some ⟨b', off', none⟩) n cap') := (hB.cell (p := ⟨w.heap.size + 1, 0, none⟩) (by show w.heap.size + 1 < _; omega)).trans x1
    by_cases h1 : k < n
    · have hkx : k < xs.length := by rw [HX.out]; exact h1
      have hky : k < ys.length := by rw [HY.out]; exact h1
      have g1 : wr.cell? ⟨b, off + k, none⟩ = some (.int .i64 (xs[k]'hkx)) := by
        have := (HB0.out.cell (p := ⟨b, off + k, none⟩) hb).trans (HC.out k h1); simpa [List.getD, hkx] using this
      have g1' : wr.cell? ⟨b', off' + k, none⟩ = some (.int .i64 (ys[k]'hky)) := by
        have := (HB0.out.cell (p := ⟨b', off' + k, none⟩) hb').trans (HC'.out k h1); simpa [List.getD, hky] using this
      have m1 := mul_fac HK.out.1 (List.all_eq_true.1 HS.out.1 _ (List.getElem_mem hkx))
      have m2 := mul_fac HK.out.2 (List.all_eq_true.1 HS'.out.1 _ (List.getElem_mem hky))
      have ew1 : IntKind.i64.wrap (ka * xs[k]'hkx) = ka * xs[k]'hkx := IntWalk.i64_in _ (by omega)
      have ew2 : IntKind.i64.wrap (kb * ys[k]'hky) = kb * ys[k]'hky := IntWalk.i64_in _ (by omega)
      have ew3 : IntKind.i64.wrap (ka * xs[k]'hkx + kb * ys[k]'hky) = ka * xs[k]'hkx + kb * ys[k]'hky := IntWalk.i64_in _ (by omega)
      have hbr : b < wr.heap.size := by omega
      have hbr' : b' < wr.heap.size := by omega
      obtain ⟨au, cu, rfl⟩ : ∃ a c, u = .slice a k c := own_shape hO
      have hnb : some (w.heap.size + 1 + 1 + 1) ≠ (Value.slice au k cu).ownBlock := fun e => by have := (HOk.out.lt _ e.symm).1; omega
      clear m1 m2 hO hB x0 x1 x2 x3 x4 x5 x6 x7 e1 e2 e3
      go_wp2_with fail
      go_region_law (refine step_append_lies _ (by rfl) (.tmp 29) (.tmp 45) 22 (by rfl) (w.heap.size + 4) 3 i0 (.int .i64 0) 1 8 Tryd.underlying22 hi0 hz0 hz1 hz2 (by rfl) (by decide) _ k _ (by rfl) (HOk.out.alloc _) ⟨wr.heap.size, 0, none⟩ 1 1 [.int .i64 (ka * xs[k]'hkx + kb * ys[k]'hky)] (by rfl) (by rfl) (World.news_of_block (heap_alloc_new _ _)) (by intro u hu; simp at hu; subst hu; rfl) (by decide) (by unfold maxLen; omega) (by omega) (by simp; omega) (wr.heap.size + 1) (by simp) ?_; intro g cc w3 hown1 hgrow hat hlt; have k1 : w3.cell? ⟨w.heap.size + 1 + 1 + 1, 0, none⟩ = some (.slice au k cu) := (hgrow.cell_far ⟨w.heap.size + 1 + 1 + 1, 0, none⟩ (by simp; omega) hnb).trans (((allocBelow _ _).cell (p := ⟨w.heap.size + 1 + 1 + 1, 0, none⟩) l3).trans z1); have k2 : (∀ o, w3.frozen? ⟨w.heap.size + 1 + 1 + 1, o, none⟩ = false) := fun o => (hgrow.frozen_far ⟨w.heap.size + 1 + 1 + 1, o, none⟩ (by simp; omega) hnb).trans (((allocBelow _ _).frozen (p := ⟨w.heap.size + 1 + 1 + 1, o, none⟩) l3).trans (z3 o)); have k3 : w3.cell? ⟨w.heap.size + 1 + 1 + 1, 1, none⟩ = some (.int .i64 (ka * c + kb * d)) := (hgrow.cell_far ⟨w.heap.size + 1 + 1 + 1, 1, none⟩ (by simp; omega) hnb).trans (((allocBelow _ _).cell (p := ⟨w.heap.size + 1 + 1 + 1, 1, none⟩) l3).trans z2))
      all_goals
        go_wp2_with fail
        go_roundw
        case rel =>
          have hk1 : (sumL ka kb (xs.take (k + 1)) (ys.take (k + 1))).map (Value.int .i64) = (sumL ka kb (xs.take k) (ys.take k)).map (Value.int .i64) ++ [.int .i64 (ka * xs[k]'hkx + kb * ys[k]'hky)] := by
            rw [sumL_take _ _ _ _ _ hkx hky, List.map_append]; rfl
          refine ⟨k + 1, .slice (some ⟨g, 0, none⟩) (k + 1) cc, by omega, by go_num, World.cell?_setCell_same _ _ _ k1, (World.cell?_setCell_other _ ⟨w.heap.size + 1 + 1 + 1, 0, none⟩ ⟨w.heap.size + 1 + 1 + 1, 1, none⟩ _ (by simp)).trans k3, fun o => by rw [World.frozen?_setCell]; exact k2 o, ?_, ?_⟩
          · rw [hk1]; exact ownsRow_setCell_below hown1 (by simp) _
          · have hBg : Below (w.heap.size + 3) W w3 := ((HBr.out.trans ((allocBelow _ _).mono (by omega))).drew.grown hgrow (by simp; omega) (fun k hk => by have := (HOk.out.lt _ hk).1; omega))
            exact hBg.setCell (by simp) _
        case measure => simp [intOf]; omega
    · obtain rfl : k = n := by omega
      have hlen : (sumL ka kb xs ys).length = k := by simp only [sumL, List.length_zipWith, HX.out, HY.out]; omega
      have ht : sumL ka kb (xs.take k) (ys.take k) = sumL ka kb xs ys := by rw [List.take_of_length_le (by rw [HX.out]; omega), List.take_of_length_le (by rw [HY.out]; omega)]
      rw [ht] at hO
      have hO2 : OwnV (w.heap.size + 4) wr u (sumL ka kb xs ys) := own_of_row (e := 3) (by rw [hlen]; exact hO) (sumL_I64 HK.out.1 HK.out.2 HS.out.1 HS'.out.1)
      have HOr := hid0 hO2
      obtain ⟨au, cu, rfl⟩ : ∃ a c, u = .slice a k c := own_shape hO
      have v2 : wr.cell? ⟨w.heap.size + 1 + 1, 0, none⟩ = some (.slice none 0 0) := (hB.cell (p := ⟨w.heap.size + 1 + 1, 0, none⟩) (by show w.heap.size + 1 + 1 < _; omega)).trans x2
      have v3 : wr.cell? ⟨w.heap.size + 1 + 1, 1, none⟩ = some (.int .i64 0) := (hB.cell (p := ⟨w.heap.size + 1 + 1, 1, none⟩) (by show w.heap.size + 1 + 1 < _; omega)).trans x3
      have v4 : ∀ o, wr.frozen? ⟨w.heap.size + 1 + 1, o, none⟩ = false := fun o => (hB.frozen (p := ⟨w.heap.size + 1 + 1, o, none⟩) (by show w.heap.size + 1 + 1 < _; omega)).trans (x4 o)
      clear hO hO2 hB x0 x1 x2 x3 x4 x5 x6 x7 h1 hk ht hlen
      go_wp2_with fail
      refine bodyPost_ret (v := .agg #[.slice au k cu, .int .i64 (ka * c + kb * d)]) (by simp [results, Tryd.results49, go_sem, v2, v3]) rfl ⟨_, rfl, ?_, (HB0.out.setCell (by simp; omega) _).setCell (by simp; omega) _⟩
      exact HOr.out.setBoth (by omega) _ (by omega) _ _
end Go.Proofs.YtbdnihjokndhaaaDoor
