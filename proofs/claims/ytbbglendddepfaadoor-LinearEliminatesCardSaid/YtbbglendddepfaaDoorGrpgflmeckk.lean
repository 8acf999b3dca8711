import Derived.Test.YtbbglendddepfaaDoorGrpfihokocb
import Derived.Test.YtbbglendddepfaaDoorGrpaehdjipo
import Derived.Test.YtbbglendddepfaaDoorGrpikcnddfn
set_option linter.all false
namespace Go.Proofs.YtbbglendddepfaaDoor
open Go.RowKit Go.Deep

theorem sumL_I64 {ka kb : Int} {xs ys : List Int} (hka : facB ka = true) (hkb : facB kb = true) (hx : xs.all smB = true) (hy : ys.all smB = true) : ∀ x ∈ sumL ka kb xs ys, I64 x := by
  intro z hz
  obtain ⟨i, hi, rfl⟩ := List.mem_iff_getElem.1 hz
  simp only [sumL, List.getElem_zipWith]
  have h1 := mul_fac hka (List.all_eq_true.1 hx _ (List.getElem_mem (by simp [sumL] at hi; omega : i < xs.length)))
  have h2 := mul_fac hkb (List.all_eq_true.1 hy _ (List.getElem_mem (by simp [sumL] at hi; omega : i < ys.length)))
  constructor <;> omega

set_option maxHeartbeats 6400000 in
theorem mix_full {w : World} {xs ys : List Int} {b off cap b' off' cap' n : Nat} (c ka d kb : Int) (hx : xs.length = n) (hy : ys.length = n) (hn : n ≤ 96) (hka : facB ka = true) (hkb : facB kb = true)
    (hs : smR (xs, c) = true) (hs' : smR (ys, d) = true) (hb : b < w.heap.size) (hb' : b' < w.heap.size)
    (hc : ∀ i, i < n → w.cell? ⟨b, off + i, none⟩ = some (.int .i64 (xs.getD i 0))) (hc' : ∀ i, i < n → w.cell? ⟨b', off' + i, none⟩ = some (.int .i64 (ys.getD i 0))) :
    Calls Tryd.prog 45 #[.agg #[.slice (some ⟨b, off, none⟩) n cap, .int .i64 c], .int .i64 ka, .agg #[.slice (some ⟨b', off', none⟩) n cap', .int .i64 d], .int .i64 kb] w fun e w' => ∃ u, e = .returned (.agg #[u, .int .i64 (ka * c + kb * d)]) ∧ OwnV w.heap.size w' u (sumL ka kb xs ys) ∧ Below w.heap.size w w' := by
  have HS := hid0 (smR_true.1 hs)
  have HS' := hid0 (smR_true.1 hs')
  have HC := hid0 hc
  have HC' := hid0 hc'
  have HX := hid0 hx
  have HY := hid0 hy
  have hm1 := mul_fac hka (smR_true.1 hs).2
  have hm2 := mul_fac hkb (smR_true.1 hs').2
  have e1 : IntKind.i64.wrap (ka * c) = ka * c := IntWalk.i64_in _ (by omega)
  have e2 : IntKind.i64.wrap (kb * d) = kb * d := IntWalk.i64_in _ (by omega)
  have e3 : IntKind.i64.wrap (ka * c + kb * d) = ka * c + kb * d := IntWalk.i64_in _ (by omega)
  have HK := hid0 (And.intro hka hkb)
  obtain ⟨i0, hi0, hz0, hz1, hz2⟩ := info_int4
  clear hc hc' hx hy hm1 hm2
  go_enter Tryd.func45, Tryd.ntmps45
  go_wp2_with fail
  obtain ⟨w2, hw2⟩ : ∃ W : World, W = ((w.alloc (.cells #[.slice (some ⟨b, off, none⟩) n cap, .int .i64 c] 39)).alloc (.cells #[.slice (some ⟨b', off', none⟩) n cap', .int .i64 d] 39)).alloc (.cells #[.slice none 0 0, .int .i64 0] 39) := ⟨_, rfl⟩
  obtain ⟨W, hW⟩ : ∃ W : World, W = w2.alloc (.cells #[.slice none 0 0, .int .i64 (ka * c + kb * d)] 39) := ⟨_, rfl⟩
  obtain ⟨f1, f2, f3, f4, l2, hB2⟩ := boxes3 (w2 := w2) (by rw [← hw2]; exact Below.refl _ _)
  have hn3 : w.heap.size + 1 + 1 + 1 = w2.heap.size := by rw [hw2]; simp
  rw [← hw2, ← hW]
  have hB := allocBelow w2 (.cells #[.slice none 0 0, .int .i64 (ka * c + kb * d)] 39)
  rw [← hW] at hB
  have x0 : W.cell? ⟨w.heap.size, 0, none⟩ = some (.slice (some ⟨b, off, none⟩) n cap) := keep1 (f1 0) hB
  have x1 : W.cell? ⟨w.heap.size + 1, 0, none⟩ = some (.slice (some ⟨b', off', none⟩) n cap') := keep1 (f2 0) hB
  have x2 : W.cell? ⟨w.heap.size + 1 + 1, 0, none⟩ = some (.slice none 0 0) := keep1 (f3 0) hB
  have x3 : W.cell? ⟨w.heap.size + 1 + 1, 1, none⟩ = some (.int .i64 0) := keep1 (f3 1) hB
  have x4 : ∀ o, W.frozen? ⟨w.heap.size + 1 + 1, o, none⟩ = false := fun o => (hB.frozen (p := ⟨w.heap.size + 1 + 1, o, none⟩) l2).trans (f4 o)
  have x5 : W.cell? ⟨w.heap.size + 1 + 1 + 1, 0, none⟩ = some (.slice none 0 0) := by rw [hW]; exact new_cell _ _ _ 0 hn3
  have x6 : W.cell? ⟨w.heap.size + 1 + 1 + 1, 1, none⟩ = some (.int .i64 (ka * c + kb * d)) := by rw [hW]; exact new_cell _ _ _ 1 hn3
  have x7 : ∀ o, W.frozen? ⟨w.heap.size + 1 + 1 + 1, o, none⟩ = false := fun o => by rw [hW]; exact new_frz _ _ _ o hn3
  have HB := hid0 (thenBelow hB2 hB)
  have hWs : w.heap.size + 1 + 1 + 1 < W.heap.size := cell_lt x5
  clear hW hw2 f1 f2 f3 f4 l2 hB2 hB hn3
  go_loopw [10] (fun v wr => ∃ (k : Nat) (u : Value), k ≤ n ∧ v = .int .i64 k ∧ wr.cell? ⟨w.heap.size + 1 + 1 + 1, 0, none⟩ = some u ∧ wr.cell? ⟨w.heap.size + 1 + 1 + 1, 1, none⟩ = some (.int .i64 (ka * c + kb * d)) ∧ (∀ o, wr.frozen? ⟨w.heap.size + 1 + 1 + 1, o, none⟩ = false) ∧ wr.ownsRow (w.heap.size + 4) 3 1 u k ((sumL ka kb (xs.take k) (ys.take k)).map (Value.int .i64)) ∧ Below (w.heap.size + 3) W wr) (fun v _ => n - (intOf v).toNat)
  case atStart => exact ⟨0, _, Nat.zero_le _, rfl, x5, x6, x7, World.ownsRow_nil _ _ _ _, Below.refl _ _⟩
  case round =>
    obtain ⟨k, u, hk, rfl, z1, z2, z3, hO, hB⟩ := hrel
    have HOk := hid0 hO
    have HBr := hid0 hB
    have HB0 : Hid (Below w.heap.size w wr) := HB.out.trans (hB.mono (by omega))
    have hsz := hB.size
    have l0 : w.heap.size < wr.heap.size := by omega
    have l1 : w.heap.size + 1 < wr.heap.size := by omega
    have l2 : w.heap.size + 1 + 1 < wr.heap.size := by omega
    have l3 : w.heap.size + 1 + 1 + 1 < wr.heap.size := by omega
    have g0 : wr.cell? ⟨w.heap.size, 0, none⟩ = some (.slice (some ⟨b, off, none⟩) n cap) := (hB.cell (p := ⟨w.heap.size, 0, none⟩) (by show w.heap.size < _; omega)).trans x0
    have g0' : wr.cell? ⟨w.heap.size + 1, 0, none⟩ = some (.slice (some ⟨b', off', none⟩) n cap') := (hB.cell (p := ⟨w.heap.size + 1, 0, none⟩) (by show w.heap.size + 1 < _; omega)).trans x1
    by_cases h1 : k < n
    · have hkx : k < xs.length := by rw [HX.out]; exact h1
      have hky : k < ys.length := by rw [HY.out]; exact h1
      have g1 : wr.cell? ⟨b, off + k, none⟩ = some (.int .i64 (xs[k]'hkx)) := by
        have := (HB0.out.cell (p := ⟨b, off + k, none⟩) hb).trans (HC.out k h1); simpa [List.getD, hkx] using this
      have g1' : wr.cell? ⟨b', off' + k, none⟩ = some (.int .i64 (ys[k]'hky)) := by
        have := (HB0.out.cell (p := ⟨b', off' + k, none⟩) hb').trans (HC'.out k h1); simpa [List.getD, hky] using this
      have m1 := mul_fac HK.out.1 (List.all_eq_true.1 HS.out.1 _ (List.getElem_mem hkx))
      have m2 := mul_fac HK.out.2 (List.all_eq_true.1 HS'.out.1 _ (List.getElem_mem hky))
      have ew1 : IntKind.i64.wrap (ka * xs[k]'hkx) = ka * xs[k]'hkx := IntWalk.i64_in _ (by omega)
      have ew2 : IntKind.i64.wrap (kb * ys[k]'hky) = kb * ys[k]'hky := IntWalk.i64_in _ (by omega)
      have ew3 : IntKind.i64.wrap (ka * xs[k]'hkx + kb * ys[k]'hky) = ka * xs[k]'hkx + kb * ys[k]'hky := IntWalk.i64_in _ (by omega)
      have hbr : b < wr.heap.size := by omega
      have hbr' : b' < wr.heap.size := by omega
      obtain ⟨au, cu, rfl⟩ : ∃ a c, u = .slice a k c := own_shape hO
      have hnb : some (w.heap.size + 1 + 1 + 1) ≠ (Value.slice au k cu).ownBlock := fun e => by have := (HOk.out.lt _ e.symm).1; omega
      clear m1 m2 hO hB x0 x1 x2 x3 x4 x5 x6 x7 e1 e2 e3
      go_wp2_with fail
      go_region_law (refine step_append_lies _ (by rfl) (.tmp 29) (.tmp 45) 25 (by rfl) (w.heap.size + 4) 3 i0 (.int .i64 0) 1 8 Tryd.underlying25 hi0 hz0 hz1 hz2 (by rfl) (by decide) _ k _ (by rfl) (HOk.out.alloc _) ⟨wr.heap.size, 0, none⟩ 1 1 [.int .i64 (ka * xs[k]'hkx + kb * ys[k]'hky)] (by rfl) (by rfl) (World.news_of_block (heap_alloc_new _ _)) (by intro u hu; simp at hu; subst hu; rfl) (by decide) (by unfold maxLen; omega) (by omega) (by simp; omega) (wr.heap.size + 1) (by simp) ?_; intro g cc w3 hown1 hgrow hat hlt; have k1 : w3.cell? ⟨w.heap.size + 1 + 1 + 1, 0, none⟩ = some (.slice au k cu) := (hgrow.cell_far ⟨w.heap.size + 1 + 1 + 1, 0, none⟩ (by simp; omega) hnb).trans (((allocBelow _ _).cell (p := ⟨w.heap.size + 1 + 1 + 1, 0, none⟩) l3).trans z1); have k2 : (∀ o, w3.frozen? ⟨w.heap.size + 1 + 1 + 1, o, none⟩ = false) := fun o => (hgrow.frozen_far ⟨w.heap.size + 1 + 1 + 1, o, none⟩ (by simp; omega) hnb).trans (((allocBelow _ _).frozen (p := ⟨w.heap.size + 1 + 1 + 1, o, none⟩) l3).trans (z3 o)); have k3 : w3.cell? ⟨w.heap.size + 1 + 1 + 1, 1, none⟩ = some (.int .i64 (ka * c + kb * d)) := (hgrow.cell_far ⟨w.heap.size + 1 + 1 + 1, 1, none⟩ (by simp; omega) hnb).trans (((allocBelow _ _).cell (p := ⟨w.heap.size + 1 + 1 + 1, 1, none⟩) l3).trans z2))
      all_goals
        go_wp2_with fail
        go_roundw
        case rel =>
          have hk1 : (sumL ka kb (xs.take (k + 1)) (ys.take (k + 1))).map (Value.int .i64) = (sumL ka kb (xs.take k) (ys.take k)).map (Value.int .i64) ++ [.int .i64 (ka * xs[k]'hkx + kb * ys[k]'hky)] := by
            rw [sumL_take _ _ _ _ _ hkx hky, List.map_append]; rfl
          refine ⟨k + 1, .slice (some ⟨g, 0, none⟩) (k + 1) cc, by omega, by go_num, World.cell?_setCell_same _ _ _ k1, (World.cell?_setCell_other _ ⟨w.heap.size + 1 + 1 + 1, 0, none⟩ ⟨w.heap.size + 1 + 1 + 1, 1, none⟩ _ (by simp)).trans k3, fun o => by rw [World.frozen?_setCell]; exact k2 o, ?_, ?_⟩
          · rw [hk1]; exact ownsRow_setCell_below hown1 (by simp) _
          · have hBg : Below (w.heap.size + 3) W w3 := ((HBr.out.trans ((allocBelow _ _).mono (by omega))).drew.grown hgrow (by simp; omega) (fun k hk => by have := (HOk.out.lt _ hk).1; omega))
            exact hBg.setCell (by simp) _
        case measure => simp [intOf]; omega
    · obtain rfl : k = n := by omega
      have hlen : (sumL ka kb xs ys).length = k := by simp only [sumL, List.length_zipWith, HX.out, HY.out]; omega
      have ht : sumL ka kb (xs.take k) (ys.take k) = sumL ka kb xs ys := by rw [List.take_of_length_le (by rw [HX.out]; omega), List.take_of_length_le (by rw [HY.out]; omega)]
      rw [ht] at hO
      have hO2 : OwnV (w.heap.size + 4) wr u (sumL ka kb xs ys) := own_of_row (e := 3) (by rw [hlen]; exact hO) (sumL_I64 HK.out.1 HK.out.2 HS.out.1 HS'.out.1)
      have HOr := hid0 hO2
      obtain ⟨au, cu, rfl⟩ : ∃ a c, u = .slice a k c := own_shape hO
      have v2 : wr.cell? ⟨w.heap.size + 1 + 1, 0, none⟩ = some (.slice none 0 0) := (hB.cell (p := ⟨w.heap.size + 1 + 1, 0, none⟩) (by show w.heap.size + 1 + 1 < _; omega)).trans x2
      have v3 : wr.cell? ⟨w.heap.size + 1 + 1, 1, none⟩ = some (.int .i64 0) := (hB.cell (p := ⟨w.heap.size + 1 + 1, 1, none⟩) (by show w.heap.size + 1 + 1 < _; omega)).trans x3
      have v4 : ∀ o, wr.frozen? ⟨w.heap.size + 1 + 1, o, none⟩ = false := fun o => (hB.frozen (p := ⟨w.heap.size + 1 + 1, o, none⟩) (by show w.heap.size + 1 + 1 < _; omega)).trans (x4 o)
      clear hO hO2 hB x0 x1 x2 x3 x4 x5 x6 x7 h1 hk ht hlen
      go_wp2_with fail
      refine bodyPost_ret (v := .agg #[.slice au k cu, .int .i64 (ka * c + kb * d)]) (by simp [results, Tryd.results45, go_sem, v2, v3]) rfl ⟨_, rfl, ?_, (HB0.out.setCell (by simp; omega) _).setCell (by simp; omega) _⟩
      exact HOr.out.setBoth (by omega) _ (by omega) _ _
end Go.Proofs.YtbbglendddepfaaDoor

namespace Go.Proofs.YtbbglendddepfaaDoor
open Go.RowKit Go.Deep

set_option maxHeartbeats 6400000 in
theorem mix_empty {w : World} {a a' : Option Addr} {cap cap' : Nat} (c ka d kb : Int) (hka : facB ka = true) (hkb : facB kb = true)
    (hs : smR ([], c) = true) (hs' : smR ([], d) = true) :
    Calls Tryd.prog 45 #[.agg #[.slice a 0 cap, .int .i64 c], .int .i64 ka, .agg #[.slice a' 0 cap', .int .i64 d], .int .i64 kb] w fun e w' => ∃ u, e = .returned (.agg #[u, .int .i64 (ka * c + kb * d)]) ∧ OwnV w.heap.size w' u ([]) ∧ Below w.heap.size w w' := by
  have hm1 := mul_fac hka (smR_true.1 hs).2
  have hm2 := mul_fac hkb (smR_true.1 hs').2
  have e1 : IntKind.i64.wrap (ka * c) = ka * c := IntWalk.i64_in _ (by omega)
  have e2 : IntKind.i64.wrap (kb * d) = kb * d := IntWalk.i64_in _ (by omega)
  have e3 : IntKind.i64.wrap (ka * c + kb * d) = ka * c + kb * d := IntWalk.i64_in _ (by omega)
  clear hm1 hm2
  go_enter Tryd.func45, Tryd.ntmps45
  go_wp2_with fail
  obtain ⟨w2, hw2⟩ : ∃ W : World, W = ((w.alloc (.cells #[.slice a 0 cap, .int .i64 c] 39)).alloc (.cells #[.slice a' 0 cap', .int .i64 d] 39)).alloc (.cells #[.slice none 0 0, .int .i64 0] 39) := ⟨_, rfl⟩
  obtain ⟨W, hW⟩ : ∃ W : World, W = w2.alloc (.cells #[.slice none 0 0, .int .i64 (ka * c + kb * d)] 39) := ⟨_, rfl⟩
  obtain ⟨f1, f2, f3, f4, l2, hB2⟩ := boxes3 (w2 := w2) (by rw [← hw2]; exact Below.refl _ _)
  have hn3 : w.heap.size + 1 + 1 + 1 = w2.heap.size := by rw [hw2]; simp
  rw [← hw2, ← hW]
  have hB := allocBelow w2 (.cells #[.slice none 0 0, .int .i64 (ka * c + kb * d)] 39)
  rw [← hW] at hB
  have x0 : W.cell? ⟨w.heap.size, 0, none⟩ = some (.slice a 0 cap) := keep1 (f1 0) hB
  have x1 : W.cell? ⟨w.heap.size + 1, 0, none⟩ = some (.slice a' 0 cap') := keep1 (f2 0) hB
  have x2 : W.cell? ⟨w.heap.size + 1 + 1, 0, none⟩ = some (.slice none 0 0) := keep1 (f3 0) hB
  have x3 : W.cell? ⟨w.heap.size + 1 + 1, 1, none⟩ = some (.int .i64 0) := keep1 (f3 1) hB
  have x4 : ∀ o, W.frozen? ⟨w.heap.size + 1 + 1, o, none⟩ = false := fun o => (hB.frozen (p := ⟨w.heap.size + 1 + 1, o, none⟩) l2).trans (f4 o)
  have x5 : W.cell? ⟨w.heap.size + 1 + 1 + 1, 0, none⟩ = some (.slice none 0 0) := by rw [hW]; exact new_cell _ _ _ 0 hn3
  have x6 : W.cell? ⟨w.heap.size + 1 + 1 + 1, 1, none⟩ = some (.int .i64 (ka * c + kb * d)) := by rw [hW]; exact new_cell _ _ _ 1 hn3
  have x7 : ∀ o, W.frozen? ⟨w.heap.size + 1 + 1 + 1, o, none⟩ = false := fun o => by rw [hW]; exact new_frz _ _ _ o hn3
  have HB := hid0 (thenBelow hB2 hB)
  have hWs : w.heap.size + 1 + 1 + 1 < W.heap.size := cell_lt x5
  clear hW hw2 f1 f2 f3 f4 l2 hB2 hB hn3
  have l2 : w.heap.size + 1 + 1 < W.heap.size := by omega
  have l1 : w.heap.size + 1 < W.heap.size := by omega
  have l0 : w.heap.size < W.heap.size := by omega
  refine wp_loop_rounds 1 ?_
  rw [rounds_succ]
  go_wp2_with fail
  exact bodyPost_ret (v := .agg #[.slice none 0 0, .int .i64 (ka * c + kb * d)]) (by simp [results, Tryd.results45, go_sem, x2, x3]) rfl ⟨_, rfl, .inl ⟨rfl, rfl⟩, (HB.out.setCell (by simp; omega) _).setCell (by simp; omega) _⟩

theorem mix_any {lo lo' : Nat} {w : World} {v v' : Value} {xs ys : List Int} (c ka d kb : Int) (h : IsInts lo w v xs) (h' : IsInts lo' w v' ys) (hl : xs.length = ys.length) (hn : xs.length ≤ 96) (hka : facB ka = true) (hkb : facB kb = true) (hs : smR (xs, c) = true) (hs' : smR (ys, d) = true) :
    Calls Tryd.prog 45 #[.agg #[v, .int .i64 c], .int .i64 ka, .agg #[v', .int .i64 d], .int .i64 kb] w fun e w' => ∃ u, e = .returned (.agg #[u, .int .i64 (ka * c + kb * d)]) ∧ OwnV w.heap.size w' u (sumL ka kb xs ys) ∧ Below w.heap.size w w' := by
  obtain ⟨a, cap, rfl, _, _, _, hc⟩ := h
  obtain ⟨a', cap', rfl, _, _, _, hc'⟩ := h'
  rcases hc with rfl | ⟨b, off, rfl, _, hb, hc⟩
  · obtain rfl : ys = [] := List.eq_nil_of_length_eq_zero (by rw [← hl]; rfl)
    exact mix_empty c ka d kb hka hkb hs hs'
  · rcases hc' with rfl | ⟨b', off', rfl, _, hb', hc'⟩
    · obtain rfl : xs = [] := List.eq_nil_of_length_eq_zero (by rw [hl]; rfl)
      exact mix_empty c ka d kb hka hkb hs hs'
    · rw [← hl]
      exact mix_full c ka d kb rfl hl.symm hn hka hkb hs hs' hb hb' hc (fun i hi => hc' i (by omega))
end Go.Proofs.YtbbglendddepfaaDoor

namespace Go.Proofs.YtbbglendddepfaaDoor
open Go.RowKit Go.Deep
/-- What is new is that no more. -/
theorem wk_stripB {h : AHeap} {t : ATm} (k : Nat) {T : TypeId} {cs ds : List AV} (hk : h k = some (.box T cs)) (hd : cs.map AV.unfr = ds) : Wk h t (fun j => if j = k then some (.box T ds) else h j) t := by
  subst hd
  intro J w0 ρ a w s
  refine ⟨ρ, s.wf, s.hH, s.bel, s.inv, fun j X hj => ?_, fun j hl hj => ?_, s.pin, s.tl, s.tm, s.df⟩
  · by_cases e : j = k
    · subst e
      rw [if_pos rfl] at hj
      cases hj
      obtain ⟨nm, g1, b, c, n, vs, q0, q1, q2, q3⟩ := s.hp j _ hk
      refine ⟨nm, g1, b, c, n, vs, q0, q1, by simpa using q2, fun i hi => ?_⟩
      have := q3 i (by simpa using hi)
      rw [List.getElem_map]
      generalize cs[i]'(by simpa using hi) = X at this
      cases X with
      | fr X =>
        cases this with
        | pu h => exact .pu h.strip
      | _ => exact this
    · rw [if_neg e] at hj
      exact s.hp j X hj
  · by_cases e : j = k
    · rw [if_pos e] at hj; cases hj
    · rw [if_neg e] at hj; exact s.dom j hl hj
namespace Elm
variable {J : World → Prop}
def axR (p m : Nat) (c : Int) : List Int := (List.replicate p (0 : Int)).set m c
theorem axR_len (p m : Nat) (c : Int) : (axR p m c).length = p := by simp [axR]
theorem axR_zero (p : Nat) : List.replicate p (AV.v (.int .i64 0)) = (List.replicate p (0 : Int)).map iv := by simp [iv]
theorem axR_step {p m : Nat} {c : Int} : setAll ((List.replicate p (0 : Int)).map iv) m [iv c] = (axR p m c).map iv := by
  unfold axR
  rw [List.map_set]
  rfl
def cf (m : Nat) (r : Rw) : Int := r.1.getD m 0
theorem cf_at {m : Nat} {r : Rw} (h : m < r.1.length) : r.1[m] = cf m r := by unfold cf; rw [List.getD_eq_getElem?_getD, List.getElem?_eq_getElem h]; rfl
def oth (m : Nat) (rs : List Rw) : List Rw := rs.filter fun r => decide (cf m r = 0)
def lowT (m : Nat) (rs : List Rw) : List Rw := rs.filter fun r => decide (0 < cf m r)
def upp (m : Nat) (rs : List Rw) : List Rw := rs.filter fun r => decide (cf m r < 0)
def low (p m : Nat) (rs : List Rw) : List Rw := (axR p m 1, 0) :: lowT m rs
section
variable {p m k : Nat} {rs : List Rw}
theorem fil_yes {q : Rw → Bool} (hk : k < rs.length) (h : q rs[k] = true) : (rs.take (k + 1)).filter q = (rs.take k).filter q ++ [rs[k]] := by
  rw [List.take_succ_eq_append_getElem hk, List.filter_append]; simp [h]
theorem fil_no {q : Rw → Bool} (hk : k < rs.length) (h : q rs[k] = false) : (rs.take (k + 1)).filter q = (rs.take k).filter q := by
  rw [List.take_succ_eq_append_getElem hk, List.filter_append]; simp [h]
theorem st_z (hk : k < rs.length) (hm : m < rs[k].1.length) (h : rs[k].1[m] = 0) : oth m (rs.take (k + 1)) = oth m (rs.take k) ++ [rs[k]] ∧ low p m (rs.take (k + 1)) = low p m (rs.take k) ∧ upp m (rs.take (k + 1)) = upp m (rs.take k) := by
  rw [cf_at hm] at h
  exact ⟨fil_yes hk (by simp [h]), congrArg (List.cons (axR p m 1, (0 : Int))) (fil_no hk (by simp [h])), fil_no hk (by simp [h])⟩
theorem st_p (hk : k < rs.length) (hm : m < rs[k].1.length) (h : ¬ rs[k].1[m] = 0) (h' : 0 < rs[k].1[m]) : oth m (rs.take (k + 1)) = oth m (rs.take k) ∧ low p m (rs.take (k + 1)) = low p m (rs.take k) ++ [rs[k]] ∧ upp m (rs.take (k + 1)) = upp m (rs.take k) := by
  rw [cf_at hm] at h h'
  refine ⟨fil_no hk (by simp [h]), ?_, fil_no hk (by simp; omega)⟩
  unfold low lowT
  rw [fil_yes hk (by simp [h']), List.cons_append]
theorem st_n (hk : k < rs.length) (hm : m < rs[k].1.length) (h : ¬ rs[k].1[m] = 0) (h' : ¬ 0 < rs[k].1[m]) : oth m (rs.take (k + 1)) = oth m (rs.take k) ∧ low p m (rs.take (k + 1)) = low p m (rs.take k) ∧ upp m (rs.take (k + 1)) = upp m (rs.take k) ++ [rs[k]] := by
  rw [cf_at hm] at h h'
  exact ⟨fil_no hk (by simp [h]), congrArg (List.cons (axR p m 1, (0 : Int))) (fil_no hk (by simp; omega)), fil_yes hk (by simp; omega)⟩
theorem oth_len : (oth m rs).length ≤ rs.length := List.length_filter_le _ _
theorem upp_len : (upp m rs).length ≤ rs.length := List.length_filter_le _ _
theorem low_len : (low p m rs).length ≤ rs.length + 1 := by
  have : (lowT m rs).length ≤ rs.length := List.length_filter_le _ _
  simp only [low, List.length_cons]; omega
end
def mulE (p m : Nat) (rs : List Rw) : Int := ((low p m rs).length : Int) * (upp m rs).length
def szE (p m : Nat) (rs : List Rw) : Int := (oth m rs).length + mulE p m rs
theorem mulE_le {p m : Nat} {rs : List Rw} (hl : rs.length ≤ 250) : 0 ≤ mulE p m rs ∧ mulE p m rs ≤ 62750 := by
  have h1 := low_len (p := p) (m := m) (rs := rs)
  have h2 := upp_len (m := m) (rs := rs)
  have h3 : (low p m rs).length * (upp m rs).length ≤ 251 * 250 := Nat.mul_le_mul (by omega) (by omega)
  have e : mulE p m rs = (((low p m rs).length * (upp m rs).length : Nat) : Int) := by unfold mulE; rw [Int.natCast_mul]
  rw [e]
  constructor <;> omega
theorem wrap_mul {p m : Nat} {rs : List Rw} (hl : rs.length ≤ 250) : IntKind.i64.wrap (((low p m rs).length : Int) * ((upp m rs).length : Nat)) = mulE p m rs := by
  have := mulE_le (p := p) (m := m) hl
  exact w64 rfl (by omega) (by omega)
theorem wrap_sz {p m : Nat} {rs : List Rw} (hl : rs.length ≤ 250) : IntKind.i64.wrap (((oth m rs).length : Int) + mulE p m rs) = szE p m rs := by
  have := mulE_le (p := p) (m := m) hl
  have h1 := oth_len (m := m) (rs := rs)
  exact w64 rfl (by unfold szE; omega) (by unfold szE; omega)
/-- The multiples. -/
def gE (m : Nat) (l u : Rw) : Int := Int.gcd (cf m l) (-cf m u)
def kA (m : Nat) (l u : Rw) : Int := (cf m l).tdiv (gE m l u)
def kB (m : Nat) (l u : Rw) : Int := (-cf m u).tdiv (gE m l u)
def mixR (m : Nat) (l u : Rw) : Rw := (sumL (kB m l u) (kA m l u) l.1 u.1, kB m l u * l.2 + kA m l u * u.2)
def okE (m : Nat) (l u : Rw) : Bool := !decide (65536 < kA m l u) && !decide (65536 < kB m l u) && smR (mixR m l u)
def cnE (m : Nat) (l u : Rw) : Int := if okE m l u = true then 0 else 4
def cnR (m : Nat) (l u : Rw) : Rw := if okE m l u = true then mixR m l u else ([], 0)
/-- Two rows that can be joined. -/
structure Pair (m : Nat) (l u : Rw) : Prop where
  lm : m < l.1.length
  um : m < u.1.length
  e : l.1.length = u.1.length
  n : l.1.length ≤ 96
  sl : smR l = true
  su : smR u = true
  pos : 0 < cf m l
  neg : cf m u < 0
section
variable {m : Nat} {l u : Rw}
theorem sm_ok {r : Rw} (h : smR r = true) : RwOk r := by
  obtain ⟨h1, h2⟩ := smR_true.1 h
  exact ⟨fun x hx => smB_I64 (List.all_eq_true.1 h1 x hx), smB_I64 h2⟩
theorem sm_at {r : Rw} (h : smR r = true) (hm : m < r.1.length) : smB r.1[m] = true := List.all_eq_true.1 (smR_true.1 h).1 _ (List.getElem_mem hm)
theorem Pair.sa (P : Pair m l u) : smB (cf m l) = true := by rw [← cf_at P.lm]; exact sm_at P.sl P.lm
theorem Pair.sb (P : Pair m l u) : smB (cf m u) = true := by rw [← cf_at P.um]; exact sm_at P.su P.um
theorem Pair.g1 (P : Pair m l u) : 1 ≤ gE m l u := by
  unfold gE
  have : Int.gcd (cf m l) (-cf m u) ≠ 0 := fun e => by have := (Int.gcd_eq_zero_iff.1 e).1; have := P.pos; omega
  omega
theorem tdiv_in {x g : Int} (hx : 0 < x) (hg : 1 ≤ g) (hx' : x ≤ 68719476736) : 0 ≤ x.tdiv g ∧ x.tdiv g ≤ 68719476736 :=
  ⟨Int.tdiv_nonneg (by omega) (by omega), (tdiv_small (smB_true.2 ⟨by omega, hx'⟩)).2⟩
theorem Pair.ka (P : Pair m l u) : 0 ≤ kA m l u ∧ kA m l u ≤ 68719476736 := tdiv_in P.pos P.g1 (smB_true.1 P.sa).2
theorem Pair.kb (P : Pair m l u) : 0 ≤ kB m l u ∧ kB m l u ≤ 68719476736 := tdiv_in (by have := P.neg; omega) P.g1 (by have := (smB_true.1 P.sb).1; omega)
theorem Pair.wa (P : Pair m l u) : IntKind.i64.wrap ((cf m l).tdiv (gE m l u)) = kA m l u := w64 rfl (by have := P.ka; omega) (by have := P.ka; omega)
theorem Pair.wb (P : Pair m l u) : IntKind.i64.wrap ((-cf m u).tdiv (gE m l u)) = kB m l u := w64 rfl (by have := P.kb; omega) (by have := P.kb; omega)
theorem gcd_c (P : Pair m l u) : Ctr Tryd.prog J 70 [iv (cf m l), iv (-cf m u)] (iv (gE m l u)) := ctr2 fun w v v' _ h h' => by
  rw [h.v_inv, h'.v_inv]
  exact (gcd_any _ _ w P.sa (smB_neg P.sb)).mono fun _ _ => ret_sc
theorem rgcd_c (P : Pair m l u) : Ctr Tryd.prog J 44 [iv (cf m l), iv (-cf m u)] (iv (gE m l u)) := ctr2 fun w v v' _ h h' => by
  rw [h.v_inv, h'.v_inv]
  have h1 := smB_true.1 P.sa
  have h2 := smB_true.1 P.sb
  have := P.pos
  have := P.neg
  have e1 : cf m l = (((cf m l).natAbs : Nat) : Int) := by omega
  have e2 : -cf m u = (((-cf m u).natAbs : Nat) : Int) := by omega
  have := rgcd_any (cf m l).natAbs (-cf m u).natAbs w (by omega) (by omega)
  rw [← e1, ← e2] at this
  exact this.mono fun _ _ => ret_sc
theorem Pair.fa (P : Pair m l u) (h : ¬ 65536 < kA m l u) : facB (kA m l u) = true := facB_true.2 ⟨P.ka.1, by omega⟩
theorem Pair.fb (P : Pair m l u) (h : ¬ 65536 < kB m l u) : facB (kB m l u) = true := facB_true.2 ⟨P.kb.1, by omega⟩
theorem ok_eq (h1 : ¬ 65536 < kA m l u) (h2 : ¬ 65536 < kB m l u) : okE m l u = smR (mixR m l u) := by unfold okE; simp [h1, h2]
theorem ownV {F : Nat → Prop} {lo : Nat} {w : World} {v : Value} {xs : List Int} (h : OwnV lo w v xs) : Pu F w (nw w lo) (intsA xs) v := by
  rcases h with ⟨rfl, rfl⟩ | ⟨g, cap, rfl, hl, hm, h1, h2, h3, cur, t, hg, hc⟩
  · exact .sl0 (by simp [maxLen]) (by simp)
  · refine .sl (b := g) (off := 0) (f := fun j => .int .i64 (xs.getD j 0)) (by simp) hl hm ⟨h1, _, _, hg⟩ (Array.getElem?_eq_some_iff.1 hg).1 (fun j hj => ?_) fun j hj => ?_
    · have hj' : j < xs.length := by simpa using hj
      rw [Nat.zero_add, cellB hg j (v := .int .i64 (xs.getD j 0)) (hc j hj')]
    · have hj' : j < xs.length := by simpa using hj
      simp only [List.getElem_map, List.getD_eq_getElem?_getD, List.getElem?_eq_getElem hj', Option.getD_some]
      exact .v _
theorem ownRow {lo : Nat} {w : World} {v : Value} {r : Rw} (h : OwnV lo w v r.1) : Pu (lo ≤ ·) w (nw w lo) (.agg (cRo r)) (.agg #[v, .int .i64 r.2]) :=
  .agg rfl fun j hj => (match j, hj with
    | 0, _ => ownV h
    | 1, _ => .v _)
theorem Combine_c (P : Pair m l u) (h1 : ¬ 65536 < kA m l u) (h2 : ¬ 65536 < kB m l u) :
    Ctr Tryd.prog J 71 [.agg (cRo l), iv (kB m l u), .agg (cRo u), iv (kA m l u)] (.tup [.agg (cRo (cnR m l u)), iv (cnE m l u)]) := fun w vs _ hl hv => by
  match vs, hl, hv with
  | ⟨[v0, v1, v2, v3]⟩, _, hv =>
    obtain ⟨x, rfl, hx⟩ := row_args (hv 0 (by simp))
    obtain ⟨y, rfl, hy⟩ := row_args (hv 2 (by simp))
    obtain rfl := (hv 1 (by simp)).v_inv
    obtain rfl := (hv 3 (by simp)).v_inv
    have e1 : comE l.1 l.2 (kB m l u) u.1 u.2 (kA m l u) = cnE m l u := by
      unfold comE cnE
      rw [if_neg (by rw [P.fa h1, P.fb h2]; have := P.e; have := P.n; simp; omega), if_neg (by rw [show smR (l.1, l.2) = true from P.sl, show smR (u.1, u.2) = true from P.su]; simp), ok_eq h1 h2]
      rfl
    have e2 : (comX l.1 l.2 (kB m l u) u.1 u.2 (kA m l u), comC l.1 l.2 (kB m l u) u.1 u.2 (kA m l u)) = cnR m l u := by
      unfold comX comC cnR
      rw [e1]
      unfold cnE
      by_cases h : okE m l u = true
      · simp [h, mixR]
      · simp [h]
    refine (Combine_any l.2 (kB m l u) u.2 (kA m l u) (pu_ints (sm_ok P.sl).coef lo00 hx) (pu_ints (sm_ok P.su).coef lo00 hy)).mono fun e w' ⟨u', he, ho, hb⟩ => ⟨_, he, ?_, hb⟩
    rw [e1]
    have e3 := congrArg Prod.fst e2
    have e4 := congrArg Prod.snd e2
    dsimp only at e3 e4
    rw [e3] at ho
    rw [e4]
    exact .tup rfl fun j hj => (match j, hj with
      | 0, _ => ownRow ho
      | 1, _ => .v _)
theorem mix_c (P : Pair m l u) (h1 : ¬ 65536 < kA m l u) (h2 : ¬ 65536 < kB m l u) :
    Ctr Tryd.prog J 45 [.agg (cRo l), iv (kB m l u), .agg (cRo u), iv (kA m l u)] (.agg (cRo (mixR m l u))) := fun w vs _ hl hv => by
  match vs, hl, hv with
  | ⟨[v0, v1, v2, v3]⟩, _, hv =>
    obtain ⟨x, rfl, hx⟩ := row_args (hv 0 (by simp))
    obtain ⟨y, rfl, hy⟩ := row_args (hv 2 (by simp))
    obtain rfl := (hv 1 (by simp)).v_inv
    obtain rfl := (hv 3 (by simp)).v_inv
    exact (mix_any l.2 (kB m l u) u.2 (kA m l u) (pu_ints (sm_ok P.sl).coef lo00 hx) (pu_ints (sm_ok P.su).coef lo00 hy) P.e P.n (P.fb h2) (P.fa h1) P.sl P.su).mono fun e w' ⟨u', he, ho, hb⟩ => ⟨_, he, ownRow (r := mixR m l u) ho, hb⟩
theorem mixI (P : Pair m l u) (h1 : ¬ 65536 < kA m l u) (h2 : ¬ 65536 < kB m l u) : RwOk (mixR m l u) := by
  obtain ⟨a1, a2⟩ := smR_true.1 P.sl
  obtain ⟨b1, b2⟩ := smR_true.1 P.su
  have f1 := mul_fac (P.fb h2) a2
  have f2 := mul_fac (P.fa h1) b2
  exact ⟨sumL_I64 (P.fb h2) (P.fa h1) a1 b1, by unfold I64; simp only [mixR]; omega⟩
theorem rSmall_c {r : Rw} (H : RwOk r) : Ctr Tryd.prog J 46 [.agg (cRo r)] (bv (smR r)) := ctr1 fun w v _ h => by
  obtain ⟨x, rfl, hx⟩ := row_args h
  exact (rSmall_any r.2 (pu_ints H.coef lo00 hx)).mono fun _ _ => ret_sc
theorem mix_len (P : Pair m l u) : (mixR m l u).1.length = l.1.length := by
  have := P.e
  simp [mixR, sumL]; omega
theorem cn_err (h : 65536 < kA m l u ∨ 65536 < kB m l u) : AV.tup [.agg [.sl 1 0 [], iv 0], iv 4] = .tup [.agg (cRo (cnR m l u)), iv (cnE m l u)] := by
  have : okE m l u = false := by
    unfold okE
    rcases h with h | h <;> simp [h]
  unfold cnR cnE
  rw [this]
  rfl
end
theorem cellRp (r : Rw) : ∀ d ∈ cRo r, d.cell = true := fun d hd => by
  simp only [cRo, List.mem_cons, List.not_mem_nil, or_false] at hd; rcases hd with rfl | rfl <;> rfl
theorem snocRp {xs : List Rw} {r : Rw} : xs.flatMap cRo ++ rowCells false (cRo r) = (xs ++ [r]).flatMap cRo := by
  rw [List.flatMap_append]
  simp [rowCells, cRo]
end Elm
end Go.Proofs.YtbbglendddepfaaDoor

namespace Go.Proofs.YtbbglendddepfaaDoor
open Go.RowKit Go.Deep
variable {J : World → Prop}
set_option linter.unusedSimpArgs false in
set_option linter.unusedVariables false in
set_option maxRecDepth 100000 in
set_option maxHeartbeats 6400000 in
theorem axisRow_c {p m : Nat} {c d : Int} (hp : p ≤ 96) (hm : m < p) : Ctr Tryd.prog J 69 [iv p, iv m, iv c, iv d] (.agg (cRo (Elm.axR p m c, d))) := by
 refine ctr_of_tri Tryd.func69 rfl (by intro X hX; simp only [List.mem_cons, List.not_mem_nil, or_false] at hX; rcases hX with rfl | rfl | rfl | rfl; exact .v _; exact .v _; exact .v _; exact .v _) (n := 20) rfl (by simp) (fun w0 => ?_)
 refine kW 20 [] [(0, iv p), (1, iv m), (2, iv c), (3, iv d)] ?_
 refine tri_seq ?_
 refine tri_region ?_
 refine t_op rfl (sp_alloc (z := .agg #[.slice none 0 0, .int .i64 0]) (k := 1) rfl (by kernel_rfl)) T0 T0 rfl ?_
 refine kN 20 [(1, .box 39 [.v (.slice none 0 0), iv 0])] [(0, iv p), (1, iv m), (2, iv c), (3, iv d), (8, .box 1 0)] ?_
 refine t_then ?_
 refine tri_seq ?_
 refine tri_region ?_
 refine oA (sp_move (.tmp 0) (iv p) rfl) I0 ?_
 refine t_op rfl (sp_make (k := 2) (n := p) (zv := .int .i64 0) true rfl Tryd.underlying25 (by kernel_rfl) rfl (by first | (show 8 * p ≤ _; omega) | omega) (by first | (show 8 * p ≤ _; omega) | omega) (cs := ((List.replicate p (0 : Int)).map iv)) (Elm.axR_zero p)) ⟨I0, I0, T0⟩ T0 rfl ?_
 refine oA (sp_move (.tmp 3) (iv d) rfl) I0 ?_
 refine oC (sp_bldN [0, 1] [.tmp 11, .tmp 12] [.own 2, iv d] [.inr 0, .inr 1] rfl rfl rfl rfl rfl (fun _ => by kernel_rfl) rfl (ds := [.own 2, iv d]) rfl) I0 I0 ?_
 refine t_op rfl (sp_alloc (z := .agg #[.slice none 0 0, .int .i64 0]) (k := 3) rfl (by kernel_rfl)) T0 T0 rfl ?_
 refine t_op rfl (sp_storeBox (T0 := 39) (X := .agg [.own 2, iv d]) (cs := [.v (.slice none 0 0), iv 0]) (ds := [.own 2, iv d]) (z := 2) (.tmp 9) (.tmp 13) rfl (by kernel_rfl) (by kernel_rfl) (by kernel_rfl) (of_decide_eq_true (by kernel_rfl)) (by kernel_rfl)) ⟨I0, I0, T0⟩ ⟨rfl, T0⟩ rfl ?_
 refine kN 20 [(1, .box 39 [.v (.slice none 0 0), iv 0]), (2, .row true 3 1 p ((List.replicate p (0 : Int)).map iv)), (3, .box 39 [.own 2, iv d])] [(1, iv m), (2, iv c), (8, .box 1 0), (9, .box 3 0)] ?_
 refine t_then ?_
 refine tri_seq ?_
 refine tri_region ?_
 refine oA (fB 0 (.tmp 9) rfl Tryd.underlying39 rfl 1 rfl) I0 ?_
 refine oB (lB (.box 39 [.own 2, iv d]) (.own 2) (.tmp 14) rfl Tryd.underlying25 rfl rfl) I0 rfl ?_
 refine oA (sp_move (.tmp 1) (iv m) rfl) I0 ?_
 refine oA (sp_move (.tmp 2) (iv c) rfl) I0 ?_
 refine t_op rfl (sp_indexOwn (off := m * 1) (.tmp 15) (.tmp 16) rfl Tryd.underlying25 (by kernel_rfl) (by omega) (by omega) rfl) ⟨I0, I0, T0⟩ ⟨rfl, T0⟩ T0 ?_
 refine t_op rfl (sp_storeRow (X := iv c) (off := m * 1) (cs := ((List.replicate p (0 : Int)).map iv)) (ds := ((Elm.axR p m c).map iv)) (zz := 1) (.tmp 18) (.tmp 17) rfl (by kernel_rfl) (by kernel_rfl) (fun _ d hd => by simp only [AV.cellsOf, List.mem_cons, List.not_mem_nil, or_false] at hd; subst hd; rfl) (by kernel_rfl) (by simp; omega) (by rw [Nat.mul_one]; exact Elm.axR_step)) ⟨I0, I0, T0⟩ ⟨rfl, T0⟩ rfl ?_
 refine kN 20 [(1, .box 39 [.v (.slice none 0 0), iv 0]), (2, .row true 3 1 p ((Elm.axR p m c).map iv)), (3, .box 39 [.own 2, iv d])] [(8, .box 1 0), (9, .box 3 0)] ?_
 refine t_then ?_
 refine tri_seq ?_
 refine tri_region ?_
 refine oB (sp_loadBoxS (Y := .box 39 [.own 2, iv d]) (ds := [.own 2, iv d]) (z := 2) (.tmp 9) rfl Tryd.underlying39 rfl (by kernel_rfl) (by decide) (by kernel_rfl) (by kernel_rfl)) I0 rfl ?_
 refine t_op rfl (sp_storeBox (T0 := 39) (X := .agg [.own 2, iv d]) (cs := [.v (.slice none 0 0), iv 0]) (ds := [.own 2, iv d]) (z := 2) (.tmp 8) (.tmp 19) rfl (by kernel_rfl) (by kernel_rfl) (by kernel_rfl) (of_decide_eq_true (by kernel_rfl)) (by kernel_rfl)) ⟨I0, I0, T0⟩ ⟨rfl, T0⟩ rfl ?_
 refine kN 20 [(1, .box 39 [.own 2, iv d]), (2, .row true 3 1 p ((Elm.axR p m c).map iv))] [(8, .box 1 0)] ?_
 refine t_then ?_
 refine tri_ret ?_
 refine tri_end1 Tryd.results69 (.cellS rfl rfl Tryd.underlying39 rfl (z := 2) (by kernel_rfl) rfl (by decide)) ?_
 exact congrArg (fun q => AV.agg [.sl 1 q ((Elm.axR p m c).map iv), iv d]) (Elm.axR_len p m c).symm
set_option linter.unusedSimpArgs false in
set_option linter.unusedVariables false in
set_option maxRecDepth 100000 in
set_option maxHeartbeats 6400000 in
theorem bounds_L {p m : Nat} {rs : List Rw} (hp : p ≤ 96) (hm : m < p) (hm2 : ∀ r ∈ rs, m < r.1.length) (hl : rs.length ≤ 250) (k : Nat) : CtrL Tryd.prog 42 [.agg (cSy ((p : Nat) : Int) rs), iv m] 24 [.int .i64 0, .slice none 0 0] k (.row false 39 2 ((Elm.oth m rs).length) ((Elm.oth m rs).flatMap cRo)) (.tup [.own k, .sl 2 (Elm.low p m rs).length ((Elm.low p m rs).flatMap cRo), .sl 2 (Elm.upp m rs).length ((Elm.upp m rs).flatMap cRo)]) := by
 refine ctrL_of_tri Tryd.func42 rfl (by intro X hX; simp only [List.mem_cons, List.not_mem_nil, or_false] at hX; rcases hX with rfl | rfl; exact plain_agg (plain_sy _ rs); exact .v _) (n := 51) rfl (by simp) (fun w0 g hg => ?_)
 refine kW 51 [(1000000, .box 24 [iv 0, .v (.slice none 0 0)])] [(0, .agg (cSy ((p : Nat) : Int) rs)), (1, iv m)] ?_
 refine tri_seq ?_
 refine tri_region ?_
 refine oA (sp_boxR (X := .agg (cSy ((p : Nat) : Int) rs)) (.tmp 0) rfl rfl rfl) I0 ?_
 refine oA (sp_assign (.const (.slice none 0 0)) (.v (.slice none 0 0)) rfl) I0 ?_
 refine oA (sp_assign (.const (.slice none 0 0)) (.v (.slice none 0 0)) rfl) I0 ?_
 refine oA (sp_assign (.const (.slice none 0 0)) (.v (.slice none 0 0)) rfl) I0 ?_
 refine kN 51 [(1000000, .box 24 [iv 0, .v (.slice none 0 0)])] [(1, iv m), (2, .el (cSy ((p : Nat) : Int) rs) 0), (4, .v (.slice none 0 0)), (5, .v (.slice none 0 0)), (6, .v (.slice none 0 0))] ?_
 refine t_then ?_
 refine tri_seq ?_
 refine tri_region ?_
 refine oA (sp_move (.tmp 5) (.v (.slice none 0 0)) rfl) I0 ?_
 refine oA (sp_fieldEl (off' := 0) (.tmp 2) rfl Tryd.underlying24 rfl (z := 1) (by kernel_rfl) (by decide) rfl) I0 ?_
 refine oA (sp_loadEl1 (X := iv p) (.tmp 11) rfl Tryd.underlying3 rfl rfl) I0 ?_
 refine oA (sp_move (.tmp 1) (iv m) rfl) I0 ?_
 refine t_op rfl (sp_call (c := .func 69) (xs := #[.tmp 12, .tmp 13, .const (.int .i64 1), .const (.int .i64 0)]) [] (axisRow_c hp hm) rfl (by kernel_rfl) rfl (Xs := [iv p, iv m, iv 1, iv 0]) rfl rfl rfl) ⟨I0, I0, I0, I0, I0, T0⟩ T0 T0 ?_
 refine t_op rfl (sp_build (z := 2) (k := 1) (fr := false) (cs := [intsA ((Elm.axR p m 1, (0 : Int)).1), iv ((Elm.axR p m 1, (0 : Int)).2)]) [.tmp 14] [.agg (cRo (Elm.axR p m 1, (0 : Int)))] rfl Tryd.underlying22 (by kernel_rfl) (by decide) (by decide) rfl rfl rfl (by kernel_rfl) (by decide) (fun h => Bool.noConfusion h) (by kernel_rfl)) ⟨.inr (.inl rfl), T0⟩ T0 rfl ?_
 refine t_op rfl (sp_appendNilOwn (m := 1) (ds := [intsA ((Elm.axR p m 1, (0 : Int)).1), iv ((Elm.axR p m 1, (0 : Int)).2)]) (⟨Tryd.underlying22, by kernel_rfl, by decide⟩ : Elt Tryd.prog 22 39 2 32) (k := 2) false (.tmp 10) (.tmp 15) rfl (fun h => Bool.noConfusion h) (by unfold maxLen; omega) (by omega) (Elm.cellRp _) (es := (([] : List AV) ++ cRo (Elm.axR p m 1, (0 : Int)))) rfl) ⟨I0, I0, T0⟩ ⟨rfl, T0⟩ rfl ?_
 refine oA (sp_assign (.tmp 16) (.own 2) rfl) I0 ?_
 refine kN 51 [(2, .row false 39 2 (0 + 1) (([] : List AV) ++ cRo (Elm.axR p m 1, (0 : Int)))), (1000000, .box 24 [iv 0, .v (.slice none 0 0)])] [(1, iv m), (2, .el (cSy ((p : Nat) : Int) rs) 0), (4, .v (.slice none 0 0)), (5, .own 2), (6, .v (.slice none 0 0))] ?_
 refine t_then ?_
 refine tri_seq ?_
 refine tri_seq ?_
 refine tri_region ?_
 refine oA (sp_fieldEl (off' := 1) (.tmp 2) rfl Tryd.underlying24 rfl (z := 1) (by kernel_rfl) (by decide) rfl) I0 ?_
 refine oA (sp_loadEl1 (X := slA 2 cRo rs) (.tmp 17) rfl Tryd.underlying22 rfl rfl) I0 ?_
 refine oA (sp_lenSl (.tmp 18) rfl Tryd.underlying22) I0 ?_
 refine oA (sp_move (.const (.int .i64 0)) (iv 0) rfl) I0 ?_
 refine kN 51 [(2, .row false 39 2 (0 + 1) (([] : List AV) ++ cRo (Elm.axR p m 1, (0 : Int)))), (1000000, .box 24 [iv 0, .v (.slice none 0 0)])] [(1, iv m), (4, .v (.slice none 0 0)), (5, .own 2), (6, .v (.slice none 0 0)), (18, slA 2 cRo rs), (19, iv rs.length), (20, iv 0)] ?_
 refine t_then ?_
 refine tri_block ?_
 refine tri_wk (wk_adopt 4 3 false 39 2 rfl rfl rfl) ?_
 refine tri_wk (wk_adopt 6 4 false 39 2 rfl rfl rfl) ?_
 refine tri_loop (σ := {j : Nat // j ≤ rs.length}) (fun s => (ofL [(2, .row false 39 2 ((Elm.low p m (rs.take s.1)).length) ((Elm.low p m (rs.take s.1)).flatMap cRo)), (3, .row false 39 2 ((Elm.oth m (rs.take s.1)).length) ((Elm.oth m (rs.take s.1)).flatMap cRo)), (4, .row false 39 2 ((Elm.upp m (rs.take s.1)).length) ((Elm.upp m (rs.take s.1)).flatMap cRo)), (1000000, .box 24 [iv 0, .v (.slice none 0 0)])], ofT 51 [(1, iv m), (4, .own 3), (5, .own 2), (6, .own 4), (18, slA 2 cRo rs), (19, iv rs.length), (20, iv s.1)])) (fun s => rs.length - s.1) ⟨0, Nat.zero_le _⟩ (wk_keep _ _ rfl (by kernel_rfl) (by kernel_rfl)) (fun s => ?_)
 obtain ⟨j, hj0⟩ := s
 show ETri (fun _ => True) w0 (ofL [(2, .row false 39 2 ((Elm.low p m (rs.take j)).length) ((Elm.low p m (rs.take j)).flatMap cRo)), (3, .row false 39 2 ((Elm.oth m (rs.take j)).length) ((Elm.oth m (rs.take j)).flatMap cRo)), (4, .row false 39 2 ((Elm.upp m (rs.take j)).length) ((Elm.upp m (rs.take j)).flatMap cRo)), (1000000, .box 24 [iv 0, .v (.slice none 0 0)])]) (ofT 51 [(1, iv m), (4, .own 3), (5, .own 2), (6, .own 4), (18, slA 2 cRo rs), (19, iv rs.length), (20, iv j)]) _
 have l1 := Elm.oth_len (m := m) (rs := rs.take j)
 have l2 := Elm.low_len (p := p) (m := m) (rs := rs.take j)
 have l3 := Elm.upp_len (m := m) (rs := rs.take j)
 have l4 : (rs.take j).length ≤ j := List.length_take_le _ _
 refine tri_seq ?_
 by_cases hs1 : ((j : Nat) : Int) < ((rs.length : Nat) : Int)
 have hj1 : j < rs.length := by omega
 have hmj : m < rs[j].1.length := hm2 _ (List.getElem_mem hj1)
 refine tri_region ?_
 refine oC (sp_lss rfl (dT hs1)) I0 I0 ?_
 refine kN 51 [(2, .row false 39 2 ((Elm.low p m (rs.take j)).length) ((Elm.low p m (rs.take j)).flatMap cRo)), (3, .row false 39 2 ((Elm.oth m (rs.take j)).length) ((Elm.oth m (rs.take j)).flatMap cRo)), (4, .row false 39 2 ((Elm.upp m (rs.take j)).length) ((Elm.upp m (rs.take j)).flatMap cRo)), (1000000, .box 24 [iv 0, .v (.slice none 0 0)])] [(1, iv m), (4, .own 3), (5, .own 2), (6, .own 4), (18, slA 2 cRo rs), (19, iv rs.length), (20, iv j), (21, bv true)] ?_
 refine t_then ?_
 refine tri_seq ?_
 refine t_condT rfl ?_
 refine tri_skip ?_
 refine t_then ?_
 refine tri_seq ?_
 refine tri_block ?_
 refine tri_seq ?_
 refine tri_region ?_
 refine oC (sp_indexSl (off := j * 2) (.tmp 18) (.tmp 20) rfl Tryd.underlying22 (by kernel_rfl) (by omega) (by omega) rfl) I0 I0 ?_
 refine oA (sp_loadElS (z := 2) (.tmp 22) rfl Tryd.underlying39 rfl (by kernel_rfl) (flat_take lenRo rs j (by omega)) rfl) I0 ?_
 refine t_op rfl (sp_alloc (z := .agg #[.slice none 0 0, .int .i64 0]) (k := 5) rfl (by kernel_rfl)) T0 T0 rfl ?_
 refine t_op rfl (sp_storeBox (T0 := 39) (X := .agg (cRo rs[j])) (cs := [.v (.slice none 0 0), iv 0]) (ds := cRo rs[j]) (z := 2) (.tmp 8) (.tmp 23) rfl (by kernel_rfl) (by kernel_rfl) (by kernel_rfl) (of_decide_eq_true (by kernel_rfl)) (by kernel_rfl)) ⟨I0, I0, T0⟩ ⟨rfl, T0⟩ rfl ?_
 refine kN 51 [(2, .row false 39 2 ((Elm.low p m (rs.take j)).length) ((Elm.low p m (rs.take j)).flatMap cRo)), (3, .row false 39 2 ((Elm.oth m (rs.take j)).length) ((Elm.oth m (rs.take j)).flatMap cRo)), (4, .row false 39 2 ((Elm.upp m (rs.take j)).length) ((Elm.upp m (rs.take j)).flatMap cRo)), (5, .box 39 (cRo rs[j])), (1000000, .box 24 [iv 0, .v (.slice none 0 0)])] [(1, iv m), (4, .own 3), (5, .own 2), (6, .own 4), (8, .box 5 0), (18, slA 2 cRo rs), (19, iv rs.length), (20, iv j), (21, bv true)] ?_
 refine t_then ?_
 refine tri_seq ?_
 refine tri_region ?_
 refine oA (fB 0 (.tmp 8) rfl Tryd.underlying39 rfl 1 rfl) I0 ?_
 refine oB (lB (.box 39 (cRo rs[j])) (intsA rs[j].1) (.tmp 24) rfl Tryd.underlying25 rfl rfl) I0 rfl ?_
 refine oA (sp_move (.tmp 1) (iv m) rfl) I0 ?_
 refine oC (sp_indexSl (off := m * 1) (.tmp 25) (.tmp 26) rfl Tryd.underlying25 (by kernel_rfl) (by omega) (by omega) rfl) I0 I0 ?_
 refine oA (sp_loadEl1 (X := iv rs[j].1[m]) (.tmp 27) rfl Tryd.underlying3 rfl (map_at1 rs[j].1 (by omega))) I0 ?_
 refine oA (sp_assign (.tmp 28) (iv rs[j].1[m]) rfl) I0 ?_
 refine kN 51 [(2, .row false 39 2 ((Elm.low p m (rs.take j)).length) ((Elm.low p m (rs.take j)).flatMap cRo)), (3, .row false 39 2 ((Elm.oth m (rs.take j)).length) ((Elm.oth m (rs.take j)).flatMap cRo)), (4, .row false 39 2 ((Elm.upp m (rs.take j)).length) ((Elm.upp m (rs.take j)).flatMap cRo)), (5, .box 39 (cRo rs[j])), (1000000, .box 24 [iv 0, .v (.slice none 0 0)])] [(1, iv m), (4, .own 3), (5, .own 2), (6, .own 4), (8, .box 5 0), (9, iv rs[j].1[m]), (18, slA 2 cRo rs), (19, iv rs.length), (20, iv j), (21, bv true)] ?_
 refine t_then ?_
 refine tri_block ?_
 refine tri_seq ?_
 by_cases hs2 : rs[j].1[m] = 0
 refine tri_region ?_
 refine oA (sp_move (.tmp 9) (iv rs[j].1[m]) rfl) I0 ?_
 refine oC (sp_eql rfl (dT hs2)) I0 I0 ?_
 refine oA (sp_assign (.tmp 35) (bv true) rfl) I0 ?_
 refine kN 51 [(2, .row false 39 2 ((Elm.low p m (rs.take j)).length) ((Elm.low p m (rs.take j)).flatMap cRo)), (3, .row false 39 2 ((Elm.oth m (rs.take j)).length) ((Elm.oth m (rs.take j)).flatMap cRo)), (4, .row false 39 2 ((Elm.upp m (rs.take j)).length) ((Elm.upp m (rs.take j)).flatMap cRo)), (5, .box 39 (cRo rs[j])), (1000000, .box 24 [iv 0, .v (.slice none 0 0)])] [(1, iv m), (4, .own 3), (5, .own 2), (6, .own 4), (8, .box 5 0), (9, iv rs[j].1[m]), (18, slA 2 cRo rs), (19, iv rs.length), (20, iv j), (21, bv true), (33, bv true)] ?_
 refine t_then ?_
 refine t_condT rfl ?_
 refine tri_region ?_
 refine oA (sp_move (.tmp 4) (.own 3) rfl) I0 ?_
 refine oB (sp_loadBoxS (Y := .box 39 (cRo rs[j])) (ds := cRo rs[j]) (z := 2) (.tmp 8) rfl Tryd.underlying39 rfl (by kernel_rfl) (by decide) (by kernel_rfl) (by kernel_rfl)) I0 rfl ?_
 refine t_op rfl (sp_build (z := 2) (k := 6) (fr := false) (cs := [intsA rs[j].1, iv rs[j].2]) [.tmp 37] [.agg (cRo rs[j])] rfl Tryd.underlying22 (by kernel_rfl) (by decide) (by decide) rfl rfl rfl (by kernel_rfl) (by decide) (fun h => Bool.noConfusion h) (by kernel_rfl)) ⟨I0, T0⟩ T0 rfl ?_
 refine t_op rfl (sp_appendOwn (n := (Elm.oth m (rs.take j)).length) (cs := ((Elm.oth m (rs.take j)).flatMap cRo)) (fr := false) (m := 1) (ds := [intsA rs[j].1, iv rs[j].2]) (⟨Tryd.underlying22, by kernel_rfl, by decide⟩ : Elt Tryd.prog 22 39 2 32) (.tmp 36) (.tmp 38) rfl (fun h => Bool.noConfusion h) (by unfold maxLen; omega) (by omega) (Elm.cellRp _) (es := (((Elm.oth m (rs.take j)) ++ [rs[j]]).flatMap cRo)) Elm.snocRp) ⟨I0, I0, T0⟩ ⟨rfl, rfl, T0⟩ rfl ?_
 refine oA (sp_assign (.tmp 39) (.own 3) rfl) I0 ?_
 refine kN 51 [(2, .row false 39 2 ((Elm.low p m (rs.take j)).length) ((Elm.low p m (rs.take j)).flatMap cRo)), (3, .row false 39 2 ((Elm.oth m (rs.take j)).length + 1) (((Elm.oth m (rs.take j)) ++ [rs[j]]).flatMap cRo)), (4, .row false 39 2 ((Elm.upp m (rs.take j)).length) ((Elm.upp m (rs.take j)).flatMap cRo)), (5, .box 39 (cRo rs[j])), (1000000, .box 24 [iv 0, .v (.slice none 0 0)])] [(1, iv m), (4, .own 3), (5, .own 2), (6, .own 4), (8, .box 5 0), (9, iv rs[j].1[m]), (18, slA 2 cRo rs), (19, iv rs.length), (20, iv j), (21, bv true), (33, bv true)] ?_
 refine t_block ?_
 refine t_block ?_
 refine t_then ?_
 refine tri_region ?_
 refine oC (sp_add (c := ((j + 1 : Nat) : Int)) rfl (w64 (by omega) (by omega) (by omega))) I0 I0 ?_
 refine oA (sp_move (.tmp 47) (iv (j + 1 : Nat)) rfl) I0 ?_
 refine kN 51 [(2, .row false 39 2 ((Elm.low p m (rs.take j)).length) ((Elm.low p m (rs.take j)).flatMap cRo)), (3, .row false 39 2 ((Elm.oth m (rs.take j)).length + 1) (((Elm.oth m (rs.take j)) ++ [rs[j]]).flatMap cRo)), (4, .row false 39 2 ((Elm.upp m (rs.take j)).length) ((Elm.upp m (rs.take j)).flatMap cRo)), (5, .box 39 (cRo rs[j])), (1000000, .box 24 [iv 0, .v (.slice none 0 0)])] [(1, iv m), (4, .own 3), (5, .own 2), (6, .own 4), (8, .box 5 0), (9, iv rs[j].1[m]), (18, slA 2 cRo rs), (19, iv rs.length), (20, iv (j + 1 : Nat)), (21, bv true), (33, bv true)] ?_
 refine t_then ?_
 refine tri_again ⟨j + 1, by omega⟩ (show rs.length - (j + 1) < rs.length - j by omega) ?_
 show Wk _ _ (ofL [(2, .row false 39 2 ((Elm.low p m (rs.take (j + 1))).length) ((Elm.low p m (rs.take (j + 1))).flatMap cRo)), (3, .row false 39 2 ((Elm.oth m (rs.take (j + 1))).length) ((Elm.oth m (rs.take (j + 1))).flatMap cRo)), (4, .row false 39 2 ((Elm.upp m (rs.take (j + 1))).length) ((Elm.upp m (rs.take (j + 1))).flatMap cRo)), (1000000, .box 24 [iv 0, .v (.slice none 0 0)])]) (ofT 51 [(1, iv m), (4, .own 3), (5, .own 2), (6, .own 4), (18, slA 2 cRo rs), (19, iv rs.length), (20, iv ((j + 1) : Nat))])
 rw [(Elm.st_z (p := p) hj1 hmj hs2).1, (Elm.st_z (p := p) hj1 hmj hs2).2.1, (Elm.st_z (p := p) hj1 hmj hs2).2.2]
 try rw [List.length_append]
 exact wk_keep _ _ rfl (by kernel_rfl) (by kernel_rfl)
 refine tri_region ?_
 refine oA (sp_move (.tmp 9) (iv rs[j].1[m]) rfl) I0 ?_
 refine oC (sp_eql rfl (dF hs2)) I0 I0 ?_
 refine oA (sp_assign (.tmp 35) (bv false) rfl) I0 ?_
 refine kN 51 [(2, .row false 39 2 ((Elm.low p m (rs.take j)).length) ((Elm.low p m (rs.take j)).flatMap cRo)), (3, .row false 39 2 ((Elm.oth m (rs.take j)).length) ((Elm.oth m (rs.take j)).flatMap cRo)), (4, .row false 39 2 ((Elm.upp m (rs.take j)).length) ((Elm.upp m (rs.take j)).flatMap cRo)), (5, .box 39 (cRo rs[j])), (1000000, .box 24 [iv 0, .v (.slice none 0 0)])] [(1, iv m), (4, .own 3), (5, .own 2), (6, .own 4), (8, .box 5 0), (9, iv rs[j].1[m]), (18, slA 2 cRo rs), (19, iv rs.length), (20, iv j), (21, bv true), (33, bv false)] ?_
 refine t_then ?_
 refine t_condF rfl ?_
 refine tri_seq ?_
 by_cases hs3 : 0 < rs[j].1[m]
 refine tri_region ?_
 refine oA (sp_move (.tmp 9) (iv rs[j].1[m]) rfl) I0 ?_
 refine oC (sp_gtr rfl (dT hs3)) I0 I0 ?_
 refine oA (sp_assign (.tmp 42) (bv true) rfl) I0 ?_
 refine kN 51 [(2, .row false 39 2 ((Elm.low p m (rs.take j)).length) ((Elm.low p m (rs.take j)).flatMap cRo)), (3, .row false 39 2 ((Elm.oth m (rs.take j)).length) ((Elm.oth m (rs.take j)).flatMap cRo)), (4, .row false 39 2 ((Elm.upp m (rs.take j)).length) ((Elm.upp m (rs.take j)).flatMap cRo)), (5, .box 39 (cRo rs[j])), (1000000, .box 24 [iv 0, .v (.slice none 0 0)])] [(1, iv m), (4, .own 3), (5, .own 2), (6, .own 4), (8, .box 5 0), (9, iv rs[j].1[m]), (18, slA 2 cRo rs), (19, iv rs.length), (20, iv j), (21, bv true), (33, bv false), (40, bv true)] ?_
 refine t_then ?_
 refine t_condT rfl ?_
 refine tri_region ?_
 refine oA (sp_move (.tmp 5) (.own 2) rfl) I0 ?_
 refine oB (sp_loadBoxS (Y := .box 39 (cRo rs[j])) (ds := cRo rs[j]) (z := 2) (.tmp 8) rfl Tryd.underlying39 rfl (by kernel_rfl) (by decide) (by kernel_rfl) (by kernel_rfl)) I0 rfl ?_
 refine t_op rfl (sp_build (z := 2) (k := 6) (fr := false) (cs := [intsA rs[j].1, iv rs[j].2]) [.tmp 44] [.agg (cRo rs[j])] rfl Tryd.underlying22 (by kernel_rfl) (by decide) (by decide) rfl rfl rfl (by kernel_rfl) (by decide) (fun h => Bool.noConfusion h) (by kernel_rfl)) ⟨I0, T0⟩ T0 rfl ?_
 refine t_op rfl (sp_appendOwn (n := (Elm.low p m (rs.take j)).length) (cs := ((Elm.low p m (rs.take j)).flatMap cRo)) (fr := false) (m := 1) (ds := [intsA rs[j].1, iv rs[j].2]) (⟨Tryd.underlying22, by kernel_rfl, by decide⟩ : Elt Tryd.prog 22 39 2 32) (.tmp 43) (.tmp 45) rfl (fun h => Bool.noConfusion h) (by unfold maxLen; omega) (by omega) (Elm.cellRp _) (es := (((Elm.low p m (rs.take j)) ++ [rs[j]]).flatMap cRo)) Elm.snocRp) ⟨I0, I0, T0⟩ ⟨rfl, rfl, T0⟩ rfl ?_
 refine oA (sp_assign (.tmp 46) (.own 2) rfl) I0 ?_
 refine kN 51 [(2, .row false 39 2 ((Elm.low p m (rs.take j)).length + 1) (((Elm.low p m (rs.take j)) ++ [rs[j]]).flatMap cRo)), (3, .row false 39 2 ((Elm.oth m (rs.take j)).length) ((Elm.oth m (rs.take j)).flatMap cRo)), (4, .row false 39 2 ((Elm.upp m (rs.take j)).length) ((Elm.upp m (rs.take j)).flatMap cRo)), (5, .box 39 (cRo rs[j])), (1000000, .box 24 [iv 0, .v (.slice none 0 0)])] [(1, iv m), (4, .own 3), (5, .own 2), (6, .own 4), (8, .box 5 0), (9, iv rs[j].1[m]), (18, slA 2 cRo rs), (19, iv rs.length), (20, iv j), (21, bv true), (33, bv false), (40, bv true)] ?_
 refine t_block ?_
 refine t_block ?_
 refine t_then ?_
 refine tri_region ?_
 refine oC (sp_add (c := ((j + 1 : Nat) : Int)) rfl (w64 (by omega) (by omega) (by omega))) I0 I0 ?_
 refine oA (sp_move (.tmp 47) (iv (j + 1 : Nat)) rfl) I0 ?_
 refine kN 51 [(2, .row false 39 2 ((Elm.low p m (rs.take j)).length + 1) (((Elm.low p m (rs.take j)) ++ [rs[j]]).flatMap cRo)), (3, .row false 39 2 ((Elm.oth m (rs.take j)).length) ((Elm.oth m (rs.take j)).flatMap cRo)), (4, .row false 39 2 ((Elm.upp m (rs.take j)).length) ((Elm.upp m (rs.take j)).flatMap cRo)), (5, .box 39 (cRo rs[j])), (1000000, .box 24 [iv 0, .v (.slice none 0 0)])] [(1, iv m), (4, .own 3), (5, .own 2), (6, .own 4), (8, .box 5 0), (9, iv rs[j].1[m]), (18, slA 2 cRo rs), (19, iv rs.length), (20, iv (j + 1 : Nat)), (21, bv true), (33, bv false), (40, bv true)] ?_
 refine t_then ?_
 refine tri_again ⟨j + 1, by omega⟩ (show rs.length - (j + 1) < rs.length - j by omega) ?_
 show Wk _ _ (ofL [(2, .row false 39 2 ((Elm.low p m (rs.take (j + 1))).length) ((Elm.low p m (rs.take (j + 1))).flatMap cRo)), (3, .row false 39 2 ((Elm.oth m (rs.take (j + 1))).length) ((Elm.oth m (rs.take (j + 1))).flatMap cRo)), (4, .row false 39 2 ((Elm.upp m (rs.take (j + 1))).length) ((Elm.upp m (rs.take (j + 1))).flatMap cRo)), (1000000, .box 24 [iv 0, .v (.slice none 0 0)])]) (ofT 51 [(1, iv m), (4, .own 3), (5, .own 2), (6, .own 4), (18, slA 2 cRo rs), (19, iv rs.length), (20, iv ((j + 1) : Nat))])
 rw [(Elm.st_p (p := p) hj1 hmj hs2 hs3).1, (Elm.st_p (p := p) hj1 hmj hs2 hs3).2.1, (Elm.st_p (p := p) hj1 hmj hs2 hs3).2.2]
 try rw [List.length_append]
 exact wk_keep _ _ rfl (by kernel_rfl) (by kernel_rfl)
 refine tri_region ?_
 refine oA (sp_move (.tmp 9) (iv rs[j].1[m]) rfl) I0 ?_
 refine oC (sp_gtr rfl (dF hs3)) I0 I0 ?_
 refine oA (sp_assign (.tmp 42) (bv false) rfl) I0 ?_
 refine kN 51 [(2, .row false 39 2 ((Elm.low p m (rs.take j)).length) ((Elm.low p m (rs.take j)).flatMap cRo)), (3, .row false 39 2 ((Elm.oth m (rs.take j)).length) ((Elm.oth m (rs.take j)).flatMap cRo)), (4, .row false 39 2 ((Elm.upp m (rs.take j)).length) ((Elm.upp m (rs.take j)).flatMap cRo)), (5, .box 39 (cRo rs[j])), (1000000, .box 24 [iv 0, .v (.slice none 0 0)])] [(1, iv m), (4, .own 3), (5, .own 2), (6, .own 4), (8, .box 5 0), (9, iv rs[j].1[m]), (18, slA 2 cRo rs), (19, iv rs.length), (20, iv j), (21, bv true), (33, bv false), (40, bv false)] ?_
 refine t_then ?_
 refine t_condF rfl ?_
 refine tri_region ?_
 refine oA (sp_move (.tmp 6) (.own 4) rfl) I0 ?_
 refine oB (sp_loadBoxS (Y := .box 39 (cRo rs[j])) (ds := cRo rs[j]) (z := 2) (.tmp 8) rfl Tryd.underlying39 rfl (by kernel_rfl) (by decide) (by kernel_rfl) (by kernel_rfl)) I0 rfl ?_
 refine t_op rfl (sp_build (z := 2) (k := 6) (fr := false) (cs := [intsA rs[j].1, iv rs[j].2]) [.tmp 30] [.agg (cRo rs[j])] rfl Tryd.underlying22 (by kernel_rfl) (by decide) (by decide) rfl rfl rfl (by kernel_rfl) (by decide) (fun h => Bool.noConfusion h) (by kernel_rfl)) ⟨I0, T0⟩ T0 rfl ?_
 refine t_op rfl (sp_appendOwn (n := (Elm.upp m (rs.take j)).length) (cs := ((Elm.upp m (rs.take j)).flatMap cRo)) (fr := false) (m := 1) (ds := [intsA rs[j].1, iv rs[j].2]) (⟨Tryd.underlying22, by kernel_rfl, by decide⟩ : Elt Tryd.prog 22 39 2 32) (.tmp 29) (.tmp 31) rfl (fun h => Bool.noConfusion h) (by unfold maxLen; omega) (by omega) (Elm.cellRp _) (es := (((Elm.upp m (rs.take j)) ++ [rs[j]]).flatMap cRo)) Elm.snocRp) ⟨I0, I0, T0⟩ ⟨rfl, rfl, T0⟩ rfl ?_
 refine oA (sp_assign (.tmp 32) (.own 4) rfl) I0 ?_
 refine kN 51 [(2, .row false 39 2 ((Elm.low p m (rs.take j)).length) ((Elm.low p m (rs.take j)).flatMap cRo)), (3, .row false 39 2 ((Elm.oth m (rs.take j)).length) ((Elm.oth m (rs.take j)).flatMap cRo)), (4, .row false 39 2 ((Elm.upp m (rs.take j)).length + 1) (((Elm.upp m (rs.take j)) ++ [rs[j]]).flatMap cRo)), (5, .box 39 (cRo rs[j])), (1000000, .box 24 [iv 0, .v (.slice none 0 0)])] [(1, iv m), (4, .own 3), (5, .own 2), (6, .own 4), (8, .box 5 0), (9, iv rs[j].1[m]), (18, slA 2 cRo rs), (19, iv rs.length), (20, iv j), (21, bv true), (33, bv false), (40, bv false)] ?_
 refine t_block ?_
 refine t_block ?_
 refine t_then ?_
 refine tri_region ?_
 refine oC (sp_add (c := ((j + 1 : Nat) : Int)) rfl (w64 (by omega) (by omega) (by omega))) I0 I0 ?_
 refine oA (sp_move (.tmp 47) (iv (j + 1 : Nat)) rfl) I0 ?_
 refine kN 51 [(2, .row false 39 2 ((Elm.low p m (rs.take j)).length) ((Elm.low p m (rs.take j)).flatMap cRo)), (3, .row false 39 2 ((Elm.oth m (rs.take j)).length) ((Elm.oth m (rs.take j)).flatMap cRo)), (4, .row false 39 2 ((Elm.upp m (rs.take j)).length + 1) (((Elm.upp m (rs.take j)) ++ [rs[j]]).flatMap cRo)), (5, .box 39 (cRo rs[j])), (1000000, .box 24 [iv 0, .v (.slice none 0 0)])] [(1, iv m), (4, .own 3), (5, .own 2), (6, .own 4), (8, .box 5 0), (9, iv rs[j].1[m]), (18, slA 2 cRo rs), (19, iv rs.length), (20, iv (j + 1 : Nat)), (21, bv true), (33, bv false), (40, bv false)] ?_
 refine t_then ?_
 refine tri_again ⟨j + 1, by omega⟩ (show rs.length - (j + 1) < rs.length - j by omega) ?_
 show Wk _ _ (ofL [(2, .row false 39 2 ((Elm.low p m (rs.take (j + 1))).length) ((Elm.low p m (rs.take (j + 1))).flatMap cRo)), (3, .row false 39 2 ((Elm.oth m (rs.take (j + 1))).length) ((Elm.oth m (rs.take (j + 1))).flatMap cRo)), (4, .row false 39 2 ((Elm.upp m (rs.take (j + 1))).length) ((Elm.upp m (rs.take (j + 1))).flatMap cRo)), (1000000, .box 24 [iv 0, .v (.slice none 0 0)])]) (ofT 51 [(1, iv m), (4, .own 3), (5, .own 2), (6, .own 4), (18, slA 2 cRo rs), (19, iv rs.length), (20, iv ((j + 1) : Nat))])
 rw [(Elm.st_n (p := p) hj1 hmj hs2 hs3).1, (Elm.st_n (p := p) hj1 hmj hs2 hs3).2.1, (Elm.st_n (p := p) hj1 hmj hs2 hs3).2.2]
 try rw [List.length_append]
 exact wk_keep _ _ rfl (by kernel_rfl) (by kernel_rfl)
 refine tri_region ?_
 refine oC (sp_lss rfl (dF hs1)) I0 I0 ?_
 refine kN 51 [(2, .row false 39 2 ((Elm.low p m (rs.take j)).length) ((Elm.low p m (rs.take j)).flatMap cRo)), (3, .row false 39 2 ((Elm.oth m (rs.take j)).length) ((Elm.oth m (rs.take j)).flatMap cRo)), (4, .row false 39 2 ((Elm.upp m (rs.take j)).length) ((Elm.upp m (rs.take j)).flatMap cRo)), (1000000, .box 24 [iv 0, .v (.slice none 0 0)])] [(1, iv m), (4, .own 3), (5, .own 2), (6, .own 4), (18, slA 2 cRo rs), (19, iv rs.length), (20, iv j), (21, bv false)] ?_
 refine t_then ?_
 refine tri_seq ?_
 refine t_condF rfl ?_
 refine tri_exit ?_
 refine t_then_exit ?_
 refine t_then_exit ?_
 refine t_hit ?_
 refine t_then ?_
 refine tri_seq ?_
 refine tri_region ?_
 refine oA (sp_move (.tmp 4) (.own 3) rfl) I0 ?_
 refine oA (sp_move (.tmp 5) (.own 2) rfl) I0 ?_
 refine oA (sp_move (.tmp 6) (.own 4) rfl) I0 ?_
 refine oA (sp_assign (.tmp 48) (.own 3) rfl) I0 ?_
 refine oA (sp_assign (.tmp 49) (.own 2) rfl) I0 ?_
 refine oA (sp_assign (.tmp 50) (.own 4) rfl) I0 ?_
 refine kN 51 [(2, .row false 39 2 ((Elm.low p m (rs.take j)).length) ((Elm.low p m (rs.take j)).flatMap cRo)), (3, .row false 39 2 ((Elm.oth m (rs.take j)).length) ((Elm.oth m (rs.take j)).flatMap cRo)), (4, .row false 39 2 ((Elm.upp m (rs.take j)).length) ((Elm.upp m (rs.take j)).flatMap cRo)), (1000000, .box 24 [iv 0, .v (.slice none 0 0)])] [(4, .own 3), (5, .own 2), (6, .own 4)] ?_
 refine t_then ?_
 refine tri_ret ?_
 have hj2 : j = rs.length := by omega
 rw [show rs.take j = rs by rw [hj2, List.take_length]]
 refine kW 51 [(3, .row false 39 2 ((Elm.oth m rs).length) ((Elm.oth m rs).flatMap cRo)), (1000000, .box 24 [iv 0, .v (.slice none 0 0)])] [(4, .own 3), (5, .sl 2 (Elm.low p m rs).length ((Elm.low p m rs).flatMap cRo)), (6, .sl 2 (Elm.upp m rs).length ((Elm.upp m rs).flatMap cRo))] ?_
 exact tri_giveL3 hg 3 Tryd.results42 (.tmp rfl) (.tmp rfl) (.tmp rfl) (by kernel_rfl) (by kernel_rfl) rfl rfl
end Go.Proofs.YtbbglendddepfaaDoor

namespace Go.Proofs.YtbbglendddepfaaDoor
open Go.RowKit Go.Deep
variable {J : World → Prop}
set_option linter.unusedSimpArgs false in
set_option linter.unusedVariables false in
set_option maxRecDepth 100000 in
set_option maxHeartbeats 6400000 in
theorem cancel_c {m : Nat} {l u : Rw} (P : Elm.Pair m l u) : Ctr Tryd.prog J 43 [.agg (cRo l), .agg (cRo u), iv m] (.tup [.agg (cRo (Elm.cnR m l u)), iv (Elm.cnE m l u)]) := by
 have lm := P.lm
 have um := P.um
 have g1 := P.g1
 have sb := smB_true.1 P.sb
 refine ctr_of_tri Tryd.func43 rfl (by intro X hX; simp only [List.mem_cons, List.not_mem_nil, or_false] at hX; rcases hX with rfl | rfl | rfl; exact plain_agg (plain_ro l); exact plain_agg (plain_ro u); exact .v _) (n := 47) rfl (by simp) (fun w0 => ?_)
 refine kW 47 [] [(0, .agg (cRo l)), (1, .agg (cRo u)), (2, iv m)] ?_
 refine tri_seq ?_
 refine tri_region ?_
 refine t_op rfl (sp_box (X := .agg (cRo l)) (k := 1) (.tmp 0) rfl rfl) ⟨I0, T0⟩ T0 rfl ?_
 refine t_op rfl (sp_box (X := .agg (cRo u)) (k := 2) (.tmp 1) rfl rfl) ⟨I0, T0⟩ T0 rfl ?_
 refine t_op rfl (sp_alloc (z := .agg #[.slice none 0 0, .int .i64 0]) (k := 3) rfl (by kernel_rfl)) T0 T0 rfl ?_
 refine oA (sp_assign (.const (.int .i64 0)) (iv 0) rfl) I0 ?_
 refine kN 47 [(1, .box 39 (cRo l)), (2, .box 39 (cRo u)), (3, .box 39 [.v (.slice none 0 0), iv 0])] [(2, iv m), (3, .box 1 0), (4, .box 2 0), (6, .box 3 0), (7, iv 0)] ?_
 refine t_then ?_
 refine tri_seq ?_
 refine tri_draw [⟨[(.tmp 3, .box 1 0)], [], .box 1 0, .no⟩, ⟨[(.tmp 11, .box 1 0)], [(1, .box 39 (cRo l))], intsA l.1, .no⟩, ⟨[(.tmp 2, iv m)], [], iv m, .no⟩, ⟨[(.tmp 12, intsA l.1), (.tmp 13, iv m)], [], .el (l.1.map iv) (m * 1), .no⟩, ⟨[(.tmp 14, .el (l.1.map iv) (m * 1))], [], iv (Elm.cf m l), .no⟩, ⟨[(.tmp 4, .box 2 0)], [], .box 2 0, .no⟩, ⟨[(.tmp 16, .box 2 0)], [(2, .box 39 (cRo u))], intsA u.1, .no⟩, ⟨[(.tmp 2, iv m)], [], iv m, .no⟩, ⟨[(.tmp 17, intsA u.1), (.tmp 18, iv m)], [], .el (u.1.map iv) (m * 1), .no⟩, ⟨[(.tmp 19, .el (u.1.map iv) (m * 1))], [], iv (Elm.cf m u), .no⟩, ⟨[(.tmp 20, iv (Elm.cf m u))], [], iv (-(Elm.cf m u)), .no⟩, ⟨[(.tmp 15, iv (Elm.cf m l))], [], iv (Elm.cf m l), .no⟩, ⟨[(.tmp 21, iv (-(Elm.cf m u)))], [], iv (-(Elm.cf m u)), .no⟩] (by kernel_rfl) (by kernel_rfl) ?_
 refine ⟨app_yes rfl (fB 0 (.tmp 3) rfl Tryd.underlying39 rfl 1 rfl) ⟨I0, T0⟩ T0 T0, ?_⟩
 refine ⟨app_yes rfl (lB (.box 39 (cRo l)) (intsA l.1) (.tmp 11) rfl Tryd.underlying25 rfl rfl) ⟨I0, T0⟩ ⟨rfl, T0⟩ T0, ?_⟩
 refine ⟨app_yes rfl (sp_move (.tmp 2) (iv m) rfl) ⟨I0, T0⟩ T0 T0, ?_⟩
 refine ⟨app_yes rfl (sp_indexSl (off := m * 1) (.tmp 12) (.tmp 13) rfl Tryd.underlying25 (by kernel_rfl) (by omega) (by omega) rfl) ⟨I0, I0, T0⟩ T0 T0, ?_⟩
 refine ⟨app_yes rfl (sp_loadEl1 (X := iv (Elm.cf m l)) (.tmp 14) rfl Tryd.underlying3 rfl ((map_at1 l.1 (by omega)).trans (congrArg (fun x => some (iv x)) (Elm.cf_at P.lm)))) ⟨I0, T0⟩ T0 T0, ?_⟩
 refine ⟨app_yes rfl (fB 0 (.tmp 4) rfl Tryd.underlying39 rfl 1 rfl) ⟨I0, T0⟩ T0 T0, ?_⟩
 refine ⟨app_yes rfl (lB (.box 39 (cRo u)) (intsA u.1) (.tmp 16) rfl Tryd.underlying25 rfl rfl) ⟨I0, T0⟩ ⟨rfl, T0⟩ T0, ?_⟩
 refine ⟨app_yes rfl (sp_move (.tmp 2) (iv m) rfl) ⟨I0, T0⟩ T0 T0, ?_⟩
 refine ⟨app_yes rfl (sp_indexSl (off := m * 1) (.tmp 17) (.tmp 18) rfl Tryd.underlying25 (by kernel_rfl) (by omega) (by omega) rfl) ⟨I0, I0, T0⟩ T0 T0, ?_⟩
 refine ⟨app_yes rfl (sp_loadEl1 (X := iv (Elm.cf m u)) (.tmp 19) rfl Tryd.underlying3 rfl ((map_at1 u.1 (by omega)).trans (congrArg (fun x => some (iv x)) (Elm.cf_at P.um)))) ⟨I0, T0⟩ T0 T0, ?_⟩
 refine ⟨app_yes rfl (sp_neg (c := -(Elm.cf m u)) rfl (w64 (by omega) (by omega) (by omega))) ⟨I0, T0⟩ T0 T0, ?_⟩
 refine ⟨app_yes rfl (sp_assign (.tmp 15) (iv (Elm.cf m l)) rfl) ⟨I0, T0⟩ T0 T0, ?_⟩
 refine ⟨app_yes rfl (sp_assign (.tmp 21) (iv (-(Elm.cf m u))) rfl) ⟨I0, T0⟩ T0 T0, ?_⟩
 show ETri J w0 _ _ _
 refine kW 47 [(1, .box 39 (cRo l)), (2, .box 39 (cRo u)), (3, .box 39 [.v (.slice none 0 0), iv 0])] [(3, .box 1 0), (4, .box 2 0), (6, .box 3 0), (7, iv 0), (8, iv (Elm.cf m l)), (9, iv (-(Elm.cf m u)))] ?_
 refine t_then ?_
 refine tri_seq ?_
 refine tri_region ?_
 refine oA (sp_move (.tmp 8) (iv (Elm.cf m l)) rfl) I0 ?_
 refine oA (sp_move (.tmp 9) (iv (-(Elm.cf m u))) rfl) I0 ?_
 refine oD (sp_call (c := .func 70) (xs := #[.tmp 22, .tmp 23]) [] (Elm.gcd_c P) rfl (by kernel_rfl) rfl (Xs := [iv (Elm.cf m l), iv (-(Elm.cf m u))]) rfl rfl rfl) I0 I0 I0 ?_
 refine oA (sp_assign (.tmp 24) (iv (Elm.gE m l u)) rfl) I0 ?_
 refine kN 47 [(1, .box 39 (cRo l)), (2, .box 39 (cRo u)), (3, .box 39 [.v (.slice none 0 0), iv 0])] [(3, .box 1 0), (4, .box 2 0), (6, .box 3 0), (7, iv 0), (8, iv (Elm.cf m l)), (9, iv (-(Elm.cf m u))), (10, iv (Elm.gE m l u))] ?_
 refine t_then ?_
 refine tri_seq ?_
 refine tri_seq ?_
 by_cases hs1 : 65536 < (Elm.kA m l u)
 refine tri_region ?_
 refine oA (sp_move (.tmp 8) (iv (Elm.cf m l)) rfl) I0 ?_
 refine oA (sp_move (.tmp 10) (iv (Elm.gE m l u)) rfl) I0 ?_
 refine oC (sp_quo (c := (Elm.kA m l u)) rfl (by omega) P.wa) I0 I0 ?_
 refine oC (sp_gtr rfl (dT hs1)) I0 I0 ?_
 refine oA (sp_move (.tmp 28) (bv true) rfl) I0 ?_
 refine t_skip rfl ?_
 refine t_skip rfl ?_
 refine t_skip rfl ?_
 refine t_skip rfl ?_
 refine oD (sp_pick (.tmp 29) (.const (.bool true)) (.tmp 33) true (bv true) (.v (.tuple #[])) rfl) I0 I0 I0 ?_
 refine kN 47 [(1, .box 39 (cRo l)), (2, .box 39 (cRo u)), (3, .box 39 [.v (.slice none 0 0), iv 0])] [(3, .box 1 0), (4, .box 2 0), (6, .box 3 0), (7, iv 0), (8, iv (Elm.cf m l)), (9, iv (-(Elm.cf m u))), (10, iv (Elm.gE m l u)), (34, bv true)] ?_
 refine t_then ?_
 refine t_condT rfl ?_
 refine tri_seq ?_
 refine tri_region ?_
 refine t_op rfl (sp_bld [] #[.slice none 0 0, .int .i64 0] rfl rfl (by kernel_rfl) rfl) T0 T0 T0 ?_
 refine t_op rfl (sp_storeBox (T0 := 39) (X := .agg [.v (.slice none 0 0), iv 0]) (cs := [.v (.slice none 0 0), iv 0]) (ds := [.v (.slice none 0 0), iv 0]) (z := 2) (.tmp 6) (.tmp 35) rfl (by kernel_rfl) (by kernel_rfl) (by kernel_rfl) (of_decide_eq_true (by kernel_rfl)) (by kernel_rfl)) ⟨I0, I0, T0⟩ ⟨rfl, T0⟩ rfl ?_
 refine oA (sp_assign (.const (.int .i64 4)) (iv 4) rfl) I0 ?_
 refine kN 47 [(1, .box 39 (cRo l)), (2, .box 39 (cRo u)), (3, .box 39 [.v (.slice none 0 0), iv 0])] [(3, .box 1 0), (4, .box 2 0), (6, .box 3 0), (7, iv 4), (8, iv (Elm.cf m l)), (9, iv (-(Elm.cf m u))), (10, iv (Elm.gE m l u))] ?_
 refine t_then ?_
 refine tri_ret ?_
 refine t_then_ret ?_
 refine tri_wk (wk_adoptB 3 0 4 true 3 1 rfl rfl rfl rfl) ?_
 refine tri_end2 Tryd.results43 (.cellS rfl rfl Tryd.underlying39 rfl (z := 2) (by kernel_rfl) rfl (by decide)) (.tmp rfl) ?_
 exact Elm.cn_err (.inl hs1)
 by_cases hs2 : 65536 < (Elm.kB m l u)
 refine tri_region ?_
 refine oA (sp_move (.tmp 8) (iv (Elm.cf m l)) rfl) I0 ?_
 refine oA (sp_move (.tmp 10) (iv (Elm.gE m l u)) rfl) I0 ?_
 refine oC (sp_quo (c := (Elm.kA m l u)) rfl (by omega) P.wa) I0 I0 ?_
 refine oC (sp_gtr rfl (dF hs1)) I0 I0 ?_
 refine oA (sp_move (.tmp 28) (bv false) rfl) I0 ?_
 refine gA (sp_move (.tmp 9) (iv (-(Elm.cf m u))) rfl) I0 ?_
 refine gA (sp_move (.tmp 10) (iv (Elm.gE m l u)) rfl) I0 ?_
 refine gC (sp_quo (c := (Elm.kB m l u)) rfl (by omega) P.wb) I0 I0 ?_
 refine gC (sp_gtr rfl (dT hs2)) I0 I0 ?_
 refine oD (sp_pick (.tmp 29) (.const (.bool true)) (.tmp 33) false (bv true) (bv true) rfl) I0 I0 I0 ?_
 refine kN 47 [(1, .box 39 (cRo l)), (2, .box 39 (cRo u)), (3, .box 39 [.v (.slice none 0 0), iv 0])] [(3, .box 1 0), (4, .box 2 0), (6, .box 3 0), (7, iv 0), (8, iv (Elm.cf m l)), (9, iv (-(Elm.cf m u))), (10, iv (Elm.gE m l u)), (34, bv true)] ?_
 refine t_then ?_
 refine t_condT rfl ?_
 refine tri_seq ?_
 refine tri_region ?_
 refine t_op rfl (sp_bld [] #[.slice none 0 0, .int .i64 0] rfl rfl (by kernel_rfl) rfl) T0 T0 T0 ?_
 refine t_op rfl (sp_storeBox (T0 := 39) (X := .agg [.v (.slice none 0 0), iv 0]) (cs := [.v (.slice none 0 0), iv 0]) (ds := [.v (.slice none 0 0), iv 0]) (z := 2) (.tmp 6) (.tmp 35) rfl (by kernel_rfl) (by kernel_rfl) (by kernel_rfl) (of_decide_eq_true (by kernel_rfl)) (by kernel_rfl)) ⟨I0, I0, T0⟩ ⟨rfl, T0⟩ rfl ?_
 refine oA (sp_assign (.const (.int .i64 4)) (iv 4) rfl) I0 ?_
 refine kN 47 [(1, .box 39 (cRo l)), (2, .box 39 (cRo u)), (3, .box 39 [.v (.slice none 0 0), iv 0])] [(3, .box 1 0), (4, .box 2 0), (6, .box 3 0), (7, iv 4), (8, iv (Elm.cf m l)), (9, iv (-(Elm.cf m u))), (10, iv (Elm.gE m l u))] ?_
 refine t_then ?_
 refine tri_ret ?_
 refine t_then_ret ?_
 refine tri_wk (wk_adoptB 3 0 4 true 3 1 rfl rfl rfl rfl) ?_
 refine tri_end2 Tryd.results43 (.cellS rfl rfl Tryd.underlying39 rfl (z := 2) (by kernel_rfl) rfl (by decide)) (.tmp rfl) ?_
 exact Elm.cn_err (.inr hs2)
 refine tri_region ?_
 refine oA (sp_move (.tmp 8) (iv (Elm.cf m l)) rfl) I0 ?_
 refine oA (sp_move (.tmp 10) (iv (Elm.gE m l u)) rfl) I0 ?_
 refine oC (sp_quo (c := (Elm.kA m l u)) rfl (by omega) P.wa) I0 I0 ?_
 refine oC (sp_gtr rfl (dF hs1)) I0 I0 ?_
 refine oA (sp_move (.tmp 28) (bv false) rfl) I0 ?_
 refine gA (sp_move (.tmp 9) (iv (-(Elm.cf m u))) rfl) I0 ?_
 refine gA (sp_move (.tmp 10) (iv (Elm.gE m l u)) rfl) I0 ?_
 refine gC (sp_quo (c := (Elm.kB m l u)) rfl (by omega) P.wb) I0 I0 ?_
 refine gC (sp_gtr rfl (dF hs2)) I0 I0 ?_
 refine oD (sp_pick (.tmp 29) (.const (.bool true)) (.tmp 33) false (bv true) (bv false) rfl) I0 I0 I0 ?_
 refine kN 47 [(1, .box 39 (cRo l)), (2, .box 39 (cRo u)), (3, .box 39 [.v (.slice none 0 0), iv 0])] [(3, .box 1 0), (4, .box 2 0), (6, .box 3 0), (7, iv 0), (8, iv (Elm.cf m l)), (9, iv (-(Elm.cf m u))), (10, iv (Elm.gE m l u)), (34, bv false)] ?_
 refine t_then ?_
 refine t_condF rfl ?_
 refine tri_skip ?_
 refine t_then ?_
 refine tri_seq ?_
 refine tri_draw [⟨[(.tmp 3, .box 1 0)], [(1, .box 39 (cRo l))], .agg (cRo l), .no⟩, ⟨[(.tmp 9, iv (-(Elm.cf m u)))], [], iv (-(Elm.cf m u)), .no⟩, ⟨[(.tmp 10, iv (Elm.gE m l u))], [], iv (Elm.gE m l u), .no⟩, ⟨[(.tmp 37, iv (-(Elm.cf m u))), (.tmp 38, iv (Elm.gE m l u))], [], iv (Elm.kB m l u), .no⟩, ⟨[(.tmp 4, .box 2 0)], [(2, .box 39 (cRo u))], .agg (cRo u), .no⟩, ⟨[(.tmp 8, iv (Elm.cf m l))], [], iv (Elm.cf m l), .no⟩, ⟨[(.tmp 10, iv (Elm.gE m l u))], [], iv (Elm.gE m l u), .no⟩, ⟨[(.tmp 41, iv (Elm.cf m l)), (.tmp 42, iv (Elm.gE m l u))], [], iv (Elm.kA m l u), .no⟩, ⟨[(.func 71, .v (.func (.func 71) #[] #[])), (.tmp 36, .agg (cRo l)), (.tmp 39, iv (Elm.kB m l u)), (.tmp 40, .agg (cRo u)), (.tmp 43, iv (Elm.kA m l u))], [], .tup [.fr (.agg (cRo (Elm.cnR m l u))), iv (Elm.cnE m l u)], .no⟩, ⟨[(.tmp 44, .tup [.fr (.agg (cRo (Elm.cnR m l u))), iv (Elm.cnE m l u)])], [], .fr (.agg (cRo (Elm.cnR m l u))), .no⟩, ⟨[(.tmp 44, .tup [.fr (.agg (cRo (Elm.cnR m l u))), iv (Elm.cnE m l u)])], [], iv (Elm.cnE m l u), .no⟩, ⟨[(.tmp 6, .box 3 0), (.tmp 45, .agg [.fr (intsA ((Elm.cnR m l u).1)), iv ((Elm.cnR m l u).2)])], [(3, .box 39 [.v (.slice none 0 0), iv 0])], .v undef, .st 3 (.box 39 [.fr (intsA ((Elm.cnR m l u).1)), iv ((Elm.cnR m l u).2)])⟩, ⟨[(.tmp 46, iv (Elm.cnE m l u))], [], iv (Elm.cnE m l u), .no⟩] (by kernel_rfl) (by kernel_rfl) ?_
 refine ⟨app_yes rfl (sp_loadBoxS (Y := .box 39 (cRo l)) (ds := cRo l) (z := 2) (.tmp 3) rfl Tryd.underlying39 rfl (by kernel_rfl) (by decide) (by kernel_rfl) (by kernel_rfl)) ⟨I0, T0⟩ ⟨rfl, T0⟩ T0, ?_⟩
 refine ⟨app_yes rfl (sp_move (.tmp 9) (iv (-(Elm.cf m u))) rfl) ⟨I0, T0⟩ T0 T0, ?_⟩
 refine ⟨app_yes rfl (sp_move (.tmp 10) (iv (Elm.gE m l u)) rfl) ⟨I0, T0⟩ T0 T0, ?_⟩
 refine ⟨app_yes rfl (sp_quo (c := (Elm.kB m l u)) rfl (by omega) P.wb) ⟨I0, I0, T0⟩ T0 T0, ?_⟩
 refine ⟨app_yes rfl (sp_loadBoxS (Y := .box 39 (cRo u)) (ds := cRo u) (z := 2) (.tmp 4) rfl Tryd.underlying39 rfl (by kernel_rfl) (by decide) (by kernel_rfl) (by kernel_rfl)) ⟨I0, T0⟩ ⟨rfl, T0⟩ T0, ?_⟩
 refine ⟨app_yes rfl (sp_move (.tmp 8) (iv (Elm.cf m l)) rfl) ⟨I0, T0⟩ T0 T0, ?_⟩
 refine ⟨app_yes rfl (sp_move (.tmp 10) (iv (Elm.gE m l u)) rfl) ⟨I0, T0⟩ T0 T0, ?_⟩
 refine ⟨app_yes rfl (sp_quo (c := (Elm.kA m l u)) rfl (by omega) P.wa) ⟨I0, I0, T0⟩ T0 T0, ?_⟩
 refine ⟨app_yes rfl (sp_call (c := .func 71) (xs := #[.tmp 36, .tmp 39, .tmp 40, .tmp 43]) [] (Elm.Combine_c P hs1 hs2) rfl (by kernel_rfl) rfl (Xs := [.agg (cRo l), iv (Elm.kB m l u), .agg (cRo u), iv (Elm.kA m l u)]) rfl rfl rfl) ⟨I0, I0, I0, I0, I0, T0⟩ T0 T0, ?_⟩
 refine ⟨app_yes rfl (sp_extract (X := .fr (.agg (cRo (Elm.cnR m l u)))) (.tmp 44) rfl rfl) ⟨I0, T0⟩ T0 T0, ?_⟩
 refine ⟨app_yes rfl (sp_extract (X := iv (Elm.cnE m l u)) (.tmp 44) rfl rfl) ⟨I0, T0⟩ T0 T0, ?_⟩
 refine ⟨app_yes rfl (sp_storeBox (T0 := 39) (X := .agg [.fr (intsA ((Elm.cnR m l u).1)), iv ((Elm.cnR m l u).2)]) (cs := [.v (.slice none 0 0), iv 0]) (ds := [.fr (intsA ((Elm.cnR m l u).1)), iv ((Elm.cnR m l u).2)]) (z := 2) (.tmp 6) (.tmp 45) rfl (by kernel_rfl) (by kernel_rfl) (by kernel_rfl) (of_decide_eq_true (by kernel_rfl)) (by kernel_rfl)) ⟨I0, .inr (.inr (.inl ⟨_, rfl, rfl⟩)), T0⟩ ⟨rfl, T0⟩ rfl, ?_⟩
 refine ⟨app_yes rfl (sp_assign (.tmp 46) (iv (Elm.cnE m l u)) rfl) ⟨I0, T0⟩ T0 T0, ?_⟩
 show ETri J w0 _ _ _
 refine kW 47 [(3, .box 39 [.fr (intsA ((Elm.cnR m l u).1)), iv ((Elm.cnR m l u).2)])] [(6, .box 3 0), (7, iv (Elm.cnE m l u))] ?_
 refine t_then ?_
 refine tri_ret ?_
 refine tri_end2 Tryd.results43 (.cellS rfl rfl Tryd.underlying39 rfl (z := 2) (by kernel_rfl) rfl (by decide)) (.tmp rfl) ?_
 exact rfl
end Go.Proofs.YtbbglendddepfaaDoor

namespace Go.Proofs.YtbbglendddepfaaDoor
open Go.RowKit Go.Deep
namespace Nk
variable {J : World → Prop}
theorem gcdL_dvd : ∀ (xs : List Int) (g : Nat), (gcdL xs g ∣ g) ∧ ∀ x ∈ xs, ((gcdL xs g : Nat) : Int) ∣ x
  | [], g => ⟨Nat.dvd_refl _, fun _ h => by cases h⟩
  | x :: xs, g => by
    obtain ⟨h1, h2⟩ := gcdL_dvd xs (Int.gcd g x)
    have hg : Int.gcd g x ∣ g := by have := Nat.gcd_dvd_left g x.natAbs; simpa [Int.gcd] using this
    have hx : ((Int.gcd g x : Nat) : Int) ∣ x := Int.gcd_dvd_right ..
    refine ⟨Nat.dvd_trans h1 hg, fun y hy => ?_⟩
    rcases List.mem_cons.1 hy with rfl | hy
    · exact Int.dvd_trans (Int.natCast_dvd_natCast.2 h1) hx
    · exact h2 y hy
theorem dot_div (g : Int) (hg : g ≠ 0) : ∀ (xs ys : List Int), (∀ x ∈ xs, g ∣ x) → dot xs ys = g * dot (xs.map fun x => x.tdiv g) ys
  | [], ys, _ => by simp [dot]
  | x :: xs, [], _ => by simp [dot]
  | x :: xs, y :: ys, h => by
    have ih := dot_div g hg xs ys fun z hz => h z (List.mem_cons_of_mem _ hz)
    obtain ⟨k, rfl⟩ := h x (List.mem_cons_self ..)
    simp only [List.map_cons, dot, Int.mul_tdiv_cancel_left _ hg]
    rw [Int.mul_add, ← ih, Int.mul_assoc]
theorem tight_value {xs ys : List Int} {c : Int} : 0 ≤ c + dot xs ys ↔ 0 ≤ tC xs c + dot (tX xs c) ys := by
  unfold tX tC
  split
  · rename_i hh
    have hg0 : ((gcdL xs 0 : Nat) : Int) ≠ 0 := by have := hh.2; omega
    have hg : (0 : Int) < gcdL xs 0 := by omega
    have hd := dot_div _ hg0 xs ys (gcdL_dvd xs 0).2
    rw [hd]
    generalize dot (xs.map fun x => x.tdiv ((gcdL xs 0 : Nat) : Int)) ys = d
    generalize ((gcdL xs 0 : Nat) : Int) = g at *
    have h1 := Int.le_ediv_iff_mul_le (a := -d) (b := c) hg
    have h2 : -d * g = -(g * d) := by rw [Int.neg_mul, Int.mul_comm]
    rw [h2] at h1
    omega
  · exact Iff.rfl
theorem nrm_tdy (rs : List Rw) : nrm rs = tdy (tgs rs) := (tdy_cmpt (tgs rs)).symm
theorem nrm_mem {rs : List Rw} (r : Rw) (h : r ∈ nrm rs) : ∃ x ∈ rs, r = tR x ∧ triB r.1 r.2 = false := by
  rw [nrm_tdy] at h
  have h1 := ((tdy_inv (tgs rs)).2 r).1 h |>.1
  unfold tgs at h1
  obtain ⟨h2, h3⟩ := List.mem_filter.1 h1
  obtain ⟨x, hx, rfl⟩ := List.mem_map.1 h2
  exact ⟨x, hx, rfl, by simpa using h3⟩
theorem nrm_val {n : Int} {rs : List Rw} (h : valS n rs = 0) : valS n (nrm rs) = 0 := by
  obtain ⟨h0, h1, h2, h3⟩ := valS_zero.1 h
  refine valS_zero.2 ⟨h0, ?_, ?_, Nat.le_trans nrm_len h3⟩
  · refine List.all_eq_true.2 fun r hr => ?_
    obtain ⟨x, hx, rfl, _⟩ := nrm_mem r hr
    have := List.all_eq_true.1 h1 x hx
    unfold lenB at this ⊢
    rw [tR_len]
    exact this
  · refine List.all_eq_true.2 fun r hr => ?_
    obtain ⟨x, hx, rfl, _⟩ := nrm_mem r hr
    exact tR_small (List.all_eq_true.1 h2 x hx)
theorem dot_nonneg : ∀ (xs ys : List Int), (∀ x ∈ xs, 0 ≤ x) → (∀ y ∈ ys, 0 ≤ y) → 0 ≤ dot xs ys
  | [], _, _, _ => by simp [dot]
  | _ :: _, [], _, _ => by simp [dot]
  | x :: xs, y :: ys, h, h' => by
    have ih := dot_nonneg xs ys (fun z hz => h z (List.mem_cons_of_mem _ hz)) fun z hz => h' z (List.mem_cons_of_mem _ hz)
    have := Int.mul_nonneg (h x (List.mem_cons_self ..)) (h' y (List.mem_cons_self ..))
    simp only [dot]
    omega
theorem tri_holds {t : Rw} {ys : List Int} (h : triB t.1 t.2 = true) (hy : ys.all coB = true) : holdB ys t = true := by
  unfold triB at h
  simp only [Bool.and_eq_true, decide_eq_true_eq, Bool.not_eq_true'] at h
  obtain ⟨h1, h2⟩ := h
  have := dot_nonneg t.1 ys (fun x hx => by
    rcases Int.lt_or_le x 0 with hlt | hge
    · have : t.1.any negB = true := List.any_eq_true.2 ⟨x, hx, by unfold negB; exact decide_eq_true hlt⟩
      rw [this] at h2; cases h2
    · exact hge) (fun y hy' => (coB_true.1 (List.all_eq_true.1 hy y hy')).1)
  unfold holdB
  exact decide_eq_true (by omega)
theorem hold_tR {r : Rw} {ys : List Int} : holdB ys (tR r) = holdB ys r := by
  unfold holdB tR
  exact decide_eq_decide.2 tight_value.symm
theorem nrm_hold {rs : List Rw} {ys : List Int} (hy : ys.all coB = true) : rs.all (holdB ys) = (nrm rs).all (holdB ys) := by
  rw [Bool.eq_iff_iff, List.all_eq_true, List.all_eq_true]
  constructor
  · intro h r hr
    obtain ⟨x, hx, rfl, _⟩ := nrm_mem r hr
    rw [hold_tR]
    exact h x hx
  · intro h r hr
    rw [← hold_tR]
    cases ht : triB (tR r).1 (tR r).2 with
    | true => exact tri_holds ht hy
    | false =>
      have h1 : tR r ∈ tgs rs := by
        unfold tgs
        exact List.mem_filter.2 ⟨List.mem_map.2 ⟨r, hr, rfl⟩, by rw [ht]; rfl⟩
      obtain ⟨x, hx, e1, e2⟩ := has_least (tgs rs) (tR r) h1
      have h2 := h x (by rw [nrm_tdy]; exact ((tdy_inv _).2 x).2 hx)
      unfold holdB at h2 ⊢
      rw [e1] at h2
      have := of_decide_eq_true h2
      exact decide_eq_true (by omega)
theorem nrm_sat {n : Int} {rs : List Rw} {ys : List Int} (h : valS n rs = 0) : satS n (nrm rs) ys = satS n rs ys := by
  unfold satS
  rw [h, nrm_val h]
  cases hy : ys.all coB with
  | false => simp
  | true => rw [nrm_hold (rs := rs) hy]
end Nk
end Go.Proofs.YtbbglendddepfaaDoor

namespace Go.Proofs.YtbbglendddepfaaDoor
open Go.RowKit Go.Deep
namespace Elm
variable {J : World → Prop}
def pairs (m : Nat) (Lw Up : List Rw) : List Rw := Lw.flatMap fun l => Up.map (mixR m l)
def elOk (p m : Nat) (rs : List Rw) : Bool := (low p m rs).all fun l => (upp m rs).all fun u => okE m l u
def elL (p m : Nat) (rs : List Rw) : List Rw := oth m rs ++ pairs m (low p m rs) (upp m rs)
def elE (p m : Nat) (rs : List Rw) : Int := if 192 < szE p m rs then 4 else if elOk p m rs = true then 0 else 4
def EE (n v : Int) (rs : List Rw) : Int := if valS n rs = 0 then (if v < 0 ∨ n ≤ v then 1 else elE n.toNat v.toNat rs) else valS n rs
def ER (n v : Int) (rs : List Rw) : List Rw := if EE n v rs = 0 then nrm (elL n.toNat v.toNat rs) else []
def EN (n v : Int) (rs : List Rw) : Int := if EE n v rs = 0 then n else 0
section
variable {m i j : Nat} {L L2 Lw Up Ot : List Rw} {l : Rw}
theorem cnE_ok {u : Rw} (h : cnE m l u = 0) : okE m l u = true ∧ cnR m l u = mixR m l u := by
  unfold cnE at h
  unfold cnR
  by_cases e : okE m l u = true
  · rw [if_pos e]; exact ⟨e, rfl⟩
  · rw [if_neg e] at h; cases h
theorem cnE_no {u : Rw} (h : ¬ cnE m l u = 0) : okE m l u = false ∧ cnE m l u = 4 := by
  unfold cnE at h ⊢
  by_cases e : okE m l u = true
  · rw [if_pos e] at h; exact absurd rfl h
  · rw [if_neg e]; exact ⟨by simpa using e, rfl⟩
theorem in_next (hj : j < Up.length) (h1 : L2 = L ++ (Up.take j).map (mixR m l)) (h2 : ∀ u ∈ Up.take j, okE m l u = true) (h3 : okE m l Up[j] = true) :
    L2 ++ [mixR m l Up[j]] = L ++ (Up.take (j + 1)).map (mixR m l) ∧ ∀ u ∈ Up.take (j + 1), okE m l u = true := by
  rw [List.take_succ_eq_append_getElem hj, List.map_append, h1]
  refine ⟨by simp, fun u hu => ?_⟩
  rcases List.mem_append.1 hu with hu | hu
  · exact h2 u hu
  · rw [List.mem_singleton] at hu; rw [hu]; exact h3
theorem out_next (hi : i < Lw.length) (hj : j = Up.length) (h1 : L = Ot ++ pairs m (Lw.take i) Up) (h2 : ∀ l ∈ Lw.take i, ∀ u ∈ Up, okE m l u = true) (h3 : L2 = L ++ (Up.take j).map (mixR m Lw[i])) (h4 : ∀ u ∈ Up.take j, okE m Lw[i] u = true) :
    L2 = Ot ++ pairs m (Lw.take (i + 1)) Up ∧ ∀ l ∈ Lw.take (i + 1), ∀ u ∈ Up, okE m l u = true := by
  subst hj
  rw [List.take_length] at h3 h4
  rw [List.take_succ_eq_append_getElem hi]
  refine ⟨by rw [h3, h1, pairs, pairs, List.flatMap_append, List.append_assoc]; simp only [List.flatMap_cons, List.flatMap_nil, List.append_nil], fun l hl => ?_⟩
  rcases List.mem_append.1 hl with hl | hl
  · exact h2 l hl
  · rw [List.mem_singleton] at hl; rw [hl]; exact h4
end
section
variable {p m i j : Nat} {rs L : List Rw}
theorem elOk_yes (h : ∀ l ∈ low p m rs, ∀ u ∈ upp m rs, okE m l u = true) : elOk p m rs = true := List.all_eq_true.2 fun l hl => List.all_eq_true.2 (h l hl)
theorem elOk_no {l u : Rw} (hl : l ∈ low p m rs) (hu : u ∈ upp m rs) (h : okE m l u = false) : elOk p m rs = false := by
  cases e : elOk p m rs with
  | false => rfl
  | true => rw [List.all_eq_true.1 (List.all_eq_true.1 e l hl) u hu] at h; cases h
theorem EE_in (hv : valS ((p : Nat) : Int) rs = 0) (hm : m < p) : EE ((p : Nat) : Int) ((m : Nat) : Int) rs = elE p m rs := by
  unfold EE
  rw [if_pos hv, if_neg (by omega), Int.toNat_natCast, Int.toNat_natCast]
theorem el_big (hv : valS ((p : Nat) : Int) rs = 0) (hm : m < p) (h : 192 < szE p m rs) :
    AV.tup [.agg [iv 0, .sl 2 0 []], iv 4] = .tup [.agg (cSy (EN ((p : Nat) : Int) ((m : Nat) : Int) rs) (ER ((p : Nat) : Int) ((m : Nat) : Int) rs)), iv (EE ((p : Nat) : Int) ((m : Nat) : Int) rs)] := by
  have e : EE ((p : Nat) : Int) ((m : Nat) : Int) rs = 4 := by rw [EE_in hv hm]; unfold elE; rw [if_pos h]
  unfold ER EN; rw [e]; rfl
theorem el_no {x : Int} (hv : valS ((p : Nat) : Int) rs = 0) (hm : m < p) (h : ¬ 192 < szE p m rs) (h2 : elOk p m rs = false) (hx : x = 4) :
    AV.tup [.agg [iv 0, .sl 2 0 []], iv x] = .tup [.agg (cSy (EN ((p : Nat) : Int) ((m : Nat) : Int) rs) (ER ((p : Nat) : Int) ((m : Nat) : Int) rs)), iv (EE ((p : Nat) : Int) ((m : Nat) : Int) rs)] := by
  have e : EE ((p : Nat) : Int) ((m : Nat) : Int) rs = 4 := by rw [EE_in hv hm]; unfold elE; rw [if_neg h, if_neg (by rw [h2]; simp)]
  unfold ER EN; rw [e, hx]; rfl
theorem el_ok (hv : valS ((p : Nat) : Int) rs = 0) (hm : m < p) (h : ¬ 192 < szE p m rs) (h2 : elOk p m rs = true) :
    AV.tup [.agg [iv ((p : Nat) : Int), .sl 2 (nrm (elL p m rs)).length ((nrm (elL p m rs)).flatMap cRo)], iv 0] = .tup [.agg (cSy (EN ((p : Nat) : Int) ((m : Nat) : Int) rs) (ER ((p : Nat) : Int) ((m : Nat) : Int) rs)), iv (EE ((p : Nat) : Int) ((m : Nat) : Int) rs)] := by
  have e : EE ((p : Nat) : Int) ((m : Nat) : Int) rs = 0 := by rw [EE_in hv hm]; unfold elE; rw [if_neg h, if_pos h2]
  unfold ER EN; rw [e, if_pos rfl, if_pos rfl, Int.toNat_natCast, Int.toNat_natCast]; rfl
theorem el_inv {n v : Int} (h : ¬ valS n rs = 0) : AV.tup [.agg [iv 0, .sl 2 0 []], iv (valS n rs)] = .tup [.agg (cSy (EN n v rs) (ER n v rs)), iv (EE n v rs)] := by
  have e : EE n v rs = valS n rs := by unfold EE; rw [if_neg h]
  unfold ER EN; rw [e, if_neg h, if_neg h]; rfl
theorem el_arg {n v : Int} (h : valS n rs = 0) (h2 : v < 0 ∨ n ≤ v) : AV.tup [.agg [iv 0, .sl 2 0 []], iv 1] = .tup [.agg (cSy (EN n v rs) (ER n v rs)), iv (EE n v rs)] := by
  have e : EE n v rs = 1 := by unfold EE; rw [if_pos h, if_pos h2]
  unfold ER EN; rw [e]; rfl
/-- The rows of a valid system. -/
structure Fit (p m : Nat) (rs : List Rw) : Prop where
  p96 : p ≤ 96
  mp : m < p
  len : ∀ r ∈ rs, r.1.length = p
  sm : ∀ r ∈ rs, smR r = true
  n : rs.length ≤ 192
theorem fit_of (hv : valS ((p : Nat) : Int) rs = 0) (hm : m < p) : Fit p m rs := by
  obtain ⟨h0, h1, h2, h3⟩ := valS_zero.1 hv
  refine ⟨by omega, hm, fun r hr => ?_, fun r hr => List.all_eq_true.1 h2 r hr, h3⟩
  have := List.all_eq_true.1 h1 r hr
  unfold lenB at this
  have := of_decide_eq_true this
  omega
theorem axR_small (p m : Nat) : smR (axR p m 1, 0) = true := by
  refine smR_true.2 ⟨List.all_eq_true.2 fun x hx => ?_, by decide⟩
  unfold axR at hx
  rcases List.mem_or_eq_of_mem_set hx with h | h
  · rw [(List.mem_replicate.1 h).2]; decide
  · rw [h]; decide
theorem Fit.low_mem (F : Fit p m rs) {l : Rw} (h : l ∈ low p m rs) : l.1.length = p ∧ smR l = true ∧ 0 < cf m l := by
  rcases List.mem_cons.1 h with rfl | h
  · refine ⟨axR_len _ _ _, axR_small _ _, ?_⟩
    have : m < (axR p m 1).length := by rw [axR_len]; exact F.mp
    rw [← cf_at (r := (axR p m 1, 0)) this]
    simp [axR]
  · obtain ⟨h1, h2⟩ := List.mem_filter.1 h
    exact ⟨F.len _ h1, F.sm _ h1, of_decide_eq_true h2⟩
theorem Fit.upp_mem (F : Fit p m rs) {u : Rw} (h : u ∈ upp m rs) : u.1.length = p ∧ smR u = true ∧ cf m u < 0 := by
  obtain ⟨h1, h2⟩ := List.mem_filter.1 h
  exact ⟨F.len _ h1, F.sm _ h1, of_decide_eq_true h2⟩
theorem Fit.pair (F : Fit p m rs) {l u : Rw} (hl : l ∈ low p m rs) (hu : u ∈ upp m rs) : Pair m l u := by
  obtain ⟨a1, a2, a3⟩ := F.low_mem hl
  obtain ⟨b1, b2, b3⟩ := F.upp_mem hu
  exact ⟨by rw [a1]; exact F.mp, by rw [b1]; exact F.mp, by rw [a1, b1], by rw [a1]; exact F.p96, a2, b2, a3, b3⟩
theorem elL_len : (((elL p m rs).length : Nat) : Int) = szE p m rs := by
  have : (pairs m (low p m rs) (upp m rs)).length = (low p m rs).length * (upp m rs).length := by
    unfold pairs
    generalize low p m rs = Lw
    induction Lw with
    | nil => simp
    | cons l Lw ih => rw [List.flatMap_cons, List.length_append, ih, List.length_map, List.length_cons, Nat.succ_mul, Nat.add_comm]
  unfold elL szE mulE
  rw [List.length_append, this, Int.natCast_add, Int.natCast_mul]
theorem Fit.el_mem (F : Fit p m rs) (h : elOk p m rs = true) : ∀ r ∈ elL p m rs, r.1.length = p ∧ smR r = true := fun r hr => by
  rcases List.mem_append.1 hr with hr | hr
  · have := (List.mem_filter.1 hr).1
    exact ⟨F.len _ this, F.sm _ this⟩
  · obtain ⟨l, hl, hr⟩ := List.mem_flatMap.1 hr
    obtain ⟨u, hu, rfl⟩ := List.mem_map.1 hr
    have P := F.pair hl hu
    have hok := List.all_eq_true.1 (List.all_eq_true.1 h l hl) u hu
    unfold okE at hok
    simp only [Bool.and_eq_true] at hok
    exact ⟨by rw [mix_len P]; exact (F.low_mem hl).1, hok.2⟩
theorem Fit.sy (F : Fit p m rs) (h : elOk p m rs = true) (h2 : ¬ 192 < szE p m rs) : SyOk (elL p m rs) ∧ (elL p m rs).length ≤ 250 ∧ ∀ r ∈ elL p m rs, r.1.length ≤ 1000 := by
  have h3 := elL_len (p := p) (m := m) (rs := rs)
  refine ⟨⟨fun r hr => sm_ok (F.el_mem h r hr).2, by omega⟩, by omega, fun r hr => ?_⟩
  rw [(F.el_mem h r hr).1]
  have := F.p96
  omega
theorem norm_L {L : List Rw} (F : Fit p m rs) (h : elOk p m rs = true) (h2 : ¬ 192 < szE p m rs) (e : L = elL p m rs) (k : Nat) :
    CtrO Tryd.prog J 33 [.sl 2 L.length (L.flatMap cRo)] k (.row true 39 2 ((nrm (elL p m rs)).length) ((nrm (elL p m rs)).flatMap cRo)) (.own k) := by
  subst e
  have S := F.sy h h2
  exact normalRows_o S.1 S.2.1 S.2.2 k
theorem norm_T {L : List Rw} (F : Fit p m rs) (h : elOk p m rs = true) (h2 : ¬ 192 < szE p m rs) (e : L = elL p m rs) (k : Nat) :
    CtrO Tryd.prog J 47 [iv ((p : Nat) : Int), .sl 2 L.length (L.flatMap cRo)] k (.row true 39 2 ((nrm (elL p m rs)).length) ((nrm (elL p m rs)).flatMap cRo)) (.agg [iv ((p : Nat) : Int), .own k]) := by
  subst e
  have S := F.sy h h2
  exact tidy_o S.1 S.2.1 S.2.2 k
theorem axR_sl (p m : Nat) (c : Int) : AV.sl 1 p ((axR p m c).map iv) = intsA (axR p m c) := congrArg (fun q => AV.sl 1 q ((axR p m c).map iv)) (axR_len p m c).symm
theorem within_in (hm : m < p) : Ctr Tryd.prog J 41 [iv ((m : Nat) : Int), iv 0, iv (((p : Nat) : Int) - 1)] (bv true) := ctr3 fun w v v' v'' _ h h' h'' => by
  rw [h.v_inv, h'.v_inv, h''.v_inv]
  have e : inB 0 (((p : Nat) : Int) - 1) ((m : Nat) : Int) = true := by unfold inB; simp; omega
  exact (within_any _ _ _ w).mono fun _ _ hh => by rw [e] at hh; exact ret_eq hh
theorem within_out {n v : Int} (h : v < 0 ∨ n ≤ v) : Ctr Tryd.prog J 41 [iv v, iv 0, iv (n - 1)] (bv false) := ctr3 fun w v1 v2 v3 _ h1 h2 h3 => by
  rw [h1.v_inv, h2.v_inv, h3.v_inv]
  have e : inB 0 (n - 1) v = false := by unfold inB; simp; omega
  exact (within_any _ _ _ w).mono fun _ _ hh => by rw [e] at hh; exact ret_eq hh
theorem ok_big {l u : Rw} (h : 65536 < kA m l u ∨ 65536 < kB m l u) : okE m l u = false := by
  unfold okE
  rcases h with h | h <;> simp [h]
end
end Elm
end Go.Proofs.YtbbglendddepfaaDoor
