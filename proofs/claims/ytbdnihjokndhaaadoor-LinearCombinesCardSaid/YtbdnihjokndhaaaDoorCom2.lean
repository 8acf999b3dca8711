/-
  Combine OF THE PROGRAM: the sum.
-/
import Derived.Test.YtbdnihjokndhaaaDoorCom
import Derived.Test.YtbdnihjokndhaaaDoorCopy
namespace Go.Proofs.YtbdnihjokndhaaaDoor
open Go.RowKit Go.Deep

theorem sumL_take (ka kb : Int) : ∀ (xs ys : List Int) (k : Nat) (h : k < xs.length) (h' : k < ys.length), sumL ka kb (xs.take (k + 1)) (ys.take (k + 1)) = sumL ka kb (xs.take k) (ys.take k) ++ [ka * xs[k] + kb * ys[k]]
  | x :: xs, y :: ys, 0, _, _ => by simp [sumL]
  | x :: xs, y :: ys, k + 1, h, h' => by
    have ih := sumL_take ka kb xs ys k (by simpa using h) (by simpa using h')
    simpa [sumL] using ih
def fillS (ka kb : Int) (xs ys : List Int) (k : Nat) : List Int := sumL ka kb (xs.take k) (ys.take k) ++ List.replicate (xs.length - k) 0
theorem fillS_length (ka kb : Int) (xs ys : List Int) (k : Nat) (h : k ≤ xs.length) (e : xs.length = ys.length) : (fillS ka kb xs ys k).length = xs.length := by simp [fillS, sumL]; omega
theorem fillS_set (ka kb : Int) (xs ys : List Int) (k : Nat) (h : k < xs.length) (h' : k < ys.length) : (fillS ka kb xs ys k).set k (ka * xs[k] + kb * ys[k]) = fillS ka kb xs ys (k + 1) := by
  have hl : (sumL ka kb (xs.take k) (ys.take k)).length = k := by simp [sumL]; omega
  simp only [fillS]
  rw [List.set_append_right _ _ (by omega), sumL_take _ _ _ _ _ h h', List.append_assoc]
  have e : k - (sumL ka kb (xs.take k) (ys.take k)).length = 0 := by omega
  rw [e, show xs.length - k = (xs.length - (k + 1)) + 1 by omega, List.replicate_succ]; rfl
theorem fillS_end (ka kb : Int) (xs ys : List Int) (e : xs.length = ys.length) : fillS ka kb xs ys xs.length = sumL ka kb xs ys := by
  have h1 : xs.take xs.length = xs := List.take_length
  have h2 : ys.take xs.length = ys := by rw [e]; exact List.take_length
  simp [fillS, h1, h2]

set_option maxHeartbeats 3200000 in
theorem Combine_full {lo lo' : Nat} {w : World} {xs ys : List Int} {b off cap b' off' cap' n : Nat} (c ka d kb : Int) (hx : xs.length = n) (hy : ys.length = n) (h : IsInts lo w (.slice (some ⟨b, off, none⟩) n cap) xs) (h' : IsInts lo' w (.slice (some ⟨b', off', none⟩) n cap') ys) (hn : n ≤ 96) (hka : facB ka = true) (hkb : facB kb = true)
    (hs : smR (xs, c) = true) (hs' : smR (ys, d) = true) (hb : b < w.heap.size) (hb' : b' < w.heap.size)
    (hc : ∀ i, i < n → w.cell? ⟨b, off + i, none⟩ = some (.int .i64 (xs.getD i 0))) (hc' : ∀ i, i < n → w.cell? ⟨b', off' + i, none⟩ = some (.int .i64 (ys.getD i 0))) :
    Calls Tryd.prog 19 #[.agg #[.slice (some ⟨b, off, none⟩) n cap, .int .i64 c], .int .i64 ka, .agg #[.slice (some ⟨b', off', none⟩) n cap', .int .i64 d], .int .i64 kb] w fun e w' => ∃ v', e = .returned (.tuple #[.agg #[v', .int .i64 (comC xs c ka ys d kb)], .int .i64 (comE xs c ka ys d kb)]) ∧ OwnV w.heap.size w' v' (comX xs c ka ys d kb) ∧ Below w.heap.size w w' := by
  have G0 := hid0 h
  have G1 := hid0 h'
  have HS := hid0 (smR_true.1 hs)
  have HS' := hid0 (smR_true.1 hs')
  have HC := hid0 hc
  have HC' := hid0 hc'
  have HX := hid0 hx
  have HY := hid0 hy
  have hm1 := mul_fac hka (smR_true.1 hs).2
  have hm2 := mul_fac hkb (smR_true.1 hs').2
  have e1 : IntKind.i64.wrap (ka * c) = ka * c := IntWalk.i64_in _ (by omega)
  have e2 : IntKind.i64.wrap (kb * d) = kb * d := IntWalk.i64_in _ (by omega)
  have e3 : IntKind.i64.wrap (ka * c + kb * d) = ka * c + kb * d := IntWalk.i64_in _ (by omega)
  have HE : Hid (comE xs c ka ys d kb = if smR (sumL ka kb xs ys, ka * c + kb * d) = true then 0 else 4) := by
    show _ = _
    unfold comE
    rw [if_neg (by rw [hka, hkb, hx, hy]; simp; omega), if_neg (by rw [hs, hs']; simp)]
  have HK := hid0 (And.intro hka hkb)
  have h2' : ¬ (96 : Int) < n := by omega
  have hmk := run_make_row' (P := Tryd.prog) 22 3 (.int .i64 0) 8 Tryd.underlying22 info_int rfl .i64 .i64 n (by omega) (by omega)
  have hM := hid0 (And.intro hm1 hm2)
  clear h h' hc hc' hx hy hm1 hm2
  go_enter Tryd.func19, Tryd.ntmps19
  go_wp2_with (first | (go_at_call 47; refine (isFactor_any _ _).mono ?_; rintro e w1 ⟨rfl, rfl⟩) | (go_at_call 42; refine (small_any d (G1.out.below hB2)).mono ?_; rintro e w3 ⟨rfl, hb3⟩; have hB3 : Below w.heap.size w w3 := thenBelow hB2 hb3; have z0 := keep1 y0 hb3; have z1 := keep1 y1 hb3; have z2 := keep1 y2 hb3; have z3 := keep1 y3 hb3; have z4 := keep1 y4 hb3; have z5 := keep1 y5 hb3; have z6 : (∀ o, w3.frozen? ⟨w.heap.size + 1 + 1, o, none⟩ = false) := fun o => (hb3.frozen (p := ⟨w.heap.size + 1 + 1, o, none⟩) (by show w.heap.size + 1 + 1 < _; omega)).trans (f4 o); have l3 : w.heap.size + 2 < w3.heap.size := (by have := hb3.size; omega)) | (go_at_call 42; refine (small_any c (G0.out.below (by go_grown))).mono ?_; rintro e w2 ⟨rfl, hb2⟩; obtain ⟨f1, f2, f3, f4, l2, hB2⟩ := boxes3 hb2; have y0 : w2.cell? ⟨w.heap.size, 0, none⟩ = some (.slice (some ⟨b, off, none⟩) n cap) := f1 0; have y1 : w2.cell? ⟨w.heap.size, 1, none⟩ = some (.int .i64 c) := f1 1; have y2 : w2.cell? ⟨w.heap.size + 1, 0, none⟩ = some (.slice (some ⟨b', off', none⟩) n cap') := f2 0; have y3 : w2.cell? ⟨w.heap.size + 1, 1, none⟩ = some (.int .i64 d) := f2 1; have y4 : w2.cell? ⟨w.heap.size + 1 + 1, 0, none⟩ = some (.slice none 0 0) := f3 0; have y5 : w2.cell? ⟨w.heap.size + 1 + 1, 1, none⟩ = some (.int .i64 0) := f3 1; clear f1 f2 f3 hb2))
  have l0 : w.heap.size < w3.heap.size := by omega
  have l1 : w.heap.size + 1 < w3.heap.size := by omega
  have l2 : w.heap.size + 1 + 1 < w3.heap.size := by omega
  have HB3 := hid0 hB3
  clear y0 y1 y2 y3 y4 y5 f4 hB2 hB3 hb3
  go_region
  · go_wp2_with fail
    obtain ⟨W, hW⟩ : ∃ W : World, W = ((w3.alloc (.cells (madeCells #[Value.int .i64 0] n) 3)).alloc (.cells #[Value.slice (some ⟨w3.heap.size, 0, none⟩) n n, Value.int .i64 (ka * c + kb * d)] 24)).drew := ⟨_, rfl⟩
    rw [← hW]
    have HO3 : Hid (OwnInts w3.heap.size W (w3.heap.size) (fillS ka kb xs ys 0)) := by
      show OwnInts _ _ _ _
      have hl0 : (fillS ka kb xs ys 0).length = n := by rw [fillS_length _ _ _ _ _ (Nat.zero_le _) (HX.out.trans HY.out.symm)]; exact HX.out
      rw [hW]
      refine ⟨by omega, by rw [hl0]; unfold maxLen; omega, ?_, _, 3, heap_old _ _ (by simp) |>.trans (heap_new _ _ (by simp)), fun i hi => ?_⟩
      · intro x hx; simp [fillS, sumL] at hx; rw [hx.2]; constructor <;> decide
      · have hi' : i < n := by rw [hl0] at hi; exact hi
        have hi2 : i < xs.length := by rw [HX.out]; exact hi'
        rw [madeCells_int]; simp [fillS, sumL, hi', hi2]
    have HB : Hid (Below w3.heap.size w3 W) := by rw [hW]; show Below _ _ _; go_grown
    have x1 : W.cell? ⟨w3.heap.size + 1, 0, none⟩ = some (.slice (some ⟨w3.heap.size, 0, none⟩) n n) := by rw [hW]; simp
    have x2 : W.cell? ⟨w3.heap.size + 1, 1, none⟩ = some (.int .i64 (ka * c + kb * d)) := by rw [hW]; simp
    have hWs : w3.heap.size + 1 < W.heap.size := by rw [hW]; simp
    clear hW hmk
    have hgn : w3.heap.size ≠ w3.heap.size + 1 := by omega
    have hg2 : w3.heap.size ≤ w3.heap.size := by omega
    go_loopw [62] (fun v wr => ∃ k : Nat, k ≤ n ∧ v = .int .i64 k ∧ OwnInts w3.heap.size wr (w3.heap.size) (fillS ka kb xs ys k) ∧ (∀ b, b ≠ w3.heap.size → wr.heap[b]? = W.heap[b]?) ∧ Below w3.heap.size w3 wr) (fun v _ => n - (intOf v).toNat)
    case atStart => exact ⟨0, Nat.zero_le _, rfl, HO3.out, fun _ _ => rfl, HB.out⟩
    case round =>
      obtain ⟨k, hk, rfl, hO, hBut, hB⟩ := hrel
      have HOk := hid0 hO
      have HBut := hid0 hBut
      have HBr := hid0 hB
      have HB0 := hid0 (thenBelow HB3.out hB)
      obtain ⟨c1, c2⟩ := but_cell hBut
      have u0 := keep1 z0 hB
      have u1 := keep1 z2 hB
      have u2 : wr.cell? ⟨w3.heap.size + 1, 0, none⟩ = some (.slice (some ⟨w3.heap.size, 0, none⟩) n n) := (c1 _ _ (by omega)).trans x1
      have u3 : wr.cell? ⟨w3.heap.size + 1, 1, none⟩ = some (.int .i64 (ka * c + kb * d)) := (c1 _ _ (by omega)).trans x2
      by_cases h1 : k < n
      · have hkx : k < xs.length := by rw [HX.out]; exact h1
        have hky : k < ys.length := by rw [HY.out]; exact h1
        have g1 : wr.cell? ⟨b, off + k, none⟩ = some (.int .i64 (xs[k]'hkx)) := by
          have := (HB0.out.cell (p := ⟨b, off + k, none⟩) hb).trans (HC.out k h1); simpa [List.getD, hkx] using this
        have g1' : wr.cell? ⟨b', off' + k, none⟩ = some (.int .i64 (ys[k]'hky)) := by
          have := (HB0.out.cell (p := ⟨b', off' + k, none⟩) hb').trans (HC'.out k h1); simpa [List.getD, hky] using this
        obtain ⟨u, g2⟩ : ∃ u, wr.cell? ⟨w3.heap.size, k, none⟩ = some u := ⟨_, hO.cell k (by rw [fillS_length _ _ _ _ _ (by omega) (HX.out.trans HY.out.symm)]; exact hkx)⟩
        have g3 : wr.frozen? ⟨w3.heap.size, k, none⟩ = false := hO.frozen k
        have m1 := mul_fac HK.out.1 (List.all_eq_true.1 HS.out.1 _ (List.getElem_mem hkx))
        have m2 := mul_fac HK.out.2 (List.all_eq_true.1 HS'.out.1 _ (List.getElem_mem hky))
        have ew1 : IntKind.i64.wrap (ka * xs[k]'hkx) = ka * xs[k]'hkx := IntWalk.i64_in _ (by omega)
        have ew2 : IntKind.i64.wrap (kb * ys[k]'hky) = kb * ys[k]'hky := IntWalk.i64_in _ (by omega)
        have ew3 : IntKind.i64.wrap (ka * xs[k]'hkx + kb * ys[k]'hky) = ka * xs[k]'hkx + kb * ys[k]'hky := IntWalk.i64_in _ (by omega)
        have Hm := hid0 (And.intro m1 m2)
        clear m1 m2 hO hBut hB c1 c2 x1 x2 z0 z1 z2 z3 z4 z5 z6 e1 e2 e3
        go_wp2
        go_region
        go_wp2
        go_roundw
        case rel =>
          refine ⟨k + 1, by omega, by go_num, ?_, fun b hb => (Below.heap_setCell _ _ _ _ hb).trans (HBut.out b hb), (HBr.out.setCell hg2 _).drew⟩
          rw [← fillS_set _ _ _ _ _ hkx hky]
          refine HOk.out.set k _ ?_
          have := Hm.out
          constructor <;> omega
        case measure => simp [intOf]; omega
      · obtain rfl : k = n := by omega
        have hO := HOk.out
        rw [← HX.out, fillS_end _ _ _ _ (HX.out.trans HY.out.symm)] at hO
        have HOr := hid0 hO
        have hlen : (sumL ka kb xs ys).length = k := by rw [← fillS_end ka kb xs ys (HX.out.trans HY.out.symm), fillS_length _ _ _ _ _ (Nat.le_refl _) (HX.out.trans HY.out.symm)]; exact HX.out
        have v2 := keep1 z4 hB
        have v3 := keep1 z5 hB
        have v4 : ∀ o, wr.frozen? ⟨w.heap.size + 1 + 1, o, none⟩ = false := fun o => (hB.frozen (p := ⟨w.heap.size + 1 + 1, o, none⟩) l2).trans (z6 o)
        have l1 : w.heap.size + 1 + 1 < wr.heap.size := cell_lt v2
        have ln := cell_lt u2
        have HI : Hid (IsInts w3.heap.size wr (.slice (some ⟨w3.heap.size, 0, none⟩) k k) (sumL ka kb xs ys)) := by show IsInts _ _ _ _; have := HOr.out.ints; rw [hlen] at this; exact this
        have HL := hid0 hlen
        clear hO hBut hB c1 c2 x1 x2 h1 hk z0 z1 z2 z3 z4 z5 z6 hlen
        cases hsm : smR (sumL ka kb xs ys, ka * c + kb * d) with
        | true =>
          have E := hid0 (show comE xs c ka ys d kb = 0 by rw [HE.out, if_pos hsm])
          go_wp2_with (go_at_call 42; refine (small_any (ka * c + kb * d) HI.out).mono ?_; rintro e w4 ⟨rfl, hb4⟩; have t1 := keep1 u2 hb4; have t2 := keep1 u3 hb4; have t3 := keep1 v2 hb4; have t4 := keep1 v3 hb4; have t5 : (∀ o, w4.frozen? ⟨w.heap.size + 1 + 1, o, none⟩ = false) := fun o => (hb4.frozen (p := ⟨w.heap.size + 1 + 1, o, none⟩) l1).trans (v4 o))
          have HB4 := hid0 (thenBelow HB0.out hb4)
          refine bodyPost_ret (v := .tuple #[.agg #[.slice (some ⟨w3.heap.size, 0, none⟩) k k, .int .i64 (ka * c + kb * d)], .int .i64 0]) (by simp [results, Tryd.results19, go_sem, t3, t4]) rfl ⟨_, by rw [show comC xs c ka ys d kb = ka * c + kb * d by unfold comC; rw [if_pos E.out], E.out], ?_, (HB4.out.setCell (by simp; omega) _).setCell (by simp; omega) _⟩
          rw [show comX xs c ka ys d kb = sumL ka kb xs ys by unfold comX; rw [if_pos E.out]]
          have hO3 := ((HOr.out.below hb4).setOther ⟨w.heap.size + 1 + 1, 0, none⟩ (.slice (some ⟨w3.heap.size, 0, none⟩) k k) (by simp; omega)).setOther ⟨w.heap.size + 1 + 1, 1, none⟩ (.int .i64 (ka * c + kb * d)) (by simp; omega)
          exact .inr ⟨w3.heap.size, k, by rw [HL.out], by rw [HL.out]; exact Nat.le_refl _, by unfold maxLen; omega, hO3.mono (lo' := w.heap.size) (by omega)⟩
        | false =>
          have E := hid0 (show comE xs c ka ys d kb = 4 by rw [HE.out, hsm]; rfl)
          go_wp2_with (go_at_call 42; refine (small_any (ka * c + kb * d) HI.out).mono ?_; rintro e w4 ⟨rfl, hb4⟩; have t1 := keep1 u2 hb4; have t2 := keep1 u3 hb4; have t3 := keep1 v2 hb4; have t4 := keep1 v3 hb4; have t5 : (∀ o, w4.frozen? ⟨w.heap.size + 1 + 1, o, none⟩ = false) := fun o => (hb4.frozen (p := ⟨w.heap.size + 1 + 1, o, none⟩) l1).trans (v4 o))
          have HB4 := hid0 (thenBelow HB0.out hb4)
          refine bodyPost_ret (v := .tuple #[.agg #[.slice none 0 0, .int .i64 0], .int .i64 4]) (by simp [results, Tryd.results19, go_sem, t3, t4]) rfl ⟨_, by rw [show comC xs c ka ys d kb = 0 by unfold comC; rw [E.out]; rfl, E.out], ?_, (HB4.out.setCell (by simp; omega) _).setCell (by simp; omega) _⟩
          rw [show comX xs c ka ys d kb = [] by unfold comX; rw [E.out]; rfl]
          exact .inl ⟨rfl, rfl⟩
  · go_wp2_with fail
    obtain ⟨W, hW⟩ : ∃ W : World, W = ((w3.alloc (.cells #[Value.slice (some ⟨w3.heap.size + 1, 0, none⟩) n n, Value.int .i64 (ka * c + kb * d)] 24)).alloc (.cells (madeCells #[Value.int .i64 0] n) 3)).drew := ⟨_, rfl⟩
    rw [← hW]
    have HO3 : Hid (OwnInts w3.heap.size W (w3.heap.size + 1) (fillS ka kb xs ys 0)) := by
      show OwnInts _ _ _ _
      have hl0 : (fillS ka kb xs ys 0).length = n := by rw [fillS_length _ _ _ _ _ (Nat.zero_le _) (HX.out.trans HY.out.symm)]; exact HX.out
      rw [hW]
      refine ⟨by omega, by rw [hl0]; unfold maxLen; omega, ?_, _, 3, heap_new _ _ (by simp), fun i hi => ?_⟩
      · intro x hx; simp [fillS, sumL] at hx; rw [hx.2]; constructor <;> decide
      · have hi' : i < n := by rw [hl0] at hi; exact hi
        have hi2 : i < xs.length := by rw [HX.out]; exact hi'
        rw [madeCells_int]; simp [fillS, sumL, hi', hi2]
    have HB : Hid (Below w3.heap.size w3 W) := by rw [hW]; show Below _ _ _; go_grown
    have x1 : W.cell? ⟨w3.heap.size, 0, none⟩ = some (.slice (some ⟨w3.heap.size + 1, 0, none⟩) n n) := by rw [hW]; simp
    have x2 : W.cell? ⟨w3.heap.size, 1, none⟩ = some (.int .i64 (ka * c + kb * d)) := by rw [hW]; simp
    have hWs : w3.heap.size + 1 < W.heap.size := by rw [hW]; simp
    clear hW hmk
    have hgn : w3.heap.size + 1 ≠ w3.heap.size := by omega
    have hg2 : w3.heap.size ≤ w3.heap.size + 1 := by omega
    go_loopw [62] (fun v wr => ∃ k : Nat, k ≤ n ∧ v = .int .i64 k ∧ OwnInts w3.heap.size wr (w3.heap.size + 1) (fillS ka kb xs ys k) ∧ (∀ b, b ≠ w3.heap.size + 1 → wr.heap[b]? = W.heap[b]?) ∧ Below w3.heap.size w3 wr) (fun v _ => n - (intOf v).toNat)
    case atStart => exact ⟨0, Nat.zero_le _, rfl, HO3.out, fun _ _ => rfl, HB.out⟩
    case round =>
      obtain ⟨k, hk, rfl, hO, hBut, hB⟩ := hrel
      have HOk := hid0 hO
      have HBut := hid0 hBut
      have HBr := hid0 hB
      have HB0 := hid0 (thenBelow HB3.out hB)
      obtain ⟨c1, c2⟩ := but_cell hBut
      have u0 := keep1 z0 hB
      have u1 := keep1 z2 hB
      have u2 : wr.cell? ⟨w3.heap.size, 0, none⟩ = some (.slice (some ⟨w3.heap.size + 1, 0, none⟩) n n) := (c1 _ _ (by omega)).trans x1
      have u3 : wr.cell? ⟨w3.heap.size, 1, none⟩ = some (.int .i64 (ka * c + kb * d)) := (c1 _ _ (by omega)).trans x2
      by_cases h1 : k < n
      · have hkx : k < xs.length := by rw [HX.out]; exact h1
        have hky : k < ys.length := by rw [HY.out]; exact h1
        have g1 : wr.cell? ⟨b, off + k, none⟩ = some (.int .i64 (xs[k]'hkx)) := by
          have := (HB0.out.cell (p := ⟨b, off + k, none⟩) hb).trans (HC.out k h1); simpa [List.getD, hkx] using this
        have g1' : wr.cell? ⟨b', off' + k, none⟩ = some (.int .i64 (ys[k]'hky)) := by
          have := (HB0.out.cell (p := ⟨b', off' + k, none⟩) hb').trans (HC'.out k h1); simpa [List.getD, hky] using this
        obtain ⟨u, g2⟩ : ∃ u, wr.cell? ⟨w3.heap.size + 1, k, none⟩ = some u := ⟨_, hO.cell k (by rw [fillS_length _ _ _ _ _ (by omega) (HX.out.trans HY.out.symm)]; exact hkx)⟩
        have g3 : wr.frozen? ⟨w3.heap.size + 1, k, none⟩ = false := hO.frozen k
        have m1 := mul_fac HK.out.1 (List.all_eq_true.1 HS.out.1 _ (List.getElem_mem hkx))
        have m2 := mul_fac HK.out.2 (List.all_eq_true.1 HS'.out.1 _ (List.getElem_mem hky))
        have ew1 : IntKind.i64.wrap (ka * xs[k]'hkx) = ka * xs[k]'hkx := IntWalk.i64_in _ (by omega)
        have ew2 : IntKind.i64.wrap (kb * ys[k]'hky) = kb * ys[k]'hky := IntWalk.i64_in _ (by omega)
        have ew3 : IntKind.i64.wrap (ka * xs[k]'hkx + kb * ys[k]'hky) = ka * xs[k]'hkx + kb * ys[k]'hky := IntWalk.i64_in _ (by omega)
        have Hm := hid0 (And.intro m1 m2)
        clear m1 m2 hO hBut hB c1 c2 x1 x2 z0 z1 z2 z3 z4 z5 z6 e1 e2 e3
        go_wp2
        go_region
        go_wp2
        go_roundw
        case rel =>
          refine ⟨k + 1, by omega, by go_num, ?_, fun b hb => (Below.heap_setCell _ _ _ _ hb).trans (HBut.out b hb), (HBr.out.setCell hg2 _).drew⟩
          rw [← fillS_set _ _ _ _ _ hkx hky]
          refine HOk.out.set k _ ?_
          have := Hm.out
          constructor <;> omega
        case measure => simp [intOf]; omega
      · obtain rfl : k = n := by omega
        have hO := HOk.out
        rw [← HX.out, fillS_end _ _ _ _ (HX.out.trans HY.out.symm)] at hO
        have HOr := hid0 hO
        have hlen : (sumL ka kb xs ys).length = k := by rw [← fillS_end ka kb xs ys (HX.out.trans HY.out.symm), fillS_length _ _ _ _ _ (Nat.le_refl _) (HX.out.trans HY.out.symm)]; exact HX.out
        have v2 := keep1 z4 hB
        have v3 := keep1 z5 hB
        have v4 : ∀ o, wr.frozen? ⟨w.heap.size + 1 + 1, o, none⟩ = false := fun o => (hB.frozen (p := ⟨w.heap.size + 1 + 1, o, none⟩) l2).trans (z6 o)
        have l1 : w.heap.size + 1 + 1 < wr.heap.size := cell_lt v2
        have ln := cell_lt u2
        have HI : Hid (IsInts w3.heap.size wr (.slice (some ⟨w3.heap.size + 1, 0, none⟩) k k) (sumL ka kb xs ys)) := by show IsInts _ _ _ _; have := HOr.out.ints; rw [hlen] at this; exact this
        have HL := hid0 hlen
        clear hO hBut hB c1 c2 x1 x2 h1 hk z0 z1 z2 z3 z4 z5 z6 hlen
        cases hsm : smR (sumL ka kb xs ys, ka * c + kb * d) with
        | true =>
          have E := hid0 (show comE xs c ka ys d kb = 0 by rw [HE.out, if_pos hsm])
          go_wp2_with (go_at_call 42; refine (small_any (ka * c + kb * d) HI.out).mono ?_; rintro e w4 ⟨rfl, hb4⟩; have t1 := keep1 u2 hb4; have t2 := keep1 u3 hb4; have t3 := keep1 v2 hb4; have t4 := keep1 v3 hb4; have t5 : (∀ o, w4.frozen? ⟨w.heap.size + 1 + 1, o, none⟩ = false) := fun o => (hb4.frozen (p := ⟨w.heap.size + 1 + 1, o, none⟩) l1).trans (v4 o))
          have HB4 := hid0 (thenBelow HB0.out hb4)
          refine bodyPost_ret (v := .tuple #[.agg #[.slice (some ⟨w3.heap.size + 1, 0, none⟩) k k, .int .i64 (ka * c + kb * d)], .int .i64 0]) (by simp [results, Tryd.results19, go_sem, t3, t4]) rfl ⟨_, by rw [show comC xs c ka ys d kb = ka * c + kb * d by unfold comC; rw [if_pos E.out], E.out], ?_, (HB4.out.setCell (by simp; omega) _).setCell (by simp; omega) _⟩
          rw [show comX xs c ka ys d kb = sumL ka kb xs ys by unfold comX; rw [if_pos E.out]]
          have hO3 := ((HOr.out.below hb4).setOther ⟨w.heap.size + 1 + 1, 0, none⟩ (.slice (some ⟨w3.heap.size + 1, 0, none⟩) k k) (by simp; omega)).setOther ⟨w.heap.size + 1 + 1, 1, none⟩ (.int .i64 (ka * c + kb * d)) (by simp; omega)
          exact .inr ⟨w3.heap.size + 1, k, by rw [HL.out], by rw [HL.out]; exact Nat.le_refl _, by unfold maxLen; omega, hO3.mono (lo' := w.heap.size) (by omega)⟩
        | false =>
          have E := hid0 (show comE xs c ka ys d kb = 4 by rw [HE.out, hsm]; rfl)
          go_wp2_with (go_at_call 42; refine (small_any (ka * c + kb * d) HI.out).mono ?_; rintro e w4 ⟨rfl, hb4⟩; have t1 := keep1 u2 hb4; have t2 := keep1 u3 hb4; have t3 := keep1 v2 hb4; have t4 := keep1 v3 hb4; have t5 : (∀ o, w4.frozen? ⟨w.heap.size + 1 + 1, o, none⟩ = false) := fun o => (hb4.frozen (p := ⟨w.heap.size + 1 + 1, o, none⟩) l1).trans (v4 o))
          have HB4 := hid0 (thenBelow HB0.out hb4)
          refine bodyPost_ret (v := .tuple #[.agg #[.slice none 0 0, .int .i64 0], .int .i64 4]) (by simp [results, Tryd.results19, go_sem, t3, t4]) rfl ⟨_, by rw [show comC xs c ka ys d kb = 0 by unfold comC; rw [E.out]; rfl, E.out], ?_, (HB4.out.setCell (by simp; omega) _).setCell (by simp; omega) _⟩
          rw [show comX xs c ka ys d kb = [] by unfold comX; rw [E.out]; rfl]
          exact .inl ⟨rfl, rfl⟩
end Go.Proofs.YtbdnihjokndhaaaDoor
