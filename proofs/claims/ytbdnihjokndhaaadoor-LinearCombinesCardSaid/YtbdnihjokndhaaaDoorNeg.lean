/-
  Negate OF THE PROGRAM.
-/
import Derived.Test.YtbdnihjokndhaaaDoorTight
namespace Go.Proofs.YtbdnihjokndhaaaDoor
open Go.RowKit Go.Deep

/-- The errno of Negate. -/
def negE (xs : List Int) (c : Int) : Int := if smR (xs, c) = true ∧ smR (xs.map (fun x => -x), -c - 1) = true then 0 else 4

theorem smB_neg {x : Int} (h : smB x = true) : smB (-x) = true := by rw [smB_true] at *; omega
theorem all_neg {xs : List Int} (h : xs.all smB = true) : (xs.map (fun x => -x)).all smB = true := by
  rw [List.all_eq_true] at *
  intro y hy
  obtain ⟨x, hx, rfl⟩ := List.mem_map.1 hy
  exact smB_neg (h x hx)

set_option maxHeartbeats 400000 in
theorem Negate_large {lo : Nat} {w : World} {v : Value} {xs : List Int} (c : Int) (h : IsInts lo w v xs) (hs : smR (xs, c) = false) :
    Calls Tryd.prog 14 #[.agg #[v, .int .i64 c]] w fun e w' => e = .returned (.tuple #[.agg #[.slice none 0 0, .int .i64 0], .int .i64 4]) ∧ Below w.heap.size w w' := by
  have H := hid0 h
  obtain ⟨a, cap, rfl⟩ := h.shape
  clear h
  go_enter Tryd.func14, Tryd.ntmps14
  go_wp2_with (go_at_call 42; refine (small_any c (H.out.below (by go_grown))).mono ?_; rintro e w2 ⟨rfl, hb2⟩; obtain ⟨p1, p2⟩ := blk hb2 (n := w.heap.size) (by go_size); obtain ⟨p3, p4⟩ := blk hb2 (n := w.heap.size + 1) (by go_size))
  have d1 : w2.cell? ⟨w.heap.size + 1, 0, none⟩ = some (.slice none 0 0) := by rw [(blk hb2 (n := w.heap.size + 1) (by go_size)).1]; simp
  have d2 : w2.cell? ⟨w.heap.size + 1, 1, none⟩ = some (.int .i64 0) := by rw [(blk hb2 (n := w.heap.size + 1) (by go_size)).1]; simp
  have hB1 : Below w.heap.size w w2 := Below.trans (by go_grown) (hb2.mono (by go_size))
  refine bodyPost_ret (v := .tuple #[.agg #[.slice none 0 0, .int .i64 0], .int .i64 4]) (by simp [results, Tryd.results14, go_sem, d1, d2]) rfl ⟨rfl, (hB1.setCell (by simp) _).setCell (by simp) _⟩

theorem madeCells_int (n : Nat) : madeCells #[Value.int .i64 0] n = ((List.replicate n (0 : Int)).map (Value.int .i64)).toArray := by
  rw [List.map_replicate, List.toArray_replicate]
  apply Array.ext
  · simp [madeCells]
  · intro i h1 h2
    simp [madeCells, Nat.mod_one]
theorem IsInts.nil (lo : Nat) (w : World) : IsInts lo w (.slice none 0 0) [] := ⟨none, 0, rfl, Nat.le_refl _, by unfold maxLen; omega, ⟨by simp, fun _ => rfl⟩, .inl rfl⟩
def negX (xs : List Int) (c : Int) : List Int := if negE xs c = 0 then xs.map (fun x => -x) else []
def negC (xs : List Int) (c : Int) : Int := if negE xs c = 0 then -c - 1 else 0
/-- The row after k rounds of the writing of the negated numbers. -/
def fillL (xs : List Int) (k : Nat) : List Int := (xs.take k).map (fun x => -x) ++ List.replicate (xs.length - k) 0
theorem fillL_length (xs : List Int) (k : Nat) (h : k ≤ xs.length) : (fillL xs k).length = xs.length := by simp [fillL]; omega
theorem fillL_set (xs : List Int) (k : Nat) (h : k < xs.length) : (fillL xs k).set k (-xs[k]) = fillL xs (k + 1) := by
  have h1 : min k xs.length = k := by omega
  simp only [fillL]
  rw [List.set_append_right _ _ (by simp; omega), List.take_succ_eq_append_getElem h, List.map_append, List.append_assoc]
  have e : k - ((xs.take k).map (fun x => -x)).length = 0 := by simp; omega
  rw [e, show xs.length - k = (xs.length - (k + 1)) + 1 by omega, List.replicate_succ]; rfl
theorem fillL_end (xs : List Int) (k : Nat) (h : xs.length ≤ k) : fillL xs k = xs.map (fun x => -x) := by
  simp [fillL, List.take_of_length_le h, show xs.length - k = 0 by omega]

set_option maxHeartbeats 1600000 in
theorem Negate_full {lo : Nat} {w : World} {xs : List Int} {b off cap : Nat} (c : Int) (h : IsInts lo w (.slice (some ⟨b, off, none⟩) xs.length cap) xs) (hn : xs.length ≤ 1000) (hs : smR (xs, c) = true) (hb : b < w.heap.size)
    (hc : ∀ i, i < xs.length → w.cell? ⟨b, off + i, none⟩ = some (.int .i64 (xs.getD i 0))) :
    Calls Tryd.prog 14 #[.agg #[.slice (some ⟨b, off, none⟩) xs.length cap, .int .i64 c]] w fun e w' => ∃ v', e = .returned (.tuple #[.agg #[v', .int .i64 (negC xs c)], .int .i64 (negE xs c)]) ∧ IsInts w.heap.size w' v' (negX xs c) ∧ Below w.heap.size w w' := by
  have H := hid0 h
  have HS := hid0 (smR_true.1 hs)
  have HC := hid0 hc
  have hc1 := smB_true.1 (smR_true.1 hs).2
  have wn : IntKind.i64.wrap (-c) = -c := IntWalk.i64_in _ (by omega)
  have wn1 : IntKind.i64.wrap (-c - 1) = -c - 1 := IntWalk.i64_in _ (by omega)
  have hmk := run_make_row' (P := Tryd.prog) 22 3 (.int .i64 0) 8 Tryd.underlying22 info_int rfl .i64 .i64 xs.length (by omega) (by omega)
  clear h hc
  go_enter Tryd.func14, Tryd.ntmps14
  go_wp2_with (go_at_call 42; refine (small_any c (H.out.below (by go_grown))).mono ?_; rintro e w2 ⟨rfl, hb2⟩; obtain ⟨p1, p2⟩ := blk hb2 (n := w.heap.size) (by go_size); obtain ⟨p3, p4⟩ := blk hb2 (n := w.heap.size + 1) (by go_size))
  have y0 : w2.cell? ⟨w.heap.size, 0, none⟩ = some (.slice (some ⟨b, off, none⟩) xs.length cap) := by rw [p1]; simp
  have y1 : w2.cell? ⟨w.heap.size, 1, none⟩ = some (.int .i64 c) := by rw [p1]; simp
  have y2 : w2.cell? ⟨w.heap.size + 1, 0, none⟩ = some (.slice none 0 0) := by rw [p3]; simp
  have y3 : w2.cell? ⟨w.heap.size + 1, 1, none⟩ = some (.int .i64 0) := by rw [p3]; simp
  have y4 : ∀ o, w2.frozen? ⟨w.heap.size + 1, o, none⟩ = false := fun o => by rw [p4]; simp
  have hB2 := hid0 (Below.trans (by go_grown) (hb2.mono (by go_size)) : Below w.heap.size w w2)
  have hs2 : w.heap.size + 1 < w2.heap.size := by have := hb2.size; simp at this; omega
  have hz0 : w.heap.size < w2.heap.size := by omega
  clear p1 p2 p3 p4 hb2
  go_region
  · go_wp2_with fail
    obtain ⟨W, hW⟩ : ∃ W : World, W = ((w2.alloc (.cells (madeCells #[Value.int IntKind.i64 0] xs.length) 3)).alloc (.cells #[Value.slice (some ⟨w2.heap.size, 0, none⟩) xs.length xs.length, Value.int IntKind.i64 (-c - 1)] 24)).drew := ⟨_, rfl⟩
    rw [← hW]
    have HO3 : Hid (OwnInts w2.heap.size W (w2.heap.size) (fillL xs 0)) := by
      show OwnInts _ _ _ _
      rw [hW]
      refine ⟨by omega, by rw [fillL_length _ _ (Nat.zero_le _)]; unfold maxLen; omega, ?_, _, 3, heap_old _ _ (by simp) |>.trans (heap_new _ _ (by simp)), fun i hi => ?_⟩
      · intro x hx; simp [fillL] at hx; rw [hx.2]; constructor <;> decide
      · have hi' : i < xs.length := by simpa [fillL] using hi
        rw [madeCells_int]; simp [fillL, hi']
    have HB : Hid (Below w2.heap.size w2 W) := by rw [hW]; show Below _ _ _; go_grown
    have x1 : W.cell? ⟨w2.heap.size + 1, 0, none⟩ = some (.slice (some ⟨w2.heap.size, 0, none⟩) xs.length xs.length) := by rw [hW]; simp
    have x2 : W.cell? ⟨w2.heap.size + 1, 1, none⟩ = some (.int .i64 (-c - 1)) := by rw [hW]; simp
    have x3 : ∀ o, W.frozen? ⟨w2.heap.size + 1, o, none⟩ = false := fun o => by rw [hW]; simp
    have hWs : w2.heap.size + 1 < W.heap.size := by rw [hW]; simp
    clear hW hmk
    have hgn : w2.heap.size ≠ w2.heap.size + 1 := by omega
    have hgb : b ≠ w2.heap.size := by omega
    have hg1 : w.heap.size + 1 ≠ w2.heap.size := by omega
    have hg2 : w2.heap.size ≤ w2.heap.size := by omega
    go_loopw [23] (fun v wr => ∃ k : Nat, k ≤ xs.length ∧ v = .int .i64 k ∧ OwnInts w2.heap.size wr (w2.heap.size) (fillL xs k) ∧ (∀ b, b ≠ w2.heap.size → wr.heap[b]? = W.heap[b]?) ∧ Below w2.heap.size w2 wr) (fun v _ => xs.length - (intOf v).toNat)
    case atStart => exact ⟨0, Nat.zero_le _, rfl, HO3.out, fun _ _ => rfl, HB.out⟩
    case round =>
      obtain ⟨k, hk, rfl, hO, hBut, hB⟩ := hrel
      have HOk := hid0 hO
      have HBut := hid0 hBut
      have HBr := hid0 hB
      have HB0 := hid0 (thenBelow hB2.out hB)
      obtain ⟨c1, c2⟩ := but_cell hBut
      have u1 : wr.cell? ⟨w2.heap.size + 1, 0, none⟩ = some (.slice (some ⟨w2.heap.size, 0, none⟩) xs.length xs.length) := (c1 _ _ (by omega)).trans x1
      have u2 : wr.cell? ⟨w2.heap.size + 1, 1, none⟩ = some (.int .i64 (-c - 1)) := (c1 _ _ (by omega)).trans x2
      by_cases h1 : k < xs.length
      · have g1 : wr.cell? ⟨b, off + k, none⟩ = some (.int .i64 (xs.getD k 0)) := (HB0.out.cell (p := ⟨b, off + k, none⟩) hb).trans (HC.out k h1)
        have g2 : ∃ u, wr.cell? ⟨w2.heap.size, k, none⟩ = some u := ⟨_, hO.cell k (by rw [fillL_length _ _ hk]; exact h1)⟩
        have g3 : wr.frozen? ⟨w2.heap.size, k, none⟩ = false := hO.frozen k
        have e0 : xs.getD k 0 = xs[k] := by simp [List.getD, h1]
        rw [e0] at g1
        obtain ⟨u, g2⟩ := g2
        have b0 := smB_true.1 (List.all_eq_true.1 HS.out.1 _ (List.getElem_mem h1))
        have ew : IntKind.i64.wrap (-(xs[k]'h1)) = -(xs[k]'h1) := IntWalk.i64_in _ (by omega)
        have Hb := hid0 b0
        clear b0 hO hBut hB c1 c2 x1 x2 x3 y0 y1 y2 y3 y4
        go_wp2
        go_roundw
        case rel =>
          refine ⟨k + 1, by omega, by go_num, ?_, fun b hb => (Below.heap_setCell _ _ _ _ hb).trans (HBut.out b hb), HBr.out.setCell hg2 _⟩
          rw [← fillL_set _ _ h1]
          refine HOk.out.set k _ ?_
          have := Hb.out
          constructor <;> omega
        case measure => simp [intOf]; omega
      · obtain rfl : k = xs.length := by omega
        have hO := HOk.out
        rw [fillL_end _ _ (Nat.le_refl _)] at hO
        have HOr := hid0 hO
        have l1 : w.heap.size + 1 < wr.heap.size := Nat.lt_of_lt_of_le hs2 hB.size
        have v2 : wr.cell? ⟨w.heap.size + 1, 0, none⟩ = some (.slice none 0 0) := (hB.cell (p := ⟨w.heap.size + 1, 0, none⟩) hs2).trans y2
        have v3 : wr.cell? ⟨w.heap.size + 1, 1, none⟩ = some (.int .i64 0) := (hB.cell (p := ⟨w.heap.size + 1, 1, none⟩) hs2).trans y3
        have v4 : ∀ o, wr.frozen? ⟨w.heap.size + 1, o, none⟩ = false := fun o => (hB.frozen (p := ⟨w.heap.size + 1, o, none⟩) hs2).trans (y4 o)
        have ln := cell_lt u1
        clear hO hBut hB c1 c2 x1 x2 x3 y0 y1 y2 y3 y4 h1 hk
        have hne : negE xs c = if smR (xs.map (fun x => -x), -c - 1) = true then 0 else 4 := by simp [negE, smR_true.2 HS.out]
        cases hsm : smR (xs.map (fun x => -x), -c - 1) with
        | true =>
          have E := hid0 (show negE xs c = 0 by rw [hne, if_pos hsm])
          clear hne
          go_wp2_with (go_at_call 42; refine (small_any (-c - 1) (by simpa using HOr.out.ints)).mono ?_; rintro e w3 ⟨rfl, hb3⟩; have t1 := (hb3.cell (p := ⟨w2.heap.size + 1, 0, none⟩) ln).trans u1; have t2 := (hb3.cell (p := ⟨w2.heap.size + 1, 1, none⟩) ln).trans u2; have t3 := (hb3.cell (p := ⟨w.heap.size + 1, 0, none⟩) l1).trans v2; have t4 := (hb3.cell (p := ⟨w.heap.size + 1, 1, none⟩) l1).trans v3; have t5 : (∀ o, w3.frozen? ⟨w.heap.size + 1, o, none⟩ = false) := fun o => (hb3.frozen (p := ⟨w.heap.size + 1, o, none⟩) l1).trans (v4 o))
          have HB3 := hid0 (thenBelow (thenBelow hB2.out HBr.out) hb3)
          refine bodyPost_ret (v := .tuple #[.agg #[.slice (some ⟨w2.heap.size, 0, none⟩) xs.length xs.length, .int .i64 (-c - 1)], .int .i64 0]) (by simp [results, Tryd.results14, go_sem, t3, t4]) rfl ⟨_, by rw [show negC xs c = -c - 1 by unfold negC; rw [if_pos E.out], E.out], ?_, (HB3.out.setCell (by simp) _).setCell (by simp) _⟩
          rw [show negX xs c = xs.map (fun x => -x) by unfold negX; rw [if_pos E.out]; try rfl]
          have hO3 := ((HOr.out.below hb3).setOther ⟨w.heap.size + 1, 0, none⟩ (.slice (some ⟨w2.heap.size, 0, none⟩) xs.length xs.length) (by simp; omega)).setOther ⟨w.heap.size + 1, 1, none⟩ (.int .i64 (-c - 1)) (by simp; omega)
          simpa using (hO3.mono (lo' := w.heap.size) (by omega)).ints
        | false =>
          have E := hid0 (show negE xs c = 4 by rw [hne, hsm]; rfl)
          clear hne
          go_wp2_with (go_at_call 42; refine (small_any (-c - 1) (by simpa using HOr.out.ints)).mono ?_; rintro e w3 ⟨rfl, hb3⟩; have t1 := (hb3.cell (p := ⟨w2.heap.size + 1, 0, none⟩) ln).trans u1; have t2 := (hb3.cell (p := ⟨w2.heap.size + 1, 1, none⟩) ln).trans u2; have t3 := (hb3.cell (p := ⟨w.heap.size + 1, 0, none⟩) l1).trans v2; have t4 := (hb3.cell (p := ⟨w.heap.size + 1, 1, none⟩) l1).trans v3; have t5 : (∀ o, w3.frozen? ⟨w.heap.size + 1, o, none⟩ = false) := fun o => (hb3.frozen (p := ⟨w.heap.size + 1, o, none⟩) l1).trans (v4 o))
          have HB3 := hid0 (thenBelow (thenBelow hB2.out HBr.out) hb3)
          refine bodyPost_ret (v := .tuple #[.agg #[.slice none 0 0, .int .i64 0], .int .i64 4]) (by simp [results, Tryd.results14, go_sem, t3, t4]) rfl ⟨_, by rw [show negC xs c = 0 by unfold negC; rw [E.out]; rfl, E.out], ?_, (HB3.out.setCell (by simp) _).setCell (by simp) _⟩
          rw [show negX xs c = [] by unfold negX; rw [E.out]; rfl]
          exact IsInts.nil _ _
  · go_wp2_with fail
    obtain ⟨W, hW⟩ : ∃ W : World, W = ((w2.alloc (.cells #[Value.slice (some ⟨w2.heap.size + 1, 0, none⟩) xs.length xs.length, Value.int IntKind.i64 (-c - 1)] 24)).alloc (.cells (madeCells #[Value.int IntKind.i64 0] xs.length) 3)).drew := ⟨_, rfl⟩
    rw [← hW]
    have HO3 : Hid (OwnInts w2.heap.size W (w2.heap.size + 1) (fillL xs 0)) := by
      show OwnInts _ _ _ _
      rw [hW]
      refine ⟨by omega, by rw [fillL_length _ _ (Nat.zero_le _)]; unfold maxLen; omega, ?_, _, 3, heap_new _ _ (by simp), fun i hi => ?_⟩
      · intro x hx; simp [fillL] at hx; rw [hx.2]; constructor <;> decide
      · have hi' : i < xs.length := by simpa [fillL] using hi
        rw [madeCells_int]; simp [fillL, hi']
    have HB : Hid (Below w2.heap.size w2 W) := by rw [hW]; show Below _ _ _; go_grown
    have x1 : W.cell? ⟨w2.heap.size, 0, none⟩ = some (.slice (some ⟨w2.heap.size + 1, 0, none⟩) xs.length xs.length) := by rw [hW]; simp
    have x2 : W.cell? ⟨w2.heap.size, 1, none⟩ = some (.int .i64 (-c - 1)) := by rw [hW]; simp
    have x3 : ∀ o, W.frozen? ⟨w2.heap.size, o, none⟩ = false := fun o => by rw [hW]; simp
    have hWs : w2.heap.size + 1 < W.heap.size := by rw [hW]; simp
    clear hW hmk
    have hgn : w2.heap.size + 1 ≠ w2.heap.size := by omega
    have hgb : b ≠ w2.heap.size + 1 := by omega
    have hg1 : w.heap.size + 1 ≠ w2.heap.size + 1 := by omega
    have hg2 : w2.heap.size ≤ w2.heap.size + 1 := by omega
    go_loopw [23] (fun v wr => ∃ k : Nat, k ≤ xs.length ∧ v = .int .i64 k ∧ OwnInts w2.heap.size wr (w2.heap.size + 1) (fillL xs k) ∧ (∀ b, b ≠ w2.heap.size + 1 → wr.heap[b]? = W.heap[b]?) ∧ Below w2.heap.size w2 wr) (fun v _ => xs.length - (intOf v).toNat)
    case atStart => exact ⟨0, Nat.zero_le _, rfl, HO3.out, fun _ _ => rfl, HB.out⟩
    case round =>
      obtain ⟨k, hk, rfl, hO, hBut, hB⟩ := hrel
      have HOk := hid0 hO
      have HBut := hid0 hBut
      have HBr := hid0 hB
      have HB0 := hid0 (thenBelow hB2.out hB)
      obtain ⟨c1, c2⟩ := but_cell hBut
      have u1 : wr.cell? ⟨w2.heap.size, 0, none⟩ = some (.slice (some ⟨w2.heap.size + 1, 0, none⟩) xs.length xs.length) := (c1 _ _ (by omega)).trans x1
      have u2 : wr.cell? ⟨w2.heap.size, 1, none⟩ = some (.int .i64 (-c - 1)) := (c1 _ _ (by omega)).trans x2
      by_cases h1 : k < xs.length
      · have g1 : wr.cell? ⟨b, off + k, none⟩ = some (.int .i64 (xs.getD k 0)) := (HB0.out.cell (p := ⟨b, off + k, none⟩) hb).trans (HC.out k h1)
        have g2 : ∃ u, wr.cell? ⟨w2.heap.size + 1, k, none⟩ = some u := ⟨_, hO.cell k (by rw [fillL_length _ _ hk]; exact h1)⟩
        have g3 : wr.frozen? ⟨w2.heap.size + 1, k, none⟩ = false := hO.frozen k
        have e0 : xs.getD k 0 = xs[k] := by simp [List.getD, h1]
        rw [e0] at g1
        obtain ⟨u, g2⟩ := g2
        have b0 := smB_true.1 (List.all_eq_true.1 HS.out.1 _ (List.getElem_mem h1))
        have ew : IntKind.i64.wrap (-(xs[k]'h1)) = -(xs[k]'h1) := IntWalk.i64_in _ (by omega)
        have Hb := hid0 b0
        clear b0 hO hBut hB c1 c2 x1 x2 x3 y0 y1 y2 y3 y4
        go_wp2
        go_roundw
        case rel =>
          refine ⟨k + 1, by omega, by go_num, ?_, fun b hb => (Below.heap_setCell _ _ _ _ hb).trans (HBut.out b hb), HBr.out.setCell hg2 _⟩
          rw [← fillL_set _ _ h1]
          refine HOk.out.set k _ ?_
          have := Hb.out
          constructor <;> omega
        case measure => simp [intOf]; omega
      · obtain rfl : k = xs.length := by omega
        have hO := HOk.out
        rw [fillL_end _ _ (Nat.le_refl _)] at hO
        have HOr := hid0 hO
        have l1 : w.heap.size + 1 < wr.heap.size := Nat.lt_of_lt_of_le hs2 hB.size
        have v2 : wr.cell? ⟨w.heap.size + 1, 0, none⟩ = some (.slice none 0 0) := (hB.cell (p := ⟨w.heap.size + 1, 0, none⟩) hs2).trans y2
        have v3 : wr.cell? ⟨w.heap.size + 1, 1, none⟩ = some (.int .i64 0) := (hB.cell (p := ⟨w.heap.size + 1, 1, none⟩) hs2).trans y3
        have v4 : ∀ o, wr.frozen? ⟨w.heap.size + 1, o, none⟩ = false := fun o => (hB.frozen (p := ⟨w.heap.size + 1, o, none⟩) hs2).trans (y4 o)
        have ln := cell_lt u1
        clear hO hBut hB c1 c2 x1 x2 x3 y0 y1 y2 y3 y4 h1 hk
        have hne : negE xs c = if smR (xs.map (fun x => -x), -c - 1) = true then 0 else 4 := by simp [negE, smR_true.2 HS.out]
        cases hsm : smR (xs.map (fun x => -x), -c - 1) with
        | true =>
          have E := hid0 (show negE xs c = 0 by rw [hne, if_pos hsm])
          clear hne
          go_wp2_with (go_at_call 42; refine (small_any (-c - 1) (by simpa using HOr.out.ints)).mono ?_; rintro e w3 ⟨rfl, hb3⟩; have t1 := (hb3.cell (p := ⟨w2.heap.size, 0, none⟩) ln).trans u1; have t2 := (hb3.cell (p := ⟨w2.heap.size, 1, none⟩) ln).trans u2; have t3 := (hb3.cell (p := ⟨w.heap.size + 1, 0, none⟩) l1).trans v2; have t4 := (hb3.cell (p := ⟨w.heap.size + 1, 1, none⟩) l1).trans v3; have t5 : (∀ o, w3.frozen? ⟨w.heap.size + 1, o, none⟩ = false) := fun o => (hb3.frozen (p := ⟨w.heap.size + 1, o, none⟩) l1).trans (v4 o))
          have HB3 := hid0 (thenBelow (thenBelow hB2.out HBr.out) hb3)
          refine bodyPost_ret (v := .tuple #[.agg #[.slice (some ⟨w2.heap.size + 1, 0, none⟩) xs.length xs.length, .int .i64 (-c - 1)], .int .i64 0]) (by simp [results, Tryd.results14, go_sem, t3, t4]) rfl ⟨_, by rw [show negC xs c = -c - 1 by unfold negC; rw [if_pos E.out], E.out], ?_, (HB3.out.setCell (by simp) _).setCell (by simp) _⟩
          rw [show negX xs c = xs.map (fun x => -x) by unfold negX; rw [if_pos E.out]; try rfl]
          have hO3 := ((HOr.out.below hb3).setOther ⟨w.heap.size + 1, 0, none⟩ (.slice (some ⟨w2.heap.size + 1, 0, none⟩) xs.length xs.length) (by simp; omega)).setOther ⟨w.heap.size + 1, 1, none⟩ (.int .i64 (-c - 1)) (by simp; omega)
          simpa using (hO3.mono (lo' := w.heap.size) (by omega)).ints
        | false =>
          have E := hid0 (show negE xs c = 4 by rw [hne, hsm]; rfl)
          clear hne
          go_wp2_with (go_at_call 42; refine (small_any (-c - 1) (by simpa using HOr.out.ints)).mono ?_; rintro e w3 ⟨rfl, hb3⟩; have t1 := (hb3.cell (p := ⟨w2.heap.size, 0, none⟩) ln).trans u1; have t2 := (hb3.cell (p := ⟨w2.heap.size, 1, none⟩) ln).trans u2; have t3 := (hb3.cell (p := ⟨w.heap.size + 1, 0, none⟩) l1).trans v2; have t4 := (hb3.cell (p := ⟨w.heap.size + 1, 1, none⟩) l1).trans v3; have t5 : (∀ o, w3.frozen? ⟨w.heap.size + 1, o, none⟩ = false) := fun o => (hb3.frozen (p := ⟨w.heap.size + 1, o, none⟩) l1).trans (v4 o))
          have HB3 := hid0 (thenBelow (thenBelow hB2.out HBr.out) hb3)
          refine bodyPost_ret (v := .tuple #[.agg #[.slice none 0 0, .int .i64 0], .int .i64 4]) (by simp [results, Tryd.results14, go_sem, t3, t4]) rfl ⟨_, by rw [show negC xs c = 0 by unfold negC; rw [E.out]; rfl, E.out], ?_, (HB3.out.setCell (by simp) _).setCell (by simp) _⟩
          rw [show negX xs c = [] by unfold negX; rw [E.out]; rfl]
          exact IsInts.nil _ _

set_option maxHeartbeats 1600000 in
theorem Negate_empty {lo : Nat} {w : World} {a : Option Addr} {cap : Nat} (c : Int) (h : IsInts lo w (.slice a 0 cap) []) (hs : smR ([], c) = true) :
    Calls Tryd.prog 14 #[.agg #[.slice a 0 cap, .int .i64 c]] w fun e w' => ∃ v', e = .returned (.tuple #[.agg #[v', .int .i64 (negC [] c)], .int .i64 (negE [] c)]) ∧ IsInts w.heap.size w' v' (negX [] c) ∧ Below w.heap.size w w' := by
  have H := hid0 h
  have HS := hid0 (smR_true.1 hs)
  have hc1 := smB_true.1 (smR_true.1 hs).2
  have wn : IntKind.i64.wrap (-c) = -c := IntWalk.i64_in _ (by omega)
  have wn1 : IntKind.i64.wrap (-c - 1) = -c - 1 := IntWalk.i64_in _ (by omega)
  have hmk := run_make_row' (P := Tryd.prog) 22 3 (.int .i64 0) 8 Tryd.underlying22 info_int rfl .i64 .i64 0 (by omega) (by omega)
  clear h
  rw [show (((0 : Nat) : Int)) = 0 from rfl] at hmk
  go_enter Tryd.func14, Tryd.ntmps14
  go_wp2_with (go_at_call 42; refine (small_any c (H.out.below (by go_grown))).mono ?_; rintro e w2 ⟨rfl, hb2⟩; obtain ⟨p1, p2⟩ := blk hb2 (n := w.heap.size) (by go_size); obtain ⟨p3, p4⟩ := blk hb2 (n := w.heap.size + 1) (by go_size))
  have y0 : w2.cell? ⟨w.heap.size, 0, none⟩ = some (.slice a 0 cap) := by rw [p1]; simp
  have y1 : w2.cell? ⟨w.heap.size, 1, none⟩ = some (.int .i64 c) := by rw [p1]; simp
  have y2 : w2.cell? ⟨w.heap.size + 1, 0, none⟩ = some (.slice none 0 0) := by rw [p3]; simp
  have y3 : w2.cell? ⟨w.heap.size + 1, 1, none⟩ = some (.int .i64 0) := by rw [p3]; simp
  have y4 : ∀ o, w2.frozen? ⟨w.heap.size + 1, o, none⟩ = false := fun o => by rw [p4]; simp
  have hB2 := hid0 (Below.trans (by go_grown) (hb2.mono (by go_size)) : Below w.heap.size w w2)
  have hs2 : w.heap.size + 1 < w2.heap.size := by have := hb2.size; simp at this; omega
  have hz0 : w.heap.size < w2.heap.size := by omega
  clear p1 p2 p3 p4 hb2
  go_region
  · go_wp2_with fail
    obtain ⟨W, hW⟩ : ∃ W : World, W = ((w2.alloc (.cells (madeCells #[Value.int IntKind.i64 0] 0) 3)).alloc (.cells #[Value.slice (some ⟨w2.heap.size, 0, none⟩) 0 0, Value.int IntKind.i64 (-c - 1)] 24)).drew := ⟨_, rfl⟩
    rw [← hW]
    have HO3 : Hid (OwnInts w2.heap.size W (w2.heap.size) ([])) := by
      show OwnInts _ _ _ _
      rw [hW]
      refine ⟨by omega, by simp [maxLen], ?_, _, 3, heap_old _ _ (by simp) |>.trans (heap_new _ _ (by simp)), fun i hi => ?_⟩
      · intro x hx; cases hx
      · exact absurd hi (by simp)
    have HB : Hid (Below w2.heap.size w2 W) := by rw [hW]; show Below _ _ _; go_grown
    have x1 : W.cell? ⟨w2.heap.size + 1, 0, none⟩ = some (.slice (some ⟨w2.heap.size, 0, none⟩) 0 0) := by rw [hW]; simp
    have x2 : W.cell? ⟨w2.heap.size + 1, 1, none⟩ = some (.int .i64 (-c - 1)) := by rw [hW]; simp
    have x3 : ∀ o, W.frozen? ⟨w2.heap.size + 1, o, none⟩ = false := fun o => by rw [hW]; simp
    have hWs : w2.heap.size + 1 < W.heap.size := by rw [hW]; simp
    clear hW hmk
    have hgn : w2.heap.size ≠ w2.heap.size + 1 := by omega
    have hg1 : w.heap.size + 1 ≠ w2.heap.size := by omega
    have hg2 : w2.heap.size ≤ w2.heap.size := by omega
    have l1 : w.heap.size + 1 < W.heap.size := Nat.lt_of_lt_of_le hs2 HB.out.size
    have v2 : W.cell? ⟨w.heap.size + 1, 0, none⟩ = some (.slice none 0 0) := (HB.out.cell (p := ⟨w.heap.size + 1, 0, none⟩) hs2).trans y2
    have v3 : W.cell? ⟨w.heap.size + 1, 1, none⟩ = some (.int .i64 0) := (HB.out.cell (p := ⟨w.heap.size + 1, 1, none⟩) hs2).trans y3
    have v4 : ∀ o, W.frozen? ⟨w.heap.size + 1, o, none⟩ = false := fun o => (HB.out.frozen (p := ⟨w.heap.size + 1, o, none⟩) hs2).trans (y4 o)
    have ln := cell_lt x1
    clear y0 y1 y2 y3 y4
    have hne : negE [] c = if smR ([], -c - 1) = true then 0 else 4 := by unfold negE; rw [show smR ([], c) = true from hs]; simp
    cases hsm : smR ([], -c - 1) with
    | true =>
      have E := hid0 (show negE [] c = 0 by rw [hne, if_pos hsm])
      clear hne
      refine wp_loop_rounds 1 ?_
      rw [rounds_succ]
      go_wp2_with (go_at_call 42; refine (small_any (-c - 1) (by simpa using HO3.out.ints)).mono ?_; rintro e w3 ⟨rfl, hb3⟩; have t1 := (hb3.cell (p := ⟨w2.heap.size + 1, 0, none⟩) ln).trans x1; have t2 := (hb3.cell (p := ⟨w2.heap.size + 1, 1, none⟩) ln).trans x2; have t3 := (hb3.cell (p := ⟨w.heap.size + 1, 0, none⟩) l1).trans v2; have t4 := (hb3.cell (p := ⟨w.heap.size + 1, 1, none⟩) l1).trans v3; have t5 : (∀ o, w3.frozen? ⟨w.heap.size + 1, o, none⟩ = false) := fun o => (hb3.frozen (p := ⟨w.heap.size + 1, o, none⟩) l1).trans (v4 o))
      have HB3 := hid0 (thenBelow (thenBelow hB2.out HB.out) hb3)
      refine bodyPost_ret (v := .tuple #[.agg #[.slice (some ⟨w2.heap.size, 0, none⟩) 0 0, .int .i64 (-c - 1)], .int .i64 0]) (by simp [results, Tryd.results14, go_sem, t3, t4]) rfl ⟨_, by rw [show negC [] c = -c - 1 by unfold negC; rw [if_pos E.out], E.out], ?_, (HB3.out.setCell (by simp) _).setCell (by simp) _⟩
      rw [show negX [] c = [] by unfold negX; rw [if_pos E.out]; try rfl]
      have hO3 := ((HO3.out.below hb3).setOther ⟨w.heap.size + 1, 0, none⟩ (.slice (some ⟨w2.heap.size, 0, none⟩) 0 0) (by simp; omega)).setOther ⟨w.heap.size + 1, 1, none⟩ (.int .i64 (-c - 1)) (by simp; omega)
      simpa using (hO3.mono (lo' := w.heap.size) (by omega)).ints
    | false =>
      have E := hid0 (show negE [] c = 4 by rw [hne, hsm]; rfl)
      clear hne
      refine wp_loop_rounds 1 ?_
      rw [rounds_succ]
      go_wp2_with (go_at_call 42; refine (small_any (-c - 1) (by simpa using HO3.out.ints)).mono ?_; rintro e w3 ⟨rfl, hb3⟩; have t1 := (hb3.cell (p := ⟨w2.heap.size + 1, 0, none⟩) ln).trans x1; have t2 := (hb3.cell (p := ⟨w2.heap.size + 1, 1, none⟩) ln).trans x2; have t3 := (hb3.cell (p := ⟨w.heap.size + 1, 0, none⟩) l1).trans v2; have t4 := (hb3.cell (p := ⟨w.heap.size + 1, 1, none⟩) l1).trans v3; have t5 : (∀ o, w3.frozen? ⟨w.heap.size + 1, o, none⟩ = false) := fun o => (hb3.frozen (p := ⟨w.heap.size + 1, o, none⟩) l1).trans (v4 o))
      have HB3 := hid0 (thenBelow (thenBelow hB2.out HB.out) hb3)
      refine bodyPost_ret (v := .tuple #[.agg #[.slice none 0 0, .int .i64 0], .int .i64 4]) (by simp [results, Tryd.results14, go_sem, t3, t4]) rfl ⟨_, by rw [show negC [] c = 0 by unfold negC; rw [E.out]; rfl, E.out], ?_, (HB3.out.setCell (by simp) _).setCell (by simp) _⟩
      rw [show negX [] c = [] by unfold negX; rw [E.out]; rfl]
      exact IsInts.nil _ _
  · go_wp2_with fail
    obtain ⟨W, hW⟩ : ∃ W : World, W = ((w2.alloc (.cells #[Value.slice (some ⟨w2.heap.size + 1, 0, none⟩) 0 0, Value.int IntKind.i64 (-c - 1)] 24)).alloc (.cells (madeCells #[Value.int IntKind.i64 0] 0) 3)).drew := ⟨_, rfl⟩
    rw [← hW]
    have HO3 : Hid (OwnInts w2.heap.size W (w2.heap.size + 1) ([])) := by
      show OwnInts _ _ _ _
      rw [hW]
      refine ⟨by omega, by simp [maxLen], ?_, _, 3, heap_new _ _ (by simp), fun i hi => ?_⟩
      · intro x hx; cases hx
      · exact absurd hi (by simp)
    have HB : Hid (Below w2.heap.size w2 W) := by rw [hW]; show Below _ _ _; go_grown
    have x1 : W.cell? ⟨w2.heap.size, 0, none⟩ = some (.slice (some ⟨w2.heap.size + 1, 0, none⟩) 0 0) := by rw [hW]; simp
    have x2 : W.cell? ⟨w2.heap.size, 1, none⟩ = some (.int .i64 (-c - 1)) := by rw [hW]; simp
    have x3 : ∀ o, W.frozen? ⟨w2.heap.size, o, none⟩ = false := fun o => by rw [hW]; simp
    have hWs : w2.heap.size + 1 < W.heap.size := by rw [hW]; simp
    clear hW hmk
    have hgn : w2.heap.size + 1 ≠ w2.heap.size := by omega
    have hg1 : w.heap.size + 1 ≠ w2.heap.size + 1 := by omega
    have hg2 : w2.heap.size ≤ w2.heap.size + 1 := by omega
    have l1 : w.heap.size + 1 < W.heap.size := Nat.lt_of_lt_of_le hs2 HB.out.size
    have v2 : W.cell? ⟨w.heap.size + 1, 0, none⟩ = some (.slice none 0 0) := (HB.out.cell (p := ⟨w.heap.size + 1, 0, none⟩) hs2).trans y2
    have v3 : W.cell? ⟨w.heap.size + 1, 1, none⟩ = some (.int .i64 0) := (HB.out.cell (p := ⟨w.heap.size + 1, 1, none⟩) hs2).trans y3
    have v4 : ∀ o, W.frozen? ⟨w.heap.size + 1, o, none⟩ = false := fun o => (HB.out.frozen (p := ⟨w.heap.size + 1, o, none⟩) hs2).trans (y4 o)
    have ln := cell_lt x1
    clear y0 y1 y2 y3 y4
    have hne : negE [] c = if smR ([], -c - 1) = true then 0 else 4 := by unfold negE; rw [show smR ([], c) = true from hs]; simp
    cases hsm : smR ([], -c - 1) with
    | true =>
      have E := hid0 (show negE [] c = 0 by rw [hne, if_pos hsm])
      clear hne
      refine wp_loop_rounds 1 ?_
      rw [rounds_succ]
      go_wp2_with (go_at_call 42; refine (small_any (-c - 1) (by simpa using HO3.out.ints)).mono ?_; rintro e w3 ⟨rfl, hb3⟩; have t1 := (hb3.cell (p := ⟨w2.heap.size, 0, none⟩) ln).trans x1; have t2 := (hb3.cell (p := ⟨w2.heap.size, 1, none⟩) ln).trans x2; have t3 := (hb3.cell (p := ⟨w.heap.size + 1, 0, none⟩) l1).trans v2; have t4 := (hb3.cell (p := ⟨w.heap.size + 1, 1, none⟩) l1).trans v3; have t5 : (∀ o, w3.frozen? ⟨w.heap.size + 1, o, none⟩ = false) := fun o => (hb3.frozen (p := ⟨w.heap.size + 1, o, none⟩) l1).trans (v4 o))
      have HB3 := hid0 (thenBelow (thenBelow hB2.out HB.out) hb3)
      refine bodyPost_ret (v := .tuple #[.agg #[.slice (some ⟨w2.heap.size + 1, 0, none⟩) 0 0, .int .i64 (-c - 1)], .int .i64 0]) (by simp [results, Tryd.results14, go_sem, t3, t4]) rfl ⟨_, by rw [show negC [] c = -c - 1 by unfold negC; rw [if_pos E.out], E.out], ?_, (HB3.out.setCell (by simp) _).setCell (by simp) _⟩
      rw [show negX [] c = [] by unfold negX; rw [if_pos E.out]; try rfl]
      have hO3 := ((HO3.out.below hb3).setOther ⟨w.heap.size + 1, 0, none⟩ (.slice (some ⟨w2.heap.size + 1, 0, none⟩) 0 0) (by simp; omega)).setOther ⟨w.heap.size + 1, 1, none⟩ (.int .i64 (-c - 1)) (by simp; omega)
      simpa using (hO3.mono (lo' := w.heap.size) (by omega)).ints
    | false =>
      have E := hid0 (show negE [] c = 4 by rw [hne, hsm]; rfl)
      clear hne
      refine wp_loop_rounds 1 ?_
      rw [rounds_succ]
      go_wp2_with (go_at_call 42; refine (small_any (-c - 1) (by simpa using HO3.out.ints)).mono ?_; rintro e w3 ⟨rfl, hb3⟩; have t1 := (hb3.cell (p := ⟨w2.heap.size, 0, none⟩) ln).trans x1; have t2 := (hb3.cell (p := ⟨w2.heap.size, 1, none⟩) ln).trans x2; have t3 := (hb3.cell (p := ⟨w.heap.size + 1, 0, none⟩) l1).trans v2; have t4 := (hb3.cell (p := ⟨w.heap.size + 1, 1, none⟩) l1).trans v3; have t5 : (∀ o, w3.frozen? ⟨w.heap.size + 1, o, none⟩ = false) := fun o => (hb3.frozen (p := ⟨w.heap.size + 1, o, none⟩) l1).trans (v4 o))
      have HB3 := hid0 (thenBelow (thenBelow hB2.out HB.out) hb3)
      refine bodyPost_ret (v := .tuple #[.agg #[.slice none 0 0, .int .i64 0], .int .i64 4]) (by simp [results, Tryd.results14, go_sem, t3, t4]) rfl ⟨_, by rw [show negC [] c = 0 by unfold negC; rw [E.out]; rfl, E.out], ?_, (HB3.out.setCell (by simp) _).setCell (by simp) _⟩
      rw [show negX [] c = [] by unfold negX; rw [E.out]; rfl]
      exact IsInts.nil _ _

theorem Negate_any {lo : Nat} {w : World} {v : Value} {xs : List Int} (c : Int) (h : IsInts lo w v xs) (hn : xs.length ≤ 1000) :
    Calls Tryd.prog 14 #[.agg #[v, .int .i64 c]] w fun e w' => ∃ v', e = .returned (.tuple #[.agg #[v', .int .i64 (negC xs c)], .int .i64 (negE xs c)]) ∧ IsInts w.heap.size w' v' (negX xs c) ∧ Below w.heap.size w w' := by
  cases hs : smR (xs, c) with
  | false =>
    have E : negE xs c = 4 := by simp [negE, hs]
    refine (Negate_large c h hs).mono ?_
    rintro e w' ⟨rfl, hb⟩
    exact ⟨_, by rw [show negC xs c = 0 by unfold negC; rw [E]; rfl, E], by rw [show negX xs c = [] by unfold negX; rw [E]; rfl]; exact IsInts.nil _ _, hb⟩
  | true =>
    have H := h
    obtain ⟨a, cap, rfl, _, _, _, hc⟩ := h
    rcases hc with rfl | ⟨b, off, rfl, _, hb, hc⟩
    · exact Negate_empty c H hs
    · exact Negate_full c H hn hs hb hc
end Go.Proofs.YtbdnihjokndhaaaDoor
