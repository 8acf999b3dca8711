/-
  WHAT THE REFERENCE'S gcd, abs, down AND Tighten RETURN: the same as the program's.
-/
import Derived.Test.YtbppooajhoejcaaDoorCopy
import Derived.Test.YtbppooajhoejcaaDoorTight
namespace Go.Proofs.YtbppooajhoejcaaDoor
open Go.RowKit Go.Deep

set_option maxHeartbeats 400000 in
theorem rgcd_any (x y : Nat) (w : World) (hx : x ≤ 68719476736) (hy : y ≤ 68719476736) :
    Calls Tryd.prog 61 #[.int .i64 x, .int .i64 y] w fun e w' => e = .returned (.int .i64 (Nat.gcd x y)) ∧ Below w.heap.size w w' := by
  go_enter Tryd.func61, Tryd.ntmps61
  go_wp2_with fail
  go_loopw [0, 1] (fun u v wr => ∃ a b : Nat, u = .int .i64 a ∧ v = .int .i64 b ∧ a ≤ 68719476736 ∧ b ≤ 68719476736 ∧ Nat.gcd a b = Nat.gcd x y ∧ Below w.heap.size w wr) (fun _ v _ => (intOf v).toNat)
  case atStart => exact ⟨x, y, rfl, rfl, hx, hy, rfl, Below.refl _ _⟩
  case round =>
    obtain ⟨a, b, rfl, rfl, ha, hb, hg, hB⟩ := hrel
    have HG := hid0 hg
    have HB := hid0 hB
    clear hg hB hx hy
    by_cases h0 : b = 0
    · subst h0
      have e : Hid (Nat.gcd x y = a) := by show _ = _; rw [← HG.out]; simp
      go_wp2
      go_ret
      exact ⟨ret_int (by rw [e.out]), HB.out⟩
    · have hm1 : a % b < b := Nat.mod_lt _ (by omega)
      have hm3 : Hid (Nat.gcd b (a % b) = Nat.gcd x y) := by
        show _ = _
        rw [← HG.out, Nat.gcd_comm, ← Nat.gcd_rec, Nat.gcd_comm]
      have hb0 : ((b : Int) != 0) = true := by simp; omega
      have hb1 : (1 : Int) ≤ b := by omega
      go_wp2
      go_region
      go_wp2
      go_roundw
      case rel => exact ⟨b, a % b, rfl, by go_num, hb, by omega, hm3.out, HB.out.drew⟩
      case measure => simp [intOf]; omega

theorem down_any (x y : Int) (w : World) (hx : smB x = true) (hy : 1 ≤ y) (hy' : y ≤ 68719476736) :
    Calls Tryd.prog 63 #[.int .i64 x, .int .i64 y] w fun e w' => e = .returned (.int .i64 (x / y)) ∧ w = w' := by
  have D := hid0 (tdiv_small (y := y) hx)
  have e1 : x.tmod y < 0 → Hid (x / y = x.tdiv y - 1) := fun h => div_of_neg hy h
  have e2 : ¬ x.tmod y < 0 → Hid (x / y = x.tdiv y) := fun h => div_of_nonneg hy h
  have hx0 := hx
  rw [smB_true] at hx
  obtain ⟨h1, h2⟩ := hx
  by_cases h : x.tmod y < 0
  · have E := e1 h
    clear e1 e2
    go_enter Tryd.func63, Tryd.ntmps63
    go_wp2
    go_ret
    have d := D.out
    exact ⟨ret_int (by rw [E.out]; try exact IntWalk.wrap64_in _ (by omega)), rfl⟩
  · have E := e2 h
    clear e1 e2
    go_enter Tryd.func63, Tryd.ntmps63
    go_wp2
    go_ret
    have d := D.out
    exact ⟨ret_int (by rw [E.out]; try exact IntWalk.wrap64_in _ (by omega)), rfl⟩

theorem abs_any (x : Int) (w : World) (hx : smB x = true) : Calls Tryd.prog 62 #[.int .i64 x] w fun e w' => e = .returned (.int .i64 x.natAbs) ∧ w = w' := by
  rw [smB_true] at hx
  obtain ⟨h1, h2⟩ := hx
  by_cases h : x < 0
  · have e : Hid ((x.natAbs : Int) = -x) := by show _ = _; omega
    go_enter Tryd.func62, Tryd.ntmps62
    go_wp2
    go_ret
    exact ⟨ret_int e.out.symm, rfl⟩
  · have e : Hid ((x.natAbs : Int) = x) := by show _ = _; omega
    go_enter Tryd.func62, Tryd.ntmps62
    go_wp2
    go_ret
    exact ⟨ret_int e.out.symm, rfl⟩

/-- An own row stays when the cells of two boxes are written. -/
theorem OwnV.setBoth {lo lo' : Nat} {w : World} {v : Value} {xs : List Int} (h : OwnV lo' w v xs) (hl : lo ≤ lo') (b : Nat) (hb : b < lo') (u u' : Value) : OwnV lo ((w.setCell ⟨b, 0, none⟩ u).setCell ⟨b, 1, none⟩ u') v xs := by
  rcases h with hv | ⟨g, cp, hv, h1, hm, hg⟩
  · exact .inl hv
  · have := hg.1
    exact .inr ⟨g, cp, hv, h1, hm, (((hg.setOther _ _ (by simp; omega)).setOther _ _ (by simp; omega)).mono hl)⟩

set_option maxHeartbeats 1600000 in
theorem rTighten_large {lo : Nat} {w : World} {v : Value} {xs : List Int} (c : Int) (h : IsInts lo w v xs) (hn : xs.length ≤ 1000) (hs : smR (xs, c) = false) :
    Calls Tryd.prog 32 #[.agg #[v, .int .i64 c]] w fun e w' => ∃ v', e = .returned (.agg #[v', .int .i64 c]) ∧ OwnV w.heap.size w' v' xs ∧ Below w.heap.size w w' := by
  have H := hid0 h
  obtain ⟨a, cap, rfl⟩ := h.shape
  clear h
  go_enter Tryd.func32, Tryd.ntmps32
  go_wp2_with (first | (go_at_call 30; refine (CopyRow_any c (H.out.below (by go_grown)) hn).mono ?_; rintro e w1 ⟨v', rfl, hO, hb1⟩; have hB1 : Below w.heap.size w w1 := (Below.trans (by go_grown) (hb1.mono (by go_size))); have hs1 := hb1.size; simp only [World.size_alloc] at hs1; have hz0 : w.heap.size < w1.heap.size := (by omega); have hz1 : w.heap.size + 1 < w1.heap.size := (by omega); obtain ⟨p1, p2⟩ := blk hb1 (n := w.heap.size) (by go_size); obtain ⟨p3, p4⟩ := blk hb1 (n := w.heap.size + 1) (by go_size); obtain ⟨a', cap', rfl⟩ := hO.shape) | (go_at_call 53; refine (rSmall_any c (H.out.below (by go_grown))).mono ?_; rintro e w2 ⟨rfl, hb2⟩; have hB2 : Below w.heap.size w w2 := (Below.trans (by go_grown) (hb2.mono (by go_size))); have hs2 := hb2.size; simp only [World.size_alloc] at hs2; obtain ⟨q1, q2⟩ := blk hb2 (n := w.heap.size) (by go_size); obtain ⟨q3, q4⟩ := blk hb2 (n := w.heap.size + 1) (by go_size); obtain ⟨q5, q6⟩ := blk hb2 (n := w1.heap.size) (by go_size)))
  have hB02 := hb1.trans (((allocBelow w1 _).trans (hb2.mono (by go_size))).mono hb1.size)
  have d1 : w2.cell? ⟨w.heap.size + 1, 0, none⟩ = some (.slice none 0 0) := by rw [(blk hB02 (n := w.heap.size + 1) (by go_size)).1]; simp
  have d2 : w2.cell? ⟨w.heap.size + 1, 1, none⟩ = some (.int .i64 0) := by rw [(blk hB02 (n := w.heap.size + 1) (by go_size)).1]; simp
  have hO2 := (hO.below (allocBelow _ _)).below hb2
  refine bodyPost_ret (v := .agg #[.slice a' xs.length cap', .int .i64 c]) (by simp [results, Tryd.results32, go_sem, d1, d2]) rfl ⟨_, rfl, hO2.setBoth (by go_size) _ (by go_size) _ _, (hB2.setCell (by simp) _).setCell (by simp) _⟩

/-- The loop of the content: what it holds after k rounds. -/
theorem gcdL_nat (xs : List Int) (k : Nat) (h : k < xs.length) : Nat.gcd (gcdL (xs.take k) 0) (xs[k]).natAbs = gcdL (xs.take (k + 1)) 0 := by
  rw [gcdL_snoc xs 0 k h]; simp [Int.gcd]

set_option maxHeartbeats 3200000 in
theorem rTighten_full {lo : Nat} {w : World} {xs : List Int} {b off cap : Nat} (c : Int) (h : IsInts lo w (.slice (some ⟨b, off, none⟩) xs.length cap) xs) (hn : xs.length ≤ 1000) (hs : smR (xs, c) = true) (hb : b < w.heap.size)
    (hc : ∀ i, i < xs.length → w.cell? ⟨b, off + i, none⟩ = some (.int .i64 (xs.getD i 0))) (hne : xs ≠ []) :
    Calls Tryd.prog 32 #[.agg #[.slice (some ⟨b, off, none⟩) xs.length cap, .int .i64 c]] w fun e w' => ∃ v', e = .returned (.agg #[v', .int .i64 (tC xs c)]) ∧ OwnV w.heap.size w' v' (tX xs c) ∧ Below w.heap.size w w' := by
  have H := hid0 h
  have HS := hid0 (smR_true.1 hs)
  have HSM := hid0 hs
  have HC := hid0 hc
  clear h hc
  go_enter Tryd.func32, Tryd.ntmps32
  go_wp2_with (first | (go_at_call 30; refine (CopyRow_any c (H.out.below (by go_grown)) hn).mono ?_; rintro e w1 ⟨v', rfl, hO, hb1⟩; have hB1 : Below w.heap.size w w1 := (Below.trans (by go_grown) (hb1.mono (by go_size))); have hs1 := hb1.size; simp only [World.size_alloc] at hs1; have hz0 : w.heap.size < w1.heap.size := (by omega); have hz1 : w.heap.size + 1 < w1.heap.size := (by omega); obtain ⟨p1, p2⟩ := blk hb1 (n := w.heap.size) (by go_size); obtain ⟨p3, p4⟩ := blk hb1 (n := w.heap.size + 1) (by go_size); obtain ⟨a', cap', rfl⟩ := hO.shape) | (go_at_call 53; refine (rSmall_any c (H.out.below (by go_grown))).mono ?_; rintro e w2 ⟨rfl, hb2⟩; have hB2 : Below w.heap.size w w2 := (Below.trans (by go_grown) (hb2.mono (by go_size))); have hs2 := hb2.size; simp only [World.size_alloc] at hs2; obtain ⟨q1, q2⟩ := blk hb2 (n := w.heap.size) (by go_size); obtain ⟨q3, q4⟩ := blk hb2 (n := w.heap.size + 1) (by go_size); obtain ⟨q5, q6⟩ := blk hb2 (n := w1.heap.size) (by go_size)))
  have hB12 := (allocBelow w1 _).trans (hb2.mono (by go_size))
  have hB02 := hb1.trans (hB12.mono hb1.size)
  have x1 : w2.cell? ⟨w1.heap.size, 0, none⟩ = some (.slice a' xs.length cap') := by rw [q5]; simp
  have x2 : w2.cell? ⟨w1.heap.size, 1, none⟩ = some (.int .i64 c) := by rw [q5]; simp
  have x3 : ∀ o, w2.frozen? ⟨w1.heap.size, o, none⟩ = false := fun o => by rw [q6]; simp
  have d1 : w2.cell? ⟨w.heap.size + 1, 0, none⟩ = some (.slice none 0 0) := by rw [(blk hB02 (n := w.heap.size + 1) (by go_size)).1]; simp
  have d2 : w2.cell? ⟨w.heap.size + 1, 1, none⟩ = some (.int .i64 0) := by rw [(blk hB02 (n := w.heap.size + 1) (by go_size)).1]; simp
  have d3 : ∀ o, w2.frozen? ⟨w.heap.size + 1, o, none⟩ = false := fun o => by rw [(blk hB02 (n := w.heap.size + 1) (by go_size)).2]; simp
  have r0 : w2.cell? ⟨w.heap.size, 0, none⟩ = some (.slice (some ⟨b, off, none⟩) xs.length cap) := by rw [(blk hB02 (n := w.heap.size) (by go_size)).1]; simp
  have r1 : w2.cell? ⟨w.heap.size, 1, none⟩ = some (.int .i64 c) := by rw [(blk hB02 (n := w.heap.size) (by go_size)).1]; simp
  have HO2 := hid0 ((hO.below (allocBelow _ _)).below hb2)
  have HG1 := hid0 hO
  have hcap : xs.length ≤ cap' ∧ cap' ≤ maxLen := by
    rcases hO with ⟨_, e⟩ | ⟨g', cp, hv, h1, h2, _⟩
    · exact absurd e hne
    · simp only [Value.slice.injEq] at hv
      exact ⟨by omega, by omega⟩
  have HB2 := hid0 hB2
  have hs2' : w1.heap.size < w2.heap.size := by omega
  clear p1 p2 p3 p4 q1 q2 q3 q4 q5 q6 hb1 hb2 hB1 hB2 hB12 hB02 hO hs1 hs2
  obtain ⟨g, hvg, hOg⟩ : ∃ g, Value.slice a' xs.length cap' = .slice (some ⟨g, 0, none⟩) xs.length cap' ∧ Hid (OwnInts ((w.alloc (.cells #[.slice (some ⟨b, off, none⟩) xs.length cap, .int .i64 c] 24)).alloc (.cells #[.slice none 0 0, .int .i64 0] 24)).heap.size w2 g xs) := by
    rcases HO2.out with ⟨_, e⟩ | ⟨g, cp, hv, _, _, hg⟩
    · exact absurd e hne
    · simp only [Value.slice.injEq] at hv
      exact ⟨g, by rw [hv.1], hg⟩
  obtain rfl : a' = some ⟨g, 0, none⟩ := by simpa using hvg
  have hgs : w.heap.size + 1 < g := by have := hOg.out.1; simp only [World.size_alloc] at this; omega
  have hgl : g < w1.heap.size := by
    rcases HG1.out with ⟨_, e⟩ | ⟨g', cp, hv, _, _, hg⟩
    · exact absurd e hne
    · simp only [Value.slice.injEq, Option.some.injEq, Addr.mk.injEq] at hv
      rw [hv.1.1]; exact hg.lt
  clear hvg
  go_loopw [4, 5] (fun u v wr => ∃ k : Nat, k ≤ xs.length ∧ v = .int .i64 k ∧ u = .int .i64 (gcdL (xs.take k) 0) ∧ Below w2.heap.size w2 wr) (fun _ v _ => xs.length - (intOf v).toNat)
  case atStart => exact ⟨0, Nat.zero_le _, rfl, rfl, Below.refl _ _⟩
  case round =>
    obtain ⟨k, hk, rfl, rfl, hB0⟩ := hrel
    have HB0 := hid0 hB0
    have HB := hid0 (thenBelow HB2.out hB0)
    have l0 : w.heap.size < w2.heap.size := by omega
    have l1 : w.heap.size + 1 < w2.heap.size := by omega
    have y0 : wr.cell? ⟨w.heap.size, 0, none⟩ = some (.slice (some ⟨b, off, none⟩) xs.length cap) := (hB0.cell (p := ⟨w.heap.size, 0, none⟩) l0).trans r0
    by_cases h1 : k < xs.length
    · have g1 : wr.cell? ⟨b, off + k, none⟩ = some (.int .i64 (xs.getD k 0)) := (HB.out.cell (p := ⟨b, off + k, none⟩) hb).trans (HC.out k h1)
      have s1 : Hid (smB (xs[k]'h1) = true) := List.all_eq_true.1 HS.out.1 _ (List.getElem_mem _)
      have s2 : Hid ((xs[k]'h1).natAbs ≤ 68719476736) := by show _ ≤ _; have := smB_true.1 s1.out; omega
      have s3 : Hid (gcdL (xs.take k) 0 ≤ 68719476736) := gcdL_small _ _ (by omega) (all_take_of k HS.out.1)
      have s4 := hid0 (gcdL_nat xs k h1)
      clear hB0 r0 r1 d1 d2 d3 x1 x2 x3
      go_wp2_with (first | (go_at_call 62; refine (abs_any _ _ s1.out).mono ?_; rintro e w' ⟨rfl, rfl⟩) | (go_at_call 61; refine (rgcd_any _ _ _ s3.out s2.out).mono ?_; rintro e w4 ⟨rfl, hb4⟩))
      go_roundw
      case rel => exact ⟨k + 1, by omega, by go_num, by rw [s4.out], thenBelow HB0.out hb4⟩
      case measure => simp [intOf]; omega
    · obtain rfl : k = xs.length := by omega
      have e1 : xs.take xs.length = xs := List.take_length
      rw [e1]
      have y1 : wr.cell? ⟨w1.heap.size, 0, none⟩ = some (.slice (some ⟨g, 0, none⟩) xs.length cap') := (hB0.cell (p := ⟨w1.heap.size, 0, none⟩) hs2').trans x1
      have y2 : wr.cell? ⟨w1.heap.size, 1, none⟩ = some (.int .i64 c) := (hB0.cell (p := ⟨w1.heap.size, 1, none⟩) hs2').trans x2
      have y3 : ∀ o, wr.frozen? ⟨w1.heap.size, o, none⟩ = false := fun o => (hB0.frozen (p := ⟨w1.heap.size, o, none⟩) hs2').trans (x3 o)
      have y4 : wr.cell? ⟨w.heap.size + 1, 0, none⟩ = some (.slice none 0 0) := (hB0.cell (p := ⟨w.heap.size + 1, 0, none⟩) l1).trans d1
      have y5 : wr.cell? ⟨w.heap.size + 1, 1, none⟩ = some (.int .i64 0) := (hB0.cell (p := ⟨w.heap.size + 1, 1, none⟩) l1).trans d2
      have y6 : ∀ o, wr.frozen? ⟨w.heap.size + 1, o, none⟩ = false := fun o => (hB0.frozen (p := ⟨w.heap.size + 1, o, none⟩) l1).trans (d3 o)
      have HOr := hid0 (hOg.out.below hB0)
      clear hB0 r0 r1 d1 d2 d3 x1 x2 x3 hk h1 e1
      by_cases g0 : gcdL xs 0 = 0
      · have hg0 : ((gcdL xs 0 : Int) == 0) = true := by simp [g0]
        have E1 : Hid (tC xs c = c) := by show _ = _; simp [tC, g0]
        have E2 : Hid (tX xs c = xs) := by show _ = _; simp [tX, g0]
        clear g0
        go_wp2_with fail
        refine bodyPost_ret (v := .agg #[.slice (some ⟨g, 0, none⟩) xs.length cap', .int .i64 c]) (by simp [results, Tryd.results32, go_sem, y4, y5]) rfl ⟨_, by rw [E1.out], ?_, (HB.out.setCell (by simp) _).setCell (by simp) _⟩
        rw [E2.out]
        exact OwnV.setBoth (lo' := w.heap.size + 2) (.inr ⟨g, cap', rfl, hcap.1, hcap.2, HOr.out.mono (by simp only [World.size_alloc]; omega)⟩) (by omega) _ (by omega) _ _
      · have hg0 : ((gcdL xs 0 : Int) == 0) = false := by simp; omega
        have E1 : Hid (tC xs c = c / gcdL xs 0) := by show _ = _; simp [tC, g0, HSM.out]
        have E2 : Hid (tX xs c = xs.map fun x => x.tdiv (gcdL xs 0)) := by show _ = _; simp [tX, g0, HSM.out]
        have b3 : (1 : Int) ≤ gcdL xs 0 := by omega
        have b5 : (gcdL xs 0 : Int) ≤ 68719476736 := by
          have := gcdL_small xs 0 (by omega) HS.out.1
          omega
        have b4 : ¬ ((gcdL xs 0 : Int) = 0) := by omega
        go_wp2_with fail
        obtain ⟨wo, rfl⟩ : ∃ wo : World, wo = wr := ⟨_, rfl⟩
        have hz3 : w.heap.size + 1 ≠ w1.heap.size := by omega
        have z4 : w.heap.size ≤ g := by omega
        clear hg0 g0 y0
        go_loopw [6] (fun v wr => ∃ k : Nat, k ≤ xs.length ∧ v = .int .i64 k ∧ OwnInts (w.heap.size + 2) wr g (midL (fun x => x.tdiv (gcdL xs 0)) xs k) ∧ (∀ b, b ≠ g → wr.heap[b]? = wo.heap[b]?) ∧ Below w.heap.size w wr) (fun v _ => xs.length - (intOf v).toNat)
        case atStart => exact ⟨0, Nat.zero_le _, rfl, by simpa [midL] using HOr.out.mono (by simp only [World.size_alloc]; omega), fun _ _ => rfl, HB.out⟩
        case round =>
          obtain ⟨k, hk, rfl, hO, hBut, hB⟩ := hrel
          have HOk := hid0 hO
          have HBut := hid0 hBut
          have HBr := hid0 hB
          obtain ⟨c1, c2⟩ := but_cell hBut
          have u1 : wr.cell? ⟨w1.heap.size, 0, none⟩ = some (.slice (some ⟨g, 0, none⟩) xs.length cap') := (c1 _ _ (by omega)).trans y1
          have u2 : wr.cell? ⟨w1.heap.size, 1, none⟩ = some (.int .i64 c) := (c1 _ _ (by omega)).trans y2
          by_cases h1 : k < xs.length
          · have g1 : wr.cell? ⟨g, k, none⟩ = some (.int .i64 (xs[k]'h1)) := by
              rw [hO.cell k (by rw [midL_length]; exact h1), midL_get _ _ _ h1]
            have g2 : wr.frozen? ⟨g, k, none⟩ = false := hO.frozen k
            have b0 := List.all_eq_true.1 HS.out.1 _ (List.getElem_mem h1)
            have e := tdiv_small (y := gcdL xs 0) b0
            have ew : IntKind.i64.wrap ((xs[k]'h1).tdiv (gcdL xs 0)) = (xs[k]'h1).tdiv (gcdL xs 0) := IntWalk.i64_in _ (by omega)
            rw [smB_true] at b0
            obtain ⟨b1, b2⟩ := b0
            have He := hid0 e
            clear e hO hBut hB c1 c2 y1 y2 y3 y4 y5 y6
            go_wp2
            go_region
            go_wp2
            go_roundw
            case rel =>
              refine ⟨k + 1, by omega, by go_num, ?_, fun b hb => (Below.heap_setCell _ _ _ _ hb).trans (HBut.out b hb), (HBr.out.setCell z4 _).drew⟩
              rw [← midL_set _ _ _ h1]
              refine HOk.out.set k _ ?_
              have := He.out
              constructor <;> omega
            case measure => simp [intOf]; omega
          · obtain rfl : k = xs.length := by omega
            have v3 : ∀ o, wr.frozen? ⟨w1.heap.size, o, none⟩ = false := fun o => (c2 _ _ (by omega)).trans (y3 o)
            have v4 : wr.cell? ⟨w.heap.size + 1, 0, none⟩ = some (.slice none 0 0) := (c1 _ _ (by omega)).trans y4
            have v5 : wr.cell? ⟨w.heap.size + 1, 1, none⟩ = some (.int .i64 0) := (c1 _ _ (by omega)).trans y5
            have v6 : ∀ o, wr.frozen? ⟨w.heap.size + 1, o, none⟩ = false := fun o => (c2 _ _ (by omega)).trans (y6 o)
            clear hO hBut hB c1 c2 y1 y2 y3 y4 y5 y6 h1 hk
            have s2 : Hid (smB c = true) := HS.out.2
            go_wp2_with (go_at_call 63; refine (down_any _ _ _ s2.out b3 b5).mono ?_; rintro e w' ⟨rfl, rfl⟩)
            have z1 : w.heap.size ≤ w1.heap.size := by omega
            refine bodyPost_ret (v := .agg #[.slice (some ⟨g, 0, none⟩) xs.length cap', .int .i64 (c / gcdL xs 0)]) (by simp [results, Tryd.results32, go_sem, v4, v5]) rfl ⟨_, by rw [E1.out], ?_, ((HBr.out.setCell z1 _).setCell (by simp) _).setCell (by simp) _⟩
            have hO := HOk.out
            rw [midL_end _ _ _ (Nat.le_refl _)] at hO
            rw [E2.out]
            have hO1 := hO.setOther ⟨w1.heap.size, 1, none⟩ (.int .i64 (c / gcdL xs 0)) (by simp; omega)
            have hv : OwnV (w.heap.size + 2) _ (.slice (some ⟨g, 0, none⟩) xs.length cap') (xs.map fun x => x.tdiv (gcdL xs 0)) := .inr ⟨g, cap', by simp, by simpa using hcap.1, hcap.2, hO1⟩
            exact hv.setBoth (by omega) _ (by omega) _ _

set_option maxHeartbeats 1600000 in
theorem rTighten_nil {lo : Nat} {w : World} {a : Option Addr} {cap : Nat} (c : Int) (h : IsInts lo w (.slice a 0 cap) []) (hs : smR ([], c) = true) :
    Calls Tryd.prog 32 #[.agg #[.slice a 0 cap, .int .i64 c]] w fun e w' => ∃ v', e = .returned (.agg #[v', .int .i64 c]) ∧ OwnV w.heap.size w' v' [] ∧ Below w.heap.size w w' := by
  have H := hid0 h
  have hn : ([] : List Int).length ≤ 1000 := by decide
  clear h
  go_enter Tryd.func32, Tryd.ntmps32
  go_wp2_with (first | (go_at_call 30; refine (CopyRow_any c (H.out.below (by go_grown)) hn).mono ?_; rintro e w1 ⟨v', rfl, hO, hb1⟩; have hB1 : Below w.heap.size w w1 := (Below.trans (by go_grown) (hb1.mono (by go_size))); have hs1 := hb1.size; simp only [World.size_alloc] at hs1; have hz0 : w.heap.size < w1.heap.size := (by omega); have hz1 : w.heap.size + 1 < w1.heap.size := (by omega); obtain ⟨p1, p2⟩ := blk hb1 (n := w.heap.size) (by go_size); obtain ⟨p3, p4⟩ := blk hb1 (n := w.heap.size + 1) (by go_size); obtain ⟨a', cap', rfl⟩ := hO.shape) | (go_at_call 53; refine (rSmall_any c (H.out.below (by go_grown))).mono ?_; rintro e w2 ⟨rfl, hb2⟩; have hB2 : Below w.heap.size w w2 := (Below.trans (by go_grown) (hb2.mono (by go_size))); have hs2 := hb2.size; simp only [World.size_alloc] at hs2; obtain ⟨q1, q2⟩ := blk hb2 (n := w.heap.size) (by go_size); obtain ⟨q3, q4⟩ := blk hb2 (n := w.heap.size + 1) (by go_size); obtain ⟨q5, q6⟩ := blk hb2 (n := w1.heap.size) (by go_size)))
  have hB12 := (allocBelow w1 _).trans (hb2.mono (by go_size))
  have hB02 := hb1.trans (hB12.mono hb1.size)
  have d1 : w2.cell? ⟨w.heap.size + 1, 0, none⟩ = some (.slice none 0 0) := by rw [(blk hB02 (n := w.heap.size + 1) (by go_size)).1]; simp
  have d2 : w2.cell? ⟨w.heap.size + 1, 1, none⟩ = some (.int .i64 0) := by rw [(blk hB02 (n := w.heap.size + 1) (by go_size)).1]; simp
  have hO2 := (hO.below (allocBelow _ _)).below hb2
  refine wp_loop_rounds 1 ?_
  rw [rounds_succ]
  go_wp2_with fail
  refine bodyPost_ret (v := .agg #[.slice a' 0 cap', .int .i64 c]) (by simp [results, Tryd.results32, go_sem, d1, d2]) rfl ⟨_, rfl, hO2.setBoth (by go_size) _ (by go_size) _ _, (hB2.setCell (by simp) _).setCell (by simp) _⟩

theorem rTighten_any {lo : Nat} {w : World} {v : Value} {xs : List Int} (c : Int) (h : IsInts lo w v xs) (hn : xs.length ≤ 1000) :
    Calls Tryd.prog 32 #[.agg #[v, .int .i64 c]] w fun e w' => ∃ v', e = .returned (.agg #[v', .int .i64 (tC xs c)]) ∧ OwnV w.heap.size w' v' (tX xs c) ∧ Below w.heap.size w w' := by
  cases hs : smR (xs, c) with
  | false =>
    rw [show tC xs c = c by simp [tC, hs], show tX xs c = xs by simp [tX, hs]]
    exact rTighten_large c h hn hs
  | true =>
    have H := h
    obtain ⟨a, cap, rfl, _, _, _, hc⟩ := h
    have hnil : ∀ {a : Option Addr} {cap : Nat}, xs = [] → IsInts lo w (.slice a xs.length cap) xs → Calls Tryd.prog 32 #[.agg #[.slice a xs.length cap, .int .i64 c]] w fun e w' => ∃ v', e = .returned (.agg #[v', .int .i64 (tC xs c)]) ∧ OwnV w.heap.size w' v' (tX xs c) ∧ Below w.heap.size w w' := fun e h => by
      subst e
      rw [show tC [] c = c by simp [tC, gcdL], show tX [] c = [] by simp [tX, gcdL]]
      exact rTighten_nil c h hs
    rcases hc with e | ⟨b, off, rfl, _, hb, hc⟩
    · exact hnil e H
    · by_cases hne : xs = []
      · exact hnil hne H
      · exact rTighten_full c H hn hs hb hc hne
end Go.Proofs.YtbppooajhoejcaaDoor
