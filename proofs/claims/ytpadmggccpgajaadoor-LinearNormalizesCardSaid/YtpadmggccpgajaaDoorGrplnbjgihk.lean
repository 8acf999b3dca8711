import Derived.Test.YtpadmggccpgajaaDoorGrppealnncj
import Derived.Test.YtpadmggccpgajaaDoorGrpkbfballg
set_option linter.all false
namespace Go.Proofs.YtpadmggccpgajaaDoor
open Go.RowKit Go.Deep

set_option maxHeartbeats 400000 in
theorem rgcd_any (x y : Nat) (w : World) (hx : x ≤ 68719476736) (hy : y ≤ 68719476736) :
    Calls Tryd.prog 77 #[.int .i64 x, .int .i64 y] w fun e w' => e = .returned (.int .i64 (Nat.gcd x y)) ∧ Below w.heap.size w w' := by
  go_enter Tryd.func77, Tryd.ntmps77
  go_wp2_with fail
  go_loopw [0, 1] (fun u v wr => ∃ a b : Nat, u = .int .i64 a ∧ v = .int .i64 b ∧ a ≤ 68719476736 ∧ b ≤ 68719476736 ∧ Nat.gcd a b = Nat.gcd x y ∧ Below w.heap.size w wr) (fun _ v _ => (intOf v).toNat)
  case atStart => exact ⟨x, y, rfl, rfl, hx, hy, rfl, Below.refl _ _⟩
  case round =>
    obtain ⟨a, b, rfl, rfl, ha, hb, hg, hB⟩ := hrel
    have HG := hid0 hg
    have HB := hid0 hB
    clear hg hB hx hy
    by_cases h0 : b = 0
    · subst h0
      have e : Hid (Nat.gcd x y = a) := by show _ = _; rw [← HG.out]; simp
      go_wp2
      go_ret
      exact ⟨ret_int (by rw [e.out]), HB.out⟩
    · have hm1 : a % b < b := Nat.mod_lt _ (by omega)
      have hm3 : Hid (Nat.gcd b (a % b) = Nat.gcd x y) := by
        show _ = _
        rw [← HG.out, Nat.gcd_comm, ← Nat.gcd_rec, Nat.gcd_comm]
      have hb0 : ((b : Int) != 0) = true := by simp; omega
      have hb1 : (1 : Int) ≤ b := by omega
      go_wp2
      go_region
      go_wp2
      go_roundw
      case rel => exact ⟨b, a % b, rfl, by go_num, hb, by omega, hm3.out, HB.out.drew⟩
      case measure => simp [intOf]; omega

theorem down_any (x y : Int) (w : World) (hx : smB x = true) (hy : 1 ≤ y) (hy' : y ≤ 68719476736) :
    Calls Tryd.prog 162 #[.int .i64 x, .int .i64 y] w fun e w' => e = .returned (.int .i64 (x / y)) ∧ w = w' := by
  have D := hid0 (tdiv_small (y := y) hx)
  have e1 : x.tmod y < 0 → Hid (x / y = x.tdiv y - 1) := fun h => div_of_neg hy h
  have e2 : ¬ x.tmod y < 0 → Hid (x / y = x.tdiv y) := fun h => div_of_nonneg hy h
  have hx0 := hx
  rw [smB_true] at hx
  obtain ⟨h1, h2⟩ := hx
  by_cases h : x.tmod y < 0
  · have E := e1 h
    clear e1 e2
    go_enter Tryd.func162, Tryd.ntmps162
    go_wp2
    go_ret
    have d := D.out
    exact ⟨ret_int (by rw [E.out]; try exact IntWalk.wrap64_in _ (by omega)), rfl⟩
  · have E := e2 h
    clear e1 e2
    go_enter Tryd.func162, Tryd.ntmps162
    go_wp2
    go_ret
    have d := D.out
    exact ⟨ret_int (by rw [E.out]; try exact IntWalk.wrap64_in _ (by omega)), rfl⟩

theorem abs_any (x : Int) (w : World) (hx : smB x = true) : Calls Tryd.prog 136 #[.int .i64 x] w fun e w' => e = .returned (.int .i64 x.natAbs) ∧ w = w' := by
  rw [smB_true] at hx
  obtain ⟨h1, h2⟩ := hx
  by_cases h : x < 0
  · have e : Hid ((x.natAbs : Int) = -x) := by show _ = _; omega
    go_enter Tryd.func136, Tryd.ntmps136
    go_wp2
    go_ret
    exact ⟨ret_int e.out.symm, rfl⟩
  · have e : Hid ((x.natAbs : Int) = x) := by show _ = _; omega
    go_enter Tryd.func136, Tryd.ntmps136
    go_wp2
    go_ret
    exact ⟨ret_int e.out.symm, rfl⟩

/-- An own row stays when the cells of two boxes are written. -/
theorem OwnV.setBoth {lo lo' : Nat} {w : World} {v : Value} {xs : List Int} (h : OwnV lo' w v xs) (hl : lo ≤ lo') (b : Nat) (hb : b < lo') (u u' : Value) : OwnV lo ((w.setCell ⟨b, 0, none⟩ u).setCell ⟨b, 1, none⟩ u') v xs := by
  rcases h with hv | ⟨g, cp, hv, h1, hm, hg⟩
  · exact .inl hv
  · have := hg.1
    exact .inr ⟨g, cp, hv, h1, hm, (((hg.setOther _ _ (by simp; omega)).setOther _ _ (by simp; omega)).mono hl)⟩

set_option maxHeartbeats 1600000 in
theorem rTighten_large {lo : Nat} {w : World} {v : Value} {xs : List Int} (c : Int) (h : IsInts lo w v xs) (hn : xs.length ≤ 1000) (hs : smR (xs, c) = false) :
    Calls Tryd.prog 128 #[.agg #[v, .int .i64 c]] w fun e w' => ∃ v', e = .returned (.agg #[v', .int .i64 c]) ∧ OwnV w.heap.size w' v' xs ∧ Below w.heap.size w w' := by
  have H := hid0 h
  obtain ⟨a, cap, rfl⟩ := h.shape
  clear h
  go_enter Tryd.func128, Tryd.ntmps128
  go_wp2_with (first | (go_at_call 28; refine (CopyRow_any c (H.out.below (by go_grown)) hn).mono ?_; rintro e w1 ⟨v', rfl, hO, hb1⟩; have hB1 : Below w.heap.size w w1 := (Below.trans (by go_grown) (hb1.mono (by go_size))); have hs1 := hb1.size; simp only [World.size_alloc] at hs1; have hz0 : w.heap.size < w1.heap.size := (by omega); have hz1 : w.heap.size + 1 < w1.heap.size := (by omega); obtain ⟨p1, p2⟩ := blk hb1 (n := w.heap.size) (by go_size); obtain ⟨p3, p4⟩ := blk hb1 (n := w.heap.size + 1) (by go_size); obtain ⟨a', cap', rfl⟩ := hO.shape) | (go_at_call 79; refine (rSmall_any c (H.out.below (by go_grown))).mono ?_; rintro e w2 ⟨rfl, hb2⟩; have hB2 : Below w.heap.size w w2 := (Below.trans (by go_grown) (hb2.mono (by go_size))); have hs2 := hb2.size; simp only [World.size_alloc] at hs2; obtain ⟨q1, q2⟩ := blk hb2 (n := w.heap.size) (by go_size); obtain ⟨q3, q4⟩ := blk hb2 (n := w.heap.size + 1) (by go_size); obtain ⟨q5, q6⟩ := blk hb2 (n := w1.heap.size) (by go_size)))
  have hB02 := hb1.trans (((allocBelow w1 _).trans (hb2.mono (by go_size))).mono hb1.size)
  have d1 : w2.cell? ⟨w.heap.size + 1, 0, none⟩ = some (.slice none 0 0) := by rw [(blk hB02 (n := w.heap.size + 1) (by go_size)).1]; simp
  have d2 : w2.cell? ⟨w.heap.size + 1, 1, none⟩ = some (.int .i64 0) := by rw [(blk hB02 (n := w.heap.size + 1) (by go_size)).1]; simp
  have hO2 := (hO.below (allocBelow _ _)).below hb2
  refine bodyPost_ret (v := .agg #[.slice a' xs.length cap', .int .i64 c]) (by simp [results, Tryd.results128, go_sem, d1, d2]) rfl ⟨_, rfl, hO2.setBoth (by go_size) _ (by go_size) _ _, (hB2.setCell (by simp) _).setCell (by simp) _⟩

/-- The loop of the content: what it holds after k rounds. -/
theorem gcdL_nat (xs : List Int) (k : Nat) (h : k < xs.length) : Nat.gcd (gcdL (xs.take k) 0) (xs[k]).natAbs = gcdL (xs.take (k + 1)) 0 := by
  rw [gcdL_snoc xs 0 k h]; simp [Int.gcd]

set_option maxHeartbeats 3200000 in
theorem rTighten_full {lo : Nat} {w : World} {xs : List Int} {b off cap : Nat} (c : Int) (h : IsInts lo w (.slice (some ⟨b, off, none⟩) xs.length cap) xs) (hn : xs.length ≤ 1000) (hs : smR (xs, c) = true) (hb : b < w.heap.size)
    (hc : ∀ i, i < xs.length → w.cell? ⟨b, off + i, none⟩ = some (.int .i64 (xs.getD i 0))) (hne : xs ≠ []) :
    Calls Tryd.prog 128 #[.agg #[.slice (some ⟨b, off, none⟩) xs.length cap, .int .i64 c]] w fun e w' => ∃ v', e = .returned (.agg #[v', .int .i64 (tC xs c)]) ∧ OwnV w.heap.size w' v' (tX xs c) ∧ Below w.heap.size w w' := by
  have H := hid0 h
  have HS := hid0 (smR_true.1 hs)
  have HSM := hid0 hs
  have HC := hid0 hc
  clear h hc
  go_enter Tryd.func128, Tryd.ntmps128
  go_wp2_with (first | (go_at_call 28; refine (CopyRow_any c (H.out.below (by go_grown)) hn).mono ?_; rintro e w1 ⟨v', rfl, hO, hb1⟩; have hB1 : Below w.heap.size w w1 := (Below.trans (by go_grown) (hb1.mono (by go_size))); have hs1 := hb1.size; simp only [World.size_alloc] at hs1; have hz0 : w.heap.size < w1.heap.size := (by omega); have hz1 : w.heap.size + 1 < w1.heap.size := (by omega); obtain ⟨p1, p2⟩ := blk hb1 (n := w.heap.size) (by go_size); obtain ⟨p3, p4⟩ := blk hb1 (n := w.heap.size + 1) (by go_size); obtain ⟨a', cap', rfl⟩ := hO.shape) | (go_at_call 79; refine (rSmall_any c (H.out.below (by go_grown))).mono ?_; rintro e w2 ⟨rfl, hb2⟩; have hB2 : Below w.heap.size w w2 := (Below.trans (by go_grown) (hb2.mono (by go_size))); have hs2 := hb2.size; simp only [World.size_alloc] at hs2; obtain ⟨q1, q2⟩ := blk hb2 (n := w.heap.size) (by go_size); obtain ⟨q3, q4⟩ := blk hb2 (n := w.heap.size + 1) (by go_size); obtain ⟨q5, q6⟩ := blk hb2 (n := w1.heap.size) (by go_size)))
  have hB12 := (allocBelow w1 _).trans (hb2.mono (by go_size))
  have hB02 := hb1.trans (hB12.mono hb1.size)
  have x1 : w2.cell? ⟨w1.heap.size, 0, none⟩ = some (.slice a' xs.length cap') := by rw [q5]; simp
  have x2 : w2.cell? ⟨w1.heap.size, 1, none⟩ = some (.int .i64 c) := by rw [q5]; simp
  have x3 : ∀ o, w2.frozen? ⟨w1.heap.size, o, none⟩ = false := fun o => by rw [q6]; simp
  have d1 : w2.cell? ⟨w.heap.size + 1, 0, none⟩ = some (.slice none 0 0) := by rw [(blk hB02 (n := w.heap.size + 1) (by go_size)).1]; simp
  have d2 : w2.cell? ⟨w.heap.size + 1, 1, none⟩ = some (.int .i64 0) := by rw [(blk hB02 (n := w.heap.size + 1) (by go_size)).1]; simp
  have d3 : ∀ o, w2.frozen? ⟨w.heap.size + 1, o, none⟩ = false := fun o => by rw [(blk hB02 (n := w.heap.size + 1) (by go_size)).2]; simp
  have r0 : w2.cell? ⟨w.heap.size, 0, none⟩ = some (.slice (some ⟨b, off, none⟩) xs.length cap) := by rw [(blk hB02 (n := w.heap.size) (by go_size)).1]; simp
  have r1 : w2.cell? ⟨w.heap.size, 1, none⟩ = some (.int .i64 c) := by rw [(blk hB02 (n := w.heap.size) (by go_size)).1]; simp
  have HO2 := hid0 ((hO.below (allocBelow _ _)).below hb2)
  have HG1 := hid0 hO
  have hcap : xs.length ≤ cap' ∧ cap' ≤ maxLen := by
    rcases hO with ⟨_, e⟩ | ⟨g', cp, hv, h1, h2, _⟩
    · exact absurd e hne
    · simp only [Value.slice.injEq] at hv
      exact ⟨by omega, by omega⟩
  have HB2 := hid0 hB2
  have hs2' : w1.heap.size < w2.heap.size := by omega
  clear p1 p2 p3 p4 q1 q2 q3 q4 q5 q6 hb1 hb2 hB1 hB2 hB12 hB02 hO hs1 hs2
  obtain ⟨g, hvg, hOg⟩ : ∃ g, Value.slice a' xs.length cap' = .slice (some ⟨g, 0, none⟩) xs.length cap' ∧ Hid (OwnInts ((w.alloc (.cells #[.slice (some ⟨b, off, none⟩) xs.length cap, .int .i64 c] 54)).alloc (.cells #[.slice none 0 0, .int .i64 0] 54)).heap.size w2 g xs) := by
    rcases HO2.out with ⟨_, e⟩ | ⟨g, cp, hv, _, _, hg⟩
    · exact absurd e hne
    · simp only [Value.slice.injEq] at hv
      exact ⟨g, by rw [hv.1], hg⟩
  obtain rfl : a' = some ⟨g, 0, none⟩ := by simpa using hvg
  have hgs : w.heap.size + 1 < g := by have := hOg.out.1; simp only [World.size_alloc] at this; omega
  have hgl : g < w1.heap.size := by
    rcases HG1.out with ⟨_, e⟩ | ⟨g', cp, hv, _, _, hg⟩
    · exact absurd e hne
    · simp only [Value.slice.injEq, Option.some.injEq, Addr.mk.injEq] at hv
      rw [hv.1.1]; exact hg.lt
  clear hvg
  go_loopw [4, 5] (fun u v wr => ∃ k : Nat, k ≤ xs.length ∧ v = .int .i64 k ∧ u = .int .i64 (gcdL (xs.take k) 0) ∧ Below w2.heap.size w2 wr) (fun _ v _ => xs.length - (intOf v).toNat)
  case atStart => exact ⟨0, Nat.zero_le _, rfl, rfl, Below.refl _ _⟩
  case round =>
    obtain ⟨k, hk, rfl, rfl, hB0⟩ := hrel
    have HB0 := hid0 hB0
    have HB := hid0 (thenBelow HB2.out hB0)
    have l0 : w.heap.size < w2.heap.size := by omega
    have l1 : w.heap.size + 1 < w2.heap.size := by omega
    have y0 : wr.cell? ⟨w.heap.size, 0, none⟩ = some (.slice (some ⟨b, off, none⟩) xs.length cap) := (hB0.cell (p := ⟨w.heap.size, 0, none⟩) l0).trans r0
    by_cases h1 : k < xs.length
    · have g1 : wr.cell? ⟨b, off + k, none⟩ = some (.int .i64 (xs.getD k 0)) := (HB.out.cell (p := ⟨b, off + k, none⟩) hb).trans (HC.out k h1)
      have s1 : Hid (smB (xs[k]'h1) = true) := List.all_eq_true.1 HS.out.1 _ (List.getElem_mem _)
      have s2 : Hid ((xs[k]'h1).natAbs ≤ 68719476736) := by show _ ≤ _; have := smB_true.1 s1.out; omega
      have s3 : Hid (gcdL (xs.take k) 0 ≤ 68719476736) := gcdL_small _ _ (by omega) (all_take_of k HS.out.1)
      have s4 := hid0 (gcdL_nat xs k h1)
      clear hB0 r0 r1 d1 d2 d3 x1 x2 x3
      go_wp2_with (first | (go_at_call 136; refine (abs_any _ _ s1.out).mono ?_; rintro e w' ⟨rfl, rfl⟩) | (go_at_call 77; refine (rgcd_any _ _ _ s3.out s2.out).mono ?_; rintro e w4 ⟨rfl, hb4⟩))
      go_roundw
      case rel => exact ⟨k + 1, by omega, by go_num, by rw [s4.out], thenBelow HB0.out hb4⟩
      case measure => simp [intOf]; omega
    · obtain rfl : k = xs.length := by omega
      have e1 : xs.take xs.length = xs := List.take_length
      rw [e1]
      have y1 : wr.cell? ⟨w1.heap.size, 0, none⟩ = some (.slice (some ⟨g, 0, none⟩) xs.length cap') := (hB0.cell (p := ⟨w1.heap.size, 0, none⟩) hs2').trans x1
      have y2 : wr.cell? ⟨w1.heap.size, 1, none⟩ = some (.int .i64 c) := (hB0.cell (p := ⟨w1.heap.size, 1, none⟩) hs2').trans x2
      have y3 : ∀ o, wr.frozen? ⟨w1.heap.size, o, none⟩ = false := fun o => (hB0.frozen (p := ⟨w1.heap.size, o, none⟩) hs2').trans (x3 o)
      have y4 : wr.cell? ⟨w.heap.size + 1, 0, none⟩ = some (.slice none 0 0) := (hB0.cell (p := ⟨w.heap.size + 1, 0, none⟩) l1).trans d1
      have y5 : wr.cell? ⟨w.heap.size + 1, 1, none⟩ = some (.int .i64 0) := (hB0.cell (p := ⟨w.heap.size + 1, 1, none⟩) l1).trans d2
      have y6 : ∀ o, wr.frozen? ⟨w.heap.size + 1, o, none⟩ = false := fun o => (hB0.frozen (p := ⟨w.heap.size + 1, o, none⟩) l1).trans (d3 o)
      have HOr := hid0 (hOg.out.below hB0)
      clear hB0 r0 r1 d1 d2 d3 x1 x2 x3 hk h1 e1
      by_cases g0 : gcdL xs 0 = 0
      · have hg0 : ((gcdL xs 0 : Int) == 0) = true := by simp [g0]
        have E1 : Hid (tC xs c = c) := by show _ = _; simp [tC, g0]
        have E2 : Hid (tX xs c = xs) := by show _ = _; simp [tX, g0]
        clear g0
        go_wp2_with fail
        refine bodyPost_ret (v := .agg #[.slice (some ⟨g, 0, none⟩) xs.length cap', .int .i64 c]) (by simp [results, Tryd.results128, go_sem, y4, y5]) rfl ⟨_, by rw [E1.out], ?_, (HB.out.setCell (by simp) _).setCell (by simp) _⟩
        rw [E2.out]
        exact OwnV.setBoth (lo' := w.heap.size + 2) (.inr ⟨g, cap', rfl, hcap.1, hcap.2, HOr.out.mono (by simp only [World.size_alloc]; omega)⟩) (by omega) _ (by omega) _ _
      · have hg0 : ((gcdL xs 0 : Int) == 0) = false := by simp; omega
        have E1 : Hid (tC xs c = c / gcdL xs 0) := by show _ = _; simp [tC, g0, HSM.out]
        have E2 : Hid (tX xs c = xs.map fun x => x.tdiv (gcdL xs 0)) := by show _ = _; simp [tX, g0, HSM.out]
        have b3 : (1 : Int) ≤ gcdL xs 0 := by omega
        have b5 : (gcdL xs 0 : Int) ≤ 68719476736 := by
          have := gcdL_small xs 0 (by omega) HS.out.1
          omega
        have b4 : ¬ ((gcdL xs 0 : Int) = 0) := by omega
        go_wp2_with fail
        obtain ⟨wo, rfl⟩ : ∃ wo : World, wo = wr := ⟨_, rfl⟩
        have hz3 : w.heap.size + 1 ≠ w1.heap.size := by omega
        have z4 : w.heap.size ≤ g := by omega
        clear hg0 g0 y0
        go_loopw [6] (fun v wr => ∃ k : Nat, k ≤ xs.length ∧ v = .int .i64 k ∧ OwnInts (w.heap.size + 2) wr g (midL (fun x => x.tdiv (gcdL xs 0)) xs k) ∧ (∀ b, b ≠ g → wr.heap[b]? = wo.heap[b]?) ∧ Below w.heap.size w wr) (fun v _ => xs.length - (intOf v).toNat)
        case atStart => exact ⟨0, Nat.zero_le _, rfl, by simpa [midL] using HOr.out.mono (by simp only [World.size_alloc]; omega), fun _ _ => rfl, HB.out⟩
        case round =>
          obtain ⟨k, hk, rfl, hO, hBut, hB⟩ := hrel
          have HOk := hid0 hO
          have HBut := hid0 hBut
          have HBr := hid0 hB
          obtain ⟨c1, c2⟩ := but_cell hBut
          have u1 : wr.cell? ⟨w1.heap.size, 0, none⟩ = some (.slice (some ⟨g, 0, none⟩) xs.length cap') := (c1 _ _ (by omega)).trans y1
          have u2 : wr.cell? ⟨w1.heap.size, 1, none⟩ = some (.int .i64 c) := (c1 _ _ (by omega)).trans y2
          by_cases h1 : k < xs.length
          · have g1 : wr.cell? ⟨g, k, none⟩ = some (.int .i64 (xs[k]'h1)) := by
              rw [hO.cell k (by rw [midL_length]; exact h1), midL_get _ _ _ h1]
            have g2 : wr.frozen? ⟨g, k, none⟩ = false := hO.frozen k
            have b0 := List.all_eq_true.1 HS.out.1 _ (List.getElem_mem h1)
            have e := tdiv_small (y := gcdL xs 0) b0
            have ew : IntKind.i64.wrap ((xs[k]'h1).tdiv (gcdL xs 0)) = (xs[k]'h1).tdiv (gcdL xs 0) := IntWalk.i64_in _ (by omega)
            rw [smB_true] at b0
            obtain ⟨b1, b2⟩ := b0
            have He := hid0 e
            clear e hO hBut hB c1 c2 y1 y2 y3 y4 y5 y6
            go_wp2
            go_region
            go_wp2
            go_roundw
            case rel =>
              refine ⟨k + 1, by omega, by go_num, ?_, fun b hb => (Below.heap_setCell _ _ _ _ hb).trans (HBut.out b hb), (HBr.out.setCell z4 _).drew⟩
              rw [← midL_set _ _ _ h1]
              refine HOk.out.set k _ ?_
              have := He.out
              constructor <;> omega
            case measure => simp [intOf]; omega
          · obtain rfl : k = xs.length := by omega
            have v3 : ∀ o, wr.frozen? ⟨w1.heap.size, o, none⟩ = false := fun o => (c2 _ _ (by omega)).trans (y3 o)
            have v4 : wr.cell? ⟨w.heap.size + 1, 0, none⟩ = some (.slice none 0 0) := (c1 _ _ (by omega)).trans y4
            have v5 : wr.cell? ⟨w.heap.size + 1, 1, none⟩ = some (.int .i64 0) := (c1 _ _ (by omega)).trans y5
            have v6 : ∀ o, wr.frozen? ⟨w.heap.size + 1, o, none⟩ = false := fun o => (c2 _ _ (by omega)).trans (y6 o)
            clear hO hBut hB c1 c2 y1 y2 y3 y4 y5 y6 h1 hk
            have s2 : Hid (smB c = true) := HS.out.2
            go_wp2_with (go_at_call 162; refine (down_any _ _ _ s2.out b3 b5).mono ?_; rintro e w' ⟨rfl, rfl⟩)
            have z1 : w.heap.size ≤ w1.heap.size := by omega
            refine bodyPost_ret (v := .agg #[.slice (some ⟨g, 0, none⟩) xs.length cap', .int .i64 (c / gcdL xs 0)]) (by simp [results, Tryd.results128, go_sem, v4, v5]) rfl ⟨_, by rw [E1.out], ?_, ((HBr.out.setCell z1 _).setCell (by simp) _).setCell (by simp) _⟩
            have hO := HOk.out
            rw [midL_end _ _ _ (Nat.le_refl _)] at hO
            rw [E2.out]
            have hO1 := hO.setOther ⟨w1.heap.size, 1, none⟩ (.int .i64 (c / gcdL xs 0)) (by simp; omega)
            have hv : OwnV (w.heap.size + 2) _ (.slice (some ⟨g, 0, none⟩) xs.length cap') (xs.map fun x => x.tdiv (gcdL xs 0)) := .inr ⟨g, cap', by simp, by simpa using hcap.1, hcap.2, hO1⟩
            exact hv.setBoth (by omega) _ (by omega) _ _

set_option maxHeartbeats 1600000 in
theorem rTighten_nil {lo : Nat} {w : World} {a : Option Addr} {cap : Nat} (c : Int) (h : IsInts lo w (.slice a 0 cap) []) (hs : smR ([], c) = true) :
    Calls Tryd.prog 128 #[.agg #[.slice a 0 cap, .int .i64 c]] w fun e w' => ∃ v', e = .returned (.agg #[v', .int .i64 c]) ∧ OwnV w.heap.size w' v' [] ∧ Below w.heap.size w w' := by
  have H := hid0 h
  have hn : ([] : List Int).length ≤ 1000 := by decide
  clear h
  go_enter Tryd.func128, Tryd.ntmps128
  go_wp2_with (first | (go_at_call 28; refine (CopyRow_any c (H.out.below (by go_grown)) hn).mono ?_; rintro e w1 ⟨v', rfl, hO, hb1⟩; have hB1 : Below w.heap.size w w1 := (Below.trans (by go_grown) (hb1.mono (by go_size))); have hs1 := hb1.size; simp only [World.size_alloc] at hs1; have hz0 : w.heap.size < w1.heap.size := (by omega); have hz1 : w.heap.size + 1 < w1.heap.size := (by omega); obtain ⟨p1, p2⟩ := blk hb1 (n := w.heap.size) (by go_size); obtain ⟨p3, p4⟩ := blk hb1 (n := w.heap.size + 1) (by go_size); obtain ⟨a', cap', rfl⟩ := hO.shape) | (go_at_call 79; refine (rSmall_any c (H.out.below (by go_grown))).mono ?_; rintro e w2 ⟨rfl, hb2⟩; have hB2 : Below w.heap.size w w2 := (Below.trans (by go_grown) (hb2.mono (by go_size))); have hs2 := hb2.size; simp only [World.size_alloc] at hs2; obtain ⟨q1, q2⟩ := blk hb2 (n := w.heap.size) (by go_size); obtain ⟨q3, q4⟩ := blk hb2 (n := w.heap.size + 1) (by go_size); obtain ⟨q5, q6⟩ := blk hb2 (n := w1.heap.size) (by go_size)))
  have hB12 := (allocBelow w1 _).trans (hb2.mono (by go_size))
  have hB02 := hb1.trans (hB12.mono hb1.size)
  have d1 : w2.cell? ⟨w.heap.size + 1, 0, none⟩ = some (.slice none 0 0) := by rw [(blk hB02 (n := w.heap.size + 1) (by go_size)).1]; simp
  have d2 : w2.cell? ⟨w.heap.size + 1, 1, none⟩ = some (.int .i64 0) := by rw [(blk hB02 (n := w.heap.size + 1) (by go_size)).1]; simp
  have hO2 := (hO.below (allocBelow _ _)).below hb2
  refine wp_loop_rounds 1 ?_
  rw [rounds_succ]
  go_wp2_with fail
  refine bodyPost_ret (v := .agg #[.slice a' 0 cap', .int .i64 c]) (by simp [results, Tryd.results128, go_sem, d1, d2]) rfl ⟨_, rfl, hO2.setBoth (by go_size) _ (by go_size) _ _, (hB2.setCell (by simp) _).setCell (by simp) _⟩

theorem rTighten_any {lo : Nat} {w : World} {v : Value} {xs : List Int} (c : Int) (h : IsInts lo w v xs) (hn : xs.length ≤ 1000) :
    Calls Tryd.prog 128 #[.agg #[v, .int .i64 c]] w fun e w' => ∃ v', e = .returned (.agg #[v', .int .i64 (tC xs c)]) ∧ OwnV w.heap.size w' v' (tX xs c) ∧ Below w.heap.size w w' := by
  cases hs : smR (xs, c) with
  | false =>
    rw [show tC xs c = c by simp [tC, hs], show tX xs c = xs by simp [tX, hs]]
    exact rTighten_large c h hn hs
  | true =>
    have H := h
    obtain ⟨a, cap, rfl, _, _, _, hc⟩ := h
    have hnil : ∀ {a : Option Addr} {cap : Nat}, xs = [] → IsInts lo w (.slice a xs.length cap) xs → Calls Tryd.prog 128 #[.agg #[.slice a xs.length cap, .int .i64 c]] w fun e w' => ∃ v', e = .returned (.agg #[v', .int .i64 (tC xs c)]) ∧ OwnV w.heap.size w' v' (tX xs c) ∧ Below w.heap.size w w' := fun e h => by
      subst e
      rw [show tC [] c = c by simp [tC, gcdL], show tX [] c = [] by simp [tX, gcdL]]
      exact rTighten_nil c h hs
    rcases hc with e | ⟨b, off, rfl, _, hb, hc⟩
    · exact hnil e H
    · by_cases hne : xs = []
      · exact hnil hne H
      · exact rTighten_full c H hn hs hb hc hne
end Go.Proofs.YtpadmggccpgajaaDoor

namespace Go.Proofs.YtpadmggccpgajaaDoor
open Go.RowKit Go.Deep
variable {J : World → Prop}
/-- A slice all of whose memory is new: so is what lies in it, cell by cell. -/
theorem wk_spread {h : AHeap} {t : ATm} (i : Nat) {z n : Nat} {cs : List AV} {t' : ATm} (hi : t.f i = .fr (.sl z n cs)) (ht : aput t (some i) (.sl z n (cs.map .fr)) = t') : Wk h t h t' := by
  subst ht
  intro J w0 ρ a w s
  refine ⟨ρ, s.wf, s.hH, s.bel, s.inv, s.hp, s.dom, s.pin, s.tl, fun j hj => ?_, s.df⟩
  have hold := s.tm j hj
  simp only [aput]
  split
  · rename_i e
    subst e
    rw [hi] at hold
    generalize a.tmps.getD j undef = x at hold ⊢
    cases hold with
    | pu hold =>
      cases hold with
      | fr hold =>
        cases hold with
        | sl0 h2 hz => exact .pu (.sl0 h2 hz)
        | sl hc h1 h2 hb hw hf h => exact .pu (.sl (by simpa using hc) h1 h2 hb.1 hw (fun k hk => hf k (by simpa using hk)) fun k hk => by
            rw [List.getElem_map]
            exact .fr (h k (by simpa using hk)))
  · exact hold
/-- Put in: what is ahead stays, then the row, then the rest. -/
theorem insT_at (t : Rw) : ∀ (L : List Rw) (p : Nat), p ≤ L.length → (∀ i, (h : i < L.length) → i < p → cmpI L[i].1 t.1 < 0) →
    ((h : p < L.length) → ¬ cmpI L[p].1 t.1 < 0) →
    insT t L = if h : p < L.length then (if eqI L[p].1 t.1 = true then (if t.2 < L[p].2 then L.set p (L[p].1, t.2) else L) else L.take p ++ t :: L.drop p) else L ++ [t]
  | [], p, hp, _, _ => by
    have : p = 0 := by simpa using hp
    subst this
    simp [insT]
  | x :: xs, 0, hp, _, hn => by
    have hx : ¬ cmpI x.1 t.1 < 0 := hn (by simp)
    rw [insT, if_neg hx]
    simp
  | x :: xs, p + 1, hp, hl, hn => by
    have hx : cmpI x.1 t.1 < 0 := hl 0 (by simp) (by omega)
    have ih := insT_at t xs p (by simpa using hp) (fun i h hi => hl (i + 1) (by simp; omega) (by omega)) (fun h => hn (by simp; omega))
    rw [insT, if_pos hx, ih]
    by_cases h : p < xs.length
    · rw [dif_pos h, dif_pos (show p + 1 < (x :: xs).length by simp; omega)]
      simp only [List.getElem_cons_succ]
      split
      · split <;> rfl
      · rfl
    · rw [dif_neg h, dif_neg (show ¬ p + 1 < (x :: xs).length by simp; omega)]
      rfl
theorem ownV' {F : Nat → Prop} {lo : Nat} {w : World} {v : Value} {xs : List Int} (h : OwnV lo w v xs) : Pu F w (nw w lo) (intsA xs) v := by
  rcases h with ⟨rfl, rfl⟩ | ⟨g, cap, rfl, hl, hm, h1, h2, h3, cur, t, hg, hc⟩
  · exact .sl0 (by simp [maxLen]) (by simp)
  · refine .sl (b := g) (off := 0) (f := fun j => .int .i64 (xs.getD j 0)) (by simp) hl hm ⟨h1, _, _, hg⟩ (Array.getElem?_eq_some_iff.1 hg).1 (fun j hj => ?_) fun j hj => ?_
    · have hj' : j < xs.length := by simpa using hj
      rw [Nat.zero_add, cellB hg j (v := .int .i64 (xs.getD j 0)) (hc j hj')]
    · have hj' : j < xs.length := by simpa using hj
      simp only [List.getElem_map, List.getD_eq_getElem?_getD, List.getElem?_eq_getElem hj', Option.getD_some]
      exact .v _
theorem rTighten_c {r : Rw} (H : RwOk r) (hn : r.1.length ≤ 1000) : Ctr Tryd.prog J 128 [.agg (cRo r)] (.agg (cRo (tR r))) := ctr1 fun w v _ h => by
  obtain ⟨u, rfl, hu⟩ := row_args h
  exact (rTighten_any r.2 (pu_ints H.coef lo00 hu) hn).mono fun _ _ ⟨v', he, ho, hb⟩ => ⟨_, he, .agg rfl fun j hj => (match j, hj with
    | 0, _ => ownV' ho
    | 1, _ => .v _), hb⟩
theorem rTrivial_c {r : Rw} (H : RwOk r) : Ctr Tryd.prog J 129 [.agg (cRo r)] (bv (triB r.1 r.2)) := ctr1 fun w v _ h => by
  obtain ⟨u, rfl, hu⟩ := row_args h
  exact (rTrivial_any r.2 (pu_ints H.coef lo00 hu)).mono fun _ _ ⟨he, hb⟩ => ⟨_, he, .v _, hb⟩
theorem rCompareInts_c {xs ys : List Int} (hx : InOk xs) (hy : InOk ys) : Ctr Tryd.prog J 53 [intsA xs, intsA ys] (iv (cmpI xs ys)) := ctr2 fun w v v' _ h h' =>
  (cmpInts_any (pu_ints hx lo00 h) (pu_ints hy lo00 h')).mono fun _ _ ⟨he, hb⟩ => ⟨_, he, .v _, hb⟩
theorem rSameInts_c {xs ys : List Int} (hx : InOk xs) (hy : InOk ys) : Ctr Tryd.prog J 19 [intsA xs, intsA ys] (bv (eqI xs ys)) := ctr2 fun w v v' _ h h' =>
  (SameInts_any (pu_ints hx lo00 h) (pu_ints hy lo00 h')).mono fun _ _ ⟨he, hb⟩ => ⟨_, he, .v _, hb⟩
/-- A constant is written into a row of rows. -/
theorem set_cRo : ∀ (L : List Rw) (p : Nat) (h : p < L.length) (c : Int), setAll (L.flatMap cRo) (p * 2 + 1) [iv c] = (L.set p (L[p].1, c)).flatMap cRo
  | x :: xs, 0, _, c => rfl
  | x :: xs, p + 1, h, c => by
    have ih := set_cRo xs p (by simpa using h) c
    rw [List.set_cons_succ, List.flatMap_cons, List.flatMap_cons, List.getElem_cons_succ, ← ih, show (p + 1) * 2 + 1 = p * 2 + 1 + 2 by omega]
    rfl
def BelowT (L : List Rw) (t : Rw) (p : Nat) : Prop := ∀ i, (h : i < L.length) → i < p → cmpI L[i].1 t.1 < 0
theorem below_zero {L : List Rw} {t : Rw} : BelowT L t 0 := fun i _ h => by omega
theorem below_succ {L : List Rw} {t : Rw} {p : Nat} {hp : p < L.length} (h : BelowT L t p) (hc : cmpI L[p].1 t.1 < 0) : BelowT L t (p + 1) := fun i hi hlt => by
  by_cases e : i = p
  · subst e; exact hc
  · exact h i hi (by omega)
theorem tdy_ok {ts : List Rw} (h : ∀ r ∈ ts, RwOk r) : ∀ r ∈ tdy ts, RwOk r := fun r hr => h r (((tdy_inv ts).2 r).1 hr).1
theorem tdy_snoc (ts : List Rw) (t : Rw) : tdy (ts ++ [t]) = insT t (tdy ts) := by unfold tdy; rw [List.foldl_append]; rfl
section
variable {rs L : List Rw} {j p : Nat}
theorem td_set (hL : L = tdy (tgs (rs.take j))) {hj : j < rs.length} (htr : triB (tR rs[j]).1 (tR rs[j]).2 = false) (hb : BelowT L (tR rs[j]) p) {hp : p < L.length} (hn : ¬ cmpI L[p].1 (tR rs[j]).1 < 0) (he : eqI L[p].1 (tR rs[j]).1 = true) (hc : (tR rs[j]).2 < L[p].2) : L.set p (L[p].1, (tR rs[j]).2) = tdy (tgs (rs.take (j + 1))) := by
  rw [tgs_yes hj htr, tdy_snoc, ← hL, insT_at (tR rs[j]) L p (by omega) hb (fun _ => hn), dif_pos hp, if_pos he, if_pos hc]
theorem td_stay (hL : L = tdy (tgs (rs.take j))) {hj : j < rs.length} (htr : triB (tR rs[j]).1 (tR rs[j]).2 = false) (hb : BelowT L (tR rs[j]) p) {hp : p < L.length} (hn : ¬ cmpI L[p].1 (tR rs[j]).1 < 0) (he : eqI L[p].1 (tR rs[j]).1 = true) (hc : ¬ (tR rs[j]).2 < L[p].2) : L = tdy (tgs (rs.take (j + 1))) := by
  rw [tgs_yes hj htr, tdy_snoc, ← hL, insT_at (tR rs[j]) L p (by omega) hb (fun _ => hn), dif_pos hp, if_pos he, if_neg hc]
theorem td_ins (hL : L = tdy (tgs (rs.take j))) {hj : j < rs.length} (htr : triB (tR rs[j]).1 (tR rs[j]).2 = false) (hb : BelowT L (tR rs[j]) p) {hp : p < L.length} (hn : ¬ cmpI L[p].1 (tR rs[j]).1 < 0) (he : eqI L[p].1 (tR rs[j]).1 = false) : L.take p ++ tR rs[j] :: L.drop p = tdy (tgs (rs.take (j + 1))) := by
  rw [tgs_yes hj htr, tdy_snoc, ← hL, insT_at (tR rs[j]) L p (by omega) hb (fun _ => hn), dif_pos hp, if_neg (by rw [he]; decide)]
theorem td_end (hL : L = tdy (tgs (rs.take j))) {hj : j < rs.length} (htr : triB (tR rs[j]).1 (tR rs[j]).2 = false) (hb : BelowT L (tR rs[j]) p) (hp0 : p ≤ L.length) (hp : ¬ p < L.length) : L.take p ++ tR rs[j] :: L.drop p = tdy (tgs (rs.take (j + 1))) := by
  rw [tgs_yes hj htr, tdy_snoc, ← hL, insT_at (tR rs[j]) L p hp0 hb (fun h => absurd h hp), dif_neg hp, List.take_of_length_le (by omega), List.drop_eq_nil_of_le (by omega)]
theorem newC (c : Int) : ∀ d ∈ [iv c], d.isNew = true := fun d hd => by rw [List.mem_singleton] at hd; subst hd; rfl
end
def frs (L : List Rw) : List AV := (L.flatMap cRo).map .fr
section
variable {L : List Rw} {p : Nat} {t : Rw}
theorem frs_take (hp : p ≤ L.length) : ((frs L).drop (0 * 2)).take ((p - 0) * 2) = frs (L.take p) := by
  unfold frs
  rw [Nat.zero_mul, List.drop_zero, Nat.sub_zero, ← List.map_take]
  congr 1
  induction L generalizing p with
  | nil => simp
  | cons x xs ih =>
    cases p with
    | zero => rfl
    | succ p =>
      rw [List.flatMap_cons, List.take_succ_cons, List.flatMap_cons, ← ih (p := p) (by simpa using hp), show (p + 1) * 2 = p * 2 + 2 by omega]
      rfl
theorem frs_drop (hp : p ≤ L.length) : ((frs L).drop (p * 2)).take ((L.length - p) * 2) = frs (L.drop p) := by
  have e : (L.flatMap cRo).drop (p * 2) = (L.drop p).flatMap cRo := by
    induction L generalizing p with
    | nil => simp
    | cons x xs ih =>
      cases p with
      | zero => rfl
      | succ p =>
        rw [List.flatMap_cons, List.drop_succ_cons, ← ih (p := p) (by simpa using hp), show (p + 1) * 2 = p * 2 + 2 by omega]
        rfl
  unfold frs
  rw [← List.map_drop, e, List.take_of_length_le]
  rw [List.length_map, lenFlat, List.length_drop]
  exact Nat.le_refl _
theorem new_frs : true = true → ∀ d ∈ frs L, d.isNew = true := fun _ d hd => by
  obtain ⟨x, _, rfl⟩ := List.mem_map.1 hd
  rfl
theorem cell_frs : ∀ d ∈ frs L, d.cell = true := fun d hd => by
  obtain ⟨x, hx, rfl⟩ := List.mem_map.1 hd
  obtain ⟨r, _, hr⟩ := List.mem_flatMap.1 hx
  simp only [cRo, List.mem_cons, List.not_mem_nil, or_false] at hr
  rcases hr with rfl | rfl <;> rfl
theorem unfr_frs : rowCells true (frs L) = L.flatMap cRo := by
  unfold rowCells frs
  rw [if_pos rfl, List.map_map]
  exact List.map_id' _
theorem newFrs : ∀ d ∈ frs L, d.isNew = true := new_frs rfl
theorem lenIns (hp : p ≤ L.length) : (L.take p ++ t :: L.drop p).length = p - 0 + 1 + (L.length - p) := by
  rw [List.length_append, List.length_cons, List.length_take, List.length_drop]; omega
theorem ins_end : (L.take p ++ [t]).flatMap cRo ++ rowCells true (frs (L.drop p)) = (L.take p ++ t :: L.drop p).flatMap cRo := by
  rw [unfr_frs, ← List.flatMap_append, List.append_assoc]; rfl
end
end Go.Proofs.YtpadmggccpgajaaDoor

namespace Go.Proofs.YtpadmggccpgajaaDoor
open Go.RowKit Go.Deep
variable {J : World → Prop}
set_option linter.unusedSimpArgs false in
set_option linter.unusedVariables false in
set_option maxRecDepth 100000 in
set_option maxHeartbeats 6400000 in
theorem tidy_o {n : Int} {rs : List Rw} (H : SyOk rs) (hl : rs.length ≤ 250) (hs : ∀ r ∈ rs, r.1.length ≤ 1000) (k : Nat) : CtrO Tryd.prog J 70 [iv n, slA 2 cRo rs] k (.row true 54 2 ((nrm rs).length) ((nrm rs).flatMap cRo)) (.agg [iv n, .own k]) := by
 refine ctrO_of_tri Tryd.func70 rfl (by intro X hX; simp only [List.mem_cons, List.not_mem_nil, or_false] at hX; rcases hX with rfl | rfl; exact .v _; exact plain_sl plain_ro _) (n := 85) rfl (by simp) (fun w0 => ?_)
 refine kW 85 [] [(0, iv n), (1, slA 2 cRo rs)] ?_
 refine tri_seq ?_
 refine tri_region ?_
 refine t_op rfl (sp_alloc (z := .agg #[.int .i64 0, .slice none 0 0]) (k := 1) rfl (by kernel_rfl)) T0 T0 rfl ?_
 refine kN 85 [(1, .box 52 [iv 0, .v (.slice none 0 0)])] [(0, iv n), (1, slA 2 cRo rs), (4, .box 1 0)] ?_
 refine t_then ?_
 refine tri_seq ?_
 refine tri_region ?_
 refine oA (sp_assign (.const (.slice none 0 0)) (.v (.slice none 0 0)) rfl) I0 ?_
 refine kN 85 [(1, .box 52 [iv 0, .v (.slice none 0 0)])] [(0, iv n), (1, slA 2 cRo rs), (4, .box 1 0), (5, .v (.slice none 0 0))] ?_
 refine t_then ?_
 refine tri_seq ?_
 refine tri_seq ?_
 refine tri_region ?_
 refine oA (sp_assign (.const (.int .i64 0)) (iv 0) rfl) I0 ?_
 refine kN 85 [(1, .box 52 [iv 0, .v (.slice none 0 0)])] [(0, iv n), (1, slA 2 cRo rs), (4, .box 1 0), (5, .v (.slice none 0 0)), (6, iv 0)] ?_
 refine t_then ?_
 refine tri_block ?_
 refine tri_wk (wk_adopt 5 2 true 54 2 rfl rfl rfl) ?_
 refine tri_loop (σ := {p : Nat × List Rw // p.1 ≤ rs.length ∧ p.2 = tdy (tgs (rs.take p.1)) ∧ p.2.length ≤ p.1}) (fun s => (ofL [(1, .box 52 [iv 0, .v (.slice none 0 0)]), (2, .row true 54 2 s.1.2.length (s.1.2.flatMap cRo))], ofT 85 [(0, iv n), (1, slA 2 cRo rs), (4, .box 1 0), (5, .own 2), (6, iv s.1.1)])) (fun s => rs.length - s.1.1) ⟨(0, []), Nat.zero_le _, rfl, Nat.zero_le _⟩ (wk_keep _ _ rfl (by kernel_rfl) (by kernel_rfl)) (fun s => ?_)
 obtain ⟨⟨j, L⟩, hj0, hL, hLb⟩ := s
 show ETri J w0 (ofL [(1, .box 52 [iv 0, .v (.slice none 0 0)]), (2, .row true 54 2 L.length (L.flatMap cRo))]) (ofT 85 [(0, iv n), (1, slA 2 cRo rs), (4, .box 1 0), (5, .own 2), (6, iv j)]) _
 dsimp only at hj0 hL hLb
 have hLo : ∀ x ∈ L, RwOk x := by rw [hL]; exact tdy_ok (tgs_ok fun x hx => H.rows x (List.mem_of_mem_take hx))
 refine tri_seq ?_
 refine tri_seq ?_
 by_cases hs1 : ((j : Nat) : Int) < ((rs.length : Nat) : Int)
 refine tri_region ?_
 refine oA (sp_move (.tmp 6) (iv j) rfl) I0 ?_
 refine oA (sp_move (.tmp 1) (slA 2 cRo rs) rfl) I0 ?_
 refine oA (sp_lenSl (.tmp 11) rfl Tryd.underlying50) I0 ?_
 refine oC (sp_lss rfl (dT hs1)) I0 I0 ?_
 refine kN 85 [(1, .box 52 [iv 0, .v (.slice none 0 0)]), (2, .row true 54 2 L.length (L.flatMap cRo))] [(0, iv n), (1, slA 2 cRo rs), (4, .box 1 0), (5, .own 2), (6, iv j), (13, bv true)] ?_
 refine t_then ?_
 refine t_condT rfl ?_
 refine tri_skip ?_
 refine t_then ?_
 refine tri_seq ?_
 refine tri_block ?_
 refine tri_seq ?_
 refine tri_region ?_
 refine oA (sp_move (.tmp 1) (slA 2 cRo rs) rfl) I0 ?_
 refine oA (sp_move (.tmp 6) (iv j) rfl) I0 ?_
 refine oC (sp_indexSl (off := j * 2) (.tmp 16) (.tmp 17) rfl Tryd.underlying50 (by kernel_rfl) (by omega) (by omega) rfl) I0 I0 ?_
 refine oA (sp_loadElS (z := 2) (.tmp 18) rfl Tryd.underlying54 rfl (by kernel_rfl) (flat_take lenRo rs j (by omega)) rfl) I0 ?_
 refine oC (sp_call (c := .func 128) (xs := #[.tmp 19]) [] (rTighten_c (H.rows rs[j] (List.getElem_mem (by omega))) (hs rs[j] (List.getElem_mem (by omega)))) rfl (by kernel_rfl) rfl (Xs := [.agg (cRo rs[j])]) rfl rfl rfl) I0 I0 ?_
 refine t_op rfl (sp_alloc (z := .agg #[.slice none 0 0, .int .i64 0]) (k := 3) rfl (by kernel_rfl)) T0 T0 rfl ?_
 refine t_op rfl (sp_storeBox (T0 := 54) (X := .agg [.fr (intsA ((tR rs[j]).1)), iv ((tR rs[j]).2)]) (cs := [.v (.slice none 0 0), iv 0]) (ds := [.fr (intsA ((tR rs[j]).1)), iv ((tR rs[j]).2)]) (z := 2) (.tmp 7) (.tmp 20) rfl (by kernel_rfl) (by kernel_rfl) (by kernel_rfl) (of_decide_eq_true (by kernel_rfl)) (by kernel_rfl)) ⟨I0, .inr (.inr (.inl ⟨_, rfl, rfl⟩)), T0⟩ ⟨rfl, T0⟩ rfl ?_
 refine kN 85 [(1, .box 52 [iv 0, .v (.slice none 0 0)]), (2, .row true 54 2 L.length (L.flatMap cRo)), (3, .box 54 [.fr (intsA ((tR rs[j]).1)), iv ((tR rs[j]).2)])] [(0, iv n), (1, slA 2 cRo rs), (4, .box 1 0), (5, .own 2), (6, iv j), (7, .box 3 0), (13, bv true)] ?_
 refine t_then ?_
 refine tri_seq ?_
 refine tri_seq ?_
 by_cases hs2 : (triB (tR rs[j]).1 (tR rs[j]).2) = true
 refine tri_region ?_
 refine oB (sp_loadBoxS (Y := .box 54 [.fr (intsA ((tR rs[j]).1)), iv ((tR rs[j]).2)]) (ds := [.fr (intsA ((tR rs[j]).1)), iv ((tR rs[j]).2)]) (z := 2) (.tmp 7) rfl Tryd.underlying54 rfl (by kernel_rfl) (by decide) (by kernel_rfl) (by kernel_rfl)) I0 rfl ?_
 refine oC (sp_call (c := .func 129) (xs := #[.tmp 21]) [] (ctr_b (rTrivial_c (tR_ok (H.rows rs[j] (List.getElem_mem (by omega))))) hs2) rfl (by kernel_rfl) rfl (Xs := [.agg [.fr (intsA ((tR rs[j]).1)), iv ((tR rs[j]).2)]]) rfl rfl rfl) I0 I0 ?_
 refine kN 85 [(1, .box 52 [iv 0, .v (.slice none 0 0)]), (2, .row true 54 2 L.length (L.flatMap cRo)), (3, .box 54 [.fr (intsA ((tR rs[j]).1)), iv ((tR rs[j]).2)])] [(0, iv n), (1, slA 2 cRo rs), (4, .box 1 0), (5, .own 2), (6, iv j), (7, .box 3 0), (13, bv true), (22, bv true)] ?_
 refine t_then ?_
 refine t_condT rfl ?_
 refine tri_exit ?_
 refine t_then_exit ?_
 refine t_hit ?_
 refine t_then ?_
 refine tri_region ?_
 refine oA (sp_move (.tmp 6) (iv j) rfl) I0 ?_
 refine oC (sp_add (c := ((j + 1 : Nat) : Int)) rfl (w64 (by omega) (by omega) (by omega))) I0 I0 ?_
 refine oA (sp_assign (.tmp 15) (iv (j + 1 : Nat)) rfl) I0 ?_
 refine kN 85 [(1, .box 52 [iv 0, .v (.slice none 0 0)]), (2, .row true 54 2 L.length (L.flatMap cRo)), (3, .box 54 [.fr (intsA ((tR rs[j]).1)), iv ((tR rs[j]).2)])] [(0, iv n), (1, slA 2 cRo rs), (4, .box 1 0), (5, .own 2), (6, iv (j + 1 : Nat)), (7, .box 3 0), (13, bv true), (22, bv true)] ?_
 refine t_then ?_
 refine tri_again ⟨(j + 1, L), by dsimp only; omega, by rw [tgs_no (by omega) hs2]; exact hL, by dsimp only; omega⟩ (show rs.length - (j + 1) < rs.length - j by omega) ?_
 exact wk_keep _ _ rfl (by kernel_rfl) (by kernel_rfl)
 have hs2f : (triB (tR rs[j]).1 (tR rs[j]).2) = false := by simpa using hs2
 refine tri_region ?_
 refine oB (sp_loadBoxS (Y := .box 54 [.fr (intsA ((tR rs[j]).1)), iv ((tR rs[j]).2)]) (ds := [.fr (intsA ((tR rs[j]).1)), iv ((tR rs[j]).2)]) (z := 2) (.tmp 7) rfl Tryd.underlying54 rfl (by kernel_rfl) (by decide) (by kernel_rfl) (by kernel_rfl)) I0 rfl ?_
 refine oC (sp_call (c := .func 129) (xs := #[.tmp 21]) [] (ctr_b (rTrivial_c (tR_ok (H.rows rs[j] (List.getElem_mem (by omega))))) hs2f) rfl (by kernel_rfl) rfl (Xs := [.agg [.fr (intsA ((tR rs[j]).1)), iv ((tR rs[j]).2)]]) rfl rfl rfl) I0 I0 ?_
 refine kN 85 [(1, .box 52 [iv 0, .v (.slice none 0 0)]), (2, .row true 54 2 L.length (L.flatMap cRo)), (3, .box 54 [.fr (intsA ((tR rs[j]).1)), iv ((tR rs[j]).2)])] [(0, iv n), (1, slA 2 cRo rs), (4, .box 1 0), (5, .own 2), (6, iv j), (7, .box 3 0), (13, bv true), (22, bv false)] ?_
 refine t_then ?_
 refine t_condF rfl ?_
 refine tri_skip ?_
 refine t_then ?_
 refine tri_seq ?_
 refine tri_region ?_
 refine oA (sp_assign (.const (.int .i64 0)) (iv 0) rfl) I0 ?_
 refine kN 85 [(1, .box 52 [iv 0, .v (.slice none 0 0)]), (2, .row true 54 2 L.length (L.flatMap cRo)), (3, .box 54 [.fr (intsA ((tR rs[j]).1)), iv ((tR rs[j]).2)])] [(0, iv n), (1, slA 2 cRo rs), (4, .box 1 0), (5, .own 2), (6, iv j), (7, .box 3 0), (8, iv 0), (13, bv true), (22, bv false)] ?_
 refine t_then ?_
 refine tri_seq ?_
 refine tri_block ?_
 refine tri_loop (σ := {p : Nat // p ≤ L.length ∧ BelowT L (tR rs[j]) p}) (fun s => (ofL [(1, .box 52 [iv 0, .v (.slice none 0 0)]), (2, .row true 54 2 L.length (L.flatMap cRo)), (3, .box 54 [.fr (intsA ((tR rs[j]).1)), iv ((tR rs[j]).2)])], ofT 85 [(0, iv n), (1, slA 2 cRo rs), (4, .box 1 0), (5, .own 2), (6, iv j), (7, .box 3 0), (8, iv s.1), (13, bv true), (22, bv false)])) (fun s => L.length - s.1) ⟨0, Nat.zero_le _, below_zero⟩ (wk_keep _ _ rfl (by kernel_rfl) (by kernel_rfl)) (fun s => ?_)
 obtain ⟨p, hp0, hp1⟩ := s
 show ETri J w0 (ofL [(1, .box 52 [iv 0, .v (.slice none 0 0)]), (2, .row true 54 2 L.length (L.flatMap cRo)), (3, .box 54 [.fr (intsA ((tR rs[j]).1)), iv ((tR rs[j]).2)])]) (ofT 85 [(0, iv n), (1, slA 2 cRo rs), (4, .box 1 0), (5, .own 2), (6, iv j), (7, .box 3 0), (8, iv p), (13, bv true), (22, bv false)]) _
 refine tri_seq ?_
 refine tri_seq ?_
 by_cases hs3 : ((p : Nat) : Int) < ((L.length : Nat) : Int)
 by_cases hs4 : cmpI L[p].1 (tR rs[j]).1 < 0
 refine tri_draw [⟨[(.tmp 8, iv p)], [], iv p, .no⟩, ⟨[(.tmp 5, .own 2)], [], .own 2, .no⟩, ⟨[(.tmp 24, .own 2)], [(2, .row true 54 2 L.length (L.flatMap cRo))], iv L.length, .no⟩, ⟨[(.tmp 23, iv p), (.tmp 25, iv L.length)], [], bv true, .no⟩, ⟨[(.tmp 26, bv true)], [], bv true, .no⟩, ⟨[(.tmp 5, .own 2)], [], .own 2, .no⟩, ⟨[(.tmp 8, iv p)], [], iv p, .no⟩, ⟨[(.tmp 28, .own 2), (.tmp 29, iv p)], [(2, .row true 54 2 L.length (L.flatMap cRo))], .box 2 (p * 2), .no⟩, ⟨[(.tmp 30, .box 2 (p * 2))], [], .box 2 (p * 2), .no⟩, ⟨[(.tmp 31, .box 2 (p * 2))], [(2, .row true 54 2 L.length (L.flatMap cRo))], intsA L[p].1, .no⟩, ⟨[(.tmp 7, .box 3 0)], [], .box 3 0, .no⟩, ⟨[(.tmp 33, .box 3 0)], [(3, .box 54 [.fr (intsA ((tR rs[j]).1)), iv ((tR rs[j]).2)])], .fr (intsA ((tR rs[j]).1)), .no⟩, ⟨[(.func 53, .v (.func (.func 53) #[] #[])), (.tmp 32, intsA L[p].1), (.tmp 34, intsA ((tR rs[j]).1))], [], iv (cmpI L[p].1 (tR rs[j]).1), .no⟩, ⟨[(.tmp 35, iv (cmpI L[p].1 (tR rs[j]).1)), (.const (.int .i64 0), iv 0)], [], bv true, .no⟩, ⟨[(.tmp 27, bv true), (.tmp 36, bv true), (.const (.bool false), bv false)], [], bv true, .no⟩] (by kernel_rfl) (by kernel_rfl) ?_
 refine ⟨app_yes rfl (sp_move (.tmp 8) (iv p) rfl) ⟨I0, T0⟩ T0 T0, ?_⟩
 refine ⟨app_yes rfl (sp_move (.tmp 5) (.own 2) rfl) ⟨I0, T0⟩ T0 T0, ?_⟩
 refine ⟨app_yes rfl (sp_lenOwn (.tmp 24) rfl Tryd.underlying50) ⟨I0, T0⟩ ⟨rfl, T0⟩ T0, ?_⟩
 refine ⟨app_yes rfl (sp_lss rfl (dT hs3)) ⟨I0, I0, T0⟩ T0 T0, ?_⟩
 refine ⟨app_yes rfl (sp_move (.tmp 26) (bv true) rfl) ⟨I0, T0⟩ T0 T0, ?_⟩
 refine ⟨app_yes rfl (sp_move (.tmp 5) (.own 2) rfl) ⟨I0, T0⟩ T0 T0, ?_⟩
 refine ⟨app_yes rfl (sp_move (.tmp 8) (iv p) rfl) ⟨I0, T0⟩ T0 T0, ?_⟩
 refine ⟨app_yes rfl (sp_indexOwn (off := p * 2) (.tmp 28) (.tmp 29) rfl Tryd.underlying50 (by kernel_rfl) (by omega) (by omega) rfl) ⟨I0, I0, T0⟩ ⟨rfl, T0⟩ T0, ?_⟩
 refine ⟨app_yes rfl (sp_fieldBox (off' := p * 2) (.tmp 30) rfl Tryd.underlying54 rfl (z := 1) (by kernel_rfl) (by decide) rfl) ⟨I0, T0⟩ T0 T0, ?_⟩
 refine ⟨app_yes rfl (sp_loadBox1  (Y := .row true 54 2 L.length (L.flatMap cRo)) (.tmp 31) rfl Tryd.underlying24 rfl ((eflat_get lenRo L p 0 (by omega) (by decide)).trans rfl)) ⟨I0, T0⟩ ⟨rfl, T0⟩ T0, ?_⟩
 refine ⟨app_yes rfl (fB 0 (.tmp 7) rfl Tryd.underlying54 rfl 1 rfl) ⟨I0, T0⟩ T0 T0, ?_⟩
 refine ⟨app_yes rfl (lB (.box 54 [.fr (intsA ((tR rs[j]).1)), iv ((tR rs[j]).2)]) (.fr (intsA ((tR rs[j]).1))) (.tmp 33) rfl Tryd.underlying24 rfl rfl) ⟨I0, T0⟩ ⟨rfl, T0⟩ T0, ?_⟩
 refine ⟨app_yes rfl (sp_call (c := .func 53) (xs := #[.tmp 32, .tmp 34]) [] (rCompareInts_c (hLo L[p] (List.getElem_mem (by omega))).coef (tR_ok (H.rows rs[j] (List.getElem_mem (by omega)))).coef) rfl (by kernel_rfl) rfl (Xs := [intsA L[p].1, intsA ((tR rs[j]).1)]) rfl rfl rfl) ⟨I0, I0, .inr (.inl rfl), T0⟩ T0 T0, ?_⟩
 refine ⟨app_yes rfl (sp_lss rfl (dT hs4)) ⟨I0, I0, T0⟩ T0 T0, ?_⟩
 refine ⟨app_yes rfl (sp_pick (.tmp 27) (.tmp 36) (.const (.bool false)) true (bv true) (bv false) rfl) ⟨I0, I0, I0, T0⟩ T0 T0, ?_⟩
 show ETri J w0 _ _ _
 refine kW 85 [(1, .box 52 [iv 0, .v (.slice none 0 0)]), (2, .row true 54 2 L.length (L.flatMap cRo)), (3, .box 54 [.fr (intsA ((tR rs[j]).1)), iv ((tR rs[j]).2)])] [(0, iv n), (1, slA 2 cRo rs), (4, .box 1 0), (5, .own 2), (6, iv j), (7, .box 3 0), (8, iv p), (13, bv true), (22, bv false), (37, bv true)] ?_
 refine t_then ?_
 refine t_condT rfl ?_
 refine tri_skip ?_
 refine t_then ?_
 refine tri_block ?_
 refine tri_region ?_
 refine oA (sp_move (.tmp 8) (iv p) rfl) I0 ?_
 refine oC (sp_add (c := ((p + 1 : Nat) : Int)) rfl (w64 (by omega) (by omega) (by omega))) I0 I0 ?_
 refine oA (sp_assign (.tmp 39) (iv (p + 1 : Nat)) rfl) I0 ?_
 refine kN 85 [(1, .box 52 [iv 0, .v (.slice none 0 0)]), (2, .row true 54 2 L.length (L.flatMap cRo)), (3, .box 54 [.fr (intsA ((tR rs[j]).1)), iv ((tR rs[j]).2)])] [(0, iv n), (1, slA 2 cRo rs), (4, .box 1 0), (5, .own 2), (6, iv j), (7, .box 3 0), (8, iv (p + 1 : Nat)), (13, bv true), (22, bv false), (37, bv true)] ?_
 refine t_block ?_
 refine t_then ?_
 refine tri_again ⟨p + 1, by omega, below_succ hp1 hs4⟩ (show L.length - (p + 1) < L.length - p by omega) ?_
 exact wk_keep _ _ rfl (by kernel_rfl) (by kernel_rfl)
 refine tri_draw [⟨[(.tmp 8, iv p)], [], iv p, .no⟩, ⟨[(.tmp 5, .own 2)], [], .own 2, .no⟩, ⟨[(.tmp 24, .own 2)], [(2, .row true 54 2 L.length (L.flatMap cRo))], iv L.length, .no⟩, ⟨[(.tmp 23, iv p), (.tmp 25, iv L.length)], [], bv true, .no⟩, ⟨[(.tmp 26, bv true)], [], bv true, .no⟩, ⟨[(.tmp 5, .own 2)], [], .own 2, .no⟩, ⟨[(.tmp 8, iv p)], [], iv p, .no⟩, ⟨[(.tmp 28, .own 2), (.tmp 29, iv p)], [(2, .row true 54 2 L.length (L.flatMap cRo))], .box 2 (p * 2), .no⟩, ⟨[(.tmp 30, .box 2 (p * 2))], [], .box 2 (p * 2), .no⟩, ⟨[(.tmp 31, .box 2 (p * 2))], [(2, .row true 54 2 L.length (L.flatMap cRo))], intsA L[p].1, .no⟩, ⟨[(.tmp 7, .box 3 0)], [], .box 3 0, .no⟩, ⟨[(.tmp 33, .box 3 0)], [(3, .box 54 [.fr (intsA ((tR rs[j]).1)), iv ((tR rs[j]).2)])], .fr (intsA ((tR rs[j]).1)), .no⟩, ⟨[(.func 53, .v (.func (.func 53) #[] #[])), (.tmp 32, intsA L[p].1), (.tmp 34, intsA ((tR rs[j]).1))], [], iv (cmpI L[p].1 (tR rs[j]).1), .no⟩, ⟨[(.tmp 35, iv (cmpI L[p].1 (tR rs[j]).1)), (.const (.int .i64 0), iv 0)], [], bv false, .no⟩, ⟨[(.tmp 27, bv true), (.tmp 36, bv false), (.const (.bool false), bv false)], [], bv false, .no⟩] (by kernel_rfl) (by kernel_rfl) ?_
 refine ⟨app_yes rfl (sp_move (.tmp 8) (iv p) rfl) ⟨I0, T0⟩ T0 T0, ?_⟩
 refine ⟨app_yes rfl (sp_move (.tmp 5) (.own 2) rfl) ⟨I0, T0⟩ T0 T0, ?_⟩
 refine ⟨app_yes rfl (sp_lenOwn (.tmp 24) rfl Tryd.underlying50) ⟨I0, T0⟩ ⟨rfl, T0⟩ T0, ?_⟩
 refine ⟨app_yes rfl (sp_lss rfl (dT hs3)) ⟨I0, I0, T0⟩ T0 T0, ?_⟩
 refine ⟨app_yes rfl (sp_move (.tmp 26) (bv true) rfl) ⟨I0, T0⟩ T0 T0, ?_⟩
 refine ⟨app_yes rfl (sp_move (.tmp 5) (.own 2) rfl) ⟨I0, T0⟩ T0 T0, ?_⟩
 refine ⟨app_yes rfl (sp_move (.tmp 8) (iv p) rfl) ⟨I0, T0⟩ T0 T0, ?_⟩
 refine ⟨app_yes rfl (sp_indexOwn (off := p * 2) (.tmp 28) (.tmp 29) rfl Tryd.underlying50 (by kernel_rfl) (by omega) (by omega) rfl) ⟨I0, I0, T0⟩ ⟨rfl, T0⟩ T0, ?_⟩
 refine ⟨app_yes rfl (sp_fieldBox (off' := p * 2) (.tmp 30) rfl Tryd.underlying54 rfl (z := 1) (by kernel_rfl) (by decide) rfl) ⟨I0, T0⟩ T0 T0, ?_⟩
 refine ⟨app_yes rfl (sp_loadBox1  (Y := .row true 54 2 L.length (L.flatMap cRo)) (.tmp 31) rfl Tryd.underlying24 rfl ((eflat_get lenRo L p 0 (by omega) (by decide)).trans rfl)) ⟨I0, T0⟩ ⟨rfl, T0⟩ T0, ?_⟩
 refine ⟨app_yes rfl (fB 0 (.tmp 7) rfl Tryd.underlying54 rfl 1 rfl) ⟨I0, T0⟩ T0 T0, ?_⟩
 refine ⟨app_yes rfl (lB (.box 54 [.fr (intsA ((tR rs[j]).1)), iv ((tR rs[j]).2)]) (.fr (intsA ((tR rs[j]).1))) (.tmp 33) rfl Tryd.underlying24 rfl rfl) ⟨I0, T0⟩ ⟨rfl, T0⟩ T0, ?_⟩
 refine ⟨app_yes rfl (sp_call (c := .func 53) (xs := #[.tmp 32, .tmp 34]) [] (rCompareInts_c (hLo L[p] (List.getElem_mem (by omega))).coef (tR_ok (H.rows rs[j] (List.getElem_mem (by omega)))).coef) rfl (by kernel_rfl) rfl (Xs := [intsA L[p].1, intsA ((tR rs[j]).1)]) rfl rfl rfl) ⟨I0, I0, .inr (.inl rfl), T0⟩ T0 T0, ?_⟩
 refine ⟨app_yes rfl (sp_lss rfl (dF hs4)) ⟨I0, I0, T0⟩ T0 T0, ?_⟩
 refine ⟨app_yes rfl (sp_pick (.tmp 27) (.tmp 36) (.const (.bool false)) true (bv false) (bv false) rfl) ⟨I0, I0, I0, T0⟩ T0 T0, ?_⟩
 show ETri J w0 _ _ _
 refine kW 85 [(1, .box 52 [iv 0, .v (.slice none 0 0)]), (2, .row true 54 2 L.length (L.flatMap cRo)), (3, .box 54 [.fr (intsA ((tR rs[j]).1)), iv ((tR rs[j]).2)])] [(0, iv n), (1, slA 2 cRo rs), (4, .box 1 0), (5, .own 2), (6, iv j), (7, .box 3 0), (8, iv p), (13, bv true), (22, bv false), (37, bv false)] ?_
 refine t_then ?_
 refine t_condF rfl ?_
 refine tri_exit ?_
 refine t_then_exit ?_
 refine t_then_exit ?_
 refine t_hit ?_
 refine t_then ?_
 refine tri_seq ?_
 refine tri_seq ?_
 by_cases hs5 : (eqI L[p].1 (tR rs[j]).1) = true
 refine tri_draw [⟨[(.tmp 8, iv p)], [], iv p, .no⟩, ⟨[(.tmp 5, .own 2)], [], .own 2, .no⟩, ⟨[(.tmp 41, .own 2)], [(2, .row true 54 2 L.length (L.flatMap cRo))], iv L.length, .no⟩, ⟨[(.tmp 40, iv p), (.tmp 42, iv L.length)], [], bv true, .no⟩, ⟨[(.tmp 43, bv true)], [], bv true, .no⟩, ⟨[(.tmp 5, .own 2)], [], .own 2, .no⟩, ⟨[(.tmp 8, iv p)], [], iv p, .no⟩, ⟨[(.tmp 45, .own 2), (.tmp 46, iv p)], [(2, .row true 54 2 L.length (L.flatMap cRo))], .box 2 (p * 2), .no⟩, ⟨[(.tmp 47, .box 2 (p * 2))], [], .box 2 (p * 2), .no⟩, ⟨[(.tmp 48, .box 2 (p * 2))], [(2, .row true 54 2 L.length (L.flatMap cRo))], intsA L[p].1, .no⟩, ⟨[(.tmp 7, .box 3 0)], [], .box 3 0, .no⟩, ⟨[(.tmp 50, .box 3 0)], [(3, .box 54 [.fr (intsA ((tR rs[j]).1)), iv ((tR rs[j]).2)])], .fr (intsA ((tR rs[j]).1)), .no⟩, ⟨[(.func 19, .v (.func (.func 19) #[] #[])), (.tmp 49, intsA L[p].1), (.tmp 51, intsA ((tR rs[j]).1))], [], bv true, .no⟩, ⟨[(.tmp 44, bv true), (.tmp 52, bv true), (.const (.bool false), bv false)], [], bv true, .no⟩] (by kernel_rfl) (by kernel_rfl) ?_
 refine ⟨app_yes rfl (sp_move (.tmp 8) (iv p) rfl) ⟨I0, T0⟩ T0 T0, ?_⟩
 refine ⟨app_yes rfl (sp_move (.tmp 5) (.own 2) rfl) ⟨I0, T0⟩ T0 T0, ?_⟩
 refine ⟨app_yes rfl (sp_lenOwn (.tmp 41) rfl Tryd.underlying50) ⟨I0, T0⟩ ⟨rfl, T0⟩ T0, ?_⟩
 refine ⟨app_yes rfl (sp_lss rfl (dT hs3)) ⟨I0, I0, T0⟩ T0 T0, ?_⟩
 refine ⟨app_yes rfl (sp_move (.tmp 43) (bv true) rfl) ⟨I0, T0⟩ T0 T0, ?_⟩
 refine ⟨app_yes rfl (sp_move (.tmp 5) (.own 2) rfl) ⟨I0, T0⟩ T0 T0, ?_⟩
 refine ⟨app_yes rfl (sp_move (.tmp 8) (iv p) rfl) ⟨I0, T0⟩ T0 T0, ?_⟩
 refine ⟨app_yes rfl (sp_indexOwn (off := p * 2) (.tmp 45) (.tmp 46) rfl Tryd.underlying50 (by kernel_rfl) (by omega) (by omega) rfl) ⟨I0, I0, T0⟩ ⟨rfl, T0⟩ T0, ?_⟩
 refine ⟨app_yes rfl (sp_fieldBox (off' := p * 2) (.tmp 47) rfl Tryd.underlying54 rfl (z := 1) (by kernel_rfl) (by decide) rfl) ⟨I0, T0⟩ T0 T0, ?_⟩
 refine ⟨app_yes rfl (sp_loadBox1  (Y := .row true 54 2 L.length (L.flatMap cRo)) (.tmp 48) rfl Tryd.underlying24 rfl ((eflat_get lenRo L p 0 (by omega) (by decide)).trans rfl)) ⟨I0, T0⟩ ⟨rfl, T0⟩ T0, ?_⟩
 refine ⟨app_yes rfl (fB 0 (.tmp 7) rfl Tryd.underlying54 rfl 1 rfl) ⟨I0, T0⟩ T0 T0, ?_⟩
 refine ⟨app_yes rfl (lB (.box 54 [.fr (intsA ((tR rs[j]).1)), iv ((tR rs[j]).2)]) (.fr (intsA ((tR rs[j]).1))) (.tmp 50) rfl Tryd.underlying24 rfl rfl) ⟨I0, T0⟩ ⟨rfl, T0⟩ T0, ?_⟩
 refine ⟨app_yes rfl (sp_call (c := .func 19) (xs := #[.tmp 49, .tmp 51]) [] (ctr_b (rSameInts_c (hLo L[p] (List.getElem_mem (by omega))).coef (tR_ok (H.rows rs[j] (List.getElem_mem (by omega)))).coef) hs5) rfl (by kernel_rfl) rfl (Xs := [intsA L[p].1, intsA ((tR rs[j]).1)]) rfl rfl rfl) ⟨I0, I0, .inr (.inl rfl), T0⟩ T0 T0, ?_⟩
 refine ⟨app_yes rfl (sp_pick (.tmp 44) (.tmp 52) (.const (.bool false)) true (bv true) (bv false) rfl) ⟨I0, I0, I0, T0⟩ T0 T0, ?_⟩
 show ETri J w0 _ _ _
 refine kW 85 [(1, .box 52 [iv 0, .v (.slice none 0 0)]), (2, .row true 54 2 L.length (L.flatMap cRo)), (3, .box 54 [.fr (intsA ((tR rs[j]).1)), iv ((tR rs[j]).2)])] [(0, iv n), (1, slA 2 cRo rs), (4, .box 1 0), (5, .own 2), (6, iv j), (7, .box 3 0), (8, iv p), (13, bv true), (22, bv false), (37, bv false), (53, bv true)] ?_
 refine t_then ?_
 refine t_condT rfl ?_
 refine tri_seq ?_
 refine tri_seq ?_
 by_cases hs6 : (tR rs[j]).2 < L[p].2
 refine tri_draw [⟨[(.tmp 7, .box 3 0)], [], .box 3 1, .no⟩, ⟨[(.tmp 54, .box 3 1)], [(3, .box 54 [.fr (intsA ((tR rs[j]).1)), iv ((tR rs[j]).2)])], iv ((tR rs[j]).2), .no⟩, ⟨[(.tmp 5, .own 2)], [], .own 2, .no⟩, ⟨[(.tmp 8, iv p)], [], iv p, .no⟩, ⟨[(.tmp 56, .own 2), (.tmp 57, iv p)], [(2, .row true 54 2 L.length (L.flatMap cRo))], .box 2 (p * 2), .no⟩, ⟨[(.tmp 58, .box 2 (p * 2))], [], .box 2 (p * 2 + 1), .no⟩, ⟨[(.tmp 59, .box 2 (p * 2 + 1))], [(2, .row true 54 2 L.length (L.flatMap cRo))], iv L[p].2, .no⟩, ⟨[(.tmp 55, iv ((tR rs[j]).2)), (.tmp 60, iv L[p].2)], [], bv true, .no⟩] (by kernel_rfl) (by kernel_rfl) ?_
 refine ⟨app_yes rfl (fB 1 (.tmp 7) rfl Tryd.underlying54 rfl 1 rfl) ⟨I0, T0⟩ T0 T0, ?_⟩
 refine ⟨app_yes rfl (lB (.box 54 [.fr (intsA ((tR rs[j]).1)), iv ((tR rs[j]).2)]) (iv ((tR rs[j]).2)) (.tmp 54) rfl Tryd.underlying3 rfl rfl) ⟨I0, T0⟩ ⟨rfl, T0⟩ T0, ?_⟩
 refine ⟨app_yes rfl (sp_move (.tmp 5) (.own 2) rfl) ⟨I0, T0⟩ T0 T0, ?_⟩
 refine ⟨app_yes rfl (sp_move (.tmp 8) (iv p) rfl) ⟨I0, T0⟩ T0 T0, ?_⟩
 refine ⟨app_yes rfl (sp_indexOwn (off := p * 2) (.tmp 56) (.tmp 57) rfl Tryd.underlying50 (by kernel_rfl) (by omega) (by omega) rfl) ⟨I0, I0, T0⟩ ⟨rfl, T0⟩ T0, ?_⟩
 refine ⟨app_yes rfl (sp_fieldBox (off' := p * 2 + 1) (.tmp 58) rfl Tryd.underlying54 rfl (z := 1) (by kernel_rfl) (by decide) rfl) ⟨I0, T0⟩ T0 T0, ?_⟩
 refine ⟨app_yes rfl (sp_loadBox1  (Y := .row true 54 2 L.length (L.flatMap cRo)) (.tmp 59) rfl Tryd.underlying3 rfl ((eflat_get lenRo L p 1 (by omega) (by decide)).trans rfl)) ⟨I0, T0⟩ ⟨rfl, T0⟩ T0, ?_⟩
 refine ⟨app_yes rfl (sp_lss rfl (dT hs6)) ⟨I0, I0, T0⟩ T0 T0, ?_⟩
 show ETri J w0 _ _ _
 refine kW 85 [(1, .box 52 [iv 0, .v (.slice none 0 0)]), (2, .row true 54 2 L.length (L.flatMap cRo)), (3, .box 54 [.fr (intsA ((tR rs[j]).1)), iv ((tR rs[j]).2)])] [(0, iv n), (1, slA 2 cRo rs), (4, .box 1 0), (5, .own 2), (6, iv j), (7, .box 3 0), (8, iv p), (13, bv true), (22, bv false), (37, bv false), (53, bv true), (61, bv true)] ?_
 refine t_then ?_
 refine t_condT rfl ?_
 refine tri_region ?_
 refine oA (sp_move (.tmp 5) (.own 2) rfl) I0 ?_
 refine oA (sp_move (.tmp 8) (iv p) rfl) I0 ?_
 refine oA (fB 1 (.tmp 7) rfl Tryd.underlying54 rfl 1 rfl) I0 ?_
 refine oB (lB (.box 54 [.fr (intsA ((tR rs[j]).1)), iv ((tR rs[j]).2)]) (iv ((tR rs[j]).2)) (.tmp 64) rfl Tryd.underlying3 rfl rfl) I0 rfl ?_
 refine t_op rfl (sp_indexOwn (off := p * 2) (.tmp 62) (.tmp 63) rfl Tryd.underlying50 (by kernel_rfl) (by omega) (by omega) rfl) ⟨I0, I0, T0⟩ ⟨rfl, T0⟩ T0 ?_
 refine oA (sp_fieldBox (off' := p * 2 + 1) (.tmp 66) rfl Tryd.underlying54 rfl (z := 1) (by kernel_rfl) (by decide) rfl) I0 ?_
 refine t_op rfl (sp_storeRow (X := iv ((tR rs[j]).2)) (off := p * 2 + 1) (cs := (L.flatMap cRo)) (ds := ((L.set p (L[p].1, (tR rs[j]).2)).flatMap cRo)) (zz := 1) (.tmp 67) (.tmp 65) rfl (by kernel_rfl) (by kernel_rfl) (fun _ => newC _) (by kernel_rfl) (by rw [lenFlat]; omega) (by exact set_cRo L p (by omega) _)) ⟨I0, I0, T0⟩ ⟨rfl, T0⟩ rfl ?_
 refine kN 85 [(1, .box 52 [iv 0, .v (.slice none 0 0)]), (2, .row true 54 2 L.length ((L.set p (L[p].1, (tR rs[j]).2)).flatMap cRo)), (3, .box 54 [.fr (intsA ((tR rs[j]).1)), iv ((tR rs[j]).2)])] [(0, iv n), (1, slA 2 cRo rs), (4, .box 1 0), (5, .own 2), (6, iv j), (7, .box 3 0), (8, iv p), (13, bv true), (22, bv false), (37, bv false), (53, bv true), (61, bv true)] ?_
 refine t_then ?_
 refine tri_exit ?_
 refine t_then_exit ?_
 refine t_hit ?_
 refine t_then ?_
 refine tri_region ?_
 refine oA (sp_move (.tmp 6) (iv j) rfl) I0 ?_
 refine oC (sp_add (c := ((j + 1 : Nat) : Int)) rfl (w64 (by omega) (by omega) (by omega))) I0 I0 ?_
 refine oA (sp_assign (.tmp 15) (iv (j + 1 : Nat)) rfl) I0 ?_
 refine kN 85 [(1, .box 52 [iv 0, .v (.slice none 0 0)]), (2, .row true 54 2 L.length ((L.set p (L[p].1, (tR rs[j]).2)).flatMap cRo)), (3, .box 54 [.fr (intsA ((tR rs[j]).1)), iv ((tR rs[j]).2)])] [(0, iv n), (1, slA 2 cRo rs), (4, .box 1 0), (5, .own 2), (6, iv (j + 1 : Nat)), (7, .box 3 0), (8, iv p), (13, bv true), (22, bv false), (37, bv false), (53, bv true), (61, bv true)] ?_
 refine t_then ?_
 refine tri_again ⟨(j + 1, (L.set p (L[p].1, (tR rs[j]).2))), by dsimp only; omega, (td_set hL hs2f hp1 hs4 hs5 hs6), (by rw [List.length_set]; dsimp only; omega)⟩ (show rs.length - (j + 1) < rs.length - j by omega) ?_
 show Wk _ _ (ofL [(1, .box 52 [iv 0, .v (.slice none 0 0)]), (2, .row true 54 2 ((L.set p (L[p].1, (tR rs[j]).2)).length) ((L.set p (L[p].1, (tR rs[j]).2)).flatMap cRo))]) (ofT 85 [(0, iv n), (1, slA 2 cRo rs), (4, .box 1 0), (5, .own 2), (6, iv ((j + 1) : Nat))])
 rw [List.length_set]
 exact wk_keep _ _ rfl (by kernel_rfl) (by kernel_rfl)
 refine tri_draw [⟨[(.tmp 7, .box 3 0)], [], .box 3 1, .no⟩, ⟨[(.tmp 54, .box 3 1)], [(3, .box 54 [.fr (intsA ((tR rs[j]).1)), iv ((tR rs[j]).2)])], iv ((tR rs[j]).2), .no⟩, ⟨[(.tmp 5, .own 2)], [], .own 2, .no⟩, ⟨[(.tmp 8, iv p)], [], iv p, .no⟩, ⟨[(.tmp 56, .own 2), (.tmp 57, iv p)], [(2, .row true 54 2 L.length (L.flatMap cRo))], .box 2 (p * 2), .no⟩, ⟨[(.tmp 58, .box 2 (p * 2))], [], .box 2 (p * 2 + 1), .no⟩, ⟨[(.tmp 59, .box 2 (p * 2 + 1))], [(2, .row true 54 2 L.length (L.flatMap cRo))], iv L[p].2, .no⟩, ⟨[(.tmp 55, iv ((tR rs[j]).2)), (.tmp 60, iv L[p].2)], [], bv false, .no⟩] (by kernel_rfl) (by kernel_rfl) ?_
 refine ⟨app_yes rfl (fB 1 (.tmp 7) rfl Tryd.underlying54 rfl 1 rfl) ⟨I0, T0⟩ T0 T0, ?_⟩
 refine ⟨app_yes rfl (lB (.box 54 [.fr (intsA ((tR rs[j]).1)), iv ((tR rs[j]).2)]) (iv ((tR rs[j]).2)) (.tmp 54) rfl Tryd.underlying3 rfl rfl) ⟨I0, T0⟩ ⟨rfl, T0⟩ T0, ?_⟩
 refine ⟨app_yes rfl (sp_move (.tmp 5) (.own 2) rfl) ⟨I0, T0⟩ T0 T0, ?_⟩
 refine ⟨app_yes rfl (sp_move (.tmp 8) (iv p) rfl) ⟨I0, T0⟩ T0 T0, ?_⟩
 refine ⟨app_yes rfl (sp_indexOwn (off := p * 2) (.tmp 56) (.tmp 57) rfl Tryd.underlying50 (by kernel_rfl) (by omega) (by omega) rfl) ⟨I0, I0, T0⟩ ⟨rfl, T0⟩ T0, ?_⟩
 refine ⟨app_yes rfl (sp_fieldBox (off' := p * 2 + 1) (.tmp 58) rfl Tryd.underlying54 rfl (z := 1) (by kernel_rfl) (by decide) rfl) ⟨I0, T0⟩ T0 T0, ?_⟩
 refine ⟨app_yes rfl (sp_loadBox1  (Y := .row true 54 2 L.length (L.flatMap cRo)) (.tmp 59) rfl Tryd.underlying3 rfl ((eflat_get lenRo L p 1 (by omega) (by decide)).trans rfl)) ⟨I0, T0⟩ ⟨rfl, T0⟩ T0, ?_⟩
 refine ⟨app_yes rfl (sp_lss rfl (dF hs6)) ⟨I0, I0, T0⟩ T0 T0, ?_⟩
 show ETri J w0 _ _ _
 refine kW 85 [(1, .box 52 [iv 0, .v (.slice none 0 0)]), (2, .row true 54 2 L.length (L.flatMap cRo)), (3, .box 54 [.fr (intsA ((tR rs[j]).1)), iv ((tR rs[j]).2)])] [(0, iv n), (1, slA 2 cRo rs), (4, .box 1 0), (5, .own 2), (6, iv j), (7, .box 3 0), (8, iv p), (13, bv true), (22, bv false), (37, bv false), (53, bv true), (61, bv false)] ?_
 refine t_then ?_
 refine t_condF rfl ?_
 refine tri_skip ?_
 refine t_then ?_
 refine tri_exit ?_
 refine t_then_exit ?_
 refine t_hit ?_
 refine t_then ?_
 refine tri_region ?_
 refine oA (sp_move (.tmp 6) (iv j) rfl) I0 ?_
 refine oC (sp_add (c := ((j + 1 : Nat) : Int)) rfl (w64 (by omega) (by omega) (by omega))) I0 I0 ?_
 refine oA (sp_assign (.tmp 15) (iv (j + 1 : Nat)) rfl) I0 ?_
 refine kN 85 [(1, .box 52 [iv 0, .v (.slice none 0 0)]), (2, .row true 54 2 L.length (L.flatMap cRo)), (3, .box 54 [.fr (intsA ((tR rs[j]).1)), iv ((tR rs[j]).2)])] [(0, iv n), (1, slA 2 cRo rs), (4, .box 1 0), (5, .own 2), (6, iv (j + 1 : Nat)), (7, .box 3 0), (8, iv p), (13, bv true), (22, bv false), (37, bv false), (53, bv true), (61, bv false)] ?_
 refine t_then ?_
 refine tri_again ⟨(j + 1, L), by dsimp only; omega, (td_stay hL hs2f hp1 hs4 hs5 hs6), by dsimp only; omega⟩ (show rs.length - (j + 1) < rs.length - j by omega) ?_
 exact wk_keep _ _ rfl (by kernel_rfl) (by kernel_rfl)
 have hs5f : (eqI L[p].1 (tR rs[j]).1) = false := by simpa using hs5
 refine tri_draw [⟨[(.tmp 8, iv p)], [], iv p, .no⟩, ⟨[(.tmp 5, .own 2)], [], .own 2, .no⟩, ⟨[(.tmp 41, .own 2)], [(2, .row true 54 2 L.length (L.flatMap cRo))], iv L.length, .no⟩, ⟨[(.tmp 40, iv p), (.tmp 42, iv L.length)], [], bv true, .no⟩, ⟨[(.tmp 43, bv true)], [], bv true, .no⟩, ⟨[(.tmp 5, .own 2)], [], .own 2, .no⟩, ⟨[(.tmp 8, iv p)], [], iv p, .no⟩, ⟨[(.tmp 45, .own 2), (.tmp 46, iv p)], [(2, .row true 54 2 L.length (L.flatMap cRo))], .box 2 (p * 2), .no⟩, ⟨[(.tmp 47, .box 2 (p * 2))], [], .box 2 (p * 2), .no⟩, ⟨[(.tmp 48, .box 2 (p * 2))], [(2, .row true 54 2 L.length (L.flatMap cRo))], intsA L[p].1, .no⟩, ⟨[(.tmp 7, .box 3 0)], [], .box 3 0, .no⟩, ⟨[(.tmp 50, .box 3 0)], [(3, .box 54 [.fr (intsA ((tR rs[j]).1)), iv ((tR rs[j]).2)])], .fr (intsA ((tR rs[j]).1)), .no⟩, ⟨[(.func 19, .v (.func (.func 19) #[] #[])), (.tmp 49, intsA L[p].1), (.tmp 51, intsA ((tR rs[j]).1))], [], bv false, .no⟩, ⟨[(.tmp 44, bv true), (.tmp 52, bv false), (.const (.bool false), bv false)], [], bv false, .no⟩] (by kernel_rfl) (by kernel_rfl) ?_
 refine ⟨app_yes rfl (sp_move (.tmp 8) (iv p) rfl) ⟨I0, T0⟩ T0 T0, ?_⟩
 refine ⟨app_yes rfl (sp_move (.tmp 5) (.own 2) rfl) ⟨I0, T0⟩ T0 T0, ?_⟩
 refine ⟨app_yes rfl (sp_lenOwn (.tmp 41) rfl Tryd.underlying50) ⟨I0, T0⟩ ⟨rfl, T0⟩ T0, ?_⟩
 refine ⟨app_yes rfl (sp_lss rfl (dT hs3)) ⟨I0, I0, T0⟩ T0 T0, ?_⟩
 refine ⟨app_yes rfl (sp_move (.tmp 43) (bv true) rfl) ⟨I0, T0⟩ T0 T0, ?_⟩
 refine ⟨app_yes rfl (sp_move (.tmp 5) (.own 2) rfl) ⟨I0, T0⟩ T0 T0, ?_⟩
 refine ⟨app_yes rfl (sp_move (.tmp 8) (iv p) rfl) ⟨I0, T0⟩ T0 T0, ?_⟩
 refine ⟨app_yes rfl (sp_indexOwn (off := p * 2) (.tmp 45) (.tmp 46) rfl Tryd.underlying50 (by kernel_rfl) (by omega) (by omega) rfl) ⟨I0, I0, T0⟩ ⟨rfl, T0⟩ T0, ?_⟩
 refine ⟨app_yes rfl (sp_fieldBox (off' := p * 2) (.tmp 47) rfl Tryd.underlying54 rfl (z := 1) (by kernel_rfl) (by decide) rfl) ⟨I0, T0⟩ T0 T0, ?_⟩
 refine ⟨app_yes rfl (sp_loadBox1  (Y := .row true 54 2 L.length (L.flatMap cRo)) (.tmp 48) rfl Tryd.underlying24 rfl ((eflat_get lenRo L p 0 (by omega) (by decide)).trans rfl)) ⟨I0, T0⟩ ⟨rfl, T0⟩ T0, ?_⟩
 refine ⟨app_yes rfl (fB 0 (.tmp 7) rfl Tryd.underlying54 rfl 1 rfl) ⟨I0, T0⟩ T0 T0, ?_⟩
 refine ⟨app_yes rfl (lB (.box 54 [.fr (intsA ((tR rs[j]).1)), iv ((tR rs[j]).2)]) (.fr (intsA ((tR rs[j]).1))) (.tmp 50) rfl Tryd.underlying24 rfl rfl) ⟨I0, T0⟩ ⟨rfl, T0⟩ T0, ?_⟩
 refine ⟨app_yes rfl (sp_call (c := .func 19) (xs := #[.tmp 49, .tmp 51]) [] (ctr_b (rSameInts_c (hLo L[p] (List.getElem_mem (by omega))).coef (tR_ok (H.rows rs[j] (List.getElem_mem (by omega)))).coef) hs5f) rfl (by kernel_rfl) rfl (Xs := [intsA L[p].1, intsA ((tR rs[j]).1)]) rfl rfl rfl) ⟨I0, I0, .inr (.inl rfl), T0⟩ T0 T0, ?_⟩
 refine ⟨app_yes rfl (sp_pick (.tmp 44) (.tmp 52) (.const (.bool false)) true (bv false) (bv false) rfl) ⟨I0, I0, I0, T0⟩ T0 T0, ?_⟩
 show ETri J w0 _ _ _
 refine kW 85 [(1, .box 52 [iv 0, .v (.slice none 0 0)]), (2, .row true 54 2 L.length (L.flatMap cRo)), (3, .box 54 [.fr (intsA ((tR rs[j]).1)), iv ((tR rs[j]).2)])] [(0, iv n), (1, slA 2 cRo rs), (4, .box 1 0), (5, .own 2), (6, iv j), (7, .box 3 0), (8, iv p), (13, bv true), (22, bv false), (37, bv false), (53, bv false)] ?_
 refine t_then ?_
 refine t_condF rfl ?_
 refine tri_skip ?_
 refine t_then ?_
 refine tri_seq ?_
 refine t_cut (True) (ofL [(1, .box 52 [iv 0, .v (.slice none 0 0)]), (3, .box 54 [.fr (intsA ((tR rs[j]).1)), iv ((tR rs[j]).2)])]) (ofT 85 [(0, iv n), (1, slA 2 cRo rs), (4, .box 1 0), (5, .fr (slA 2 cRo L)), (6, iv j), (7, .box 3 0), (8, iv p), (9, .v (.slice none 0 0)), (13, bv true), (22, bv false), (37, bv false), (53, bv false)]) ?_ (fun _ => ?_)
 refine tri_region ?_
 refine oA (sp_assign (.const (.slice none 0 0)) (.v (.slice none 0 0)) rfl) I0 ?_
 refine kN 85 [(1, .box 52 [iv 0, .v (.slice none 0 0)]), (2, .row true 54 2 L.length (L.flatMap cRo)), (3, .box 54 [.fr (intsA ((tR rs[j]).1)), iv ((tR rs[j]).2)])] [(0, iv n), (1, slA 2 cRo rs), (4, .box 1 0), (5, .own 2), (6, iv j), (7, .box 3 0), (8, iv p), (9, .v (.slice none 0 0)), (13, bv true), (22, bv false), (37, bv false), (53, bv false)] ?_
 exact t_meet T0 (wk_keep _ _ rfl (by kernel_rfl) (by kernel_rfl))
 refine t_then ?_
 refine tri_seq ?_
 refine tri_wk (wk_spread 5 rfl rfl) ?_
 refine tri_region ?_
 refine oA (sp_move (.tmp 9) (.v (.slice none 0 0)) rfl) I0 ?_
 refine oA (sp_move (.tmp 5) (.sl 2 L.length (frs L)) rfl) I0 ?_
 refine oA (sp_move (.tmp 8) (iv p) rfl) I0 ?_
 refine oC (sp_sliceSl (l := 0) (h := p) (ds := (frs (L.take p))) (.tmp 69) none (some (.tmp 70)) rfl Tryd.underlying50 (by kernel_rfl) [] [(.tmp 70, iv p)] (.inl ⟨rfl, rfl, rfl⟩) (.inr ⟨_, _, rfl, rfl⟩) (Nat.zero_le _) (by omega) (frs_take (by omega))) I0 I0 ?_
 refine t_op rfl (sp_appendNil (m := (p - 0)) (ds := (frs (L.take p))) (⟨Tryd.underlying50, by kernel_rfl, by decide⟩ : Elt Tryd.prog 50 54 2 32) (k := 2) true (.tmp 68) (.tmp 71) rfl new_frs (by unfold maxLen; omega) (by omega) cell_frs (es := ((L.take p).flatMap cRo)) unfr_frs) ⟨I0, I0, T0⟩ T0 rfl ?_
 refine oA (sp_assign (.tmp 72) (.own 2) rfl) I0 ?_
 refine kN 85 [(1, .box 52 [iv 0, .v (.slice none 0 0)]), (2, .row true 54 2 (p - 0) ((L.take p).flatMap cRo)), (3, .box 54 [.fr (intsA ((tR rs[j]).1)), iv ((tR rs[j]).2)])] [(0, iv n), (1, slA 2 cRo rs), (4, .box 1 0), (5, .sl 2 L.length (frs L)), (6, iv j), (7, .box 3 0), (8, iv p), (9, .own 2), (13, bv true), (22, bv false), (37, bv false), (53, bv false)] ?_
 refine t_then ?_
 refine tri_seq ?_
 refine tri_region ?_
 refine oA (sp_move (.tmp 9) (.own 2) rfl) I0 ?_
 refine oB (sp_loadBoxS (Y := .box 54 [.fr (intsA ((tR rs[j]).1)), iv ((tR rs[j]).2)]) (ds := [.fr (intsA ((tR rs[j]).1)), iv ((tR rs[j]).2)]) (z := 2) (.tmp 7) rfl Tryd.underlying54 rfl (by kernel_rfl) (by decide) (by kernel_rfl) (by kernel_rfl)) I0 rfl ?_
 refine t_op rfl (sp_build (z := 2) (k := 4) (fr := false) (cs := [.fr (intsA ((tR rs[j]).1)), iv ((tR rs[j]).2)]) [.tmp 74] [.agg [.fr (intsA ((tR rs[j]).1)), iv ((tR rs[j]).2)]] rfl Tryd.underlying50 (by kernel_rfl) (by decide) (by decide) rfl rfl rfl (by kernel_rfl) (by decide) (fun h => Bool.noConfusion h) (by kernel_rfl)) ⟨I0, T0⟩ T0 rfl ?_
 refine t_op rfl (sp_appendOwn (n := (p - 0)) (cs := ((L.take p).flatMap cRo)) (fr := true) (m := 1) (ds := [.fr (intsA ((tR rs[j]).1)), iv ((tR rs[j]).2)]) (⟨Tryd.underlying50, by kernel_rfl, by decide⟩ : Elt Tryd.prog 50 54 2 32) (.tmp 73) (.tmp 75) rfl (fun _ => newRo (tR rs[j])) (by unfold maxLen; omega) (by omega) (cellRo (tR rs[j])) (es := ((L.take p ++ [(tR rs[j])]).flatMap cRo)) snocRw) ⟨I0, I0, T0⟩ ⟨rfl, rfl, T0⟩ rfl ?_
 refine oA (sp_assign (.tmp 76) (.own 2) rfl) I0 ?_
 refine kN 85 [(1, .box 52 [iv 0, .v (.slice none 0 0)]), (2, .row true 54 2 (p - 0 + 1) ((L.take p ++ [(tR rs[j])]).flatMap cRo)), (3, .box 54 [.fr (intsA ((tR rs[j]).1)), iv ((tR rs[j]).2)])] [(0, iv n), (1, slA 2 cRo rs), (4, .box 1 0), (5, .sl 2 L.length (frs L)), (6, iv j), (7, .box 3 0), (8, iv p), (9, .own 2), (13, bv true), (22, bv false), (37, bv false), (53, bv false)] ?_
 refine t_then ?_
 refine tri_region ?_
 refine oA (sp_move (.tmp 9) (.own 2) rfl) I0 ?_
 refine oA (sp_move (.tmp 5) (.sl 2 L.length (frs L)) rfl) I0 ?_
 refine oA (sp_move (.tmp 8) (iv p) rfl) I0 ?_
 refine oC (sp_sliceSl (l := p) (h := L.length) (ds := (frs (L.drop p))) (.tmp 78) (some (.tmp 79)) none rfl Tryd.underlying50 (by kernel_rfl) [(.tmp 79, iv p)] [] (.inr ⟨_, _, rfl, rfl⟩) (.inl ⟨rfl, rfl, rfl⟩) (by omega) (Nat.le_refl _) (frs_drop (by omega))) I0 I0 ?_
 refine t_op rfl (sp_append (n := (p - 0 + 1)) (cs := ((L.take p ++ [(tR rs[j])]).flatMap cRo)) (fr := true) (m := (L.length - p)) (ds := (frs (L.drop p))) (⟨Tryd.underlying50, by kernel_rfl, by decide⟩ : Elt Tryd.prog 50 54 2 32) (.tmp 77) (.tmp 80) rfl (fun _ => newFrs) (by unfold maxLen; omega) (by omega) cell_frs (es := ((L.take p ++ (tR rs[j]) :: L.drop p).flatMap cRo)) ins_end) ⟨I0, I0, T0⟩ ⟨rfl, T0⟩ rfl ?_
 refine oA (sp_assign (.tmp 81) (.own 2) rfl) I0 ?_
 refine kN 85 [(1, .box 52 [iv 0, .v (.slice none 0 0)]), (2, .row true 54 2 (p - 0 + 1 + (L.length - p)) ((L.take p ++ (tR rs[j]) :: L.drop p).flatMap cRo)), (3, .box 54 [.fr (intsA ((tR rs[j]).1)), iv ((tR rs[j]).2)])] [(0, iv n), (1, slA 2 cRo rs), (4, .box 1 0), (5, .own 2), (6, iv j), (7, .box 3 0), (8, iv p), (13, bv true), (22, bv false), (37, bv false), (53, bv false)] ?_
 refine t_block ?_
 refine t_then ?_
 refine tri_region ?_
 refine oA (sp_move (.tmp 6) (iv j) rfl) I0 ?_
 refine oC (sp_add (c := ((j + 1 : Nat) : Int)) rfl (w64 (by omega) (by omega) (by omega))) I0 I0 ?_
 refine oA (sp_assign (.tmp 15) (iv (j + 1 : Nat)) rfl) I0 ?_
 refine kN 85 [(1, .box 52 [iv 0, .v (.slice none 0 0)]), (2, .row true 54 2 (p - 0 + 1 + (L.length - p)) ((L.take p ++ (tR rs[j]) :: L.drop p).flatMap cRo)), (3, .box 54 [.fr (intsA ((tR rs[j]).1)), iv ((tR rs[j]).2)])] [(0, iv n), (1, slA 2 cRo rs), (4, .box 1 0), (5, .own 2), (6, iv (j + 1 : Nat)), (7, .box 3 0), (8, iv p), (13, bv true), (22, bv false), (37, bv false), (53, bv false)] ?_
 refine t_then ?_
 refine tri_again ⟨(j + 1, (L.take p ++ (tR rs[j]) :: L.drop p)), by dsimp only; omega, (td_ins hL hs2f hp1 hs4 hs5f), (by rw [lenIns (by omega)]; dsimp only; omega)⟩ (show rs.length - (j + 1) < rs.length - j by omega) ?_
 show Wk _ _ (ofL [(1, .box 52 [iv 0, .v (.slice none 0 0)]), (2, .row true 54 2 ((L.take p ++ (tR rs[j]) :: L.drop p).length) ((L.take p ++ (tR rs[j]) :: L.drop p).flatMap cRo))]) (ofT 85 [(0, iv n), (1, slA 2 cRo rs), (4, .box 1 0), (5, .own 2), (6, iv ((j + 1) : Nat))])
 rw [lenIns (by omega)]
 exact wk_keep _ _ rfl (by kernel_rfl) (by kernel_rfl)
 refine tri_draw [⟨[(.tmp 8, iv p)], [], iv p, .no⟩, ⟨[(.tmp 5, .own 2)], [], .own 2, .no⟩, ⟨[(.tmp 24, .own 2)], [(2, .row true 54 2 L.length (L.flatMap cRo))], iv L.length, .no⟩, ⟨[(.tmp 23, iv p), (.tmp 25, iv L.length)], [], bv false, .no⟩, ⟨[(.tmp 26, bv false)], [], bv false, .no⟩, ⟨[], [], .v undef, .no⟩, ⟨[], [], .v undef, .no⟩, ⟨[], [], .v undef, .no⟩, ⟨[], [], .v undef, .no⟩, ⟨[], [], .v undef, .no⟩, ⟨[], [], .v undef, .no⟩, ⟨[], [], .v undef, .no⟩, ⟨[], [], .v undef, .no⟩, ⟨[], [], .v undef, .no⟩, ⟨[(.tmp 27, bv false), (.tmp 36, .v (.tuple #[])), (.const (.bool false), bv false)], [], bv false, .no⟩] (by kernel_rfl) (by kernel_rfl) ?_
 refine ⟨app_yes rfl (sp_move (.tmp 8) (iv p) rfl) ⟨I0, T0⟩ T0 T0, ?_⟩
 refine ⟨app_yes rfl (sp_move (.tmp 5) (.own 2) rfl) ⟨I0, T0⟩ T0 T0, ?_⟩
 refine ⟨app_yes rfl (sp_lenOwn (.tmp 24) rfl Tryd.underlying50) ⟨I0, T0⟩ ⟨rfl, T0⟩ T0, ?_⟩
 refine ⟨app_yes rfl (sp_lss rfl (dF hs3)) ⟨I0, I0, T0⟩ T0 T0, ?_⟩
 refine ⟨app_yes rfl (sp_move (.tmp 26) (bv false) rfl) ⟨I0, T0⟩ T0 T0, ?_⟩
 refine ⟨app_no rfl, ?_⟩
 refine ⟨app_no rfl, ?_⟩
 refine ⟨app_no rfl, ?_⟩
 refine ⟨app_no rfl, ?_⟩
 refine ⟨app_no rfl, ?_⟩
 refine ⟨app_no rfl, ?_⟩
 refine ⟨app_no rfl, ?_⟩
 refine ⟨app_no rfl, ?_⟩
 refine ⟨app_no rfl, ?_⟩
 refine ⟨app_yes rfl (sp_pick (.tmp 27) (.tmp 36) (.const (.bool false)) false (.v (.tuple #[])) (bv false) rfl) ⟨I0, I0, I0, T0⟩ T0 T0, ?_⟩
 show ETri J w0 _ _ _
 refine kW 85 [(1, .box 52 [iv 0, .v (.slice none 0 0)]), (2, .row true 54 2 L.length (L.flatMap cRo)), (3, .box 54 [.fr (intsA ((tR rs[j]).1)), iv ((tR rs[j]).2)])] [(0, iv n), (1, slA 2 cRo rs), (4, .box 1 0), (5, .own 2), (6, iv j), (7, .box 3 0), (8, iv p), (13, bv true), (22, bv false), (37, bv false)] ?_
 refine t_then ?_
 refine t_condF rfl ?_
 refine tri_exit ?_
 refine t_then_exit ?_
 refine t_then_exit ?_
 refine t_hit ?_
 refine t_then ?_
 refine tri_seq ?_
 refine tri_seq ?_
 refine tri_draw [⟨[(.tmp 8, iv p)], [], iv p, .no⟩, ⟨[(.tmp 5, .own 2)], [], .own 2, .no⟩, ⟨[(.tmp 41, .own 2)], [(2, .row true 54 2 L.length (L.flatMap cRo))], iv L.length, .no⟩, ⟨[(.tmp 40, iv p), (.tmp 42, iv L.length)], [], bv false, .no⟩, ⟨[(.tmp 43, bv false)], [], bv false, .no⟩, ⟨[], [], .v undef, .no⟩, ⟨[], [], .v undef, .no⟩, ⟨[], [], .v undef, .no⟩, ⟨[], [], .v undef, .no⟩, ⟨[], [], .v undef, .no⟩, ⟨[], [], .v undef, .no⟩, ⟨[], [], .v undef, .no⟩, ⟨[], [], .v undef, .no⟩, ⟨[(.tmp 44, bv false), (.tmp 52, .v (.tuple #[])), (.const (.bool false), bv false)], [], bv false, .no⟩] (by kernel_rfl) (by kernel_rfl) ?_
 refine ⟨app_yes rfl (sp_move (.tmp 8) (iv p) rfl) ⟨I0, T0⟩ T0 T0, ?_⟩
 refine ⟨app_yes rfl (sp_move (.tmp 5) (.own 2) rfl) ⟨I0, T0⟩ T0 T0, ?_⟩
 refine ⟨app_yes rfl (sp_lenOwn (.tmp 41) rfl Tryd.underlying50) ⟨I0, T0⟩ ⟨rfl, T0⟩ T0, ?_⟩
 refine ⟨app_yes rfl (sp_lss rfl (dF hs3)) ⟨I0, I0, T0⟩ T0 T0, ?_⟩
 refine ⟨app_yes rfl (sp_move (.tmp 43) (bv false) rfl) ⟨I0, T0⟩ T0 T0, ?_⟩
 refine ⟨app_no rfl, ?_⟩
 refine ⟨app_no rfl, ?_⟩
 refine ⟨app_no rfl, ?_⟩
 refine ⟨app_no rfl, ?_⟩
 refine ⟨app_no rfl, ?_⟩
 refine ⟨app_no rfl, ?_⟩
 refine ⟨app_no rfl, ?_⟩
 refine ⟨app_no rfl, ?_⟩
 refine ⟨app_yes rfl (sp_pick (.tmp 44) (.tmp 52) (.const (.bool false)) false (.v (.tuple #[])) (bv false) rfl) ⟨I0, I0, I0, T0⟩ T0 T0, ?_⟩
 show ETri J w0 _ _ _
 refine kW 85 [(1, .box 52 [iv 0, .v (.slice none 0 0)]), (2, .row true 54 2 L.length (L.flatMap cRo)), (3, .box 54 [.fr (intsA ((tR rs[j]).1)), iv ((tR rs[j]).2)])] [(0, iv n), (1, slA 2 cRo rs), (4, .box 1 0), (5, .own 2), (6, iv j), (7, .box 3 0), (8, iv p), (13, bv true), (22, bv false), (37, bv false), (53, bv false)] ?_
 refine t_then ?_
 refine t_condF rfl ?_
 refine tri_skip ?_
 refine t_then ?_
 refine tri_seq ?_
 refine t_cut (True) (ofL [(1, .box 52 [iv 0, .v (.slice none 0 0)]), (3, .box 54 [.fr (intsA ((tR rs[j]).1)), iv ((tR rs[j]).2)])]) (ofT 85 [(0, iv n), (1, slA 2 cRo rs), (4, .box 1 0), (5, .fr (slA 2 cRo L)), (6, iv j), (7, .box 3 0), (8, iv p), (9, .v (.slice none 0 0)), (13, bv true), (22, bv false), (37, bv false), (53, bv false)]) ?_ (fun _ => ?_)
 refine tri_region ?_
 refine oA (sp_assign (.const (.slice none 0 0)) (.v (.slice none 0 0)) rfl) I0 ?_
 refine kN 85 [(1, .box 52 [iv 0, .v (.slice none 0 0)]), (2, .row true 54 2 L.length (L.flatMap cRo)), (3, .box 54 [.fr (intsA ((tR rs[j]).1)), iv ((tR rs[j]).2)])] [(0, iv n), (1, slA 2 cRo rs), (4, .box 1 0), (5, .own 2), (6, iv j), (7, .box 3 0), (8, iv p), (9, .v (.slice none 0 0)), (13, bv true), (22, bv false), (37, bv false), (53, bv false)] ?_
 exact t_meet T0 (wk_keep _ _ rfl (by kernel_rfl) (by kernel_rfl))
 refine t_then ?_
 refine tri_seq ?_
 refine tri_wk (wk_spread 5 rfl rfl) ?_
 refine tri_region ?_
 refine oA (sp_move (.tmp 9) (.v (.slice none 0 0)) rfl) I0 ?_
 refine oA (sp_move (.tmp 5) (.sl 2 L.length (frs L)) rfl) I0 ?_
 refine oA (sp_move (.tmp 8) (iv p) rfl) I0 ?_
 refine oC (sp_sliceSl (l := 0) (h := p) (ds := (frs (L.take p))) (.tmp 69) none (some (.tmp 70)) rfl Tryd.underlying50 (by kernel_rfl) [] [(.tmp 70, iv p)] (.inl ⟨rfl, rfl, rfl⟩) (.inr ⟨_, _, rfl, rfl⟩) (Nat.zero_le _) (by omega) (frs_take (by omega))) I0 I0 ?_
 refine t_op rfl (sp_appendNil (m := (p - 0)) (ds := (frs (L.take p))) (⟨Tryd.underlying50, by kernel_rfl, by decide⟩ : Elt Tryd.prog 50 54 2 32) (k := 2) true (.tmp 68) (.tmp 71) rfl new_frs (by unfold maxLen; omega) (by omega) cell_frs (es := ((L.take p).flatMap cRo)) unfr_frs) ⟨I0, I0, T0⟩ T0 rfl ?_
 refine oA (sp_assign (.tmp 72) (.own 2) rfl) I0 ?_
 refine kN 85 [(1, .box 52 [iv 0, .v (.slice none 0 0)]), (2, .row true 54 2 (p - 0) ((L.take p).flatMap cRo)), (3, .box 54 [.fr (intsA ((tR rs[j]).1)), iv ((tR rs[j]).2)])] [(0, iv n), (1, slA 2 cRo rs), (4, .box 1 0), (5, .sl 2 L.length (frs L)), (6, iv j), (7, .box 3 0), (8, iv p), (9, .own 2), (13, bv true), (22, bv false), (37, bv false), (53, bv false)] ?_
 refine t_then ?_
 refine tri_seq ?_
 refine tri_region ?_
 refine oA (sp_move (.tmp 9) (.own 2) rfl) I0 ?_
 refine oB (sp_loadBoxS (Y := .box 54 [.fr (intsA ((tR rs[j]).1)), iv ((tR rs[j]).2)]) (ds := [.fr (intsA ((tR rs[j]).1)), iv ((tR rs[j]).2)]) (z := 2) (.tmp 7) rfl Tryd.underlying54 rfl (by kernel_rfl) (by decide) (by kernel_rfl) (by kernel_rfl)) I0 rfl ?_
 refine t_op rfl (sp_build (z := 2) (k := 4) (fr := false) (cs := [.fr (intsA ((tR rs[j]).1)), iv ((tR rs[j]).2)]) [.tmp 74] [.agg [.fr (intsA ((tR rs[j]).1)), iv ((tR rs[j]).2)]] rfl Tryd.underlying50 (by kernel_rfl) (by decide) (by decide) rfl rfl rfl (by kernel_rfl) (by decide) (fun h => Bool.noConfusion h) (by kernel_rfl)) ⟨I0, T0⟩ T0 rfl ?_
 refine t_op rfl (sp_appendOwn (n := (p - 0)) (cs := ((L.take p).flatMap cRo)) (fr := true) (m := 1) (ds := [.fr (intsA ((tR rs[j]).1)), iv ((tR rs[j]).2)]) (⟨Tryd.underlying50, by kernel_rfl, by decide⟩ : Elt Tryd.prog 50 54 2 32) (.tmp 73) (.tmp 75) rfl (fun _ => newRo (tR rs[j])) (by unfold maxLen; omega) (by omega) (cellRo (tR rs[j])) (es := ((L.take p ++ [(tR rs[j])]).flatMap cRo)) snocRw) ⟨I0, I0, T0⟩ ⟨rfl, rfl, T0⟩ rfl ?_
 refine oA (sp_assign (.tmp 76) (.own 2) rfl) I0 ?_
 refine kN 85 [(1, .box 52 [iv 0, .v (.slice none 0 0)]), (2, .row true 54 2 (p - 0 + 1) ((L.take p ++ [(tR rs[j])]).flatMap cRo)), (3, .box 54 [.fr (intsA ((tR rs[j]).1)), iv ((tR rs[j]).2)])] [(0, iv n), (1, slA 2 cRo rs), (4, .box 1 0), (5, .sl 2 L.length (frs L)), (6, iv j), (7, .box 3 0), (8, iv p), (9, .own 2), (13, bv true), (22, bv false), (37, bv false), (53, bv false)] ?_
 refine t_then ?_
 refine tri_region ?_
 refine oA (sp_move (.tmp 9) (.own 2) rfl) I0 ?_
 refine oA (sp_move (.tmp 5) (.sl 2 L.length (frs L)) rfl) I0 ?_
 refine oA (sp_move (.tmp 8) (iv p) rfl) I0 ?_
 refine oC (sp_sliceSl (l := p) (h := L.length) (ds := (frs (L.drop p))) (.tmp 78) (some (.tmp 79)) none rfl Tryd.underlying50 (by kernel_rfl) [(.tmp 79, iv p)] [] (.inr ⟨_, _, rfl, rfl⟩) (.inl ⟨rfl, rfl, rfl⟩) (by omega) (Nat.le_refl _) (frs_drop (by omega))) I0 I0 ?_
 refine t_op rfl (sp_append (n := (p - 0 + 1)) (cs := ((L.take p ++ [(tR rs[j])]).flatMap cRo)) (fr := true) (m := (L.length - p)) (ds := (frs (L.drop p))) (⟨Tryd.underlying50, by kernel_rfl, by decide⟩ : Elt Tryd.prog 50 54 2 32) (.tmp 77) (.tmp 80) rfl (fun _ => newFrs) (by unfold maxLen; omega) (by omega) cell_frs (es := ((L.take p ++ (tR rs[j]) :: L.drop p).flatMap cRo)) ins_end) ⟨I0, I0, T0⟩ ⟨rfl, T0⟩ rfl ?_
 refine oA (sp_assign (.tmp 81) (.own 2) rfl) I0 ?_
 refine kN 85 [(1, .box 52 [iv 0, .v (.slice none 0 0)]), (2, .row true 54 2 (p - 0 + 1 + (L.length - p)) ((L.take p ++ (tR rs[j]) :: L.drop p).flatMap cRo)), (3, .box 54 [.fr (intsA ((tR rs[j]).1)), iv ((tR rs[j]).2)])] [(0, iv n), (1, slA 2 cRo rs), (4, .box 1 0), (5, .own 2), (6, iv j), (7, .box 3 0), (8, iv p), (13, bv true), (22, bv false), (37, bv false), (53, bv false)] ?_
 refine t_block ?_
 refine t_then ?_
 refine tri_region ?_
 refine oA (sp_move (.tmp 6) (iv j) rfl) I0 ?_
 refine oC (sp_add (c := ((j + 1 : Nat) : Int)) rfl (w64 (by omega) (by omega) (by omega))) I0 I0 ?_
 refine oA (sp_assign (.tmp 15) (iv (j + 1 : Nat)) rfl) I0 ?_
 refine kN 85 [(1, .box 52 [iv 0, .v (.slice none 0 0)]), (2, .row true 54 2 (p - 0 + 1 + (L.length - p)) ((L.take p ++ (tR rs[j]) :: L.drop p).flatMap cRo)), (3, .box 54 [.fr (intsA ((tR rs[j]).1)), iv ((tR rs[j]).2)])] [(0, iv n), (1, slA 2 cRo rs), (4, .box 1 0), (5, .own 2), (6, iv (j + 1 : Nat)), (7, .box 3 0), (8, iv p), (13, bv true), (22, bv false), (37, bv false), (53, bv false)] ?_
 refine t_then ?_
 refine tri_again ⟨(j + 1, (L.take p ++ (tR rs[j]) :: L.drop p)), by dsimp only; omega, (td_end hL hs2f hp1 hp0 (by omega)), (by rw [lenIns (by omega)]; dsimp only; omega)⟩ (show rs.length - (j + 1) < rs.length - j by omega) ?_
 show Wk _ _ (ofL [(1, .box 52 [iv 0, .v (.slice none 0 0)]), (2, .row true 54 2 ((L.take p ++ (tR rs[j]) :: L.drop p).length) ((L.take p ++ (tR rs[j]) :: L.drop p).flatMap cRo))]) (ofT 85 [(0, iv n), (1, slA 2 cRo rs), (4, .box 1 0), (5, .own 2), (6, iv ((j + 1) : Nat))])
 rw [lenIns (by omega)]
 exact wk_keep _ _ rfl (by kernel_rfl) (by kernel_rfl)
 refine tri_region ?_
 refine oA (sp_move (.tmp 6) (iv j) rfl) I0 ?_
 refine oA (sp_move (.tmp 1) (slA 2 cRo rs) rfl) I0 ?_
 refine oA (sp_lenSl (.tmp 11) rfl Tryd.underlying50) I0 ?_
 refine oC (sp_lss rfl (dF hs1)) I0 I0 ?_
 refine kN 85 [(1, .box 52 [iv 0, .v (.slice none 0 0)]), (2, .row true 54 2 L.length (L.flatMap cRo))] [(0, iv n), (1, slA 2 cRo rs), (4, .box 1 0), (5, .own 2), (6, iv j), (13, bv false)] ?_
 refine t_then ?_
 refine t_condF rfl ?_
 refine tri_exit ?_
 refine t_then_exit ?_
 refine t_then_exit ?_
 refine t_hit ?_
 refine t_then ?_
 refine tri_seq ?_
 refine tri_region ?_
 refine oA (sp_move (.tmp 0) (iv n) rfl) I0 ?_
 refine oA (sp_move (.tmp 5) (.own 2) rfl) I0 ?_
 refine oC (sp_bldN [0, 1] [.tmp 82, .tmp 83] [iv n, .own 2] [.inr 0, .inr 1] rfl rfl rfl rfl rfl (fun _ => by kernel_rfl) rfl (ds := [iv n, .own 2]) rfl) I0 I0 ?_
 refine t_op rfl (sp_storeBox (T0 := 52) (X := .agg [iv n, .own 2]) (cs := [iv 0, .v (.slice none 0 0)]) (ds := [iv n, .own 2]) (z := 2) (.tmp 4) (.tmp 84) rfl (by kernel_rfl) (by kernel_rfl) (by kernel_rfl) (of_decide_eq_true (by kernel_rfl)) (by kernel_rfl)) ⟨I0, I0, T0⟩ ⟨rfl, T0⟩ rfl ?_
 refine kN 85 [(1, .box 52 [iv n, .own 2]), (2, .row true 54 2 L.length (L.flatMap cRo))] [(4, .box 1 0)] ?_
 refine t_then ?_
 refine tri_ret ?_
 have hk : j = rs.length := by omega
 have hL2 : L = nrm rs := by rw [nrm_tdy, hL, hk, List.take_length]
 subst hL2
 refine tri_give1 2 Tryd.results70 (.cellS rfl rfl Tryd.underlying52 rfl (z := 2) (by kernel_rfl) rfl (by decide)) rfl rfl
end Go.Proofs.YtpadmggccpgajaaDoor

namespace Go.Proofs.YtpadmggccpgajaaDoor
open Go.RowKit Go.Deep
variable {J : World → Prop}
set_option linter.unusedSimpArgs false in
set_option linter.unusedVariables false in
set_option maxRecDepth 100000 in
set_option maxHeartbeats 6400000 in
theorem rNormalize_c {n : Int} {rs : List Rw} (H : SyOk rs) (hl : rs.length ≤ 250) (hs : ∀ r ∈ rs, r.1.length ≤ 1000) : Ctr Tryd.prog J 35 [.agg (cSy n rs)] (.tup [.agg (cSy (nmN n rs) (nmR n rs)), iv (nmE n rs)]) := by
 refine ctr_of_tri Tryd.func35 rfl (by intro X hX; simp only [List.mem_cons, List.not_mem_nil, or_false] at hX; rcases hX with rfl; exact plain_agg (plain_sy n rs)) (n := 16) rfl (by simp) (fun w0 => ?_)
 refine kW 16 [] [(0, .agg (cSy n rs))] ?_
 refine tri_seq ?_
 refine tri_region ?_
 refine t_op rfl (sp_box (X := .agg (cSy n rs)) (k := 1) (.tmp 0) rfl rfl) ⟨I0, T0⟩ T0 rfl ?_
 refine t_op rfl (sp_alloc (z := .agg #[.int .i64 0, .slice none 0 0]) (k := 2) rfl (by kernel_rfl)) T0 T0 rfl ?_
 refine oA (sp_assign (.const (.int .i64 0)) (iv 0) rfl) I0 ?_
 refine kN 16 [(1, .box 52 (cSy n rs)), (2, .box 52 [iv 0, .v (.slice none 0 0)])] [(1, .box 1 0), (2, .box 2 0), (3, iv 0)] ?_
 refine t_then ?_
 refine tri_seq ?_
 refine tri_region ?_
 refine oB (sp_loadBoxS (Y := .box 52 (cSy n rs)) (ds := cSy n rs) (z := 2) (.tmp 1) rfl Tryd.underlying52 rfl (by kernel_rfl) (by decide) (by kernel_rfl) (by kernel_rfl)) I0 rfl ?_
 refine oC (sp_call (c := .func 68) (xs := #[.tmp 5]) [] (rrValidate_c H) rfl (by kernel_rfl) rfl (Xs := [.agg (cSy n rs)]) rfl rfl rfl) I0 I0 ?_
 refine oA (sp_assign (.tmp 6) (iv (valS n rs)) rfl) I0 ?_
 refine kN 16 [(1, .box 52 (cSy n rs)), (2, .box 52 [iv 0, .v (.slice none 0 0)])] [(1, .box 1 0), (2, .box 2 0), (3, iv 0), (4, iv (valS n rs))] ?_
 refine t_then ?_
 refine tri_seq ?_
 refine tri_seq ?_
 by_cases hs1 : valS n rs = 0
 refine tri_region ?_
 refine oA (sp_move (.tmp 4) (iv (valS n rs)) rfl) I0 ?_
 refine oC (sp_neq rfl (dT' hs1)) I0 I0 ?_
 refine kN 16 [(1, .box 52 (cSy n rs)), (2, .box 52 [iv 0, .v (.slice none 0 0)])] [(1, .box 1 0), (2, .box 2 0), (3, iv 0), (4, iv (valS n rs)), (8, bv false)] ?_
 refine t_then ?_
 refine t_condF rfl ?_
 refine tri_skip ?_
 refine t_then ?_
 refine tri_seq ?_
 refine tri_region ?_
 refine oA (fB 0 (.tmp 1) rfl Tryd.underlying52 rfl 1 rfl) I0 ?_
 refine oB (lB (.box 52 (cSy n rs)) (iv n) (.tmp 11) rfl Tryd.underlying3 rfl rfl) I0 rfl ?_
 refine oA (fB 1 (.tmp 1) rfl Tryd.underlying52 rfl 1 rfl) I0 ?_
 refine oB (lB (.box 52 (cSy n rs)) (slA 2 cRo rs) (.tmp 13) rfl Tryd.underlying50 rfl rfl) I0 rfl ?_
 refine t_op rfl (sp_callO (c := .func 70) (xs := #[.tmp 12, .tmp 14]) [] (tidy_o (n := n) H hl hs 3) rfl (by kernel_rfl) rfl (Xs := [iv n, slA 2 cRo rs]) rfl rfl rfl) ⟨I0, I0, I0, T0⟩ T0 rfl ?_
 refine t_op rfl (sp_storeBox (T0 := 52) (X := .agg [iv n, .own 3]) (cs := [iv 0, .v (.slice none 0 0)]) (ds := [iv n, .own 3]) (z := 2) (.tmp 2) (.tmp 15) rfl (by kernel_rfl) (by kernel_rfl) (by kernel_rfl) (of_decide_eq_true (by kernel_rfl)) (by kernel_rfl)) ⟨I0, I0, T0⟩ ⟨rfl, T0⟩ rfl ?_
 refine oA (sp_assign (.const (.int .i64 0)) (iv 0) rfl) I0 ?_
 refine kN 16 [(2, .box 52 [iv n, .own 3]), (3, .row true 54 2 ((nrm rs).length) ((nrm rs).flatMap cRo))] [(2, .box 2 0), (3, iv 0)] ?_
 refine t_then ?_
 refine tri_ret ?_
 refine tri_end2 Tryd.results35 (.cellS rfl rfl Tryd.underlying52 rfl (z := 2) (by kernel_rfl) rfl (by decide)) (.tmp rfl) ?_
 exact nm_ok hs1
 refine tri_region ?_
 refine oA (sp_move (.tmp 4) (iv (valS n rs)) rfl) I0 ?_
 refine oC (sp_neq rfl (dF' hs1)) I0 I0 ?_
 refine kN 16 [(1, .box 52 (cSy n rs)), (2, .box 52 [iv 0, .v (.slice none 0 0)])] [(1, .box 1 0), (2, .box 2 0), (3, iv 0), (4, iv (valS n rs)), (8, bv true)] ?_
 refine t_then ?_
 refine t_condT rfl ?_
 refine tri_seq ?_
 refine tri_region ?_
 refine t_op rfl (sp_bld [] #[.int .i64 0, .slice none 0 0] rfl rfl (by kernel_rfl) rfl) T0 T0 T0 ?_
 refine oA (sp_move (.tmp 4) (iv (valS n rs)) rfl) I0 ?_
 refine t_op rfl (sp_storeBox (T0 := 52) (X := .agg [iv 0, .v (.slice none 0 0)]) (cs := [iv 0, .v (.slice none 0 0)]) (ds := [iv 0, .v (.slice none 0 0)]) (z := 2) (.tmp 2) (.tmp 9) rfl (by kernel_rfl) (by kernel_rfl) (by kernel_rfl) (of_decide_eq_true (by kernel_rfl)) (by kernel_rfl)) ⟨I0, I0, T0⟩ ⟨rfl, T0⟩ rfl ?_
 refine oA (sp_assign (.tmp 10) (iv (valS n rs)) rfl) I0 ?_
 refine kN 16 [(1, .box 52 (cSy n rs)), (2, .box 52 [iv 0, .v (.slice none 0 0)])] [(1, .box 1 0), (2, .box 2 0), (3, iv (valS n rs))] ?_
 refine t_then ?_
 refine tri_ret ?_
 refine t_then_ret ?_
 refine tri_wk (wk_adoptB 2 1 3 true 54 2 rfl rfl rfl rfl) ?_
 refine tri_end2 Tryd.results35 (.cellS rfl rfl Tryd.underlying52 rfl (z := 2) (by kernel_rfl) rfl (by decide)) (.tmp rfl) ?_
 exact nm_e1 hs1
end Go.Proofs.YtpadmggccpgajaaDoor

namespace Go.Proofs.YtpadmggccpgajaaDoor
open Go.RowKit Go.Deep
variable {J : World → Prop}
set_option linter.unusedSimpArgs false in
set_option linter.unusedVariables false in
set_option maxRecDepth 100000 in
set_option maxHeartbeats 6400000 in
theorem normalRows_o {rs : List Rw} (H : SyOk rs) (hl : rs.length ≤ 250) (hs : ∀ r ∈ rs, r.1.length ≤ 1000) (k : Nat) : CtrO Tryd.prog J 69 [slA 2 cRo rs] k (.row true 54 2 ((nrm rs).length) ((nrm rs).flatMap cRo)) (.own k) := by
 refine ctrO_of_tri Tryd.func69 rfl (by intro X hX; simp only [List.mem_cons, List.not_mem_nil, or_false] at hX; rcases hX with rfl; exact plain_sl plain_ro _) (n := 27) rfl (by simp) (fun w0 => ?_)
 refine kW 27 [] [(0, slA 2 cRo rs)] ?_
 refine tri_seq ?_
 refine tri_region ?_
 refine oA (sp_assign (.const (.slice none 0 0)) (.v (.slice none 0 0)) rfl) I0 ?_
 refine kN 27 [] [(0, slA 2 cRo rs), (2, .v (.slice none 0 0))] ?_
 refine t_then ?_
 refine tri_seq ?_
 refine tri_region ?_
 refine oA (sp_assign (.const (.slice none 0 0)) (.v (.slice none 0 0)) rfl) I0 ?_
 refine kN 27 [] [(0, slA 2 cRo rs), (2, .v (.slice none 0 0)), (3, .v (.slice none 0 0))] ?_
 refine t_then ?_
 refine tri_seq ?_
 refine tri_seq ?_
 refine tri_region ?_
 refine oA (sp_move (.tmp 0) (slA 2 cRo rs) rfl) I0 ?_
 refine oA (sp_lenSl (.tmp 7) rfl Tryd.underlying50) I0 ?_
 refine oA (sp_move (.const (.int .i64 0)) (iv 0) rfl) I0 ?_
 refine kN 27 [] [(2, .v (.slice none 0 0)), (3, .v (.slice none 0 0)), (7, slA 2 cRo rs), (8, iv rs.length), (9, iv 0)] ?_
 refine t_then ?_
 refine tri_block ?_
 refine tri_wk (wk_adopt 3 1 true 54 2 rfl rfl rfl) ?_
 refine tri_loop (σ := {p : Nat × List Rw // p.1 ≤ rs.length ∧ p.2 = tgs (rs.take p.1) ∧ p.2.length ≤ p.1}) (fun s => (ofL [(1, .row true 54 2 s.1.2.length (s.1.2.flatMap cRo))], ofT 27 [(2, .v (.slice none 0 0)), (3, .own 1), (7, slA 2 cRo rs), (8, iv rs.length), (9, iv s.1.1)])) (fun s => rs.length - s.1.1) ⟨(0, []), Nat.zero_le _, rfl, Nat.zero_le _⟩ (wk_keep _ _ rfl (by kernel_rfl) (by kernel_rfl)) (fun s => ?_)
 obtain ⟨⟨j, L⟩, hj0, hL, hLb⟩ := s
 show ETri J w0 (ofL [(1, .row true 54 2 L.length (L.flatMap cRo))]) (ofT 27 [(2, .v (.slice none 0 0)), (3, .own 1), (7, slA 2 cRo rs), (8, iv rs.length), (9, iv j)]) _
 dsimp only at hj0 hL hLb
 refine tri_seq ?_
 by_cases hs1 : ((j : Nat) : Int) < ((rs.length : Nat) : Int)
 refine tri_region ?_
 refine oC (sp_lss rfl (dT hs1)) I0 I0 ?_
 refine kN 27 [(1, .row true 54 2 L.length (L.flatMap cRo))] [(2, .v (.slice none 0 0)), (3, .own 1), (7, slA 2 cRo rs), (8, iv rs.length), (9, iv j), (10, bv true)] ?_
 refine t_then ?_
 refine tri_seq ?_
 refine t_condT rfl ?_
 refine tri_skip ?_
 refine t_then ?_
 refine tri_seq ?_
 refine tri_block ?_
 refine tri_seq ?_
 refine tri_region ?_
 refine oC (sp_indexSl (off := j * 2) (.tmp 7) (.tmp 9) rfl Tryd.underlying50 (by kernel_rfl) (by omega) (by omega) rfl) I0 I0 ?_
 refine oA (sp_loadElS (z := 2) (.tmp 11) rfl Tryd.underlying54 rfl (by kernel_rfl) (flat_take lenRo rs j (by omega)) rfl) I0 ?_
 refine t_op rfl (sp_alloc (z := .agg #[.slice none 0 0, .int .i64 0]) (k := 2) rfl (by kernel_rfl)) T0 T0 rfl ?_
 refine t_op rfl (sp_storeBox (T0 := 54) (X := .agg (cRo rs[j])) (cs := [.v (.slice none 0 0), iv 0]) (ds := cRo rs[j]) (z := 2) (.tmp 5) (.tmp 12) rfl (by kernel_rfl) (by kernel_rfl) (by kernel_rfl) (of_decide_eq_true (by kernel_rfl)) (by kernel_rfl)) ⟨I0, I0, T0⟩ ⟨rfl, T0⟩ rfl ?_
 refine kN 27 [(1, .row true 54 2 L.length (L.flatMap cRo)), (2, .box 54 (cRo rs[j]))] [(2, .v (.slice none 0 0)), (3, .own 1), (5, .box 2 0), (7, slA 2 cRo rs), (8, iv rs.length), (9, iv j), (10, bv true)] ?_
 refine t_then ?_
 refine tri_seq ?_
 refine tri_region ?_
 refine oB (sp_loadBoxS (Y := .box 54 (cRo rs[j])) (ds := cRo rs[j]) (z := 2) (.tmp 5) rfl Tryd.underlying54 rfl (by kernel_rfl) (by decide) (by kernel_rfl) (by kernel_rfl)) I0 rfl ?_
 refine oC (sp_call (c := .func 63) (xs := #[.tmp 13]) [] (Tighten_c (H.rows rs[j] (List.getElem_mem (by omega))) (hs rs[j] (List.getElem_mem (by omega)))) rfl (by kernel_rfl) rfl (Xs := [.agg (cRo rs[j])]) rfl rfl rfl) I0 I0 ?_
 refine t_op rfl (sp_alloc (z := .agg #[.slice none 0 0, .int .i64 0]) (k := 3) rfl (by kernel_rfl)) T0 T0 rfl ?_
 refine t_op rfl (sp_storeBox (T0 := 54) (X := .agg [.fr (intsA ((tR rs[j]).1)), iv ((tR rs[j]).2)]) (cs := [.v (.slice none 0 0), iv 0]) (ds := [.fr (intsA ((tR rs[j]).1)), iv ((tR rs[j]).2)]) (z := 2) (.tmp 6) (.tmp 14) rfl (by kernel_rfl) (by kernel_rfl) (by kernel_rfl) (of_decide_eq_true (by kernel_rfl)) (by kernel_rfl)) ⟨I0, .inr (.inr (.inl ⟨_, rfl, rfl⟩)), T0⟩ ⟨rfl, T0⟩ rfl ?_
 refine kN 27 [(1, .row true 54 2 L.length (L.flatMap cRo)), (2, .box 54 (cRo rs[j])), (3, .box 54 [.fr (intsA ((tR rs[j]).1)), iv ((tR rs[j]).2)])] [(2, .v (.slice none 0 0)), (3, .own 1), (5, .box 2 0), (6, .box 3 0), (7, slA 2 cRo rs), (8, iv rs.length), (9, iv j), (10, bv true)] ?_
 refine t_then ?_
 refine tri_seq ?_
 by_cases hs2 : (triB (tR rs[j]).1 (tR rs[j]).2) = true
 refine tri_region ?_
 refine oB (sp_loadBoxS (Y := .box 54 [.fr (intsA ((tR rs[j]).1)), iv ((tR rs[j]).2)]) (ds := [.fr (intsA ((tR rs[j]).1)), iv ((tR rs[j]).2)]) (z := 2) (.tmp 6) rfl Tryd.underlying54 rfl (by kernel_rfl) (by decide) (by kernel_rfl) (by kernel_rfl)) I0 rfl ?_
 refine oC (sp_call (c := .func 123) (xs := #[.tmp 15]) [] (ctr_b (Trivial_c (tR_ok (H.rows rs[j] (List.getElem_mem (by omega))))) hs2) rfl (by kernel_rfl) rfl (Xs := [.agg [.fr (intsA ((tR rs[j]).1)), iv ((tR rs[j]).2)]]) rfl rfl rfl) I0 I0 ?_
 refine oA (sp_not rfl rfl) I0 ?_
 refine kN 27 [(1, .row true 54 2 L.length (L.flatMap cRo)), (2, .box 54 (cRo rs[j])), (3, .box 54 [.fr (intsA ((tR rs[j]).1)), iv ((tR rs[j]).2)])] [(2, .v (.slice none 0 0)), (3, .own 1), (5, .box 2 0), (6, .box 3 0), (7, slA 2 cRo rs), (8, iv rs.length), (9, iv j), (10, bv true), (17, bv false)] ?_
 refine t_then ?_
 refine t_condF rfl ?_
 refine tri_skip ?_
 refine t_block ?_
 refine t_then ?_
 refine tri_region ?_
 refine oC (sp_add (c := ((j + 1 : Nat) : Int)) rfl (w64 (by omega) (by omega) (by omega))) I0 I0 ?_
 refine oA (sp_move (.tmp 22) (iv (j + 1 : Nat)) rfl) I0 ?_
 refine kN 27 [(1, .row true 54 2 L.length (L.flatMap cRo)), (2, .box 54 (cRo rs[j])), (3, .box 54 [.fr (intsA ((tR rs[j]).1)), iv ((tR rs[j]).2)])] [(2, .v (.slice none 0 0)), (3, .own 1), (5, .box 2 0), (6, .box 3 0), (7, slA 2 cRo rs), (8, iv rs.length), (9, iv (j + 1 : Nat)), (10, bv true), (17, bv false)] ?_
 refine t_then ?_
 refine tri_again ⟨(j + 1, L), by dsimp only; omega, by rw [tgs_no (by omega) hs2]; exact hL, by dsimp only; omega⟩ (show rs.length - (j + 1) < rs.length - j by omega) ?_
 exact wk_keep _ _ rfl (by kernel_rfl) (by kernel_rfl)
 have hs2f : (triB (tR rs[j]).1 (tR rs[j]).2) = false := by simpa using hs2
 refine tri_region ?_
 refine oB (sp_loadBoxS (Y := .box 54 [.fr (intsA ((tR rs[j]).1)), iv ((tR rs[j]).2)]) (ds := [.fr (intsA ((tR rs[j]).1)), iv ((tR rs[j]).2)]) (z := 2) (.tmp 6) rfl Tryd.underlying54 rfl (by kernel_rfl) (by decide) (by kernel_rfl) (by kernel_rfl)) I0 rfl ?_
 refine oC (sp_call (c := .func 123) (xs := #[.tmp 15]) [] (ctr_b (Trivial_c (tR_ok (H.rows rs[j] (List.getElem_mem (by omega))))) hs2f) rfl (by kernel_rfl) rfl (Xs := [.agg [.fr (intsA ((tR rs[j]).1)), iv ((tR rs[j]).2)]]) rfl rfl rfl) I0 I0 ?_
 refine oA (sp_not rfl rfl) I0 ?_
 refine kN 27 [(1, .row true 54 2 L.length (L.flatMap cRo)), (2, .box 54 (cRo rs[j])), (3, .box 54 [.fr (intsA ((tR rs[j]).1)), iv ((tR rs[j]).2)])] [(2, .v (.slice none 0 0)), (3, .own 1), (5, .box 2 0), (6, .box 3 0), (7, slA 2 cRo rs), (8, iv rs.length), (9, iv j), (10, bv true), (17, bv true)] ?_
 refine t_then ?_
 refine t_condT rfl ?_
 refine tri_region ?_
 refine oA (sp_move (.tmp 3) (.own 1) rfl) I0 ?_
 refine oB (sp_loadBoxS (Y := .box 54 [.fr (intsA ((tR rs[j]).1)), iv ((tR rs[j]).2)]) (ds := [.fr (intsA ((tR rs[j]).1)), iv ((tR rs[j]).2)]) (z := 2) (.tmp 6) rfl Tryd.underlying54 rfl (by kernel_rfl) (by decide) (by kernel_rfl) (by kernel_rfl)) I0 rfl ?_
 refine t_op rfl (sp_build (z := 2) (k := 4) (fr := false) (cs := [.fr (intsA ((tR rs[j]).1)), iv ((tR rs[j]).2)]) [.tmp 19] [.agg [.fr (intsA ((tR rs[j]).1)), iv ((tR rs[j]).2)]] rfl Tryd.underlying50 (by kernel_rfl) (by decide) (by decide) rfl rfl rfl (by kernel_rfl) (by decide) (fun h => Bool.noConfusion h) (by kernel_rfl)) ⟨I0, T0⟩ T0 rfl ?_
 refine t_op rfl (sp_appendOwn (n := L.length) (cs := (L.flatMap cRo)) (fr := true) (m := 1) (ds := [.fr (intsA ((tR rs[j]).1)), iv ((tR rs[j]).2)]) (⟨Tryd.underlying50, by kernel_rfl, by decide⟩ : Elt Tryd.prog 50 54 2 32) (.tmp 18) (.tmp 20) rfl (fun _ => newRo (tR rs[j])) (by unfold maxLen; omega) (by omega) (cellRo (tR rs[j])) (es := ((L ++ [tR rs[j]]).flatMap cRo)) snocRw) ⟨I0, I0, T0⟩ ⟨rfl, rfl, T0⟩ rfl ?_
 refine oA (sp_assign (.tmp 21) (.own 1) rfl) I0 ?_
 refine kN 27 [(1, .row true 54 2 (L.length + 1) ((L ++ [tR rs[j]]).flatMap cRo)), (2, .box 54 (cRo rs[j])), (3, .box 54 [.fr (intsA ((tR rs[j]).1)), iv ((tR rs[j]).2)])] [(2, .v (.slice none 0 0)), (3, .own 1), (5, .box 2 0), (6, .box 3 0), (7, slA 2 cRo rs), (8, iv rs.length), (9, iv j), (10, bv true), (17, bv true)] ?_
 refine t_block ?_
 refine t_then ?_
 refine tri_region ?_
 refine oC (sp_add (c := ((j + 1 : Nat) : Int)) rfl (w64 (by omega) (by omega) (by omega))) I0 I0 ?_
 refine oA (sp_move (.tmp 22) (iv (j + 1 : Nat)) rfl) I0 ?_
 refine kN 27 [(1, .row true 54 2 (L.length + 1) ((L ++ [tR rs[j]]).flatMap cRo)), (2, .box 54 (cRo rs[j])), (3, .box 54 [.fr (intsA ((tR rs[j]).1)), iv ((tR rs[j]).2)])] [(2, .v (.slice none 0 0)), (3, .own 1), (5, .box 2 0), (6, .box 3 0), (7, slA 2 cRo rs), (8, iv rs.length), (9, iv (j + 1 : Nat)), (10, bv true), (17, bv true)] ?_
 refine t_then ?_
 refine tri_again ⟨(j + 1, L ++ [tR rs[j]]), by dsimp only; omega, by rw [tgs_yes (by omega) hs2f, ← hL], by rw [List.length_append]; dsimp only [List.length]; omega⟩ (show rs.length - (j + 1) < rs.length - j by omega) ?_
 show Wk _ _ (ofL [(1, .row true 54 2 ((L ++ [tR rs[j]]).length) ((L ++ [tR rs[j]]).flatMap cRo))]) (ofT 27 [(2, .v (.slice none 0 0)), (3, .own 1), (7, slA 2 cRo rs), (8, iv rs.length), (9, iv ((j + 1) : Nat))])
 rw [List.length_append]
 exact wk_keep _ _ rfl (by kernel_rfl) (by kernel_rfl)
 refine tri_region ?_
 refine oC (sp_lss rfl (dF hs1)) I0 I0 ?_
 refine kN 27 [(1, .row true 54 2 L.length (L.flatMap cRo))] [(2, .v (.slice none 0 0)), (3, .own 1), (7, slA 2 cRo rs), (8, iv rs.length), (9, iv j), (10, bv false)] ?_
 refine t_then ?_
 refine tri_seq ?_
 refine t_condF rfl ?_
 refine tri_exit ?_
 refine t_then_exit ?_
 refine t_then_exit ?_
 refine t_hit ?_
 refine t_then ?_
 refine tri_seq ?_
 refine tri_region ?_
 refine oA (sp_move (.tmp 3) (.own 1) rfl) I0 ?_
 refine t_op rfl (sp_sortRo (c := .func 124) (x := .tmp 23) (y := .func 125) (e := 54) (n := L.length) (k := 1) (fr := true) (ds := L) rfl (hL ▸ tgs_ok fun x hx => H.rows x (List.mem_of_mem_take hx)) (by omega)) ⟨I0, I0, I0, T0⟩ ⟨rfl, T0⟩ rfl ?_
 refine kN 27 [(1, .row true 54 2 L.length ((srt L).flatMap cRo))] [(2, .v (.slice none 0 0)), (3, .own 1)] ?_
 refine t_then ?_
 refine tri_seq ?_
 refine tri_region ?_
 refine oA (sp_move (.tmp 3) (.own 1) rfl) I0 ?_
 refine t_op rfl (sp_compactRo (c := .func 126) (x := .tmp 25) (y := .func 127) (e := 54) (n := L.length) (k := 1) (fr := true) (ds := srt L) rfl (srt_ok (hL ▸ tgs_ok fun x hx => H.rows x (List.mem_of_mem_take hx))) (by rw [srt_len]; omega) (m := (cmpt (srt L)).length) rfl) ⟨I0, I0, I0, T0⟩ ⟨rfl, T0⟩ rfl ?_
 refine oA (sp_assign (.tmp 26) (.own 1) rfl) I0 ?_
 refine kN 27 [(1, .row true 54 2 ((cmpt (srt L)).length) ((cmpt (srt L)).flatMap cRo))] [(2, .own 1)] ?_
 refine t_then ?_
 refine tri_ret ?_
 have hk : j = rs.length := by omega
 have hL2 : L = tgs rs := by rw [hL, hk, List.take_length]
 subst hL2
 refine tri_give1 1 Tryd.results69 (.tmp rfl) rfl rfl
end Go.Proofs.YtpadmggccpgajaaDoor
