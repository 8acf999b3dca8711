/-
  THE ORDER OF ROWS: the program's and the reference's Compare.
-/
import Derived.Test.YtbppooajhoejcaaDoorCopy
import Derived.Test.YtbppooajhoejcaaDoorHold
import Derived.Deep.RegionHeld3
namespace Go.Proofs.YtbppooajhoejcaaDoor
open Go.RowKit Go.Deep

/-- The order of numbers, of rows. -/
def cmpN (x y : Int) : Int := if x < y then -1 else if y < x then 1 else 0
def cmpR (r s : Rw) : Int := if cmpI r.1 s.1 ≠ 0 then cmpI r.1 s.1 else cmpN r.2 s.2

theorem cmpCompare_any (x y : Int) (w : World) : Calls Tryd.prog 43 #[.int .i64 x, .int .i64 y] w fun e w' => e = .returned (.int .i64 (cmpN x y)) ∧ w = w' := by
  have E : Hid (cmpN x y = if x < y then -1 else if y < x then 1 else 0) := (rfl : cmpN x y = _)
  by_cases h1 : x < y
  · go_enter Tryd.func43, Tryd.ntmps43
    go_wp2
    go_ret
    exact ⟨ret_int (by rw [E.out, if_pos (by omega)]), rfl⟩
  · by_cases h2 : y < x
    · go_enter Tryd.func43, Tryd.ntmps43
      go_wp2
      go_ret
      exact ⟨ret_int (by rw [E.out, if_neg (by omega), if_pos (by omega)]), rfl⟩
    · obtain rfl : x = y := by omega
      clear h1 h2
      go_enter Tryd.func43, Tryd.ntmps43
      go_wp2
      go_ret
      exact ⟨ret_int (by rw [E.out]; simp), rfl⟩

/-- The first that is not 0. -/
def orI (x y : Int) : Int := if x ≠ 0 then x else y
theorem cmpOr_two (b : Nat) (x y : Int) (w : World) (h0 : w.cell? ⟨b, 0, none⟩ = some (.int .i64 x)) (h1 : w.cell? ⟨b, 1, none⟩ = some (.int .i64 y)) :
    Calls Tryd.prog 41 #[.slice (some ⟨b, 0, none⟩) 2 2] w fun e w' => e = .returned (.int .i64 (orI x y)) ∧ w = w' := by
  by_cases hx : x = 0
  · subst hx
    by_cases hy : y = 0
    · subst hy
      go_enter Tryd.func41, Tryd.ntmps41
      go_wp2
      go_rounds 3
      go_ret
      exact ⟨rfl, rfl⟩
    · have hy' : (y != 0) = true := by simpa using hy
      rw [show orI 0 y = y from rfl]
      clear hy
      go_enter Tryd.func41, Tryd.ntmps41
      go_wp2
      go_rounds 3
      go_ret
      exact ⟨rfl, rfl⟩
  · have hx' : (x != 0) = true := by simpa using hx
    rw [show orI x y = x from if_pos hx]
    clear hx
    go_enter Tryd.func41, Tryd.ntmps41
    go_wp2
    go_rounds 3
    go_ret
    exact ⟨rfl, rfl⟩

set_option maxHeartbeats 800000 in
theorem sCompare_full (b off n cap b' off' n' cap' : Nat) (w : World) (xs ys : List Int) (hx : xs.length = n) (hy : ys.length = n') (hn : n ≤ 9223372036854775807)
    (hc : ∀ i, i < n → w.cell? ⟨b, off + i, none⟩ = some (.int .i64 (xs.getD i 0))) (hc' : ∀ i, i < n' → w.cell? ⟨b', off' + i, none⟩ = some (.int .i64 (ys.getD i 0))) :
    Calls Tryd.prog 42 #[.slice (some ⟨b, off, none⟩) n cap, .slice (some ⟨b', off', none⟩) n' cap'] w fun e w' => e = .returned (.int .i64 (cmpI xs ys)) ∧ w = w' := by
  go_enter Tryd.func42, Tryd.ntmps42
  go_wp2_with fail
  go_loop [11] (fun v => ∃ k : Nat, k ≤ n ∧ k ≤ n' ∧ v = .int .i64 k ∧ cmpI (xs.drop k) (ys.drop k) = cmpI xs ys) (fun v => n - (intOf v).toNat)
  case atStart => exact ⟨0, Nat.zero_le _, Nat.zero_le _, rfl, rfl⟩
  case round =>
    obtain ⟨k, hk, hk', rfl, hcm⟩ := hrel
    by_cases h1 : k < n
    · by_cases h2 : k < n'
      · have g1 := hc k h1
        have g2 := hc' k h2
        have HC : Hid (cmpI xs ys = (if xs[k]'(by omega) < ys[k]'(by omega) then -1 else if ys[k]'(by omega) < xs[k]'(by omega) then 1 else cmpI (xs.drop (k+1)) (ys.drop (k+1)))) := by
          show _ = _
          rw [← hcm, List.drop_eq_getElem_cons (l := xs) (by omega), List.drop_eq_getElem_cons (l := ys) (by omega), cmpI]
        clear hcm
        by_cases hlt : (xs[k]'(by omega)) < (ys[k]'(by omega))
        · have hN : cmpN (xs[k]'(by omega)) (ys[k]'(by omega)) = -1 := by simp [cmpN, hlt]
          have E : Hid (cmpI xs ys = -1) := by show _ = _; rw [HC.out, if_pos hlt]
          clear hlt
          go_wp2_with (go_at_call 43; refine (cmpCompare_any _ _ _).mono ?_; rintro e w' ⟨rfl, rfl⟩)
          go_ret
          exact ⟨ret_int E.out.symm, rfl⟩
        · by_cases hgt : (ys[k]'(by omega)) < (xs[k]'(by omega))
          · have hN : cmpN (xs[k]'(by omega)) (ys[k]'(by omega)) = 1 := by simp [cmpN, hlt, hgt]
            have E : Hid (cmpI xs ys = 1) := by show _ = _; rw [HC.out, if_neg hlt, if_pos hgt]
            clear hlt hgt
            go_wp2_with (go_at_call 43; refine (cmpCompare_any _ _ _).mono ?_; rintro e w' ⟨rfl, rfl⟩)
            go_ret
            exact ⟨ret_int E.out.symm, rfl⟩
          · have hN : cmpN (xs[k]'(by omega)) (ys[k]'(by omega)) = 0 := by simp [cmpN, hlt, hgt]
            have E : Hid (cmpI (xs.drop (k + 1)) (ys.drop (k + 1)) = cmpI xs ys) := by show _ = _; rw [HC.out, if_neg hlt, if_neg hgt]
            clear hlt hgt
            go_wp2_with (go_at_call 43; refine (cmpCompare_any _ _ _).mono ?_; rintro e w' ⟨rfl, rfl⟩)
            go_round
            case rel => exact ⟨k + 1, by omega, by omega, by go_num, E.out⟩
            case measure => simp [intOf]; omega
      · have hd : ys.drop k = [] := List.drop_eq_nil_of_le (by omega)
        have HC : Hid (cmpI xs ys = 1) := by
          show _ = _
          rw [← hcm, hd, List.drop_eq_getElem_cons (by omega), cmpI]
        have g1 := hc k h1
        have hlt : n' ≤ k := by omega
        clear hcm hd
        go_wp2_with fail
        go_ret
        exact ⟨ret_int HC.out.symm, rfl⟩
    · have hkn : k = n := by omega
      have hd : xs.drop k = [] := List.drop_eq_nil_of_le (by omega)
      by_cases h2 : n < n'
      · have HC : Hid (cmpI xs ys = -1) := by
          show _ = _
          rw [← hcm, hd, List.drop_eq_getElem_cons (by omega), cmpI]
        clear hcm hd hkn
        go_wp2_with fail
        go_ret
        exact ⟨ret_int HC.out.symm, rfl⟩
      · have HC : Hid (cmpI xs ys = 0) := by
          show _ = _
          rw [← hcm, hd, List.drop_eq_nil_of_le (by omega), cmpI]
        clear hcm hd hkn
        go_wp2_with fail
        go_ret
        exact ⟨ret_int HC.out.symm, rfl⟩

theorem sCompare_left (a a' : Option Addr) (cap n' cap' : Nat) (w : World) (ys : List Int) (hy : ys.length = n') :
    Calls Tryd.prog 42 #[.slice a 0 cap, .slice a' n' cap'] w fun e w' => e = .returned (.int .i64 (cmpI [] ys)) ∧ w = w' := by
  have HC : Hid (cmpI [] ys = if 0 < n' then -1 else 0) := by
    show _ = _
    cases ys <;> simp_all [cmpI] <;> omega
  by_cases h2 : 0 < n'
  · go_enter Tryd.func42, Tryd.ntmps42
    go_wp2_with fail
    go_rounds 1
    go_ret
    exact ⟨ret_int (by rw [HC.out, if_pos h2]), rfl⟩
  · obtain rfl : n' = 0 := by omega
    clear h2
    go_enter Tryd.func42, Tryd.ntmps42
    go_wp2_with fail
    go_rounds 1
    go_ret
    exact ⟨ret_int (by rw [HC.out]; rfl), rfl⟩
theorem sCompare_right (b off n cap cap' : Nat) (a' : Option Addr) (w : World) (x : Int) (xs : List Int) (hx : (x :: xs).length = n) (hn : n ≤ 9223372036854775807) (hc : w.cell? ⟨b, off, none⟩ = some (.int .i64 x)) :
    Calls Tryd.prog 42 #[.slice (some ⟨b, off, none⟩) n cap, .slice a' 0 cap'] w fun e w' => e = .returned (.int .i64 (cmpI (x :: xs) [])) ∧ w = w' := by
  have h2 : 0 < n := by simp at hx; omega
  clear hx
  go_enter Tryd.func42, Tryd.ntmps42
  go_wp2_with fail
  go_rounds 1
  go_ret
  exact ⟨rfl, rfl⟩
theorem sCompare_any {lo lo' : Nat} {w : World} {v v' : Value} {xs ys : List Int} (h : IsInts lo w v xs) (h' : IsInts lo' w v' ys) :
    Calls Tryd.prog 42 #[v, v'] w fun e w' => e = .returned (.int .i64 (cmpI xs ys)) ∧ w = w' := by
  obtain ⟨a, cap, rfl, hl, hm, hi, hc⟩ := h
  obtain ⟨a', cap', rfl, hl', hm', hi', hc'⟩ := h'
  unfold maxLen at hm hm'
  rcases hc with rfl | ⟨b, off, rfl, _, _, hc⟩
  · exact sCompare_left _ _ _ _ _ _ _ rfl
  · rcases hc' with rfl | ⟨b', off', rfl, _, _, hc'⟩
    · cases xs with
      | nil => exact sCompare_left _ _ _ _ _ _ _ rfl
      | cons x xs => exact sCompare_right _ _ _ _ _ _ _ _ _ rfl (by omega) (by simpa using hc 0 (by simp))
    · exact sCompare_full _ _ _ _ _ _ _ _ _ _ _ rfl rfl (by omega) hc hc'

set_option maxHeartbeats 800000 in
theorem Compare_any {lo lo' : Nat} {w : World} {v v' : Value} {xs ys : List Int} (c d : Int) (h : IsInts lo w v xs) (h' : IsInts lo' w v' ys) :
    Calls Tryd.prog 14 #[.agg #[v, .int .i64 c], .agg #[v', .int .i64 d]] w fun e w' => e = .returned (.int .i64 (cmpR (xs, c) (ys, d))) ∧ Below w.heap.size w w' := by
  have H := hid0 h
  have H' := hid0 h'
  obtain ⟨a, cap, rfl⟩ := h.shape
  obtain ⟨a', cap', rfl⟩ := h'.shape
  clear h h'
  go_enter Tryd.func14, Tryd.ntmps14
  go_wp2_with fail
  obtain ⟨W, hW⟩ : ∃ W, W = (w.alloc (.cells #[.slice a xs.length cap, .int .i64 c] 24)).alloc (.cells #[.slice a' ys.length cap', .int .i64 d] 24) := ⟨_, rfl⟩
  rw [← hW]
  have r0 : W.cell? ⟨w.heap.size, 0, none⟩ = some (.slice a xs.length cap) := by rw [hW]; simp
  have r1 : W.cell? ⟨w.heap.size, 1, none⟩ = some (.int .i64 c) := by rw [hW]; simp
  have s0 : W.cell? ⟨w.heap.size + 1, 0, none⟩ = some (.slice a' ys.length cap') := by rw [hW]; simp
  have s1 : W.cell? ⟨w.heap.size + 1, 1, none⟩ = some (.int .i64 d) := by rw [hW]; simp
  have HBW : Hid (Below w.heap.size w W) := by rw [hW]; show Below _ _ _; go_grown
  clear hW
  go_region_held3 (fun w' => w'.cell? ⟨w.heap.size, 0, none⟩ = some (.slice a xs.length cap) ∧ w'.cell? ⟨w.heap.size, 1, none⟩ = some (.int .i64 c) ∧ w'.cell? ⟨w.heap.size + 1, 0, none⟩ = some (.slice a' ys.length cap') ∧ w'.cell? ⟨w.heap.size + 1, 1, none⟩ = some (.int .i64 d) ∧ Below W.heap.size W w') (first | exact ⟨r0, r1, s0, s1, Below.refl _ _⟩ | exact keepF ⟨r0, r1, s0, s1, Below.refl _ _⟩ (drewBelow _) | assumption | exact keepF (by assumption) (allocBelow _ _)) (first | (go_at_call 42; refine (sCompare_any (H.out.below (thenBelow HBW.out (heldF (by assumption)))) (H'.out.below (thenBelow HBW.out (heldF (by assumption))))).mono ?_; rintro e w' ⟨rfl, rfl⟩) | (go_at_call 43; refine (cmpCompare_any _ _ _).mono ?_; rintro e w' ⟨rfl, rfl⟩) | (go_at_call 41; refine (cmpOr_two _ (cmpI xs ys) (cmpN c d) _ (new_cell _ _ _ _ rfl) (new_cell _ _ _ _ rfl)).mono ?_; rintro e w' ⟨rfl, rfl⟩))
  have hE := heldF (by assumption : _ ∧ _ ∧ _ ∧ _ ∧ Below W.heap.size W _)
  go_wp2_with fail
  go_ret
  exact ⟨rfl, thenBelow HBW.out hE⟩

set_option maxHeartbeats 800000 in
theorem rCompare_any {lo lo' : Nat} {w : World} {v v' : Value} {xs ys : List Int} (c d : Int) (h : IsInts lo w v xs) (h' : IsInts lo' w v' ys) :
    Calls Tryd.prog 15 #[.agg #[v, .int .i64 c], .agg #[v', .int .i64 d]] w fun e w' => e = .returned (.int .i64 (cmpR (xs, c) (ys, d))) ∧ Below w.heap.size w w' := by
  have H := hid0 h
  have H' := hid0 h'
  obtain ⟨a, cap, rfl⟩ := h.shape
  obtain ⟨a', cap', rfl⟩ := h'.shape
  clear h h'
  have E : Hid (cmpR (xs, c) (ys, d) = if cmpI xs ys ≠ 0 then cmpI xs ys else cmpN c d) := (rfl : cmpR (xs, c) (ys, d) = _)
  by_cases h0 : cmpI xs ys = 0
  · have E0 : Hid (cmpR (xs, c) (ys, d) = cmpN c d) := by show _ = _; rw [E.out, if_neg (by simp [h0])]
    have h0' : (cmpI xs ys != 0) = false := by simp [h0]
    clear h0
    have EN : Hid (cmpN c d = if c < d then -1 else if d < c then 1 else 0) := (rfl : cmpN c d = _)
    by_cases h1 : c < d
    · go_enter Tryd.func15, Tryd.ntmps15
      go_wp2_with (go_at_call 44; refine (cmpInts_any (H.out.below (by go_grown)) (H'.out.below (by go_grown))).mono ?_; rintro e w1 ⟨rfl, hb1⟩; have hB1 : Below w.heap.size w w1 := (Below.trans (by go_grown) (hb1.mono (by go_size))); obtain ⟨p1, p2⟩ := blk hb1 (n := w.heap.size) (by go_size); obtain ⟨p3, p4⟩ := blk hb1 (n := w.heap.size + 1) (by go_size))
      have y0 : w1.cell? ⟨w.heap.size, 1, none⟩ = some (.int .i64 c) := by rw [p1]; simp
      have y1 : w1.cell? ⟨w.heap.size + 1, 1, none⟩ = some (.int .i64 d) := by rw [p3]; simp
      (try (go_quiet (fail); go_wp2_with fail))
      go_ret
      exact ⟨ret_int (by rw [E0.out, EN.out, if_pos (by omega)]), (by (repeat refine quietBelow ?_ _); exact hB1)⟩
    · by_cases h2 : d < c
      · go_enter Tryd.func15, Tryd.ntmps15
        go_wp2_with (go_at_call 44; refine (cmpInts_any (H.out.below (by go_grown)) (H'.out.below (by go_grown))).mono ?_; rintro e w1 ⟨rfl, hb1⟩; have hB1 : Below w.heap.size w w1 := (Below.trans (by go_grown) (hb1.mono (by go_size))); obtain ⟨p1, p2⟩ := blk hb1 (n := w.heap.size) (by go_size); obtain ⟨p3, p4⟩ := blk hb1 (n := w.heap.size + 1) (by go_size))
        have y0 : w1.cell? ⟨w.heap.size, 1, none⟩ = some (.int .i64 c) := by rw [p1]; simp
        have y1 : w1.cell? ⟨w.heap.size + 1, 1, none⟩ = some (.int .i64 d) := by rw [p3]; simp
        (try (go_quiet (fail); go_wp2_with fail))
        (try (go_quiet (fail); go_wp2_with fail))
        go_ret
        exact ⟨ret_int (by rw [E0.out, EN.out, if_neg (by omega), if_pos (by omega)]), (by (repeat refine quietBelow ?_ _); exact hB1)⟩
      · go_enter Tryd.func15, Tryd.ntmps15
        go_wp2_with (go_at_call 44; refine (cmpInts_any (H.out.below (by go_grown)) (H'.out.below (by go_grown))).mono ?_; rintro e w1 ⟨rfl, hb1⟩; have hB1 : Below w.heap.size w w1 := (Below.trans (by go_grown) (hb1.mono (by go_size))); obtain ⟨p1, p2⟩ := blk hb1 (n := w.heap.size) (by go_size); obtain ⟨p3, p4⟩ := blk hb1 (n := w.heap.size + 1) (by go_size))
        have y0 : w1.cell? ⟨w.heap.size, 1, none⟩ = some (.int .i64 c) := by rw [p1]; simp
        have y1 : w1.cell? ⟨w.heap.size + 1, 1, none⟩ = some (.int .i64 d) := by rw [p3]; simp
        (try (go_quiet (fail); go_wp2_with fail))
        (try (go_quiet (fail); go_wp2_with fail))
        go_ret
        exact ⟨ret_int (by rw [E0.out, EN.out, if_neg (by omega), if_neg (by omega)]), (by (repeat refine quietBelow ?_ _); exact hB1)⟩
  · have E0 : Hid (cmpR (xs, c) (ys, d) = cmpI xs ys) := by show _ = _; rw [E.out, if_pos h0]
    have h0' : (cmpI xs ys != 0) = true := by simpa using h0
    clear h0
    go_enter Tryd.func15, Tryd.ntmps15
    go_wp2_with (go_at_call 44; refine (cmpInts_any (H.out.below (by go_grown)) (H'.out.below (by go_grown))).mono ?_; rintro e w1 ⟨rfl, hb1⟩; have hB1 : Below w.heap.size w w1 := (Below.trans (by go_grown) (hb1.mono (by go_size))); obtain ⟨p1, p2⟩ := blk hb1 (n := w.heap.size) (by go_size); obtain ⟨p3, p4⟩ := blk hb1 (n := w.heap.size + 1) (by go_size))
    go_ret
    exact ⟨ret_int E0.out.symm, hB1⟩
end Go.Proofs.YtbppooajhoejcaaDoor
