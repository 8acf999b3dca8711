/-
  WHAT THE SMALL FUNCTIONS ON NUMBERS, ROWS AND POINTS RETURN: for all arguments that read as data; what was there stays as it was.
-/
import Derived.Test.YtbdnihjokndhaaaDoorProg
import Derived.Test.YtbdnihjokndhaaaDoorBase
import Derived.WalkSpells
import Derived.WalkLawsBesides
import Derived.Deep.QuietTactic
import Derived.BigQuiet
namespace Go.Proofs.YtbdnihjokndhaaaDoor
open Go.RowKit

/-- A small number, a coordinate: as tests. -/
def smB (n : Int) : Bool := decide (-68719476736 ≤ n) && decide (n ≤ 68719476736)
def coB (n : Int) : Bool := decide (0 ≤ n) && decide (n ≤ 1048576)
theorem smB_true {n : Int} : smB n = true ↔ -68719476736 ≤ n ∧ n ≤ 68719476736 := by simp [smB]
theorem coB_true {n : Int} : coB n = true ↔ 0 ≤ n ∧ n ≤ 1048576 := by simp [coB]

theorem take_all {p : Int → Bool} {xs : List Int} {k : Nat} (h : k < xs.length) (hk : (xs.take k).all p = true) (hp : p xs[k] = true) : (xs.take (k + 1)).all p = true := by
  rw [List.take_succ_eq_append_getElem h, List.all_append, hk]; simp [hp]
theorem all_no {p : Int → Bool} {xs : List Int} {k : Nat} (h : k < xs.length) (hp : p xs[k] = false) : xs.all p = false := by
  rw [List.all_eq_false]; exact ⟨xs[k], List.getElem_mem h, by simp [hp]⟩
theorem all_take {p : Int → Bool} {xs : List Int} {k : Nat} (h : k = xs.length) (hk : (xs.take k).all p = true) : xs.all p = true := by
  rw [← List.take_of_length_le (by omega : xs.length ≤ k)]; exact hk

theorem long_any (a : Option Addr) (n cap : Nat) (c : Int) (w : World) :
    Calls Tryd.prog 12 #[.agg #[.slice a n cap, .int .i64 c]] w fun e w' => e = .returned (.bool (decide (200 < (n : Int)))) ∧ Below w.heap.size w w' := by
  go_enter Tryd.func12, Tryd.ntmps12
  go_wp2
  go_ret
  exact ⟨rfl, allocBelow _ _⟩

theorem smallNumber_any (n : Int) (w : World) :
    Calls Tryd.prog 54 #[.int .i64 n] w fun e w' => e = .returned (.bool (smB n)) ∧ w = w' := by
  have e : Hid (smB n = (decide (-68719476736 ≤ n) && decide (n ≤ 68719476736))) := (rfl : smB n = _)
  by_cases h1 : -68719476736 ≤ n
  · by_cases h2 : n ≤ 68719476736
    · go_enter Tryd.func54, Tryd.ntmps54
      go_wp2
      go_ret
      exact ⟨ret_bool (by rw [e.out]; simp; omega), rfl⟩
    · go_enter Tryd.func54, Tryd.ntmps54
      go_wp2
      go_ret
      exact ⟨ret_bool (by rw [e.out]; simp; omega), rfl⟩
  · go_enter Tryd.func54, Tryd.ntmps54
    go_wp2
    go_ret
    exact ⟨ret_bool (by rw [e.out]; simp; omega), rfl⟩


set_option maxHeartbeats 400000 in
theorem small_full (b off n cap : Nat) (c : Int) (w : World) (xs : List Int) (hx : xs.length = n) (hn : n ≤ 9223372036854775807) (hb : b < w.heap.size)
    (hc : ∀ i, i < n → w.cell? ⟨b, off + i, none⟩ = some (.int .i64 (xs.getD i 0))) :
    Calls Tryd.prog 42 #[.agg #[.slice (some ⟨b, off, none⟩) n cap, .int .i64 c]] w fun e w' => e = .returned (.bool (xs.all smB && smB c)) ∧ Below w.heap.size w w' := by
  go_enter Tryd.func42, Tryd.ntmps42
  go_wp2_with fail
  go_loop [8] (fun v => ∃ k : Nat, k ≤ n ∧ v = .int .i64 k ∧ (xs.take k).all smB = true) (fun v => n - (intOf v).toNat)
  case atStart => exact ⟨0, Nat.zero_le _, rfl, rfl⟩
  case round =>
    obtain ⟨k, hk, rfl, hall⟩ := hrel
    have HA : Hid ((xs.take k).all smB = true) := hall
    clear hall
    by_cases h1 : k < n
    · have g1 : (w.alloc (.cells #[.slice (some ⟨b, off, none⟩) n cap, .int .i64 c] 24)).cell? ⟨b, off + k, none⟩ = some (.int .i64 (xs.getD k 0)) := (World.cell?_alloc_past _ _ _ (by simpa using hb)).trans (hc k h1)
      go_wp2_with (go_at_call 54; refine (smallNumber_any _ _).mono ?_; rintro e w' ⟨rfl, rfl⟩)
      · have hp : (!smB xs[k]) = true := by assumption
        go_ret
        exact ⟨ret_bool (by rw [all_no (k := k) (by omega) (by simpa using hp)]; rfl), allocBelow _ _⟩
      · have hp : (!smB xs[k]) = false := by assumption
        go_round
        case rel => exact ⟨k + 1, by omega, by go_num, take_all (by omega) HA.out (by simpa using hp)⟩
        case measure => simp [intOf]; omega
    · go_wp2_with (go_at_call 54; refine (smallNumber_any _ _).mono ?_; rintro e w' ⟨rfl, rfl⟩)
      go_ret
      exact ⟨ret_bool (by rw [all_take (by omega) HA.out]; rfl), allocBelow _ _⟩

theorem small_empty (a : Option Addr) (cap : Nat) (c : Int) (w : World) :
    Calls Tryd.prog 42 #[.agg #[.slice a 0 cap, .int .i64 c]] w fun e w' => e = .returned (.bool (([] : List Int).all smB && smB c)) ∧ Below w.heap.size w w' := by
  go_enter Tryd.func42, Tryd.ntmps42
  go_wp2_with fail
  refine wp_loop_rounds 1 ?_
  rw [rounds_succ]
  go_wp2_with (go_at_call 54; refine (smallNumber_any _ _).mono ?_; rintro e w' ⟨rfl, rfl⟩)
  go_ret
  exact ⟨ret_bool rfl, allocBelow _ _⟩

/-- Every number of a row is small. -/
def smR (r : List Int × Int) : Bool := r.1.all smB && smB r.2
theorem smR_true {xs : List Int} {c : Int} : smR (xs, c) = true ↔ xs.all smB = true ∧ smB c = true := by simp [smR]

theorem small_any {lo : Nat} {w : World} {v : Value} {xs : List Int} (c : Int) (h : IsInts lo w v xs) :
    Calls Tryd.prog 42 #[.agg #[v, .int .i64 c]] w fun e w' => e = .returned (.bool (smR (xs, c))) ∧ Below w.heap.size w w' := by
  obtain ⟨a, cap, rfl, hl, hm, hi, hc⟩ := h
  unfold maxLen at hm
  rcases hc with rfl | ⟨b, off, rfl, _, hb, hc⟩
  · exact small_empty _ _ _ _
  · exact small_full _ _ _ _ _ _ _ rfl (by omega) hb hc

theorem isCoordinate_any (n : Int) (w : World) :
    Calls Tryd.prog 79 #[.int .i64 n] w fun e w' => e = .returned (.bool (coB n)) ∧ w = w' := by
  have e : Hid (coB n = (decide (0 ≤ n) && decide (n ≤ 1048576))) := (rfl : coB n = _)
  by_cases h1 : 0 ≤ n
  · by_cases h2 : n ≤ 1048576
    · go_enter Tryd.func79, Tryd.ntmps79
      go_wp2
      go_ret
      exact ⟨ret_bool (by rw [e.out]; simp; omega), rfl⟩
    · go_enter Tryd.func79, Tryd.ntmps79
      go_wp2
      go_ret
      exact ⟨ret_bool (by rw [e.out]; simp; omega), rfl⟩
  · go_enter Tryd.func79, Tryd.ntmps79
    go_wp2
    go_ret
    exact ⟨ret_bool (by rw [e.out]; simp; omega), rfl⟩

set_option maxHeartbeats 400000 in
theorem isPoint_full (b off n cap : Nat) (w : World) (xs : List Int) (hx : xs.length = n) (hn : n ≤ 9223372036854775807)
    (hc : ∀ i, i < n → w.cell? ⟨b, off + i, none⟩ = some (.int .i64 (xs.getD i 0))) :
    Calls Tryd.prog 45 #[.slice (some ⟨b, off, none⟩) n cap] w fun e w' => e = .returned (.bool (xs.all coB)) ∧ w = w' := by
  go_enter Tryd.func45, Tryd.ntmps45
  go_wp2_with fail
  go_loop [7] (fun v => ∃ k : Nat, k ≤ n ∧ v = .int .i64 k ∧ (xs.take k).all coB = true) (fun v => n - (intOf v).toNat)
  case atStart => exact ⟨0, Nat.zero_le _, rfl, rfl⟩
  case round =>
    obtain ⟨k, hk, rfl, hall⟩ := hrel
    have HA : Hid ((xs.take k).all coB = true) := hall
    clear hall
    by_cases h1 : k < n
    · have g1 : w.cell? ⟨b, off + k, none⟩ = some (.int .i64 (xs.getD k 0)) := hc k h1
      go_wp2_with (go_at_call 79; refine (isCoordinate_any _ _).mono ?_; rintro e w' ⟨rfl, rfl⟩)
      · have hp : (!coB xs[k]) = true := by assumption
        go_ret
        exact ⟨ret_bool (by rw [all_no (k := k) (by omega) (by simpa using hp)]), rfl⟩
      · have hp : (!coB xs[k]) = false := by assumption
        go_round
        case rel => exact ⟨k + 1, by omega, by go_num, take_all (by omega) HA.out (by simpa using hp)⟩
        case measure => simp [intOf]; omega
    · go_wp2_with (go_at_call 79; refine (isCoordinate_any _ _).mono ?_; rintro e w' ⟨rfl, rfl⟩)
      go_ret
      exact ⟨ret_bool (by rw [all_take (by omega) HA.out]), rfl⟩

theorem isPoint_empty (a : Option Addr) (cap : Nat) (w : World) :
    Calls Tryd.prog 45 #[.slice a 0 cap] w fun e w' => e = .returned (.bool (([] : List Int).all coB)) ∧ w = w' := by
  go_enter Tryd.func45, Tryd.ntmps45
  go_wp2_with fail
  refine wp_loop_rounds 1 ?_
  rw [rounds_succ]
  go_wp2_with fail
  go_ret
  exact ⟨ret_bool rfl, rfl⟩

theorem isPoint_any {lo : Nat} {w : World} {v : Value} {xs : List Int} (h : IsInts lo w v xs) :
    Calls Tryd.prog 45 #[v] w fun e w' => e = .returned (.bool (xs.all coB)) ∧ w = w' := by
  obtain ⟨a, cap, rfl, hl, hm, hi, hc⟩ := h
  unfold maxLen at hm
  rcases hc with rfl | ⟨b, off, rfl, _, hb, hc⟩
  · exact isPoint_empty _ _ _
  · exact isPoint_full _ _ _ _ _ _ rfl (by omega) hc

/-- The value of a row at a point. -/
def dot : List Int → List Int → Int
  | x :: xs, y :: ys => x * y + dot xs ys
  | _, _ => 0
theorem dot_snoc : ∀ (xs ys : List Int) (k : Nat) (h : k < xs.length) (h' : k < ys.length), dot (xs.take (k + 1)) (ys.take (k + 1)) = dot (xs.take k) (ys.take k) + xs[k] * ys[k]
  | x :: xs, y :: ys, 0, _, _ => by simp [dot]
  | x :: xs, y :: ys, k + 1, h, h' => by
    have := dot_snoc xs ys k (by simpa using h) (by simpa using h')
    simp only [List.take_succ_cons, dot, List.getElem_cons_succ]
    omega
theorem mul_le {x y : Int} (hx : smB x = true) (hy : coB y = true) : -72057594037927936 ≤ x * y ∧ x * y ≤ 72057594037927936 := by
  rw [smB_true] at hx
  rw [coB_true] at hy
  obtain ⟨a, b⟩ := hx
  obtain ⟨c, d⟩ := hy
  constructor
  · have h1 : -68719476736 * y ≤ x * y := Int.mul_le_mul_of_nonneg_right a c
    omega
  · have h1 : x * y ≤ 68719476736 * y := Int.mul_le_mul_of_nonneg_right b c
    omega
theorem dot_le : ∀ (xs ys : List Int) (k : Nat), xs.all smB = true → ys.all coB = true → -72057594037927936 * k ≤ dot (xs.take k) (ys.take k) ∧ dot (xs.take k) (ys.take k) ≤ 72057594037927936 * k
  | _, _, 0, _, _ => by simp [dot]
  | [], _, k + 1, _, _ => by simp [dot]; omega
  | x :: xs, [], k + 1, _, _ => by simp [dot]; omega
  | x :: xs, y :: ys, k + 1, h, h' => by
    simp only [List.all_cons, Bool.and_eq_true] at h h'
    have := dot_le xs ys k h.2 h'.2
    have := mul_le h.1 h'.1
    simp only [List.take_succ_cons, dot]
    omega

set_option maxHeartbeats 400000 in
theorem valueAt_full (b off n cap b' off' cap' : Nat) (c : Int) (w : World) (xs ys : List Int) (hx : xs.length = n) (hy : ys.length = n) (hn : n ≤ 96) (hb : b < w.heap.size) (hb' : b' < w.heap.size)
    (hs : xs.all smB = true) (hs' : ys.all coB = true) (hsc : smB c = true)
    (hc : ∀ i, i < n → w.cell? ⟨b, off + i, none⟩ = some (.int .i64 (xs.getD i 0))) (hc' : ∀ i, i < n → w.cell? ⟨b', off' + i, none⟩ = some (.int .i64 (ys.getD i 0))) :
    Calls Tryd.prog 46 #[.agg #[.slice (some ⟨b, off, none⟩) n cap, .int .i64 c], .slice (some ⟨b', off', none⟩) n cap'] w fun e w' => e = .returned (.int .i64 (c + dot xs ys)) ∧ Below w.heap.size w w' := by
  go_enter Tryd.func46, Tryd.ntmps46
  go_wp2_with fail
  go_loop [5, 13] (fun u v => ∃ k : Nat, k ≤ n ∧ v = .int .i64 k ∧ u = .int .i64 (c + dot (xs.take k) (ys.take k))) (fun _ v => n - (intOf v).toNat)
  case atStart => exact ⟨0, Nat.zero_le _, rfl, by simp [dot]⟩
  case round =>
    obtain ⟨k, hk, rfl, rfl⟩ := hrel
    by_cases h1 : k < n
    · have g1 : (w.alloc (.cells #[.slice (some ⟨b, off, none⟩) n cap, .int .i64 c] 24)).cell? ⟨b, off + k, none⟩ = some (.int .i64 (xs.getD k 0)) := (World.cell?_alloc_past _ _ _ (by simpa using hb)).trans (hc k h1)
      have g2 : (w.alloc (.cells #[.slice (some ⟨b, off, none⟩) n cap, .int .i64 c] 24)).cell? ⟨b', off' + k, none⟩ = some (.int .i64 (ys.getD k 0)) := (World.cell?_alloc_past _ _ _ (by simpa using hb')).trans (hc' k h1)
      have d0 := dot_le xs ys k hs hs'
      have d1 := dot_le xs ys (k + 1) hs hs'
      have d2 := dot_snoc xs ys k (by omega) (by omega)
      have d3 := mul_le (List.all_eq_true.1 hs _ (List.getElem_mem (by omega : k < xs.length))) (List.all_eq_true.1 hs' _ (List.getElem_mem (by omega : k < ys.length)))
      rw [smB_true] at hsc
      have HD : Hid (c + dot (xs.take (k + 1)) (ys.take (k + 1)) = c + dot (xs.take k) (ys.take k) + xs[k] * ys[k]) := by show _ = _; omega
      have b1 : -9223372036854775808 ≤ c + dot (xs.take k) (ys.take k) + xs[k] * ys[k] := by omega
      have b2 : c + dot (xs.take k) (ys.take k) + xs[k] * ys[k] ≤ 9223372036854775807 := by omega
      clear d1 d2 hs hs'
      go_wp2
      go_round
      case rel => exact ⟨k + 1, by omega, by go_num, by rw [HD.out]⟩
      case measure => simp [intOf]; omega
    · have e1 : Hid (xs.take k = xs) := List.take_of_length_le (by omega)
      have e2 : Hid (ys.take k = ys) := List.take_of_length_le (by omega)
      go_wp2
      go_ret
      exact ⟨ret_int (by rw [e1.out, e2.out]), allocBelow _ _⟩

theorem valueAt_empty (a a' : Option Addr) (cap cap' : Nat) (c : Int) (w : World) :
    Calls Tryd.prog 46 #[.agg #[.slice a 0 cap, .int .i64 c], .slice a' 0 cap'] w fun e w' => e = .returned (.int .i64 (c + dot [] [])) ∧ Below w.heap.size w w' := by
  go_enter Tryd.func46, Tryd.ntmps46
  go_wp2_with fail
  refine wp_loop_rounds 1 ?_
  rw [rounds_succ]
  go_wp2_with fail
  go_ret
  exact ⟨ret_int (by simp [dot]), allocBelow _ _⟩

theorem valueAt_any {lo lo' : Nat} {w : World} {v v' : Value} {xs ys : List Int} (c : Int) (h : IsInts lo w v xs) (h' : IsInts lo' w v' ys) (hl : xs.length = ys.length) (hn : xs.length ≤ 96)
    (hs : xs.all smB = true) (hs' : ys.all coB = true) (hsc : smB c = true) :
    Calls Tryd.prog 46 #[.agg #[v, .int .i64 c], v'] w fun e w' => e = .returned (.int .i64 (c + dot xs ys)) ∧ Below w.heap.size w w' := by
  obtain ⟨a, cap, rfl, _, _, _, hc⟩ := h
  obtain ⟨a', cap', rfl, _, _, _, hc'⟩ := h'
  rcases hc with rfl | ⟨b, off, rfl, _, hb, hc⟩
  · obtain rfl : ys = [] := List.eq_nil_of_length_eq_zero (by simpa using hl.symm)
    exact valueAt_empty _ _ _ _ _ _
  · rcases hc' with rfl | ⟨b', off', rfl, _, hb', hc'⟩
    · obtain rfl : xs = [] := List.eq_nil_of_length_eq_zero (by simpa using hl)
      exact valueAt_empty _ _ _ _ _ _
    · rw [← hl] at hc' ⊢
      exact valueAt_full _ _ _ _ _ _ _ _ _ _ _ rfl hl.symm hn hb hb' hs hs' hsc hc hc'

/-- What Value returns. -/
def valE (xs ys : List Int) (c : Int) : Int := if xs.length ≠ ys.length ∨ 96 < xs.length ∨ ys.all coB = false then 1 else if smR (xs, c) = false then 4 else 0
def valN (xs ys : List Int) (c : Int) : Int := if valE xs ys c = 0 then c + dot xs ys else 0

set_option maxHeartbeats 400000 in
theorem Value_any {lo lo' : Nat} {w : World} {v v' : Value} {xs ys : List Int} (c : Int) (h : IsInts lo w v xs) (h' : IsInts lo' w v' ys) :
    Calls Tryd.prog 17 #[.agg #[v, .int .i64 c], v'] w fun e w' => e = .returned (.tuple #[.int .i64 (valN xs ys c), .int .i64 (valE xs ys c)]) ∧ Below w.heap.size w w' := by
  have H := h
  have H' := h'
  obtain ⟨a, cap, rfl, _, hm, _, _⟩ := h
  obtain ⟨a', cap', rfl, _, hm', _, _⟩ := h'
  unfold maxLen at hm hm'
  have E : Hid (valE xs ys c = if xs.length ≠ ys.length ∨ 96 < xs.length ∨ ys.all coB = false then 1 else if smR (xs, c) = false then 4 else 0) := (rfl : valE xs ys c = _)
  have V : Hid (valN xs ys c = if valE xs ys c = 0 then c + dot xs ys else 0) := (rfl : valN xs ys c = _)
  by_cases h1 : xs.length = ys.length
  · by_cases h2 : 96 < xs.length
    · have e1 : valE xs ys c = 1 := by rw [E.out, if_pos (by omega)]
      have e2 : valN xs ys c = 0 := by rw [V.out, e1]; rfl
      have h3 : ¬ ((xs.length : Int) ≠ ys.length) := by omega
      rw [e1, e2]
      clear E V e1 e2 h1 H H'
      go_enter Tryd.func17, Tryd.ntmps17
      go_wp2_with fail
      go_ret2
      exact ⟨rfl, allocBelow _ _⟩
    · cases hp : ys.all coB with
      | false =>
        have e1 : valE xs ys c = 1 := by rw [E.out, if_pos (by simp [hp])]
        have e2 : valN xs ys c = 0 := by rw [V.out, e1]; rfl
        rw [e1, e2]
        have h3 : ¬ ((xs.length : Int) ≠ ys.length) := by omega
        clear E V e1 e2 h1
        go_enter Tryd.func17, Tryd.ntmps17
        go_wp2_with (go_at_call 45; refine (isPoint_any (H'.below (allocBelow _ _))).mono ?_; rintro e w' ⟨rfl, rfl⟩)
        go_ret2
        exact ⟨rfl, allocBelow _ _⟩
      | true =>
        have h3 : ¬ ((xs.length : Int) ≠ ys.length) := by omega
        cases hs : smR (xs, c) with
        | false =>
          have e1 : valE xs ys c = 4 := by rw [E.out, if_neg (by simp [hp]; omega), if_pos hs]
          have e2 : valN xs ys c = 0 := by rw [V.out, e1]; rfl
          rw [e1, e2]
          clear E V e1 e2 h1
          go_enter Tryd.func17, Tryd.ntmps17
          go_wp2_with (first | (go_at_call 45; refine (isPoint_any (H'.below (allocBelow _ _))).mono ?_; rintro e w' ⟨rfl, rfl⟩) | (go_at_call 42; refine (small_any _ (H.below (allocBelow _ _))).mono ?_; rintro e w1 ⟨rfl, hb1⟩))
          go_ret2
          exact ⟨rfl, (allocBelow _ _).trans (hb1.mono (by simp))⟩
        | true =>
          have e1 : valE xs ys c = 0 := by rw [E.out, if_neg (by simp [hp]; omega), if_neg (by simp [hs])]
          have e2 : Hid (valN xs ys c = c + dot xs ys) := by show _ = _; rw [V.out, e1]; rfl
          rw [e1]
          obtain ⟨hs1, hs2⟩ := smR_true.1 hs
          have L : Hid (xs.length = ys.length) := h1
          have S1 : Hid (xs.all smB = true) := hs1
          have S2 : Hid (smB c = true) := hs2
          have S3 : Hid (ys.all coB = true) := hp
          clear E V e1 h1 hs1 hs2
          go_enter Tryd.func17, Tryd.ntmps17
          go_wp2_with (first | (go_at_call 45; refine (isPoint_any (H'.below (allocBelow _ _))).mono ?_; rintro e w' ⟨rfl, rfl⟩) | (go_at_call 42; refine (small_any _ (H.below (allocBelow _ _))).mono ?_; rintro e w1 ⟨rfl, hb1⟩; obtain ⟨hc1, hf1⟩ := bcell hb1) | (go_at_call 46; refine (valueAt_any _ ((H.below (allocBelow _ _)).below hb1) ((H'.below (allocBelow _ _)).below hb1) L.out (by omega) S1.out S3.out S2.out).mono ?_; rintro e w2 ⟨rfl, hb2⟩))
          go_ret2
          exact ⟨by rw [e2.out]; rfl, (allocBelow _ _).trans ((hb1.trans (hb2.mono hb1.size)).mono (by simp))⟩
  · have e1 : valE xs ys c = 1 := by rw [E.out, if_pos (by simp [h1])]
    have e2 : valN xs ys c = 0 := by rw [V.out, e1]; rfl
    have h3 : ((xs.length : Int) ≠ ys.length) := by omega
    rw [e1, e2]
    clear E V e1 e2 h1 H H'
    go_enter Tryd.func17, Tryd.ntmps17
    go_wp2_with fail
    go_ret2
    exact ⟨rfl, allocBelow _ _⟩
end Go.Proofs.YtbdnihjokndhaaaDoor
