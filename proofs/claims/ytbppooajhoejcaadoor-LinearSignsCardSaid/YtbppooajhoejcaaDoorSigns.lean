/-
  WHICH ROWS ARE CONTRADICTORY AND WHICH ARE TRIVIAL: the program's and the reference's functions.
-/
import Derived.Test.YtbppooajhoejcaaDoorRefSys
namespace Go.Proofs.YtbppooajhoejcaaDoor
open Go.RowKit Go.Deep

def posB (x : Int) : Bool := decide (0 < x)
def negB (x : Int) : Bool := decide (x < 0)
/-- The row fails everywhere, the row holds everywhere, for a plain reason. -/
def conB (xs : List Int) (c : Int) : Bool := decide (c < 0) && !xs.any posB
def triB (xs : List Int) (c : Int) : Bool := decide (0 ≤ c) && !xs.any negB

theorem isPositive_any (x : Int) (w : World) : Calls Tryd.prog 47 #[.int .i64 x] w fun e w' => e = .returned (.bool (posB x)) ∧ w = w' := by
  have E : Hid (posB x = decide (0 < x)) := (rfl : posB x = _)
  by_cases h : 0 < x
  · go_enter Tryd.func47, Tryd.ntmps47
    go_wp2
    go_ret
    exact ⟨ret_bool (by rw [E.out]; symm; first | (rw [decide_eq_true_iff]; omega) | (rw [decide_eq_false_iff_not]; omega)), rfl⟩
  · go_enter Tryd.func47, Tryd.ntmps47
    go_wp2
    go_ret
    exact ⟨ret_bool (by rw [E.out]; symm; first | (rw [decide_eq_true_iff]; omega) | (rw [decide_eq_false_iff_not]; omega)), rfl⟩

/-- Where the first such number stands, -1 if there is none. -/
theorem find_posB (xs : List Int) (k : Nat) (h : k < xs.length) (hp : posB xs[k] = true) : xs.any posB = true := List.any_eq_true.2 ⟨_, List.getElem_mem h, hp⟩

set_option maxHeartbeats 800000 in
theorem index_posB_full (b off n cap : Nat) (w : World) (xs : List Int) (hx : xs.length = n) (hn : n ≤ 9223372036854775807)
    (hc : ∀ i, i < n → w.cell? ⟨b, off + i, none⟩ = some (.int .i64 (xs.getD i 0))) :
    Calls Tryd.prog 74 #[.slice (some ⟨b, off, none⟩) n cap, .func (.func 47) #[] #[]] w fun e w' => ∃ r : Int, e = .returned (.int .i64 r) ∧ (decide (0 ≤ r) = xs.any posB) ∧ w = w' := by
  go_enter Tryd.func74, Tryd.ntmps74
  go_wp2_with fail
  go_loop [8] (fun v => ∃ k : Nat, k ≤ n ∧ v = .int .i64 k ∧ (xs.take k).any posB = false) (fun v => n - (intOf v).toNat)
  case atStart => exact ⟨0, Nat.zero_le _, rfl, rfl⟩
  case round =>
    obtain ⟨k, hk, rfl, hall⟩ := hrel
    have HA := hid0 hall
    clear hall
    by_cases h1 : k < n
    · have g1 : w.cell? ⟨b, off + k, none⟩ = some (.int .i64 (xs.getD k 0)) := hc k h1
      cases hp : posB (xs[k]'(by omega)) with
      | true =>
        have E := hid0 (find_posB xs k (by omega) hp)
        go_wp2_with (go_at_call 47; refine (isPositive_any _ _).mono ?_; rintro e w' ⟨rfl, rfl⟩)
        go_ret
        exact ⟨_, rfl, by rw [E.out]; simp, rfl⟩
      | false =>
        go_wp2_with (go_at_call 47; refine (isPositive_any _ _).mono ?_; rintro e w' ⟨rfl, rfl⟩)
        go_round
        case rel => exact ⟨k + 1, by omega, by go_num, by rw [List.take_succ_eq_append_getElem (by omega), List.any_append, HA.out]; simp [hp]⟩
        case measure => simp [intOf]; omega
    · have e1 : xs.take k = xs := List.take_of_length_le (by omega)
      have HA' : Hid (xs.any posB = false) := by rw [← e1]; exact HA.out
      clear e1
      go_wp2_with fail
      go_ret
      exact ⟨-1, rfl, by rw [HA'.out]; simp, rfl⟩
theorem index_posB_empty (a : Option Addr) (cap : Nat) (w : World) :
    Calls Tryd.prog 74 #[.slice a 0 cap, .func (.func 47) #[] #[]] w fun e w' => ∃ r : Int, e = .returned (.int .i64 r) ∧ (decide (0 ≤ r) = ([] : List Int).any posB) ∧ w = w' := by
  go_enter Tryd.func74, Tryd.ntmps74
  go_wp2_with fail
  refine wp_loop_rounds 1 ?_
  rw [rounds_succ]
  go_wp2_with fail
  go_ret
  exact ⟨-1, rfl, rfl, rfl⟩
theorem contains_posB {lo : Nat} {w : World} {v : Value} {xs : List Int} (h : IsInts lo w v xs) :
    Calls Tryd.prog 46 #[v, .func (.func 47) #[] #[]] w fun e w' => e = .returned (.bool (xs.any posB)) ∧ w = w' := by
  have hI : Calls Tryd.prog 74 #[v, .func (.func 47) #[] #[]] w fun e w' => ∃ r : Int, e = .returned (.int .i64 r) ∧ (decide (0 ≤ r) = xs.any posB) ∧ w = w' := by
    obtain ⟨a, cap, rfl, hl, hm, _, hc⟩ := h
    unfold maxLen at hm
    rcases hc with rfl | ⟨b, off, rfl, _, _, hc⟩
    · exact index_posB_empty _ _ _
    · exact index_posB_full _ _ _ _ _ _ rfl (by omega) hc
  obtain ⟨a, cap, rfl⟩ := h.shape
  have HI := hid0 hI
  clear hI h
  go_enter Tryd.func46, Tryd.ntmps46
  go_wp2_with (go_at_call 74; refine Calls.mono (show Calls _ _ _ _ _ from HI.out) ?_; rintro e w' ⟨r, rfl, hr, rfl⟩; have HR := hid0 hr; clear hr)
  go_ret
  exact ⟨ret_bool HR.out, rfl⟩

theorem Contradictory_any {lo : Nat} {w : World} {v : Value} {xs : List Int} (c : Int) (h : IsInts lo w v xs) :
    Calls Tryd.prog 17 #[.agg #[v, .int .i64 c]] w fun e w' => e = .returned (.bool (conB xs c)) ∧ Below w.heap.size w w' := by
  have H := hid0 h
  obtain ⟨a, cap, rfl⟩ := h.shape
  clear h
  by_cases hc : c < 0
  · have E : Hid (conB xs c = !xs.any posB) := by show _ = _; simp [conB, hc]
    go_enter Tryd.func17, Tryd.ntmps17
    go_wp2_with (go_at_call 46; refine (contains_posB (H.out.below (by go_grown))).mono ?_; rintro e w' ⟨rfl, rfl⟩)
    go_ret
    exact ⟨ret_bool E.out.symm, allocBelow _ _⟩
  · have E : Hid (conB xs c = false) := by show _ = _; simp [conB, hc]
    go_enter Tryd.func17, Tryd.ntmps17
    go_wp2_with fail
    go_ret
    exact ⟨ret_bool E.out.symm, allocBelow _ _⟩

set_option maxHeartbeats 400000 in
theorem rContradictory_full (b off n cap : Nat) (c : Int) (w : World) (xs : List Int) (hx : xs.length = n) (hn : n ≤ 9223372036854775807) (hb : b < w.heap.size)
    (hc : ∀ i, i < n → w.cell? ⟨b, off + i, none⟩ = some (.int .i64 (xs.getD i 0))) :
    Calls Tryd.prog 19 #[.agg #[.slice (some ⟨b, off, none⟩) n cap, .int .i64 c]] w fun e w' => e = .returned (.bool (conB xs c)) ∧ Below w.heap.size w w' := by
  have E1 : Hid (conB xs c = (decide (c < 0) && !xs.any posB)) := (rfl : conB xs c = _)
  go_enter Tryd.func19, Tryd.ntmps19
  go_wp2_with fail
  go_loop [3] (fun v => ∃ k : Nat, k ≤ n ∧ v = .int .i64 k ∧ (xs.take k).any posB = false) (fun v => n - (intOf v).toNat)
  case atStart => exact ⟨0, Nat.zero_le _, rfl, rfl⟩
  case round =>
    obtain ⟨k, hk, rfl, hall⟩ := hrel
    have HA := hid0 hall
    clear hall
    by_cases h1 : k < n
    · have g1 : (w.alloc (.cells #[.slice (some ⟨b, off, none⟩) n cap, .int .i64 c] 24)).cell? ⟨b, off + k, none⟩ = some (.int .i64 (xs.getD k 0)) := (World.cell?_alloc_past _ _ _ (by simpa using hb)).trans (hc k h1)
      by_cases hp : 0 < (xs[k]'(by omega))
      · have E := hid0 (find_posB xs k (by omega) (by simpa [posB] using hp))
        go_wp2_with fail
        go_ret
        exact ⟨ret_bool (by rw [E1.out, E.out]; simp), allocBelow _ _⟩
      · have hp' := hid0 hp
        go_wp2_with fail
        go_round
        case rel => exact ⟨k + 1, by omega, by go_num, by rw [List.take_succ_eq_append_getElem (by omega), List.any_append, HA.out]; simpa [posB] using hp'.out⟩
        case measure => simp [intOf]; omega
    · have e1 : xs.take k = xs := List.take_of_length_le (by omega)
      have HA' : Hid (xs.any posB = false) := by rw [← e1]; exact HA.out
      clear e1
      go_wp2_with fail
      go_ret
      exact ⟨ret_bool (by rw [E1.out, HA'.out]; simp), allocBelow _ _⟩
theorem rContradictory_empty (a : Option Addr) (cap : Nat) (c : Int) (w : World) :
    Calls Tryd.prog 19 #[.agg #[.slice a 0 cap, .int .i64 c]] w fun e w' => e = .returned (.bool (conB [] c)) ∧ Below w.heap.size w w' := by
  have E1 : Hid (conB [] c = (decide (c < 0) && !([] : List Int).any posB)) := (rfl : conB [] c = _)
  go_enter Tryd.func19, Tryd.ntmps19
  go_wp2_with fail
  refine wp_loop_rounds 1 ?_
  rw [rounds_succ]
  go_wp2_with fail
  go_ret
  exact ⟨ret_bool (by rw [E1.out]; simp), allocBelow _ _⟩
theorem rContradictory_any {lo : Nat} {w : World} {v : Value} {xs : List Int} (c : Int) (h : IsInts lo w v xs) :
    Calls Tryd.prog 19 #[.agg #[v, .int .i64 c]] w fun e w' => e = .returned (.bool (conB xs c)) ∧ Below w.heap.size w w' := by
  obtain ⟨a, cap, rfl, hl, hm, hi, hc⟩ := h
  unfold maxLen at hm
  rcases hc with rfl | ⟨b, off, rfl, _, hb, hc⟩
  · exact rContradictory_empty _ _ _ _
  · exact rContradictory_full _ _ _ _ _ _ _ rfl (by omega) hb hc

theorem isNegative_any (x : Int) (w : World) : Calls Tryd.prog 48 #[.int .i64 x] w fun e w' => e = .returned (.bool (negB x)) ∧ w = w' := by
  have E : Hid (negB x = decide (x < 0)) := (rfl : negB x = _)
  by_cases h : x < 0
  · go_enter Tryd.func48, Tryd.ntmps48
    go_wp2
    go_ret
    exact ⟨ret_bool (by rw [E.out]; symm; first | (rw [decide_eq_true_iff]; omega) | (rw [decide_eq_false_iff_not]; omega)), rfl⟩
  · go_enter Tryd.func48, Tryd.ntmps48
    go_wp2
    go_ret
    exact ⟨ret_bool (by rw [E.out]; symm; first | (rw [decide_eq_true_iff]; omega) | (rw [decide_eq_false_iff_not]; omega)), rfl⟩

/-- Where the first such number stands, -1 if there is none. -/
theorem find_negB (xs : List Int) (k : Nat) (h : k < xs.length) (hp : negB xs[k] = true) : xs.any negB = true := List.any_eq_true.2 ⟨_, List.getElem_mem h, hp⟩

set_option maxHeartbeats 800000 in
theorem index_negB_full (b off n cap : Nat) (w : World) (xs : List Int) (hx : xs.length = n) (hn : n ≤ 9223372036854775807)
    (hc : ∀ i, i < n → w.cell? ⟨b, off + i, none⟩ = some (.int .i64 (xs.getD i 0))) :
    Calls Tryd.prog 74 #[.slice (some ⟨b, off, none⟩) n cap, .func (.func 48) #[] #[]] w fun e w' => ∃ r : Int, e = .returned (.int .i64 r) ∧ (decide (0 ≤ r) = xs.any negB) ∧ w = w' := by
  go_enter Tryd.func74, Tryd.ntmps74
  go_wp2_with fail
  go_loop [8] (fun v => ∃ k : Nat, k ≤ n ∧ v = .int .i64 k ∧ (xs.take k).any negB = false) (fun v => n - (intOf v).toNat)
  case atStart => exact ⟨0, Nat.zero_le _, rfl, rfl⟩
  case round =>
    obtain ⟨k, hk, rfl, hall⟩ := hrel
    have HA := hid0 hall
    clear hall
    by_cases h1 : k < n
    · have g1 : w.cell? ⟨b, off + k, none⟩ = some (.int .i64 (xs.getD k 0)) := hc k h1
      cases hp : negB (xs[k]'(by omega)) with
      | true =>
        have E := hid0 (find_negB xs k (by omega) hp)
        go_wp2_with (go_at_call 48; refine (isNegative_any _ _).mono ?_; rintro e w' ⟨rfl, rfl⟩)
        go_ret
        exact ⟨_, rfl, by rw [E.out]; simp, rfl⟩
      | false =>
        go_wp2_with (go_at_call 48; refine (isNegative_any _ _).mono ?_; rintro e w' ⟨rfl, rfl⟩)
        go_round
        case rel => exact ⟨k + 1, by omega, by go_num, by rw [List.take_succ_eq_append_getElem (by omega), List.any_append, HA.out]; simp [hp]⟩
        case measure => simp [intOf]; omega
    · have e1 : xs.take k = xs := List.take_of_length_le (by omega)
      have HA' : Hid (xs.any negB = false) := by rw [← e1]; exact HA.out
      clear e1
      go_wp2_with fail
      go_ret
      exact ⟨-1, rfl, by rw [HA'.out]; simp, rfl⟩
theorem index_negB_empty (a : Option Addr) (cap : Nat) (w : World) :
    Calls Tryd.prog 74 #[.slice a 0 cap, .func (.func 48) #[] #[]] w fun e w' => ∃ r : Int, e = .returned (.int .i64 r) ∧ (decide (0 ≤ r) = ([] : List Int).any negB) ∧ w = w' := by
  go_enter Tryd.func74, Tryd.ntmps74
  go_wp2_with fail
  refine wp_loop_rounds 1 ?_
  rw [rounds_succ]
  go_wp2_with fail
  go_ret
  exact ⟨-1, rfl, rfl, rfl⟩
theorem contains_negB {lo : Nat} {w : World} {v : Value} {xs : List Int} (h : IsInts lo w v xs) :
    Calls Tryd.prog 46 #[v, .func (.func 48) #[] #[]] w fun e w' => e = .returned (.bool (xs.any negB)) ∧ w = w' := by
  have hI : Calls Tryd.prog 74 #[v, .func (.func 48) #[] #[]] w fun e w' => ∃ r : Int, e = .returned (.int .i64 r) ∧ (decide (0 ≤ r) = xs.any negB) ∧ w = w' := by
    obtain ⟨a, cap, rfl, hl, hm, _, hc⟩ := h
    unfold maxLen at hm
    rcases hc with rfl | ⟨b, off, rfl, _, _, hc⟩
    · exact index_negB_empty _ _ _
    · exact index_negB_full _ _ _ _ _ _ rfl (by omega) hc
  obtain ⟨a, cap, rfl⟩ := h.shape
  have HI := hid0 hI
  clear hI h
  go_enter Tryd.func46, Tryd.ntmps46
  go_wp2_with (go_at_call 74; refine Calls.mono (show Calls _ _ _ _ _ from HI.out) ?_; rintro e w' ⟨r, rfl, hr, rfl⟩; have HR := hid0 hr; clear hr)
  go_ret
  exact ⟨ret_bool HR.out, rfl⟩

theorem Trivial_any {lo : Nat} {w : World} {v : Value} {xs : List Int} (c : Int) (h : IsInts lo w v xs) :
    Calls Tryd.prog 18 #[.agg #[v, .int .i64 c]] w fun e w' => e = .returned (.bool (triB xs c)) ∧ Below w.heap.size w w' := by
  have H := hid0 h
  obtain ⟨a, cap, rfl⟩ := h.shape
  clear h
  by_cases hc : 0 ≤ c
  · have E : Hid (triB xs c = !xs.any negB) := by show _ = _; simp [triB, hc]
    go_enter Tryd.func18, Tryd.ntmps18
    go_wp2_with (go_at_call 46; refine (contains_negB (H.out.below (by go_grown))).mono ?_; rintro e w' ⟨rfl, rfl⟩)
    go_ret
    exact ⟨ret_bool E.out.symm, allocBelow _ _⟩
  · have E : Hid (triB xs c = false) := by show _ = _; simp [triB, hc]
    go_enter Tryd.func18, Tryd.ntmps18
    go_wp2_with fail
    go_ret
    exact ⟨ret_bool E.out.symm, allocBelow _ _⟩

set_option maxHeartbeats 400000 in
theorem rTrivial_full (b off n cap : Nat) (c : Int) (w : World) (xs : List Int) (hx : xs.length = n) (hn : n ≤ 9223372036854775807) (hb : b < w.heap.size)
    (hc : ∀ i, i < n → w.cell? ⟨b, off + i, none⟩ = some (.int .i64 (xs.getD i 0))) :
    Calls Tryd.prog 20 #[.agg #[.slice (some ⟨b, off, none⟩) n cap, .int .i64 c]] w fun e w' => e = .returned (.bool (triB xs c)) ∧ Below w.heap.size w w' := by
  have E1 : Hid (triB xs c = (decide (0 ≤ c) && !xs.any negB)) := (rfl : triB xs c = _)
  go_enter Tryd.func20, Tryd.ntmps20
  go_wp2_with fail
  go_loop [3] (fun v => ∃ k : Nat, k ≤ n ∧ v = .int .i64 k ∧ (xs.take k).any negB = false) (fun v => n - (intOf v).toNat)
  case atStart => exact ⟨0, Nat.zero_le _, rfl, rfl⟩
  case round =>
    obtain ⟨k, hk, rfl, hall⟩ := hrel
    have HA := hid0 hall
    clear hall
    by_cases h1 : k < n
    · have g1 : (w.alloc (.cells #[.slice (some ⟨b, off, none⟩) n cap, .int .i64 c] 24)).cell? ⟨b, off + k, none⟩ = some (.int .i64 (xs.getD k 0)) := (World.cell?_alloc_past _ _ _ (by simpa using hb)).trans (hc k h1)
      by_cases hp : (xs[k]'(by omega)) < 0
      · have E := hid0 (find_negB xs k (by omega) (by simpa [negB] using hp))
        go_wp2_with fail
        go_ret
        exact ⟨ret_bool (by rw [E1.out, E.out]; simp), allocBelow _ _⟩
      · have hp' := hid0 hp
        go_wp2_with fail
        go_round
        case rel => exact ⟨k + 1, by omega, by go_num, by rw [List.take_succ_eq_append_getElem (by omega), List.any_append, HA.out]; simpa [negB] using hp'.out⟩
        case measure => simp [intOf]; omega
    · have e1 : xs.take k = xs := List.take_of_length_le (by omega)
      have HA' : Hid (xs.any negB = false) := by rw [← e1]; exact HA.out
      clear e1
      go_wp2_with fail
      go_ret
      exact ⟨ret_bool (by rw [E1.out, HA'.out]; simp), allocBelow _ _⟩
theorem rTrivial_empty (a : Option Addr) (cap : Nat) (c : Int) (w : World) :
    Calls Tryd.prog 20 #[.agg #[.slice a 0 cap, .int .i64 c]] w fun e w' => e = .returned (.bool (triB [] c)) ∧ Below w.heap.size w w' := by
  have E1 : Hid (triB [] c = (decide (0 ≤ c) && !([] : List Int).any negB)) := (rfl : triB [] c = _)
  go_enter Tryd.func20, Tryd.ntmps20
  go_wp2_with fail
  refine wp_loop_rounds 1 ?_
  rw [rounds_succ]
  go_wp2_with fail
  go_ret
  exact ⟨ret_bool (by rw [E1.out]; simp), allocBelow _ _⟩
theorem rTrivial_any {lo : Nat} {w : World} {v : Value} {xs : List Int} (c : Int) (h : IsInts lo w v xs) :
    Calls Tryd.prog 20 #[.agg #[v, .int .i64 c]] w fun e w' => e = .returned (.bool (triB xs c)) ∧ Below w.heap.size w w' := by
  obtain ⟨a, cap, rfl, hl, hm, hi, hc⟩ := h
  unfold maxLen at hm
  rcases hc with rfl | ⟨b, off, rfl, _, hb, hc⟩
  · exact rTrivial_empty _ _ _ _
  · exact rTrivial_full _ _ _ _ _ _ _ rfl (by omega) hb hc
end Go.Proofs.YtbppooajhoejcaaDoor
