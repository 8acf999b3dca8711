/-
  WHAT THE REFERENCE'S SMALL FUNCTIONS RETURN: within, Small, isPoint, left, Value, Validate, Satisfies: the same as the program's.
-/
import Derived.Test.YtbppooajhoejcaaDoorSys
namespace Go.Proofs.YtbppooajhoejcaaDoor
open Go.RowKit Go.Deep

/-- n lies from lo to hi. -/
def inB (lo hi n : Int) : Bool := decide (lo ≤ n) && decide (n ≤ hi)
theorem within_any (n lo hi : Int) (w : World) :
    Calls Tryd.prog 56 #[.int .i64 n, .int .i64 lo, .int .i64 hi] w fun e w' => e = .returned (.bool (inB lo hi n)) ∧ w = w' := by
  have e : Hid (inB lo hi n = (decide (lo ≤ n) && decide (n ≤ hi))) := (rfl : inB lo hi n = _)
  by_cases h1 : lo ≤ n
  · by_cases h2 : n ≤ hi
    · go_enter Tryd.func56, Tryd.ntmps56
      go_wp2
      go_ret
      exact ⟨ret_bool (by rw [e.out]; simp; omega), rfl⟩
    · go_enter Tryd.func56, Tryd.ntmps56
      go_wp2
      go_ret
      exact ⟨ret_bool (by rw [e.out]; simp; omega), rfl⟩
  · go_enter Tryd.func56, Tryd.ntmps56
    go_wp2
    go_ret
    exact ⟨ret_bool (by rw [e.out]; simp; omega), rfl⟩
theorem within_sm (n : Int) (w : World) : Calls Tryd.prog 56 #[.int .i64 n, .int .i64 (-68719476736), .int .i64 68719476736] w fun e w' => e = .returned (.bool (smB n)) ∧ w = w' := within_any _ _ _ _
theorem within_co (n : Int) (w : World) : Calls Tryd.prog 56 #[.int .i64 n, .int .i64 0, .int .i64 1048576] w fun e w' => e = .returned (.bool (coB n)) ∧ w = w' := within_any _ _ _ _

set_option maxHeartbeats 400000 in
theorem rSmall_full (b off n cap : Nat) (c : Int) (w : World) (xs : List Int) (hx : xs.length = n) (hn : n ≤ 9223372036854775807) (hb : b < w.heap.size)
    (hc : ∀ i, i < n → w.cell? ⟨b, off + i, none⟩ = some (.int .i64 (xs.getD i 0))) :
    Calls Tryd.prog 53 #[.agg #[.slice (some ⟨b, off, none⟩) n cap, .int .i64 c]] w fun e w' => e = .returned (.bool (xs.all smB && smB c)) ∧ Below w.heap.size w w' := by
  go_enter Tryd.func53, Tryd.ntmps53
  go_wp2_with fail
  go_loop [3] (fun v => ∃ k : Nat, k ≤ n ∧ v = .int .i64 k ∧ (xs.take k).all smB = true) (fun v => n - (intOf v).toNat)
  case atStart => exact ⟨0, Nat.zero_le _, rfl, rfl⟩
  case round =>
    obtain ⟨k, hk, rfl, hall⟩ := hrel
    have HA : Hid ((xs.take k).all smB = true) := hall
    clear hall
    by_cases h1 : k < n
    · have g1 : (w.alloc (.cells #[.slice (some ⟨b, off, none⟩) n cap, .int .i64 c] 24)).cell? ⟨b, off + k, none⟩ = some (.int .i64 (xs.getD k 0)) := (World.cell?_alloc_past _ _ _ (by simpa using hb)).trans (hc k h1)
      go_wp2_with (go_at_call 56; refine (within_sm _ _).mono ?_; rintro e w' ⟨rfl, rfl⟩)
      · have hp : (!smB xs[k]) = true := by assumption
        go_ret
        exact ⟨ret_bool (by rw [all_no (k := k) (by omega) (by simpa using hp)]; rfl), allocBelow _ _⟩
      · have hp : (!smB xs[k]) = false := by assumption
        go_round
        case rel => exact ⟨k + 1, by omega, by go_num, take_all (by omega) HA.out (by simpa using hp)⟩
        case measure => simp [intOf]; omega
    · go_wp2_with (go_at_call 56; refine (within_sm _ _).mono ?_; rintro e w' ⟨rfl, rfl⟩)
      go_ret
      exact ⟨ret_bool (by rw [all_take (by omega) HA.out]; rfl), allocBelow _ _⟩

theorem rSmall_empty (a : Option Addr) (cap : Nat) (c : Int) (w : World) :
    Calls Tryd.prog 53 #[.agg #[.slice a 0 cap, .int .i64 c]] w fun e w' => e = .returned (.bool (([] : List Int).all smB && smB c)) ∧ Below w.heap.size w w' := by
  go_enter Tryd.func53, Tryd.ntmps53
  go_wp2_with fail
  refine wp_loop_rounds 1 ?_
  rw [rounds_succ]
  go_wp2_with (go_at_call 56; refine (within_sm _ _).mono ?_; rintro e w' ⟨rfl, rfl⟩)
  go_ret
  exact ⟨ret_bool rfl, allocBelow _ _⟩

theorem rSmall_any {lo : Nat} {w : World} {v : Value} {xs : List Int} (c : Int) (h : IsInts lo w v xs) :
    Calls Tryd.prog 53 #[.agg #[v, .int .i64 c]] w fun e w' => e = .returned (.bool (smR (xs, c))) ∧ Below w.heap.size w w' := by
  obtain ⟨a, cap, rfl, hl, hm, hi, hc⟩ := h
  unfold maxLen at hm
  rcases hc with rfl | ⟨b, off, rfl, _, hb, hc⟩
  · exact rSmall_empty _ _ _ _
  · exact rSmall_full _ _ _ _ _ _ _ rfl (by omega) hb hc

set_option maxHeartbeats 400000 in
theorem rIsPoint_full (b off n cap : Nat) (w : World) (xs : List Int) (hx : xs.length = n) (hn : n ≤ 9223372036854775807)
    (hc : ∀ i, i < n → w.cell? ⟨b, off + i, none⟩ = some (.int .i64 (xs.getD i 0))) :
    Calls Tryd.prog 52 #[.slice (some ⟨b, off, none⟩) n cap] w fun e w' => e = .returned (.bool (xs.all coB)) ∧ w = w' := by
  go_enter Tryd.func52, Tryd.ntmps52
  go_wp2_with fail
  go_loop [3] (fun v => ∃ k : Nat, k ≤ n ∧ v = .int .i64 k ∧ (xs.take k).all coB = true) (fun v => n - (intOf v).toNat)
  case atStart => exact ⟨0, Nat.zero_le _, rfl, rfl⟩
  case round =>
    obtain ⟨k, hk, rfl, hall⟩ := hrel
    have HA : Hid ((xs.take k).all coB = true) := hall
    clear hall
    by_cases h1 : k < n
    · have g1 : w.cell? ⟨b, off + k, none⟩ = some (.int .i64 (xs.getD k 0)) := hc k h1
      go_wp2_with (go_at_call 56; refine (within_co _ _).mono ?_; rintro e w' ⟨rfl, rfl⟩)
      · have hp : (!coB xs[k]) = true := by assumption
        go_ret
        exact ⟨ret_bool (by rw [all_no (k := k) (by omega) (by simpa using hp)]), rfl⟩
      · have hp : (!coB xs[k]) = false := by assumption
        go_round
        case rel => exact ⟨k + 1, by omega, by go_num, take_all (by omega) HA.out (by simpa using hp)⟩
        case measure => simp [intOf]; omega
    · go_wp2_with fail
      go_ret
      exact ⟨ret_bool (by rw [all_take (by omega) HA.out]), rfl⟩

theorem rIsPoint_empty (a : Option Addr) (cap : Nat) (w : World) :
    Calls Tryd.prog 52 #[.slice a 0 cap] w fun e w' => e = .returned (.bool (([] : List Int).all coB)) ∧ w = w' := by
  go_enter Tryd.func52, Tryd.ntmps52
  go_wp2_with fail
  refine wp_loop_rounds 1 ?_
  rw [rounds_succ]
  go_wp2_with fail
  go_ret
  exact ⟨ret_bool rfl, rfl⟩

theorem rIsPoint_any {lo : Nat} {w : World} {v : Value} {xs : List Int} (h : IsInts lo w v xs) :
    Calls Tryd.prog 52 #[v] w fun e w' => e = .returned (.bool (xs.all coB)) ∧ w = w' := by
  obtain ⟨a, cap, rfl, hl, hm, hi, hc⟩ := h
  unfold maxLen at hm
  rcases hc with rfl | ⟨b, off, rfl, _, hb, hc⟩
  · exact rIsPoint_empty _ _ _
  · exact rIsPoint_full _ _ _ _ _ _ rfl (by omega) hc

set_option maxHeartbeats 400000 in
theorem left_full (b off n cap b' off' cap' : Nat) (c : Int) (w : World) (xs ys : List Int) (hx : xs.length = n) (hy : ys.length = n) (hn : n ≤ 96) (hb : b < w.heap.size) (hb' : b' < w.heap.size)
    (hs : xs.all smB = true) (hs' : ys.all coB = true) (hsc : smB c = true)
    (hc : ∀ i, i < n → w.cell? ⟨b, off + i, none⟩ = some (.int .i64 (xs.getD i 0))) (hc' : ∀ i, i < n → w.cell? ⟨b', off' + i, none⟩ = some (.int .i64 (ys.getD i 0))) :
    Calls Tryd.prog 54 #[.agg #[.slice (some ⟨b, off, none⟩) n cap, .int .i64 c], .slice (some ⟨b', off', none⟩) n cap'] w fun e w' => e = .returned (.int .i64 (c + dot xs ys)) ∧ Below w.heap.size w w' := by
  go_enter Tryd.func54, Tryd.ntmps54
  go_wp2_with fail
  go_loopw [5, 6] (fun u v wr => ∃ k : Nat, k ≤ n ∧ v = .int .i64 k ∧ u = .int .i64 (c + dot (xs.take k) (ys.take k)) ∧ Below (w.alloc (.cells #[.slice (some ⟨b, off, none⟩) n cap, .int .i64 c] 24)).heap.size (w.alloc (.cells #[.slice (some ⟨b, off, none⟩) n cap, .int .i64 c] 24)) wr) (fun _ v _ => n - (intOf v).toNat)
  case atStart => exact ⟨0, Nat.zero_le _, rfl, by simp [dot], Below.refl _ _⟩
  case round =>
    obtain ⟨k, hk, rfl, rfl, hB0⟩ := hrel
    have HB := hid0 (thenBelow (allocBelow _ _) hB0)
    have HB0 := hid0 hB0
    have y0 : wr.cell? ⟨w.heap.size, 0, none⟩ = some (.slice (some ⟨b, off, none⟩) n cap) := by rw [(blk hB0 (n := w.heap.size) (by go_size)).1]; simp
    by_cases h1 : k < n
    · have g1 := (HB.out.cell (p := ⟨b, off + k, none⟩) hb).trans (hc k h1)
      have g2 := (HB.out.cell (p := ⟨b', off' + k, none⟩) hb').trans (hc' k h1)
      have d0 := dot_le xs ys k hs hs'
      have d1 := dot_le xs ys (k + 1) hs hs'
      have d2 := dot_snoc xs ys k (by omega) (by omega)
      have d3 := mul_le (List.all_eq_true.1 hs _ (List.getElem_mem (by omega : k < xs.length))) (List.all_eq_true.1 hs' _ (List.getElem_mem (by omega : k < ys.length)))
      rw [smB_true] at hsc
      have HD : Hid (c + dot (xs.take (k + 1)) (ys.take (k + 1)) = c + dot (xs.take k) (ys.take k) + (xs[k]'(by omega)) * (ys[k]'(by omega))) := by show _ = _; omega
      have e1 : IntKind.i64.wrap ((xs[k]'(by omega)) * (ys[k]'(by omega))) = (xs[k]'(by omega)) * (ys[k]'(by omega)) := IntWalk.i64_in _ (by omega)
      have e2 : IntKind.i64.wrap (c + dot (xs.take k) (ys.take k) + (xs[k]'(by omega)) * (ys[k]'(by omega))) = c + dot (xs.take k) (ys.take k) + (xs[k]'(by omega)) * (ys[k]'(by omega)) := IntWalk.i64_in _ (by omega)
      clear d0 d1 d2 d3 hs hs' hB0 hsc hc hc'
      go_wp2
      go_quiet (fail)
      clear e1 e2
      go_wp2
      go_roundw
      case rel => exact ⟨k + 1, by omega, by go_num, by rw [HD.out], quietBelow HB0.out _⟩
      case measure => simp [intOf]; omega
    · have e1 : Hid (xs.take k = xs) := List.take_of_length_le (by omega)
      have e2 : Hid (ys.take k = ys) := List.take_of_length_le (by omega)
      clear hs hs' hB0 hsc hc hc'
      go_wp2
      go_ret
      exact ⟨ret_int (by rw [e1.out, e2.out]), HB.out⟩

theorem left_empty (a a' : Option Addr) (cap cap' : Nat) (c : Int) (w : World) :
    Calls Tryd.prog 54 #[.agg #[.slice a 0 cap, .int .i64 c], .slice a' 0 cap'] w fun e w' => e = .returned (.int .i64 (c + dot [] [])) ∧ Below w.heap.size w w' := by
  go_enter Tryd.func54, Tryd.ntmps54
  go_wp2_with fail
  refine wp_loop_rounds 1 ?_
  rw [rounds_succ]
  go_wp2_with fail
  go_ret
  exact ⟨ret_int (by simp [dot]), allocBelow _ _⟩

theorem left_any {lo lo' : Nat} {w : World} {v v' : Value} {xs ys : List Int} (c : Int) (h : IsInts lo w v xs) (h' : IsInts lo' w v' ys) (hl : xs.length = ys.length) (hn : xs.length ≤ 96)
    (hs : xs.all smB = true) (hs' : ys.all coB = true) (hsc : smB c = true) :
    Calls Tryd.prog 54 #[.agg #[v, .int .i64 c], v'] w fun e w' => e = .returned (.int .i64 (c + dot xs ys)) ∧ Below w.heap.size w w' := by
  obtain ⟨a, cap, rfl, _, _, _, hc⟩ := h
  obtain ⟨a', cap', rfl, _, _, _, hc'⟩ := h'
  rcases hc with rfl | ⟨b, off, rfl, _, hb, hc⟩
  · obtain rfl : ys = [] := List.eq_nil_of_length_eq_zero (by simpa using hl.symm)
    exact left_empty _ _ _ _ _ _
  · rcases hc' with rfl | ⟨b', off', rfl, _, hb', hc'⟩
    · obtain rfl : xs = [] := List.eq_nil_of_length_eq_zero (by simpa using hl)
      exact left_empty _ _ _ _ _ _
    · rw [← hl] at hc' ⊢
      exact left_full _ _ _ _ _ _ _ _ _ _ _ rfl hl.symm hn hb hb' hs hs' hsc hc hc'

set_option maxHeartbeats 400000 in
theorem rValue_any {lo lo' : Nat} {w : World} {v v' : Value} {xs ys : List Int} (c : Int) (h : IsInts lo w v xs) (h' : IsInts lo' w v' ys) :
    Calls Tryd.prog 23 #[.agg #[v, .int .i64 c], v'] w fun e w' => e = .returned (.tuple #[.int .i64 (valN xs ys c), .int .i64 (valE xs ys c)]) ∧ Below w.heap.size w w' := by
  have H := h
  have H' := h'
  obtain ⟨a, cap, rfl, _, hm, _, _⟩ := h
  obtain ⟨a', cap', rfl, _, hm', _, _⟩ := h'
  unfold maxLen at hm hm'
  have E : Hid (valE xs ys c = if xs.length ≠ ys.length ∨ 96 < xs.length ∨ ys.all coB = false then 1 else if smR (xs, c) = false then 4 else 0) := (rfl : valE xs ys c = _)
  have V : Hid (valN xs ys c = if valE xs ys c = 0 then c + dot xs ys else 0) := (rfl : valN xs ys c = _)
  by_cases h1 : xs.length = ys.length
  · by_cases h2 : 96 < xs.length
    · have e1 : valE xs ys c = 1 := by rw [E.out, if_pos (by omega)]
      have e2 : valN xs ys c = 0 := by rw [V.out, e1]; rfl
      have h3 : ¬ ((xs.length : Int) ≠ ys.length) := by omega
      rw [e1, e2]
      clear E V e1 e2 h1 H H'
      go_enter Tryd.func23, Tryd.ntmps23
      go_wp2_with fail
      go_ret2
      exact ⟨rfl, allocBelow _ _⟩
    · cases hp : ys.all coB with
      | false =>
        have e1 : valE xs ys c = 1 := by rw [E.out, if_pos (by simp [hp])]
        have e2 : valN xs ys c = 0 := by rw [V.out, e1]; rfl
        rw [e1, e2]
        have h3 : ¬ ((xs.length : Int) ≠ ys.length) := by omega
        clear E V e1 e2 h1
        go_enter Tryd.func23, Tryd.ntmps23
        go_wp2_with (go_at_call 52; refine (rIsPoint_any (H'.below (allocBelow _ _))).mono ?_; rintro e w' ⟨rfl, rfl⟩)
        go_ret2
        exact ⟨rfl, allocBelow _ _⟩
      | true =>
        have h3 : ¬ ((xs.length : Int) ≠ ys.length) := by omega
        cases hs : smR (xs, c) with
        | false =>
          have e1 : valE xs ys c = 4 := by rw [E.out, if_neg (by simp [hp]; omega), if_pos hs]
          have e2 : valN xs ys c = 0 := by rw [V.out, e1]; rfl
          rw [e1, e2]
          clear E V e1 e2 h1
          go_enter Tryd.func23, Tryd.ntmps23
          go_wp2_with (first | (go_at_call 52; refine (rIsPoint_any (H'.below (allocBelow _ _))).mono ?_; rintro e w' ⟨rfl, rfl⟩) | (go_at_call 53; refine (rSmall_any _ (H.below (allocBelow _ _))).mono ?_; rintro e w1 ⟨rfl, hb1⟩))
          go_ret2
          exact ⟨rfl, (allocBelow _ _).trans (hb1.mono (by simp))⟩
        | true =>
          have e1 : valE xs ys c = 0 := by rw [E.out, if_neg (by simp [hp]; omega), if_neg (by simp [hs])]
          have e2 : Hid (valN xs ys c = c + dot xs ys) := by show _ = _; rw [V.out, e1]; rfl
          rw [e1]
          obtain ⟨hs1, hs2⟩ := smR_true.1 hs
          have L : Hid (xs.length = ys.length) := h1
          have S1 : Hid (xs.all smB = true) := hs1
          have S2 : Hid (smB c = true) := hs2
          have S3 : Hid (ys.all coB = true) := hp
          clear E V e1 h1 hs1 hs2
          go_enter Tryd.func23, Tryd.ntmps23
          go_wp2_with (first | (go_at_call 52; refine (rIsPoint_any (H'.below (allocBelow _ _))).mono ?_; rintro e w' ⟨rfl, rfl⟩) | (go_at_call 53; refine (rSmall_any _ (H.below (allocBelow _ _))).mono ?_; rintro e w1 ⟨rfl, hb1⟩; obtain ⟨hc1, hf1⟩ := bcell hb1) | (go_at_call 54; refine (left_any _ ((H.below (allocBelow _ _)).below hb1) ((H'.below (allocBelow _ _)).below hb1) L.out (by omega) S1.out S3.out S2.out).mono ?_; rintro e w2 ⟨rfl, hb2⟩))
          go_ret2
          exact ⟨by rw [e2.out]; rfl, (allocBelow _ _).trans ((hb1.trans (hb2.mono hb1.size)).mono (by simp))⟩
  · have e1 : valE xs ys c = 1 := by rw [E.out, if_pos (by simp [h1])]
    have e2 : valN xs ys c = 0 := by rw [V.out, e1]; rfl
    have h3 : ((xs.length : Int) ≠ ys.length) := by omega
    rw [e1, e2]
    clear E V e1 e2 h1 H H'
    go_enter Tryd.func23, Tryd.ntmps23
    go_wp2_with fail
    go_ret2
    exact ⟨rfl, allocBelow _ _⟩

end Go.Proofs.YtbppooajhoejcaaDoor
