/-
  WHAT THE REFERENCE'S SMALL FUNCTIONS RETURN: within, Small, isPoint, left, Value, Validate, Satisfies: the same as the program's.
-/
import Derived.Test.YtbdnihjokndhaaaDoorSys
namespace Go.Proofs.YtbdnihjokndhaaaDoor
open Go.RowKit Go.Deep

/-- n lies from lo to hi. -/
def inB (lo hi n : Int) : Bool := decide (lo ≤ n) && decide (n ≤ hi)
theorem within_any (n lo hi : Int) (w : World) :
    Calls Tryd.prog 48 #[.int .i64 n, .int .i64 lo, .int .i64 hi] w fun e w' => e = .returned (.bool (inB lo hi n)) ∧ w = w' := by
  have e : Hid (inB lo hi n = (decide (lo ≤ n) && decide (n ≤ hi))) := (rfl : inB lo hi n = _)
  by_cases h1 : lo ≤ n
  · by_cases h2 : n ≤ hi
    · go_enter Tryd.func48, Tryd.ntmps48
      go_wp2
      go_ret
      exact ⟨ret_bool (by rw [e.out]; simp; omega), rfl⟩
    · go_enter Tryd.func48, Tryd.ntmps48
      go_wp2
      go_ret
      exact ⟨ret_bool (by rw [e.out]; simp; omega), rfl⟩
  · go_enter Tryd.func48, Tryd.ntmps48
    go_wp2
    go_ret
    exact ⟨ret_bool (by rw [e.out]; simp; omega), rfl⟩
theorem within_sm (n : Int) (w : World) : Calls Tryd.prog 48 #[.int .i64 n, .int .i64 (-68719476736), .int .i64 68719476736] w fun e w' => e = .returned (.bool (smB n)) ∧ w = w' := within_any _ _ _ _
theorem within_co (n : Int) (w : World) : Calls Tryd.prog 48 #[.int .i64 n, .int .i64 0, .int .i64 1048576] w fun e w' => e = .returned (.bool (coB n)) ∧ w = w' := within_any _ _ _ _

set_option maxHeartbeats 400000 in
theorem rSmall_full (b off n cap : Nat) (c : Int) (w : World) (xs : List Int) (hx : xs.length = n) (hn : n ≤ 9223372036854775807) (hb : b < w.heap.size)
    (hc : ∀ i, i < n → w.cell? ⟨b, off + i, none⟩ = some (.int .i64 (xs.getD i 0))) :
    Calls Tryd.prog 43 #[.agg #[.slice (some ⟨b, off, none⟩) n cap, .int .i64 c]] w fun e w' => e = .returned (.bool (xs.all smB && smB c)) ∧ Below w.heap.size w w' := by
  go_enter Tryd.func43, Tryd.ntmps43
  go_wp2_with fail
  go_loop [3] (fun v => ∃ k : Nat, k ≤ n ∧ v = .int .i64 k ∧ (xs.take k).all smB = true) (fun v => n - (intOf v).toNat)
  case atStart => exact ⟨0, Nat.zero_le _, rfl, rfl⟩
  case round =>
    obtain ⟨k, hk, rfl, hall⟩ := hrel
    have HA : Hid ((xs.take k).all smB = true) := hall
    clear hall
    by_cases h1 : k < n
    · have g1 : (w.alloc (.cells #[.slice (some ⟨b, off, none⟩) n cap, .int .i64 c] 24)).cell? ⟨b, off + k, none⟩ = some (.int .i64 (xs.getD k 0)) := (World.cell?_alloc_past _ _ _ (by simpa using hb)).trans (hc k h1)
      go_wp2_with (go_at_call 48; refine (within_sm _ _).mono ?_; rintro e w' ⟨rfl, rfl⟩)
      · have hp : (!smB xs[k]) = true := by assumption
        go_ret
        exact ⟨ret_bool (by rw [all_no (k := k) (by omega) (by simpa using hp)]; rfl), allocBelow _ _⟩
      · have hp : (!smB xs[k]) = false := by assumption
        go_round
        case rel => exact ⟨k + 1, by omega, by go_num, take_all (by omega) HA.out (by simpa using hp)⟩
        case measure => simp [intOf]; omega
    · go_wp2_with (go_at_call 48; refine (within_sm _ _).mono ?_; rintro e w' ⟨rfl, rfl⟩)
      go_ret
      exact ⟨ret_bool (by rw [all_take (by omega) HA.out]; rfl), allocBelow _ _⟩

theorem rSmall_empty (a : Option Addr) (cap : Nat) (c : Int) (w : World) :
    Calls Tryd.prog 43 #[.agg #[.slice a 0 cap, .int .i64 c]] w fun e w' => e = .returned (.bool (([] : List Int).all smB && smB c)) ∧ Below w.heap.size w w' := by
  go_enter Tryd.func43, Tryd.ntmps43
  go_wp2_with fail
  refine wp_loop_rounds 1 ?_
  rw [rounds_succ]
  go_wp2_with (go_at_call 48; refine (within_sm _ _).mono ?_; rintro e w' ⟨rfl, rfl⟩)
  go_ret
  exact ⟨ret_bool rfl, allocBelow _ _⟩

theorem rSmall_any {lo : Nat} {w : World} {v : Value} {xs : List Int} (c : Int) (h : IsInts lo w v xs) :
    Calls Tryd.prog 43 #[.agg #[v, .int .i64 c]] w fun e w' => e = .returned (.bool (smR (xs, c))) ∧ Below w.heap.size w w' := by
  obtain ⟨a, cap, rfl, hl, hm, hi, hc⟩ := h
  unfold maxLen at hm
  rcases hc with rfl | ⟨b, off, rfl, _, hb, hc⟩
  · exact rSmall_empty _ _ _ _
  · exact rSmall_full _ _ _ _ _ _ _ rfl (by omega) hb hc

end Go.Proofs.YtbdnihjokndhaaaDoor
