/-
  WHAT THE REFERENCE'S FUNCTIONS ON SYSTEMS RETURN: Validate, Satisfies; and the law's own guard wide.
-/
import Derived.Test.YtbdnihjokndhaaaDoorRefSmall
namespace Go.Proofs.YtbdnihjokndhaaaDoor
open Go.RowKit Go.Deep

/-- The law's guard on systems. -/
def longB (r : Rw) : Bool := decide (200 < r.1.length)
def shortB (r : Rw) : Bool := !longB r
def wideB (rs : List Rw) : Bool := if 250 < rs.length then true else !rs.all shortB
theorem long_row {lo : Nat} {w : World} {v : Value} {r : Rw} (h : IsInts lo w v r.1) : Calls Tryd.prog 12 #[.agg #[v, .int .i64 r.2]] w fun e w' => e = .returned (.bool (longB r)) ∧ Below w.heap.size w w' := by
  obtain ⟨a, cap, rfl⟩ := h.shape
  have e : longB r = decide (200 < (r.1.length : Int)) := by unfold longB; rw [decide_eq_decide]; omega
  rw [e]
  exact long_any _ _ _ _ _

set_option maxHeartbeats 800000 in
theorem wide_full (vars : Int) (b off n cap : Nat) (w : World) (rs : List Rw) (hx : rs.length = n) (hn : n ≤ 250) (hb : b < w.heap.size)
    (hc : ∀ i (hi : i < rs.length), ∃ sv, w.cell? ⟨b, off + i * 2, none⟩ = some sv ∧ w.cell? ⟨b, off + i * 2 + 1, none⟩ = some (.int .i64 rs[i].2) ∧ IsInts 0 w sv rs[i].1) :
    Calls Tryd.prog 22 #[.agg #[.int .i64 vars, .slice (some ⟨b, off, none⟩) n cap]] w fun e w' => e = .returned (.bool (!rs.all shortB)) ∧ Below w.heap.size w w' := by
  go_enter Tryd.func22, Tryd.ntmps22
  go_wp2_with fail
  go_loopw [3] (fun v wr => ∃ k : Nat, k ≤ n ∧ v = .int .i64 k ∧ (rs.take k).all shortB = true ∧ Below (w.alloc (.cells #[.int .i64 vars, .slice (some ⟨b, off, none⟩) n cap] 42)).heap.size (w.alloc (.cells #[.int .i64 vars, .slice (some ⟨b, off, none⟩) n cap] 42)) wr) (fun v _ => n - (intOf v).toNat)
  case atStart => exact ⟨0, Nat.zero_le _, rfl, rfl, Below.refl _ _⟩
  case round =>
    obtain ⟨k, hk, rfl, hall, hB0⟩ := hrel
    have HA := hid0 hall
    have HB := hid0 (thenBelow (allocBelow w _) hB0)
    have HB0 := hid0 hB0
    have y1 : wr.cell? ⟨w.heap.size, 1, none⟩ = some (.slice (some ⟨b, off, none⟩) n cap) := by rw [(blk hB0 (n := w.heap.size) (by go_size)).1]; simp
    by_cases h1 : k < n
    · obtain ⟨sv, q1, q2, q3⟩ := hc k (by omega)
      obtain ⟨a', cap', rfl⟩ := q3.shape
      have g1 := (HB.out.cell (p := ⟨b, off + k * 2, none⟩) hb).trans q1
      have g2 := (HB.out.cell (p := ⟨b, off + k * 2 + 1, none⟩) hb).trans q2
      have Q3 := hid0 (q3.below HB.out)
      clear hall hB0 hc q1 q2 q3
      go_wp2_with (go_at_call 12; refine (long_row (r := rs[k]'(by omega)) Q3.out).mono ?_; rintro e w1 ⟨rfl, hb1⟩)
      · have hp : longB (rs[k]'(by omega)) = true := by assumption
        go_ret
        exact ⟨ret_bool (by rw [all_noR (k := k) (by omega) (by rw [shortB, hp]; rfl)]; rfl), thenBelow HB.out hb1⟩
      · have hp : longB (rs[k]'(by omega)) = false := by assumption
        go_roundw
        case rel => exact ⟨k + 1, by omega, by go_num, take_allR (by omega) HA.out (by rw [shortB, hp]; rfl), thenBelow HB0.out hb1⟩
        case measure => simp [intOf]; omega
    · clear hall hB0 hc
      go_wp2_with fail
      go_ret
      exact ⟨ret_bool (by rw [all_takeR (by omega) HA.out]; rfl), HB.out⟩
theorem wide_empty (vars : Int) (a : Option Addr) (cap : Nat) (w : World) :
    Calls Tryd.prog 22 #[.agg #[.int .i64 vars, .slice a 0 cap]] w fun e w' => e = .returned (.bool (!([] : List Rw).all shortB)) ∧ Below w.heap.size w w' := by
  go_enter Tryd.func22, Tryd.ntmps22
  go_wp2_with fail
  refine wp_loop_rounds 1 ?_
  rw [rounds_succ]
  go_wp2_with fail
  go_ret
  exact ⟨ret_bool rfl, allocBelow _ _⟩
theorem wide_many (vars : Int) (a : Option Addr) (n cap : Nat) (w : World) (h : 250 < n) :
    Calls Tryd.prog 22 #[.agg #[.int .i64 vars, .slice a n cap]] w fun e w' => e = .returned (.bool true) ∧ Below w.heap.size w w' := by
  have h' : (250 : Int) < n := by omega
  go_enter Tryd.func22, Tryd.ntmps22
  go_wp2_with fail
  go_ret
  exact ⟨rfl, allocBelow _ _⟩
theorem wide_any {lo : Nat} {w : World} {v : Value} {rs : List Rw} (vars : Int) (h : IsRows lo w v rs) :
    Calls Tryd.prog 22 #[.agg #[.int .i64 vars, v]] w fun e w' => e = .returned (.bool (wideB rs)) ∧ Below w.heap.size w w' := by
  obtain ⟨a, cap, rfl, hl, hm, hc⟩ := h.mono (Nat.zero_le _)
  by_cases h0 : 250 < rs.length
  · rw [wideB, if_pos h0]
    exact wide_many _ _ _ _ _ h0
  · rw [wideB, if_neg h0]
    rcases hc with rfl | ⟨b, off, rfl, _, hb, hc⟩
    · exact wide_empty _ _ _ _
    · exact wide_full _ _ _ _ _ _ _ rfl (by omega) hb (fun i hi => by obtain ⟨sv, h1, h2, h3, h4⟩ := hc i hi; exact ⟨sv, h1, h2, h3⟩)
theorem wide_no {rs : List Rw} (h : wideB rs = false) : rs.length ≤ 250 ∧ ∀ r ∈ rs, r.1.length ≤ 200 := by
  unfold wideB at h
  split at h
  · cases h
  · refine ⟨by omega, fun r hr => ?_⟩
    have h2 : rs.all shortB = true := by simpa using h
    have := List.all_eq_true.1 h2 r hr
    simp [shortB, longB] at this
    exact this

set_option maxHeartbeats 1600000 in
theorem rValidate_full (vars : Int) (b off n cap : Nat) (w : World) (rs : List Rw) (hx : rs.length = n) (hn : n ≤ 9223372036854775807) (hb : b < w.heap.size) (h0 : inB 0 96 vars = true)
    (hc : ∀ i (hi : i < rs.length), ∃ sv, w.cell? ⟨b, off + i * 2, none⟩ = some sv ∧ w.cell? ⟨b, off + i * 2 + 1, none⟩ = some (.int .i64 rs[i].2) ∧ IsInts 0 w sv rs[i].1) :
    Calls Tryd.prog 53 #[.agg #[.int .i64 vars, .slice (some ⟨b, off, none⟩) n cap]] w fun e w' => e = .returned (.int .i64 (valR vars rs)) ∧ Below w.heap.size w w' := by
  go_enter Tryd.func53, Tryd.ntmps53
  go_wp2_with (go_at_call 48; refine (within_any _ _ _ _).mono ?_; rintro e w' ⟨rfl, rfl⟩)
  go_loopw [3] (fun v wr => ∃ k : Nat, k ≤ n ∧ v = .int .i64 k ∧ (rs.take k).all (lenB vars) = true ∧ Below (w.alloc (.cells #[.int .i64 vars, .slice (some ⟨b, off, none⟩) n cap] 42)).heap.size (w.alloc (.cells #[.int .i64 vars, .slice (some ⟨b, off, none⟩) n cap] 42)) wr) (fun v _ => n - (intOf v).toNat)
  case atStart => exact ⟨0, Nat.zero_le _, rfl, rfl, Below.refl _ _⟩
  case round =>
    obtain ⟨k, hk, rfl, hall, hB0⟩ := hrel
    have HA := hid0 hall
    have HB := hid0 (thenBelow (allocBelow w _) hB0)
    have HB0 := hid0 hB0
    have y0 : wr.cell? ⟨w.heap.size, 0, none⟩ = some (.int .i64 vars) := by rw [(blk hB0 (n := w.heap.size) (by go_size)).1]; simp
    have y1 : wr.cell? ⟨w.heap.size, 1, none⟩ = some (.slice (some ⟨b, off, none⟩) n cap) := by rw [(blk hB0 (n := w.heap.size) (by go_size)).1]; simp
    by_cases h1 : k < n
    · obtain ⟨sv, q1, q2, q3⟩ := hc k (by omega)
      obtain ⟨a', cap', rfl⟩ := q3.shape
      have g1 := (HB.out.cell (p := ⟨b, off + k * 2, none⟩) hb).trans q1
      have E : Hid (lenB vars (rs[k]'(by omega)) = decide (((rs[k]'(by omega)).1.length : Int) = vars)) := (rfl : lenB vars _ = _)
      clear hall hB0 hc q1 q2 q3
      by_cases h2 : (((rs[k]'(by omega)).1.length : Int) = vars)
      · have E2 : Hid (lenB vars (rs[k]'(by omega)) = true) := by show _ = _; rw [E.out]; simpa using h2
        have h3 : (((rs[k]'(by omega)).1.length : Int) != vars) = false := by simpa using h2
        clear h2
        go_wp2_with fail
        go_quiet (fail)
        go_wp2_with fail
        go_roundw
        case rel => exact ⟨k + 1, by omega, by go_num, take_allR (by omega) HA.out E2.out, quietBelow HB0.out _⟩
        case measure => simp [intOf]; omega
      · have E2 : Hid (lenB vars (rs[k]'(by omega)) = false) := by show _ = _; rw [E.out]; simpa using h2
        have h3 : (((rs[k]'(by omega)).1.length : Int) != vars) = true := by simpa using h2
        clear h2
        go_wp2_with fail
        go_quiet (fail)
        go_wp2_with fail
        go_ret
        exact ⟨ret_int (by rw [valR, all_noR (k := k) (by omega) E2.out]; rfl), quietBelow HB.out _⟩
    · have E3 : Hid (rs.all (lenB vars) = true) := all_takeR (by omega) HA.out
      clear hall hB0
      by_cases h4 : 192 < n
      · go_wp2_with fail
        go_ret
        exact ⟨ret_int (by rw [valR, E3.out, hx]; simp [h4]), HB.out⟩
      · go_wp2_with fail
        obtain ⟨wo, rfl⟩ : ∃ wo : World, wo = wr := ⟨_, rfl⟩
        clear h1 y0 HA hk
        go_loopw [4] (fun v wr => ∃ k : Nat, k ≤ n ∧ v = .int .i64 k ∧ (rs.take k).all smR = true ∧ Below wo.heap.size wo wr) (fun v _ => n - (intOf v).toNat)
        case atStart => exact ⟨0, Nat.zero_le _, rfl, rfl, Below.refl _ _⟩
        case round =>
          obtain ⟨k', hk', rfl, hall, hBo⟩ := hrel
          have HA := hid0 hall
          have HC := hid0 (thenBelow HB.out hBo)
          have HBo := hid0 hBo
          have hlt : w.heap.size < wo.heap.size := cell_lt y1
          have y2 : wr.cell? ⟨w.heap.size, 1, none⟩ = some (.slice (some ⟨b, off, none⟩) n cap) := (hBo.cell (p := ⟨w.heap.size, 1, none⟩) hlt).trans y1
          by_cases h1 : k' < n
          · obtain ⟨sv, q1, q2, q3⟩ := hc k' (by omega)
            obtain ⟨a', cap', rfl⟩ := q3.shape
            have g1 := (HC.out.cell (p := ⟨b, off + k' * 2, none⟩) hb).trans q1
            have g2 := (HC.out.cell (p := ⟨b, off + k' * 2 + 1, none⟩) hb).trans q2
            have Q3 := hid0 (q3.below HC.out)
            clear hall hBo hc q1 q2 q3 y1
            go_wp2_with (go_at_call 43; refine (rSmall_any _ Q3.out).mono ?_; rintro e w1 ⟨rfl, hb1⟩)
            · have hp : (!smR (rs[k']'(by omega))) = true := by assumption
              go_ret
              exact ⟨ret_int (by rw [valR, E3.out, all_noR (k := k') (by omega) (by simpa using hp)]; simp), thenBelow HC.out hb1⟩
            · have hp : (!smR (rs[k']'(by omega))) = false := by assumption
              go_roundw
              case rel => exact ⟨k' + 1, by omega, by go_num, take_allR (by omega) HA.out (by simpa using hp), thenBelow HBo.out hb1⟩
              case measure => simp [intOf]; omega
          · clear hall hBo hc y1
            go_wp2_with fail
            go_ret
            exact ⟨ret_int (by rw [valR, E3.out, all_takeR (by omega) HA.out, hx]; simp [h4]), HC.out⟩

theorem rValidate_empty (vars : Int) (a : Option Addr) (cap : Nat) (w : World) (h0 : inB 0 96 vars = true) :
    Calls Tryd.prog 53 #[.agg #[.int .i64 vars, .slice a 0 cap]] w fun e w' => e = .returned (.int .i64 (valR vars [])) ∧ Below w.heap.size w w' := by
  go_enter Tryd.func53, Tryd.ntmps53
  go_wp2_with (go_at_call 48; refine (within_any _ _ _ _).mono ?_; rintro e w' ⟨rfl, rfl⟩)
  refine wp_loop_rounds 1 ?_
  rw [rounds_succ]
  go_wp2_with fail
  refine wp_loop_rounds 1 ?_
  rw [rounds_succ]
  go_wp2_with fail
  go_ret
  exact ⟨ret_int rfl, allocBelow _ _⟩
theorem rValidate_out (vars : Int) (a : Option Addr) (n cap : Nat) (w : World) (h0 : inB 0 96 vars = false) :
    Calls Tryd.prog 53 #[.agg #[.int .i64 vars, .slice a n cap]] w fun e w' => e = .returned (.int .i64 1) ∧ Below w.heap.size w w' := by
  go_enter Tryd.func53, Tryd.ntmps53
  go_wp2_with (go_at_call 48; refine (within_any _ _ _ _).mono ?_; rintro e w' ⟨rfl, rfl⟩)
  go_ret
  exact ⟨rfl, allocBelow _ _⟩
theorem rValidate_any {lo : Nat} {w : World} {v : Value} {rs : List Rw} (vars : Int) (h : IsRows lo w v rs) :
    Calls Tryd.prog 53 #[.agg #[.int .i64 vars, v]] w fun e w' => e = .returned (.int .i64 (valS vars rs)) ∧ Below w.heap.size w w' := by
  obtain ⟨a, cap, rfl, hl, hm, hc⟩ := h.mono (Nat.zero_le _)
  unfold maxLen at hm
  by_cases h0 : vars < 0 ∨ 96 < vars
  · rw [valS, if_pos h0]
    exact rValidate_out _ _ _ _ _ (by simp [inB]; omega)
  · rw [valS, if_neg h0]
    have hi : inB 0 96 vars = true := by simp [inB]; omega
    rcases hc with rfl | ⟨b, off, rfl, _, hb, hc⟩
    · exact rValidate_empty _ _ _ _ hi
    · exact rValidate_full _ _ _ _ _ _ _ rfl (by omega) hb hi (fun i hi => by obtain ⟨sv, h1, h2, h3, h4⟩ := hc i hi; exact ⟨sv, h1, h2, h3⟩)

end Go.Proofs.YtbdnihjokndhaaaDoor
