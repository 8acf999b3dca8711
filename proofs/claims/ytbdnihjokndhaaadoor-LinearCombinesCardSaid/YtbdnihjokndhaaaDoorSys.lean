/-
  WHAT THE FUNCTIONS ON SYSTEMS RETURN: allSmall, Validate, Satisfies.
-/
import Derived.Test.YtbdnihjokndhaaaDoorTight
import Derived.Test.YtbdnihjokndhaaaDoorRowList
namespace Go.Proofs.YtbdnihjokndhaaaDoor
open Go.RowKit Go.Deep

set_option maxHeartbeats 400000 in
theorem allSmall_full (b off n cap : Nat) (w : World) (rs : List Rw) (hx : rs.length = n) (hn : n ≤ 9223372036854775807) (hb : b < w.heap.size)
    (hc : ∀ i (hi : i < rs.length), ∃ sv, w.cell? ⟨b, off + i * 2, none⟩ = some sv ∧ w.cell? ⟨b, off + i * 2 + 1, none⟩ = some (.int .i64 rs[i].2) ∧ IsInts 0 w sv rs[i].1) :
    Calls Tryd.prog 80 #[.slice (some ⟨b, off, none⟩) n cap] w fun e w' => e = .returned (.bool (rs.all smR)) ∧ Below w.heap.size w w' := by
  go_enter Tryd.func80, Tryd.ntmps80
  go_wp2_with fail
  go_loopw [7] (fun v wr => ∃ k : Nat, k ≤ n ∧ v = .int .i64 k ∧ (rs.take k).all smR = true ∧ Below w.heap.size w wr) (fun v _ => n - (intOf v).toNat)
  case atStart => exact ⟨0, Nat.zero_le _, rfl, rfl, Below.refl _ _⟩
  case round =>
    obtain ⟨k, hk, rfl, hall, hB⟩ := hrel
    have HA := hid0 hall
    have HB := hid0 hB
    by_cases h1 : k < n
    · obtain ⟨sv, q1, q2, q3⟩ := hc k (by omega)
      obtain ⟨a', cap', rfl⟩ := q3.shape
      have g1 := (hB.cell (p := ⟨b, off + k * 2, none⟩) hb).trans q1
      have g2 := (hB.cell (p := ⟨b, off + k * 2 + 1, none⟩) hb).trans q2
      have g3 := hid0 (q3.below hB)
      clear hall hB hc q1 q2 q3
      go_wp2_with (go_at_call 42; refine (small_any _ (g3.out.below (by go_grown))).mono ?_; rintro e w1 ⟨rfl, hb1⟩)
      · have hp : (!smR (rs[k]'(by omega))) = true := by assumption
        go_ret
        exact ⟨ret_bool (by rw [all_noR (k := k) (by omega) (by simpa using hp)]), thenBelow HB.out (thenBelow (allocBelow _ _) hb1)⟩
      · have hp : (!smR (rs[k]'(by omega))) = false := by assumption
        go_roundw
        case rel => exact ⟨k + 1, by omega, by go_num, take_allR (by omega) HA.out (by simpa using hp), thenBelow HB.out (thenBelow (allocBelow _ _) hb1)⟩
        case measure => simp [intOf]; omega
    · clear hall hB hc
      go_wp2_with fail
      go_ret
      exact ⟨ret_bool (by rw [all_takeR (by omega) HA.out]), HB.out⟩

theorem allSmall_empty (a : Option Addr) (cap : Nat) (w : World) :
    Calls Tryd.prog 80 #[.slice a 0 cap] w fun e w' => e = .returned (.bool (([] : List Rw).all smR)) ∧ Below w.heap.size w w' := by
  go_enter Tryd.func80, Tryd.ntmps80
  go_wp2_with fail
  refine wp_loop_rounds 1 ?_
  rw [rounds_succ]
  go_wp2_with fail
  go_ret
  exact ⟨ret_bool rfl, Below.refl _ _⟩

theorem allSmall_any {lo : Nat} {w : World} {v : Value} {rs : List Rw} (h : IsRows lo w v rs) :
    Calls Tryd.prog 80 #[v] w fun e w' => e = .returned (.bool (rs.all smR)) ∧ Below w.heap.size w w' := by
  obtain ⟨a, cap, rfl, hl, hm, hc⟩ := h
  unfold maxLen at hm
  rcases hc with rfl | ⟨b, off, rfl, _, hb, hc⟩
  · exact allSmall_empty _ _ _
  · exact allSmall_full _ _ _ _ _ _ rfl (by omega) hb fun i hi => by
      obtain ⟨sv, h1, h2, h3, h4⟩ := hc i hi
      exact ⟨sv, h1, h2, h3.mono (Nat.zero_le _)⟩

/-- The row has as many coefficients as the system has variables. -/
def lenB (vars : Int) (r : Rw) : Bool := decide ((r.1.length : Int) = vars)

/-- The error of a system with a number of variables in range. -/
def valR (vars : Int) (rs : List Rw) : Int := if rs.all (lenB vars) = false then 1 else if 192 < rs.length ∨ rs.all smR = false then 4 else 0

set_option maxHeartbeats 400000 in
theorem Validate_full (vars : Int) (b off n cap : Nat) (w : World) (rs : List Rw) (hx : rs.length = n) (hn : n ≤ 9223372036854775807) (hb : b < w.heap.size) (h0 : 0 ≤ vars) (h96 : vars ≤ 96)
    (hc : ∀ i (hi : i < rs.length), ∃ sv, w.cell? ⟨b, off + i * 2, none⟩ = some sv ∧ w.cell? ⟨b, off + i * 2 + 1, none⟩ = some (.int .i64 rs[i].2) ∧ IsInts 0 w sv rs[i].1) (HR : IsRows 0 w (.slice (some ⟨b, off, none⟩) n cap) rs) :
    Calls Tryd.prog 50 #[.agg #[.int .i64 vars, .slice (some ⟨b, off, none⟩) n cap]] w fun e w' => e = .returned (.int .i64 (valR vars rs)) ∧ Below w.heap.size w w' := by
  go_enter Tryd.func50, Tryd.ntmps50
  go_wp2_with fail
  go_loopw [16] (fun v wr => ∃ k : Nat, k ≤ n ∧ v = .int .i64 k ∧ (rs.take k).all (lenB vars) = true ∧ Below (w.alloc (.cells #[.int .i64 vars, .slice (some ⟨b, off, none⟩) n cap] 42)).heap.size (w.alloc (.cells #[.int .i64 vars, .slice (some ⟨b, off, none⟩) n cap] 42)) wr) (fun v _ => n - (intOf v).toNat)
  case atStart => exact ⟨0, Nat.zero_le _, rfl, rfl, Below.refl _ _⟩
  case round =>
    obtain ⟨k, hk, rfl, hall, hB0⟩ := hrel
    have HA := hid0 hall
    have hB := (allocBelow w _).trans (hB0.mono (by go_size))
    have HB := hid0 hB
    have HB0 := hid0 hB0
    have y0 : wr.cell? ⟨w.heap.size, 0, none⟩ = some (.int .i64 vars) := by rw [(blk hB0 (n := w.heap.size) (by go_size)).1]; simp
    have y1 : wr.cell? ⟨w.heap.size, 1, none⟩ = some (.slice (some ⟨b, off, none⟩) n cap) := by rw [(blk hB0 (n := w.heap.size) (by go_size)).1]; simp
    have hsz : w.heap.size < wr.heap.size := by have := hB0.size; simp at this; omega
    by_cases h1 : k < n
    · obtain ⟨sv, q1, q2, q3⟩ := hc k (by omega)
      obtain ⟨a', cap', rfl⟩ := q3.shape
      have g1 := (hB.cell (p := ⟨b, off + k * 2, none⟩) hb).trans q1
      have g2 := (hB.cell (p := ⟨b, off + k * 2 + 1, none⟩) hb).trans q2
      have E : Hid (lenB vars (rs[k]'(by omega)) = decide (((rs[k]'(by omega)).1.length : Int) = vars)) := (rfl : lenB vars _ = _)
      clear hall hB hB0 hc q1 q2 q3
      by_cases h2 : (((rs[k]'(by omega)).1.length : Int) = vars)
      · have E2 : Hid (lenB vars (rs[k]'(by omega)) = true) := by show _ = _; rw [E.out]; simpa using h2
        have h3 : (((rs[k]'(by omega)).1.length : Int) != vars) = false := by simpa using h2
        clear h2
        go_wp2_with fail
        go_roundw
        case rel => exact ⟨k + 1, by omega, by go_num, take_allR (by omega) HA.out E2.out, thenBelow HB0.out (allocBelow _ _)⟩
        case measure => simp [intOf]; omega
      · have E2 : Hid (lenB vars (rs[k]'(by omega)) = false) := by show _ = _; rw [E.out]; simpa using h2
        have h3 : (((rs[k]'(by omega)).1.length : Int) != vars) = true := by simpa using h2
        clear h2
        go_wp2_with fail
        go_ret
        exact ⟨ret_int (by rw [valR, all_noR (k := k) (by omega) E2.out]; rfl), thenBelow HB.out (allocBelow _ _)⟩
    · have HRr := hid0 (HR.below hB)
      have E3 : Hid (rs.all (lenB vars) = true) := all_takeR (by omega) HA.out
      have hxx : Hid (rs.length = n) := hx
      clear hall hB hB0 hc
      by_cases h4 : 192 < n
      · go_wp2_with fail
        go_ret
        exact ⟨ret_int (by rw [valR, E3.out, hxx.out]; simp [h4]), HB.out⟩
      · cases h5 : rs.all smR with
        | false =>
          go_wp2_with (go_at_call 80; refine (allSmall_any HRr.out).mono ?_; rintro e w1 ⟨rfl, hb1⟩)
          go_ret
          exact ⟨ret_int (by rw [valR, E3.out, h5]; simp), thenBelow HB.out hb1⟩
        | true =>
          go_wp2_with (go_at_call 80; refine (allSmall_any HRr.out).mono ?_; rintro e w1 ⟨rfl, hb1⟩)
          go_ret
          exact ⟨ret_int (by rw [valR, E3.out, hxx.out, h5]; simp [h4]), thenBelow HB.out hb1⟩

theorem Validate_empty (vars : Int) (a : Option Addr) (cap : Nat) (w : World) (h0 : 0 ≤ vars) (h96 : vars ≤ 96) :
    Calls Tryd.prog 50 #[.agg #[.int .i64 vars, .slice a 0 cap]] w fun e w' => e = .returned (.int .i64 (valR vars [])) ∧ Below w.heap.size w w' := by
  go_enter Tryd.func50, Tryd.ntmps50
  go_wp2_with fail
  refine wp_loop_rounds 1 ?_
  rw [rounds_succ]
  go_wp2_with (go_at_call 80; refine (allSmall_empty _ _ _).mono ?_; rintro e w1 ⟨rfl, hb1⟩)
  go_ret
  exact ⟨ret_int rfl, thenBelow (allocBelow _ _) hb1⟩

theorem Validate_out (vars : Int) (a : Option Addr) (n cap : Nat) (w : World) (h0 : vars < 0 ∨ 96 < vars) :
    Calls Tryd.prog 50 #[.agg #[.int .i64 vars, .slice a n cap]] w fun e w' => e = .returned (.int .i64 1) ∧ Below w.heap.size w w' := by
  rcases h0 with h0 | h0
  · go_enter Tryd.func50, Tryd.ntmps50
    go_wp2_with fail
    go_ret
    exact ⟨rfl, allocBelow _ _⟩
  · have h1 : ¬ vars < 0 := by omega
    go_enter Tryd.func50, Tryd.ntmps50
    go_wp2_with fail
    go_ret
    exact ⟨rfl, allocBelow _ _⟩

/-- Which error Validate names. -/
def valS (vars : Int) (rs : List Rw) : Int := if vars < 0 ∨ 96 < vars then 1 else valR vars rs
theorem Validate_any {lo : Nat} {w : World} {v : Value} {rs : List Rw} (vars : Int) (h : IsRows lo w v rs) :
    Calls Tryd.prog 50 #[.agg #[.int .i64 vars, v]] w fun e w' => e = .returned (.int .i64 (valS vars rs)) ∧ Below w.heap.size w w' := by
  have H := h.mono (Nat.zero_le _)
  obtain ⟨a, cap, rfl, hl, hm, hc⟩ := H
  unfold maxLen at hm
  by_cases h0 : vars < 0 ∨ 96 < vars
  · rw [valS, if_pos h0]
    exact Validate_out _ _ _ _ _ h0
  · rw [valS, if_neg h0]
    rcases hc with rfl | ⟨b, off, rfl, _, hb, hc⟩
    · exact Validate_empty _ _ _ _ (by omega) (by omega)
    · exact Validate_full _ _ _ _ _ _ _ rfl (by omega) hb (by omega) (by omega) (fun i hi => by obtain ⟨sv, h1, h2, h3, h4⟩ := hc i hi; exact ⟨sv, h1, h2, h3⟩) (h.mono (Nat.zero_le _))

/-- A row holds at a point. -/
def holdB (ys : List Int) (r : Rw) : Bool := decide (0 ≤ r.2 + dot r.1 ys)
/-- Whether a point satisfies a system. -/
def satS (vars : Int) (rs : List Rw) (ys : List Int) : Bool := decide (valS vars rs = 0) && decide ((ys.length : Int) = vars) && ys.all coB && rs.all (holdB ys)

theorem valS_zero {vars : Int} {rs : List Rw} : valS vars rs = 0 ↔ (0 ≤ vars ∧ vars ≤ 96) ∧ rs.all (lenB vars) = true ∧ rs.all smR = true ∧ rs.length ≤ 192 := by
  unfold valS valR
  by_cases h : vars < 0 ∨ 96 < vars
  · rw [if_pos h]; constructor
    · intro e; cases e
    · intro e; omega
  · rw [if_neg h]
    cases h1 : rs.all (lenB vars)
    · simp
    · cases h2 : rs.all smR
      · simp
      · by_cases h3 : 192 < rs.length
        · simp [h3]
        · simp [h3]; omega

set_option maxHeartbeats 800000 in
theorem Satisfies_full {lo' : Nat} (vars : Int) (b off n cap : Nat) (w : World) (rs : List Rw) (v' : Value) (ys : List Int) (hx : rs.length = n) (hn : n ≤ 9223372036854775807) (hb : b < w.heap.size)
    (hc : ∀ i (hi : i < rs.length), ∃ sv, w.cell? ⟨b, off + i * 2, none⟩ = some sv ∧ w.cell? ⟨b, off + i * 2 + 1, none⟩ = some (.int .i64 rs[i].2) ∧ IsInts 0 w sv rs[i].1) (HR : IsRows 0 w (.slice (some ⟨b, off, none⟩) n cap) rs) (h' : IsInts lo' w v' ys)
    (hv : valS vars rs = 0) (hl : (ys.length : Int) = vars) (hp : ys.all coB = true) :
    Calls Tryd.prog 30 #[.agg #[.int .i64 vars, .slice (some ⟨b, off, none⟩) n cap], v'] w fun e w' => e = .returned (.bool (rs.all (holdB ys))) ∧ Below w.heap.size w w' := by
  obtain ⟨a, cap', rfl⟩ := h'.shape
  have HL := hid0 hl
  have HS := hid0 (valS_zero.1 hv)
  have HP := hid0 hp
  have HR' := hid0 HR
  have H' := hid0 h'
  have hl' : ((ys.length : Int) != vars) = false := by simp; omega
  clear hl HR h'
  go_enter Tryd.func30, Tryd.ntmps30
  go_wp2_with (first | (go_at_call 50; refine (Validate_any _ (HR'.out.below (by go_grown))).mono ?_; rintro e w1 ⟨rfl, hb1⟩; have hB1 : Below w.heap.size w w1 := (thenBelow (allocBelow _ _) hb1); obtain ⟨p1, p2⟩ := blk hb1 (n := w.heap.size) (by go_size)) | (go_at_call 45; refine (isPoint_any (H'.out.below (by go_grown))).mono ?_; rintro e w' ⟨rfl, rfl⟩))
  have HB1 := hid0 hB1
  clear hp hl' p1 p2 hb1 hB1 hv
  go_loopw [25] (fun v wr => ∃ k : Nat, k ≤ n ∧ v = .int .i64 k ∧ (rs.take k).all (holdB ys) = true ∧ Below w1.heap.size w1 wr) (fun v _ => n - (intOf v).toNat)
  case atStart => exact ⟨0, Nat.zero_le _, rfl, rfl, Below.refl _ _⟩
  case round =>
    obtain ⟨k, hk, rfl, hall, hB0⟩ := hrel
    have HA := hid0 hall
    have HB0 := hid0 hB0
    have HB := hid0 (thenBelow HB1.out hB0)
    by_cases h1 : k < n
    · obtain ⟨sv, q1, q2, q3⟩ := hc k (by omega)
      obtain ⟨a', cap', rfl⟩ := q3.shape
      have g1 := (HB.out.cell (p := ⟨b, off + k * 2, none⟩) hb).trans q1
      have g2 := (HB.out.cell (p := ⟨b, off + k * 2 + 1, none⟩) hb).trans q2
      have Q3 := hid0 (q3.below HB.out)
      have P3 := hid0 (H'.out.below HB.out)
      have S1 := hid0 (smR_true.1 (List.all_eq_true.1 HS.out.2.2.1 _ (List.getElem_mem (by omega : k < rs.length))))
      have S2 : Hid (((rs[k]'(by omega)).1.length : Int) = vars) := by
        have := List.all_eq_true.1 HS.out.2.1 _ (List.getElem_mem (by omega : k < rs.length))
        show _ = _
        simpa [lenB] using this
      have S3 : Hid ((rs[k]'(by omega)).1.length = ys.length) := by show _ = _; have := S2.out; have := HL.out; omega
      have S4 : Hid ((rs[k]'(by omega)).1.length ≤ 96) := by show _ ≤ _; have := S2.out; have := HS.out.1; omega
      have E : Hid (holdB ys (rs[k]'(by omega)) = decide (0 ≤ (rs[k]'(by omega)).2 + dot (rs[k]'(by omega)).1 ys)) := (rfl : holdB ys _ = _)
      clear hall hB0 hc q1 q2 q3
      by_cases h2 : (rs[k]'(by omega)).2 + dot (rs[k]'(by omega)).1 ys < 0
      · have E2 : Hid (holdB ys (rs[k]'(by omega)) = false) := by show _ = _; rw [E.out]; simp; omega
        go_wp2_with (go_at_call 46; refine (valueAt_any _ (Q3.out.below (by go_grown)) (P3.out.below (by go_grown)) S3.out S4.out S1.out.1 HP.out S1.out.2).mono ?_; rintro e w2 ⟨rfl, hb2⟩)
        go_ret
        exact ⟨ret_bool (by rw [all_noR (k := k) (by omega) E2.out]), thenBelow HB.out (thenBelow (allocBelow _ _) hb2)⟩
      · have E2 : Hid (holdB ys (rs[k]'(by omega)) = true) := by show _ = _; rw [E.out]; simp; omega
        go_wp2_with (go_at_call 46; refine (valueAt_any _ (Q3.out.below (by go_grown)) (P3.out.below (by go_grown)) S3.out S4.out S1.out.1 HP.out S1.out.2).mono ?_; rintro e w2 ⟨rfl, hb2⟩)
        go_roundw
        case rel => exact ⟨k + 1, by omega, by go_num, take_allR (by omega) HA.out E2.out, thenBelow HB0.out (thenBelow (allocBelow _ _) hb2)⟩
        case measure => simp [intOf]; omega
    · clear hall hB0 hc
      go_wp2_with fail
      go_ret
      exact ⟨ret_bool (by rw [all_takeR (by omega) HA.out]), HB.out⟩

set_option maxHeartbeats 800000 in
theorem Satisfies_no {lo lo' : Nat} (vars : Int) (w : World) (v v' : Value) (rs : List Rw) (ys : List Int) (HR : IsRows lo w v rs) (h' : IsInts lo' w v' ys)
    (hno : valS vars rs ≠ 0 ∨ (valS vars rs = 0 ∧ (ys.length : Int) ≠ vars) ∨ (valS vars rs = 0 ∧ (ys.length : Int) = vars ∧ ys.all coB = false)) :
    Calls Tryd.prog 30 #[.agg #[.int .i64 vars, v], v'] w fun e w' => e = .returned (.bool false) ∧ Below w.heap.size w w' := by
  obtain ⟨a, cap, rfl⟩ := HR.shape
  obtain ⟨a', cap', rfl⟩ := h'.shape
  have HR' := hid0 HR
  have H' := hid0 h'
  clear HR h'
  rcases hno with hv | ⟨hv, hl⟩ | ⟨hv, hl, hp⟩
  · have hv' : (valS vars rs != 0) = true := by simpa using hv
    clear hv
    go_enter Tryd.func30, Tryd.ntmps30
    go_wp2_with (first | (go_at_call 50; refine (Validate_any _ (HR'.out.below (by go_grown))).mono ?_; rintro e w1 ⟨rfl, hb1⟩; have hB1 : Below w.heap.size w w1 := (thenBelow (allocBelow _ _) hb1); obtain ⟨p1, p2⟩ := blk hb1 (n := w.heap.size) (by go_size)) | (go_at_call 45; refine (isPoint_any (H'.out.below (by go_grown))).mono ?_; rintro e w' ⟨rfl, rfl⟩))
    go_ret
    exact ⟨rfl, by assumption⟩
  · have hv' : (valS vars rs != 0) = false := by simpa using hv
    have hl' : ((ys.length : Int) != vars) = true := by simpa using hl
    clear hv hl
    go_enter Tryd.func30, Tryd.ntmps30
    go_wp2_with (first | (go_at_call 50; refine (Validate_any _ (HR'.out.below (by go_grown))).mono ?_; rintro e w1 ⟨rfl, hb1⟩; have hB1 : Below w.heap.size w w1 := (thenBelow (allocBelow _ _) hb1); obtain ⟨p1, p2⟩ := blk hb1 (n := w.heap.size) (by go_size)) | (go_at_call 45; refine (isPoint_any (H'.out.below (by go_grown))).mono ?_; rintro e w' ⟨rfl, rfl⟩))
    go_ret
    exact ⟨rfl, by assumption⟩
  · have hv' : (valS vars rs != 0) = false := by simpa using hv
    have hl' : ((ys.length : Int) != vars) = false := by simpa using hl
    clear hv hl
    go_enter Tryd.func30, Tryd.ntmps30
    go_wp2_with (first | (go_at_call 50; refine (Validate_any _ (HR'.out.below (by go_grown))).mono ?_; rintro e w1 ⟨rfl, hb1⟩; have hB1 : Below w.heap.size w w1 := (thenBelow (allocBelow _ _) hb1); obtain ⟨p1, p2⟩ := blk hb1 (n := w.heap.size) (by go_size)) | (go_at_call 45; refine (isPoint_any (H'.out.below (by go_grown))).mono ?_; rintro e w' ⟨rfl, rfl⟩))
    go_ret
    exact ⟨rfl, by assumption⟩

set_option maxHeartbeats 800000 in
theorem Satisfies_empty {lo' : Nat} (vars : Int) (w : World) (a : Option Addr) (cap : Nat) (v' : Value) (ys : List Int) (HR : IsRows 0 w (.slice a 0 cap) []) (h' : IsInts lo' w v' ys)
    (hv : valS vars [] = 0) (hl : (ys.length : Int) = vars) (hp : ys.all coB = true) :
    Calls Tryd.prog 30 #[.agg #[.int .i64 vars, .slice a 0 cap], v'] w fun e w' => e = .returned (.bool (([] : List Rw).all (holdB ys))) ∧ Below w.heap.size w w' := by
  obtain ⟨a', cap', rfl⟩ := h'.shape
  have HR' := hid0 HR
  have H' := hid0 h'
  have hl' : ((ys.length : Int) != vars) = false := by simpa using hl
  clear hl HR h'
  go_enter Tryd.func30, Tryd.ntmps30
  go_wp2_with (first | (go_at_call 50; refine (Validate_any _ (HR'.out.below (by go_grown))).mono ?_; rintro e w1 ⟨rfl, hb1⟩; have hB1 : Below w.heap.size w w1 := (thenBelow (allocBelow _ _) hb1); obtain ⟨p1, p2⟩ := blk hb1 (n := w.heap.size) (by go_size)) | (go_at_call 45; refine (isPoint_any (H'.out.below (by go_grown))).mono ?_; rintro e w' ⟨rfl, rfl⟩))
  refine wp_loop_rounds 1 ?_
  rw [rounds_succ]
  go_wp2_with fail
  go_ret
  exact ⟨ret_bool rfl, hB1⟩

theorem Satisfies_any {lo lo' : Nat} {w : World} {v v' : Value} {rs : List Rw} {ys : List Int} (vars : Int) (h : IsRows lo w v rs) (h' : IsInts lo' w v' ys) :
    Calls Tryd.prog 30 #[.agg #[.int .i64 vars, v], v'] w fun e w' => e = .returned (.bool (satS vars rs ys)) ∧ Below w.heap.size w w' := by
  by_cases hv : valS vars rs = 0
  · by_cases hl : (ys.length : Int) = vars
    · cases hp : ys.all coB with
      | false =>
        rw [show satS vars rs ys = false by simp only [satS, hp]; simp]
        exact Satisfies_no vars w v v' rs ys h h' (.inr (.inr ⟨hv, hl, hp⟩))
      | true =>
        rw [show satS vars rs ys = rs.all (holdB ys) by simp only [satS, hp, hv, hl]; simp]
        have H := h.mono (Nat.zero_le _)
        obtain ⟨a, cap, rfl, _, hm, hc⟩ := H
        unfold maxLen at hm
        rcases hc with rfl | ⟨b, off, rfl, _, hb, hc⟩
        · exact Satisfies_empty vars w a cap v' ys (h.mono (Nat.zero_le _)) h' hv hl hp
        · exact Satisfies_full vars b off _ _ w rs v' ys rfl (by omega) hb (fun i hi => by obtain ⟨sv, h1, h2, h3, h4⟩ := hc i hi; exact ⟨sv, h1, h2, h3⟩) (h.mono (Nat.zero_le _)) h' hv hl hp
    · rw [show satS vars rs ys = false by simp [satS, hl]]
      exact Satisfies_no vars w v v' rs ys h h' (.inr (.inl ⟨hv, hl⟩))
  · rw [show satS vars rs ys = false by simp [satS, hv]]
    exact Satisfies_no vars w v v' rs ys h h' (.inl hv)
end Go.Proofs.YtbdnihjokndhaaaDoor
