import Derived.Test.YtpadmggccpgajaaDoorProg
import Derived.WalkSpells
import Derived.WalkLawsBesides
import Derived.Deep.QuietTactic
import Derived.BigQuiet
import Derived.Laws.AppendOwnNone
import Derived.Deep.RegionWith
import Derived.StillTailTactics
import Derived.Deep.RegionHeld3
import Derived.Shelf.Strings.Builder1
import Derived.Test.YtpadmggccpgajaaDoorGrphijcdncl
import Derived.Test.YtpadmggccpgajaaDoorGrpkdocnnlm
set_option linter.all false
namespace Go.Proofs.YtpadmggccpgajaaDoor
open Go.RowKit Go.Deep

set_option maxHeartbeats 400000 in
theorem allSmall_full (b off n cap : Nat) (w : World) (rs : List Rw) (hx : rs.length = n) (hn : n ≤ 9223372036854775807) (hb : b < w.heap.size)
    (hc : ∀ i (hi : i < rs.length), ∃ sv, w.cell? ⟨b, off + i * 2, none⟩ = some sv ∧ w.cell? ⟨b, off + i * 2 + 1, none⟩ = some (.int .i64 rs[i].2) ∧ IsInts 0 w sv rs[i].1) :
    Calls Tryd.prog 122 #[.slice (some ⟨b, off, none⟩) n cap] w fun e w' => e = .returned (.bool (rs.all smR)) ∧ Below w.heap.size w w' := by
  go_enter Tryd.func122, Tryd.ntmps122
  go_wp2_with fail
  go_loopw [7] (fun v wr => ∃ k : Nat, k ≤ n ∧ v = .int .i64 k ∧ (rs.take k).all smR = true ∧ Below w.heap.size w wr) (fun v _ => n - (intOf v).toNat)
  case atStart => exact ⟨0, Nat.zero_le _, rfl, rfl, Below.refl _ _⟩
  case round =>
    obtain ⟨k, hk, rfl, hall, hB⟩ := hrel
    have HA := hid0 hall
    have HB := hid0 hB
    by_cases h1 : k < n
    · obtain ⟨sv, q1, q2, q3⟩ := hc k (by omega)
      obtain ⟨a', cap', rfl⟩ := q3.shape
      have g1 := (hB.cell (p := ⟨b, off + k * 2, none⟩) hb).trans q1
      have g2 := (hB.cell (p := ⟨b, off + k * 2 + 1, none⟩) hb).trans q2
      have g3 := hid0 (q3.below hB)
      clear hall hB hc q1 q2 q3
      go_wp2_with (go_at_call 80; refine (small_any _ (g3.out.below (by go_grown))).mono ?_; rintro e w1 ⟨rfl, hb1⟩)
      · have hp : (!smR (rs[k]'(by omega))) = true := by assumption
        go_ret
        exact ⟨ret_bool (by rw [all_noR (k := k) (by omega) (by simpa using hp)]), thenBelow HB.out (thenBelow (allocBelow _ _) hb1)⟩
      · have hp : (!smR (rs[k]'(by omega))) = false := by assumption
        go_roundw
        case rel => exact ⟨k + 1, by omega, by go_num, take_allR (by omega) HA.out (by simpa using hp), thenBelow HB.out (thenBelow (allocBelow _ _) hb1)⟩
        case measure => simp [intOf]; omega
    · clear hall hB hc
      go_wp2_with fail
      go_ret
      exact ⟨ret_bool (by rw [all_takeR (by omega) HA.out]), HB.out⟩

theorem allSmall_empty (a : Option Addr) (cap : Nat) (w : World) :
    Calls Tryd.prog 122 #[.slice a 0 cap] w fun e w' => e = .returned (.bool (([] : List Rw).all smR)) ∧ Below w.heap.size w w' := by
  go_enter Tryd.func122, Tryd.ntmps122
  go_wp2_with fail
  refine wp_loop_rounds 1 ?_
  rw [rounds_succ]
  go_wp2_with fail
  go_ret
  exact ⟨ret_bool rfl, Below.refl _ _⟩

theorem allSmall_any {lo : Nat} {w : World} {v : Value} {rs : List Rw} (h : IsRows lo w v rs) :
    Calls Tryd.prog 122 #[v] w fun e w' => e = .returned (.bool (rs.all smR)) ∧ Below w.heap.size w w' := by
  obtain ⟨a, cap, rfl, hl, hm, hc⟩ := h
  unfold maxLen at hm
  rcases hc with rfl | ⟨b, off, rfl, _, hb, hc⟩
  · exact allSmall_empty _ _ _
  · exact allSmall_full _ _ _ _ _ _ rfl (by omega) hb fun i hi => by
      obtain ⟨sv, h1, h2, h3, h4⟩ := hc i hi
      exact ⟨sv, h1, h2, h3.mono (Nat.zero_le _)⟩

/-- The row has as many coefficients as the system has variables. -/
def lenB (vars : Int) (r : Rw) : Bool := decide ((r.1.length : Int) = vars)

/-- The error of a system with a number of variables in range. -/
def valR (vars : Int) (rs : List Rw) : Int := if rs.all (lenB vars) = false then 1 else if 192 < rs.length ∨ rs.all smR = false then 4 else 0

set_option maxHeartbeats 400000 in
theorem Validate_full (vars : Int) (b off n cap : Nat) (w : World) (rs : List Rw) (hx : rs.length = n) (hn : n ≤ 9223372036854775807) (hb : b < w.heap.size) (h0 : 0 ≤ vars) (h96 : vars ≤ 96)
    (hc : ∀ i (hi : i < rs.length), ∃ sv, w.cell? ⟨b, off + i * 2, none⟩ = some sv ∧ w.cell? ⟨b, off + i * 2 + 1, none⟩ = some (.int .i64 rs[i].2) ∧ IsInts 0 w sv rs[i].1) (HR : IsRows 0 w (.slice (some ⟨b, off, none⟩) n cap) rs) :
    Calls Tryd.prog 65 #[.agg #[.int .i64 vars, .slice (some ⟨b, off, none⟩) n cap]] w fun e w' => e = .returned (.int .i64 (valR vars rs)) ∧ Below w.heap.size w w' := by
  go_enter Tryd.func65, Tryd.ntmps65
  go_wp2_with fail
  go_loopw [16] (fun v wr => ∃ k : Nat, k ≤ n ∧ v = .int .i64 k ∧ (rs.take k).all (lenB vars) = true ∧ Below (w.alloc (.cells #[.int .i64 vars, .slice (some ⟨b, off, none⟩) n cap] 52)).heap.size (w.alloc (.cells #[.int .i64 vars, .slice (some ⟨b, off, none⟩) n cap] 52)) wr) (fun v _ => n - (intOf v).toNat)
  case atStart => exact ⟨0, Nat.zero_le _, rfl, rfl, Below.refl _ _⟩
  case round =>
    obtain ⟨k, hk, rfl, hall, hB0⟩ := hrel
    have HA := hid0 hall
    have hB := (allocBelow w _).trans (hB0.mono (by go_size))
    have HB := hid0 hB
    have HB0 := hid0 hB0
    have y0 : wr.cell? ⟨w.heap.size, 0, none⟩ = some (.int .i64 vars) := by rw [(blk hB0 (n := w.heap.size) (by go_size)).1]; simp
    have y1 : wr.cell? ⟨w.heap.size, 1, none⟩ = some (.slice (some ⟨b, off, none⟩) n cap) := by rw [(blk hB0 (n := w.heap.size) (by go_size)).1]; simp
    have hsz : w.heap.size < wr.heap.size := by have := hB0.size; simp at this; omega
    by_cases h1 : k < n
    · obtain ⟨sv, q1, q2, q3⟩ := hc k (by omega)
      obtain ⟨a', cap', rfl⟩ := q3.shape
      have g1 := (hB.cell (p := ⟨b, off + k * 2, none⟩) hb).trans q1
      have g2 := (hB.cell (p := ⟨b, off + k * 2 + 1, none⟩) hb).trans q2
      have E : Hid (lenB vars (rs[k]'(by omega)) = decide (((rs[k]'(by omega)).1.length : Int) = vars)) := (rfl : lenB vars _ = _)
      clear hall hB hB0 hc q1 q2 q3
      by_cases h2 : (((rs[k]'(by omega)).1.length : Int) = vars)
      · have E2 : Hid (lenB vars (rs[k]'(by omega)) = true) := by show _ = _; rw [E.out]; simpa using h2
        have h3 : (((rs[k]'(by omega)).1.length : Int) != vars) = false := by simpa using h2
        clear h2
        go_wp2_with fail
        go_roundw
        case rel => exact ⟨k + 1, by omega, by go_num, take_allR (by omega) HA.out E2.out, thenBelow HB0.out (allocBelow _ _)⟩
        case measure => simp [intOf]; omega
      · have E2 : Hid (lenB vars (rs[k]'(by omega)) = false) := by show _ = _; rw [E.out]; simpa using h2
        have h3 : (((rs[k]'(by omega)).1.length : Int) != vars) = true := by simpa using h2
        clear h2
        go_wp2_with fail
        go_ret
        exact ⟨ret_int (by rw [valR, all_noR (k := k) (by omega) E2.out]; rfl), thenBelow HB.out (allocBelow _ _)⟩
    · have HRr := hid0 (HR.below hB)
      have E3 : Hid (rs.all (lenB vars) = true) := all_takeR (by omega) HA.out
      have hxx : Hid (rs.length = n) := hx
      clear hall hB hB0 hc
      by_cases h4 : 192 < n
      · go_wp2_with fail
        go_ret
        exact ⟨ret_int (by rw [valR, E3.out, hxx.out]; simp [h4]), HB.out⟩
      · cases h5 : rs.all smR with
        | false =>
          go_wp2_with (go_at_call 122; refine (allSmall_any HRr.out).mono ?_; rintro e w1 ⟨rfl, hb1⟩)
          go_ret
          exact ⟨ret_int (by rw [valR, E3.out, h5]; simp), thenBelow HB.out hb1⟩
        | true =>
          go_wp2_with (go_at_call 122; refine (allSmall_any HRr.out).mono ?_; rintro e w1 ⟨rfl, hb1⟩)
          go_ret
          exact ⟨ret_int (by rw [valR, E3.out, hxx.out, h5]; simp [h4]), thenBelow HB.out hb1⟩

theorem Validate_empty (vars : Int) (a : Option Addr) (cap : Nat) (w : World) (h0 : 0 ≤ vars) (h96 : vars ≤ 96) :
    Calls Tryd.prog 65 #[.agg #[.int .i64 vars, .slice a 0 cap]] w fun e w' => e = .returned (.int .i64 (valR vars [])) ∧ Below w.heap.size w w' := by
  go_enter Tryd.func65, Tryd.ntmps65
  go_wp2_with fail
  refine wp_loop_rounds 1 ?_
  rw [rounds_succ]
  go_wp2_with (go_at_call 122; refine (allSmall_empty _ _ _).mono ?_; rintro e w1 ⟨rfl, hb1⟩)
  go_ret
  exact ⟨ret_int rfl, thenBelow (allocBelow _ _) hb1⟩

theorem Validate_out (vars : Int) (a : Option Addr) (n cap : Nat) (w : World) (h0 : vars < 0 ∨ 96 < vars) :
    Calls Tryd.prog 65 #[.agg #[.int .i64 vars, .slice a n cap]] w fun e w' => e = .returned (.int .i64 1) ∧ Below w.heap.size w w' := by
  rcases h0 with h0 | h0
  · go_enter Tryd.func65, Tryd.ntmps65
    go_wp2_with fail
    go_ret
    exact ⟨rfl, allocBelow _ _⟩
  · have h1 : ¬ vars < 0 := by omega
    go_enter Tryd.func65, Tryd.ntmps65
    go_wp2_with fail
    go_ret
    exact ⟨rfl, allocBelow _ _⟩

/-- Which error Validate names. -/
def valS (vars : Int) (rs : List Rw) : Int := if vars < 0 ∨ 96 < vars then 1 else valR vars rs
theorem Validate_any {lo : Nat} {w : World} {v : Value} {rs : List Rw} (vars : Int) (h : IsRows lo w v rs) :
    Calls Tryd.prog 65 #[.agg #[.int .i64 vars, v]] w fun e w' => e = .returned (.int .i64 (valS vars rs)) ∧ Below w.heap.size w w' := by
  have H := h.mono (Nat.zero_le _)
  obtain ⟨a, cap, rfl, hl, hm, hc⟩ := H
  unfold maxLen at hm
  by_cases h0 : vars < 0 ∨ 96 < vars
  · rw [valS, if_pos h0]
    exact Validate_out _ _ _ _ _ h0
  · rw [valS, if_neg h0]
    rcases hc with rfl | ⟨b, off, rfl, _, hb, hc⟩
    · exact Validate_empty _ _ _ _ (by omega) (by omega)
    · exact Validate_full _ _ _ _ _ _ _ rfl (by omega) hb (by omega) (by omega) (fun i hi => by obtain ⟨sv, h1, h2, h3, h4⟩ := hc i hi; exact ⟨sv, h1, h2, h3⟩) (h.mono (Nat.zero_le _))

/-- A row holds at a point. -/
def holdB (ys : List Int) (r : Rw) : Bool := decide (0 ≤ r.2 + dot r.1 ys)
/-- Whether a point satisfies a system. -/
def satS (vars : Int) (rs : List Rw) (ys : List Int) : Bool := decide (valS vars rs = 0) && decide ((ys.length : Int) = vars) && ys.all coB && rs.all (holdB ys)

theorem valS_zero {vars : Int} {rs : List Rw} : valS vars rs = 0 ↔ (0 ≤ vars ∧ vars ≤ 96) ∧ rs.all (lenB vars) = true ∧ rs.all smR = true ∧ rs.length ≤ 192 := by
  unfold valS valR
  by_cases h : vars < 0 ∨ 96 < vars
  · rw [if_pos h]; constructor
    · intro e; cases e
    · intro e; omega
  · rw [if_neg h]
    cases h1 : rs.all (lenB vars)
    · simp
    · cases h2 : rs.all smR
      · simp
      · by_cases h3 : 192 < rs.length
        · simp [h3]
        · simp [h3]; omega

set_option maxHeartbeats 800000 in
theorem Satisfies_full {lo' : Nat} (vars : Int) (b off n cap : Nat) (w : World) (rs : List Rw) (v' : Value) (ys : List Int) (hx : rs.length = n) (hn : n ≤ 9223372036854775807) (hb : b < w.heap.size)
    (hc : ∀ i (hi : i < rs.length), ∃ sv, w.cell? ⟨b, off + i * 2, none⟩ = some sv ∧ w.cell? ⟨b, off + i * 2 + 1, none⟩ = some (.int .i64 rs[i].2) ∧ IsInts 0 w sv rs[i].1) (HR : IsRows 0 w (.slice (some ⟨b, off, none⟩) n cap) rs) (h' : IsInts lo' w v' ys)
    (hv : valS vars rs = 0) (hl : (ys.length : Int) = vars) (hp : ys.all coB = true) :
    Calls Tryd.prog 36 #[.agg #[.int .i64 vars, .slice (some ⟨b, off, none⟩) n cap], v'] w fun e w' => e = .returned (.bool (rs.all (holdB ys))) ∧ Below w.heap.size w w' := by
  obtain ⟨a, cap', rfl⟩ := h'.shape
  have HL := hid0 hl
  have HS := hid0 (valS_zero.1 hv)
  have HP := hid0 hp
  have HR' := hid0 HR
  have H' := hid0 h'
  have hl' : ((ys.length : Int) != vars) = false := by simp; omega
  clear hl HR h'
  go_enter Tryd.func36, Tryd.ntmps36
  go_wp2_with (first | (go_at_call 65; refine (Validate_any _ (HR'.out.below (by go_grown))).mono ?_; rintro e w1 ⟨rfl, hb1⟩; have hB1 : Below w.heap.size w w1 := (thenBelow (allocBelow _ _) hb1); obtain ⟨p1, p2⟩ := blk hb1 (n := w.heap.size) (by go_size)) | (go_at_call 71; refine (isPoint_any (H'.out.below (by go_grown))).mono ?_; rintro e w' ⟨rfl, rfl⟩))
  have HB1 := hid0 hB1
  clear hp hl' p1 p2 hb1 hB1 hv
  go_loopw [25] (fun v wr => ∃ k : Nat, k ≤ n ∧ v = .int .i64 k ∧ (rs.take k).all (holdB ys) = true ∧ Below w1.heap.size w1 wr) (fun v _ => n - (intOf v).toNat)
  case atStart => exact ⟨0, Nat.zero_le _, rfl, rfl, Below.refl _ _⟩
  case round =>
    obtain ⟨k, hk, rfl, hall, hB0⟩ := hrel
    have HA := hid0 hall
    have HB0 := hid0 hB0
    have HB := hid0 (thenBelow HB1.out hB0)
    by_cases h1 : k < n
    · obtain ⟨sv, q1, q2, q3⟩ := hc k (by omega)
      obtain ⟨a', cap', rfl⟩ := q3.shape
      have g1 := (HB.out.cell (p := ⟨b, off + k * 2, none⟩) hb).trans q1
      have g2 := (HB.out.cell (p := ⟨b, off + k * 2 + 1, none⟩) hb).trans q2
      have Q3 := hid0 (q3.below HB.out)
      have P3 := hid0 (H'.out.below HB.out)
      have S1 := hid0 (smR_true.1 (List.all_eq_true.1 HS.out.2.2.1 _ (List.getElem_mem (by omega : k < rs.length))))
      have S2 : Hid (((rs[k]'(by omega)).1.length : Int) = vars) := by
        have := List.all_eq_true.1 HS.out.2.1 _ (List.getElem_mem (by omega : k < rs.length))
        show _ = _
        simpa [lenB] using this
      have S3 : Hid ((rs[k]'(by omega)).1.length = ys.length) := by show _ = _; have := S2.out; have := HL.out; omega
      have S4 : Hid ((rs[k]'(by omega)).1.length ≤ 96) := by show _ ≤ _; have := S2.out; have := HS.out.1; omega
      have E : Hid (holdB ys (rs[k]'(by omega)) = decide (0 ≤ (rs[k]'(by omega)).2 + dot (rs[k]'(by omega)).1 ys)) := (rfl : holdB ys _ = _)
      clear hall hB0 hc q1 q2 q3
      by_cases h2 : (rs[k]'(by omega)).2 + dot (rs[k]'(by omega)).1 ys < 0
      · have E2 : Hid (holdB ys (rs[k]'(by omega)) = false) := by show _ = _; rw [E.out]; simp; omega
        go_wp2_with (go_at_call 72; refine (valueAt_any _ (Q3.out.below (by go_grown)) (P3.out.below (by go_grown)) S3.out S4.out S1.out.1 HP.out S1.out.2).mono ?_; rintro e w2 ⟨rfl, hb2⟩)
        go_ret
        exact ⟨ret_bool (by rw [all_noR (k := k) (by omega) E2.out]), thenBelow HB.out (thenBelow (allocBelow _ _) hb2)⟩
      · have E2 : Hid (holdB ys (rs[k]'(by omega)) = true) := by show _ = _; rw [E.out]; simp; omega
        go_wp2_with (go_at_call 72; refine (valueAt_any _ (Q3.out.below (by go_grown)) (P3.out.below (by go_grown)) S3.out S4.out S1.out.1 HP.out S1.out.2).mono ?_; rintro e w2 ⟨rfl, hb2⟩)
        go_roundw
        case rel => exact ⟨k + 1, by omega, by go_num, take_allR (by omega) HA.out E2.out, thenBelow HB0.out (thenBelow (allocBelow _ _) hb2)⟩
        case measure => simp [intOf]; omega
    · clear hall hB0 hc
      go_wp2_with fail
      go_ret
      exact ⟨ret_bool (by rw [all_takeR (by omega) HA.out]), HB.out⟩

set_option maxHeartbeats 800000 in
theorem Satisfies_no {lo lo' : Nat} (vars : Int) (w : World) (v v' : Value) (rs : List Rw) (ys : List Int) (HR : IsRows lo w v rs) (h' : IsInts lo' w v' ys)
    (hno : valS vars rs ≠ 0 ∨ (valS vars rs = 0 ∧ (ys.length : Int) ≠ vars) ∨ (valS vars rs = 0 ∧ (ys.length : Int) = vars ∧ ys.all coB = false)) :
    Calls Tryd.prog 36 #[.agg #[.int .i64 vars, v], v'] w fun e w' => e = .returned (.bool false) ∧ Below w.heap.size w w' := by
  obtain ⟨a, cap, rfl⟩ := HR.shape
  obtain ⟨a', cap', rfl⟩ := h'.shape
  have HR' := hid0 HR
  have H' := hid0 h'
  clear HR h'
  rcases hno with hv | ⟨hv, hl⟩ | ⟨hv, hl, hp⟩
  · have hv' : (valS vars rs != 0) = true := by simpa using hv
    clear hv
    go_enter Tryd.func36, Tryd.ntmps36
    go_wp2_with (first | (go_at_call 65; refine (Validate_any _ (HR'.out.below (by go_grown))).mono ?_; rintro e w1 ⟨rfl, hb1⟩; have hB1 : Below w.heap.size w w1 := (thenBelow (allocBelow _ _) hb1); obtain ⟨p1, p2⟩ := blk hb1 (n := w.heap.size) (by go_size)) | (go_at_call 71; refine (isPoint_any (H'.out.below (by go_grown))).mono ?_; rintro e w' ⟨rfl, rfl⟩))
    go_ret
    exact ⟨rfl, by assumption⟩
  · have hv' : (valS vars rs != 0) = false := by simpa using hv
    have hl' : ((ys.length : Int) != vars) = true := by simpa using hl
    clear hv hl
    go_enter Tryd.func36, Tryd.ntmps36
    go_wp2_with (first | (go_at_call 65; refine (Validate_any _ (HR'.out.below (by go_grown))).mono ?_; rintro e w1 ⟨rfl, hb1⟩; have hB1 : Below w.heap.size w w1 := (thenBelow (allocBelow _ _) hb1); obtain ⟨p1, p2⟩ := blk hb1 (n := w.heap.size) (by go_size)) | (go_at_call 71; refine (isPoint_any (H'.out.below (by go_grown))).mono ?_; rintro e w' ⟨rfl, rfl⟩))
    go_ret
    exact ⟨rfl, by assumption⟩
  · have hv' : (valS vars rs != 0) = false := by simpa using hv
    have hl' : ((ys.length : Int) != vars) = false := by simpa using hl
    clear hv hl
    go_enter Tryd.func36, Tryd.ntmps36
    go_wp2_with (first | (go_at_call 65; refine (Validate_any _ (HR'.out.below (by go_grown))).mono ?_; rintro e w1 ⟨rfl, hb1⟩; have hB1 : Below w.heap.size w w1 := (thenBelow (allocBelow _ _) hb1); obtain ⟨p1, p2⟩ := blk hb1 (n := w.heap.size) (by go_size)) | (go_at_call 71; refine (isPoint_any (H'.out.below (by go_grown))).mono ?_; rintro e w' ⟨rfl, rfl⟩))
    go_ret
    exact ⟨rfl, by assumption⟩

set_option maxHeartbeats 800000 in
theorem Satisfies_empty {lo' : Nat} (vars : Int) (w : World) (a : Option Addr) (cap : Nat) (v' : Value) (ys : List Int) (HR : IsRows 0 w (.slice a 0 cap) []) (h' : IsInts lo' w v' ys)
    (hv : valS vars [] = 0) (hl : (ys.length : Int) = vars) (hp : ys.all coB = true) :
    Calls Tryd.prog 36 #[.agg #[.int .i64 vars, .slice a 0 cap], v'] w fun e w' => e = .returned (.bool (([] : List Rw).all (holdB ys))) ∧ Below w.heap.size w w' := by
  obtain ⟨a', cap', rfl⟩ := h'.shape
  have HR' := hid0 HR
  have H' := hid0 h'
  have hl' : ((ys.length : Int) != vars) = false := by simpa using hl
  clear hl HR h'
  go_enter Tryd.func36, Tryd.ntmps36
  go_wp2_with (first | (go_at_call 65; refine (Validate_any _ (HR'.out.below (by go_grown))).mono ?_; rintro e w1 ⟨rfl, hb1⟩; have hB1 : Below w.heap.size w w1 := (thenBelow (allocBelow _ _) hb1); obtain ⟨p1, p2⟩ := blk hb1 (n := w.heap.size) (by go_size)) | (go_at_call 71; refine (isPoint_any (H'.out.below (by go_grown))).mono ?_; rintro e w' ⟨rfl, rfl⟩))
  refine wp_loop_rounds 1 ?_
  rw [rounds_succ]
  go_wp2_with fail
  go_ret
  exact ⟨ret_bool rfl, hB1⟩

theorem Satisfies_any {lo lo' : Nat} {w : World} {v v' : Value} {rs : List Rw} {ys : List Int} (vars : Int) (h : IsRows lo w v rs) (h' : IsInts lo' w v' ys) :
    Calls Tryd.prog 36 #[.agg #[.int .i64 vars, v], v'] w fun e w' => e = .returned (.bool (satS vars rs ys)) ∧ Below w.heap.size w w' := by
  by_cases hv : valS vars rs = 0
  · by_cases hl : (ys.length : Int) = vars
    · cases hp : ys.all coB with
      | false =>
        rw [show satS vars rs ys = false by simp only [satS, hp]; simp]
        exact Satisfies_no vars w v v' rs ys h h' (.inr (.inr ⟨hv, hl, hp⟩))
      | true =>
        rw [show satS vars rs ys = rs.all (holdB ys) by simp only [satS, hp, hv, hl]; simp]
        have H := h.mono (Nat.zero_le _)
        obtain ⟨a, cap, rfl, _, hm, hc⟩ := H
        unfold maxLen at hm
        rcases hc with rfl | ⟨b, off, rfl, _, hb, hc⟩
        · exact Satisfies_empty vars w a cap v' ys (h.mono (Nat.zero_le _)) h' hv hl hp
        · exact Satisfies_full vars b off _ _ w rs v' ys rfl (by omega) hb (fun i hi => by obtain ⟨sv, h1, h2, h3, h4⟩ := hc i hi; exact ⟨sv, h1, h2, h3⟩) (h.mono (Nat.zero_le _)) h' hv hl hp
    · rw [show satS vars rs ys = false by simp [satS, hl]]
      exact Satisfies_no vars w v v' rs ys h h' (.inr (.inl ⟨hv, hl⟩))
  · rw [show satS vars rs ys = false by simp [satS, hv]]
    exact Satisfies_no vars w v v' rs ys h h' (.inl hv)
end Go.Proofs.YtpadmggccpgajaaDoor

namespace Go.Proofs.YtpadmggccpgajaaDoor
open Go.RowKit Go.Deep

/-- n lies from lo to hi. -/
def inB (lo hi n : Int) : Bool := decide (lo ≤ n) && decide (n ≤ hi)
theorem within_any (n lo hi : Int) (w : World) :
    Calls Tryd.prog 74 #[.int .i64 n, .int .i64 lo, .int .i64 hi] w fun e w' => e = .returned (.bool (inB lo hi n)) ∧ w = w' := by
  have e : Hid (inB lo hi n = (decide (lo ≤ n) && decide (n ≤ hi))) := (rfl : inB lo hi n = _)
  by_cases h1 : lo ≤ n
  · by_cases h2 : n ≤ hi
    · go_enter Tryd.func74, Tryd.ntmps74
      go_wp2
      go_ret
      exact ⟨ret_bool (by rw [e.out]; simp; omega), rfl⟩
    · go_enter Tryd.func74, Tryd.ntmps74
      go_wp2
      go_ret
      exact ⟨ret_bool (by rw [e.out]; simp; omega), rfl⟩
  · go_enter Tryd.func74, Tryd.ntmps74
    go_wp2
    go_ret
    exact ⟨ret_bool (by rw [e.out]; simp; omega), rfl⟩
theorem within_sm (n : Int) (w : World) : Calls Tryd.prog 74 #[.int .i64 n, .int .i64 (-68719476736), .int .i64 68719476736] w fun e w' => e = .returned (.bool (smB n)) ∧ w = w' := within_any _ _ _ _
set_option maxHeartbeats 400000 in
theorem rSmall_full (b off n cap : Nat) (c : Int) (w : World) (xs : List Int) (hx : xs.length = n) (hn : n ≤ 9223372036854775807) (hb : b < w.heap.size)
    (hc : ∀ i, i < n → w.cell? ⟨b, off + i, none⟩ = some (.int .i64 (xs.getD i 0))) :
    Calls Tryd.prog 79 #[.agg #[.slice (some ⟨b, off, none⟩) n cap, .int .i64 c]] w fun e w' => e = .returned (.bool (xs.all smB && smB c)) ∧ Below w.heap.size w w' := by
  go_enter Tryd.func79, Tryd.ntmps79
  go_wp2_with fail
  go_loop [3] (fun v => ∃ k : Nat, k ≤ n ∧ v = .int .i64 k ∧ (xs.take k).all smB = true) (fun v => n - (intOf v).toNat)
  case atStart => exact ⟨0, Nat.zero_le _, rfl, rfl⟩
  case round =>
    obtain ⟨k, hk, rfl, hall⟩ := hrel
    have HA : Hid ((xs.take k).all smB = true) := hall
    clear hall
    by_cases h1 : k < n
    · have g1 : (w.alloc (.cells #[.slice (some ⟨b, off, none⟩) n cap, .int .i64 c] 54)).cell? ⟨b, off + k, none⟩ = some (.int .i64 (xs.getD k 0)) := (World.cell?_alloc_past _ _ _ (by simpa using hb)).trans (hc k h1)
      go_wp2_with (go_at_call 74; refine (within_sm _ _).mono ?_; rintro e w' ⟨rfl, rfl⟩)
      · have hp : (!smB xs[k]) = true := by assumption
        go_ret
        exact ⟨ret_bool (by rw [all_no (k := k) (by omega) (by simpa using hp)]; rfl), allocBelow _ _⟩
      · have hp : (!smB xs[k]) = false := by assumption
        go_round
        case rel => exact ⟨k + 1, by omega, by go_num, take_all (by omega) HA.out (by simpa using hp)⟩
        case measure => simp [intOf]; omega
    · go_wp2_with (go_at_call 74; refine (within_sm _ _).mono ?_; rintro e w' ⟨rfl, rfl⟩)
      go_ret
      exact ⟨ret_bool (by rw [all_take (by omega) HA.out]; rfl), allocBelow _ _⟩

theorem rSmall_empty (a : Option Addr) (cap : Nat) (c : Int) (w : World) :
    Calls Tryd.prog 79 #[.agg #[.slice a 0 cap, .int .i64 c]] w fun e w' => e = .returned (.bool (([] : List Int).all smB && smB c)) ∧ Below w.heap.size w w' := by
  go_enter Tryd.func79, Tryd.ntmps79
  go_wp2_with fail
  refine wp_loop_rounds 1 ?_
  rw [rounds_succ]
  go_wp2_with (go_at_call 74; refine (within_sm _ _).mono ?_; rintro e w' ⟨rfl, rfl⟩)
  go_ret
  exact ⟨ret_bool rfl, allocBelow _ _⟩

theorem rSmall_any {lo : Nat} {w : World} {v : Value} {xs : List Int} (c : Int) (h : IsInts lo w v xs) :
    Calls Tryd.prog 79 #[.agg #[v, .int .i64 c]] w fun e w' => e = .returned (.bool (smR (xs, c))) ∧ Below w.heap.size w w' := by
  obtain ⟨a, cap, rfl, hl, hm, hi, hc⟩ := h
  unfold maxLen at hm
  rcases hc with rfl | ⟨b, off, rfl, _, hb, hc⟩
  · exact rSmall_empty _ _ _ _
  · exact rSmall_full _ _ _ _ _ _ _ rfl (by omega) hb hc

end Go.Proofs.YtpadmggccpgajaaDoor

namespace Go.Proofs.YtpadmggccpgajaaDoor
open Go.RowKit Go.Deep

/-- The law's guard on systems. -/
def longB (r : Rw) : Bool := decide (200 < r.1.length)
def shortB (r : Rw) : Bool := !longB r
def wideB (rs : List Rw) : Bool := if 250 < rs.length then true else !rs.all shortB
theorem long_row {lo : Nat} {w : World} {v : Value} {r : Rw} (h : IsInts lo w v r.1) : Calls Tryd.prog 25 #[.agg #[v, .int .i64 r.2]] w fun e w' => e = .returned (.bool (longB r)) ∧ Below w.heap.size w w' := by
  obtain ⟨a, cap, rfl⟩ := h.shape
  have e : longB r = decide (200 < (r.1.length : Int)) := by unfold longB; rw [decide_eq_decide]; omega
  rw [e]
  exact long_any _ _ _ _ _

set_option maxHeartbeats 800000 in
theorem wide_full (vars : Int) (b off n cap : Nat) (w : World) (rs : List Rw) (hx : rs.length = n) (hn : n ≤ 250) (hb : b < w.heap.size)
    (hc : ∀ i (hi : i < rs.length), ∃ sv, w.cell? ⟨b, off + i * 2, none⟩ = some sv ∧ w.cell? ⟨b, off + i * 2 + 1, none⟩ = some (.int .i64 rs[i].2) ∧ IsInts 0 w sv rs[i].1) :
    Calls Tryd.prog 24 #[.agg #[.int .i64 vars, .slice (some ⟨b, off, none⟩) n cap]] w fun e w' => e = .returned (.bool (!rs.all shortB)) ∧ Below w.heap.size w w' := by
  go_enter Tryd.func24, Tryd.ntmps24
  go_wp2_with fail
  go_loopw [3] (fun v wr => ∃ k : Nat, k ≤ n ∧ v = .int .i64 k ∧ (rs.take k).all shortB = true ∧ Below (w.alloc (.cells #[.int .i64 vars, .slice (some ⟨b, off, none⟩) n cap] 52)).heap.size (w.alloc (.cells #[.int .i64 vars, .slice (some ⟨b, off, none⟩) n cap] 52)) wr) (fun v _ => n - (intOf v).toNat)
  case atStart => exact ⟨0, Nat.zero_le _, rfl, rfl, Below.refl _ _⟩
  case round =>
    obtain ⟨k, hk, rfl, hall, hB0⟩ := hrel
    have HA := hid0 hall
    have HB := hid0 (thenBelow (allocBelow w _) hB0)
    have HB0 := hid0 hB0
    have y1 : wr.cell? ⟨w.heap.size, 1, none⟩ = some (.slice (some ⟨b, off, none⟩) n cap) := by rw [(blk hB0 (n := w.heap.size) (by go_size)).1]; simp
    by_cases h1 : k < n
    · obtain ⟨sv, q1, q2, q3⟩ := hc k (by omega)
      obtain ⟨a', cap', rfl⟩ := q3.shape
      have g1 := (HB.out.cell (p := ⟨b, off + k * 2, none⟩) hb).trans q1
      have g2 := (HB.out.cell (p := ⟨b, off + k * 2 + 1, none⟩) hb).trans q2
      have Q3 := hid0 (q3.below HB.out)
      clear hall hB0 hc q1 q2 q3
      go_wp2_with (go_at_call 25; refine (long_row (r := rs[k]'(by omega)) Q3.out).mono ?_; rintro e w1 ⟨rfl, hb1⟩)
      · have hp : longB (rs[k]'(by omega)) = true := by assumption
        go_ret
        exact ⟨ret_bool (by rw [all_noR (k := k) (by omega) (by rw [shortB, hp]; rfl)]; rfl), thenBelow HB.out hb1⟩
      · have hp : longB (rs[k]'(by omega)) = false := by assumption
        go_roundw
        case rel => exact ⟨k + 1, by omega, by go_num, take_allR (by omega) HA.out (by rw [shortB, hp]; rfl), thenBelow HB0.out hb1⟩
        case measure => simp [intOf]; omega
    · clear hall hB0 hc
      go_wp2_with fail
      go_ret
      exact ⟨ret_bool (by rw [all_takeR (by omega) HA.out]; rfl), HB.out⟩
theorem wide_empty (vars : Int) (a : Option Addr) (cap : Nat) (w : World) :
    Calls Tryd.prog 24 #[.agg #[.int .i64 vars, .slice a 0 cap]] w fun e w' => e = .returned (.bool (!([] : List Rw).all shortB)) ∧ Below w.heap.size w w' := by
  go_enter Tryd.func24, Tryd.ntmps24
  go_wp2_with fail
  refine wp_loop_rounds 1 ?_
  rw [rounds_succ]
  go_wp2_with fail
  go_ret
  exact ⟨ret_bool rfl, allocBelow _ _⟩
theorem wide_many (vars : Int) (a : Option Addr) (n cap : Nat) (w : World) (h : 250 < n) :
    Calls Tryd.prog 24 #[.agg #[.int .i64 vars, .slice a n cap]] w fun e w' => e = .returned (.bool true) ∧ Below w.heap.size w w' := by
  have h' : (250 : Int) < n := by omega
  go_enter Tryd.func24, Tryd.ntmps24
  go_wp2_with fail
  go_ret
  exact ⟨rfl, allocBelow _ _⟩
theorem wide_any {lo : Nat} {w : World} {v : Value} {rs : List Rw} (vars : Int) (h : IsRows lo w v rs) :
    Calls Tryd.prog 24 #[.agg #[.int .i64 vars, v]] w fun e w' => e = .returned (.bool (wideB rs)) ∧ Below w.heap.size w w' := by
  obtain ⟨a, cap, rfl, hl, hm, hc⟩ := h.mono (Nat.zero_le _)
  by_cases h0 : 250 < rs.length
  · rw [wideB, if_pos h0]
    exact wide_many _ _ _ _ _ h0
  · rw [wideB, if_neg h0]
    rcases hc with rfl | ⟨b, off, rfl, _, hb, hc⟩
    · exact wide_empty _ _ _ _
    · exact wide_full _ _ _ _ _ _ _ rfl (by omega) hb (fun i hi => by obtain ⟨sv, h1, h2, h3, h4⟩ := hc i hi; exact ⟨sv, h1, h2, h3⟩)
set_option maxHeartbeats 1600000 in
theorem rValidate_full (vars : Int) (b off n cap : Nat) (w : World) (rs : List Rw) (hx : rs.length = n) (hn : n ≤ 9223372036854775807) (hb : b < w.heap.size) (h0 : inB 0 96 vars = true)
    (hc : ∀ i (hi : i < rs.length), ∃ sv, w.cell? ⟨b, off + i * 2, none⟩ = some sv ∧ w.cell? ⟨b, off + i * 2 + 1, none⟩ = some (.int .i64 rs[i].2) ∧ IsInts 0 w sv rs[i].1) :
    Calls Tryd.prog 68 #[.agg #[.int .i64 vars, .slice (some ⟨b, off, none⟩) n cap]] w fun e w' => e = .returned (.int .i64 (valR vars rs)) ∧ Below w.heap.size w w' := by
  go_enter Tryd.func68, Tryd.ntmps68
  go_wp2_with (go_at_call 74; refine (within_any _ _ _ _).mono ?_; rintro e w' ⟨rfl, rfl⟩)
  go_loopw [3] (fun v wr => ∃ k : Nat, k ≤ n ∧ v = .int .i64 k ∧ (rs.take k).all (lenB vars) = true ∧ Below (w.alloc (.cells #[.int .i64 vars, .slice (some ⟨b, off, none⟩) n cap] 52)).heap.size (w.alloc (.cells #[.int .i64 vars, .slice (some ⟨b, off, none⟩) n cap] 52)) wr) (fun v _ => n - (intOf v).toNat)
  case atStart => exact ⟨0, Nat.zero_le _, rfl, rfl, Below.refl _ _⟩
  case round =>
    obtain ⟨k, hk, rfl, hall, hB0⟩ := hrel
    have HA := hid0 hall
    have HB := hid0 (thenBelow (allocBelow w _) hB0)
    have HB0 := hid0 hB0
    have y0 : wr.cell? ⟨w.heap.size, 0, none⟩ = some (.int .i64 vars) := by rw [(blk hB0 (n := w.heap.size) (by go_size)).1]; simp
    have y1 : wr.cell? ⟨w.heap.size, 1, none⟩ = some (.slice (some ⟨b, off, none⟩) n cap) := by rw [(blk hB0 (n := w.heap.size) (by go_size)).1]; simp
    by_cases h1 : k < n
    · obtain ⟨sv, q1, q2, q3⟩ := hc k (by omega)
      obtain ⟨a', cap', rfl⟩ := q3.shape
      have g1 := (HB.out.cell (p := ⟨b, off + k * 2, none⟩) hb).trans q1
      have E : Hid (lenB vars (rs[k]'(by omega)) = decide (((rs[k]'(by omega)).1.length : Int) = vars)) := (rfl : lenB vars _ = _)
      clear hall hB0 hc q1 q2 q3
      by_cases h2 : (((rs[k]'(by omega)).1.length : Int) = vars)
      · have E2 : Hid (lenB vars (rs[k]'(by omega)) = true) := by show _ = _; rw [E.out]; simpa using h2
        have h3 : (((rs[k]'(by omega)).1.length : Int) != vars) = false := by simpa using h2
        clear h2
        go_wp2_with fail
        go_quiet (fail)
        go_wp2_with fail
        go_roundw
        case rel => exact ⟨k + 1, by omega, by go_num, take_allR (by omega) HA.out E2.out, quietBelow HB0.out _⟩
        case measure => simp [intOf]; omega
      · have E2 : Hid (lenB vars (rs[k]'(by omega)) = false) := by show _ = _; rw [E.out]; simpa using h2
        have h3 : (((rs[k]'(by omega)).1.length : Int) != vars) = true := by simpa using h2
        clear h2
        go_wp2_with fail
        go_quiet (fail)
        go_wp2_with fail
        go_ret
        exact ⟨ret_int (by rw [valR, all_noR (k := k) (by omega) E2.out]; rfl), quietBelow HB.out _⟩
    · have E3 : Hid (rs.all (lenB vars) = true) := all_takeR (by omega) HA.out
      clear hall hB0
      by_cases h4 : 192 < n
      · go_wp2_with fail
        go_ret
        exact ⟨ret_int (by rw [valR, E3.out, hx]; simp [h4]), HB.out⟩
      · go_wp2_with fail
        obtain ⟨wo, rfl⟩ : ∃ wo : World, wo = wr := ⟨_, rfl⟩
        clear h1 y0 HA hk
        go_loopw [4] (fun v wr => ∃ k : Nat, k ≤ n ∧ v = .int .i64 k ∧ (rs.take k).all smR = true ∧ Below wo.heap.size wo wr) (fun v _ => n - (intOf v).toNat)
        case atStart => exact ⟨0, Nat.zero_le _, rfl, rfl, Below.refl _ _⟩
        case round =>
          obtain ⟨k', hk', rfl, hall, hBo⟩ := hrel
          have HA := hid0 hall
          have HC := hid0 (thenBelow HB.out hBo)
          have HBo := hid0 hBo
          have hlt : w.heap.size < wo.heap.size := cell_lt y1
          have y2 : wr.cell? ⟨w.heap.size, 1, none⟩ = some (.slice (some ⟨b, off, none⟩) n cap) := (hBo.cell (p := ⟨w.heap.size, 1, none⟩) hlt).trans y1
          by_cases h1 : k' < n
          · obtain ⟨sv, q1, q2, q3⟩ := hc k' (by omega)
            obtain ⟨a', cap', rfl⟩ := q3.shape
            have g1 := (HC.out.cell (p := ⟨b, off + k' * 2, none⟩) hb).trans q1
            have g2 := (HC.out.cell (p := ⟨b, off + k' * 2 + 1, none⟩) hb).trans q2
            have Q3 := hid0 (q3.below HC.out)
            clear hall hBo hc q1 q2 q3 y1
            go_wp2_with (go_at_call 79; refine (rSmall_any _ Q3.out).mono ?_; rintro e w1 ⟨rfl, hb1⟩)
            · have hp : (!smR (rs[k']'(by omega))) = true := by assumption
              go_ret
              exact ⟨ret_int (by rw [valR, E3.out, all_noR (k := k') (by omega) (by simpa using hp)]; simp), thenBelow HC.out hb1⟩
            · have hp : (!smR (rs[k']'(by omega))) = false := by assumption
              go_roundw
              case rel => exact ⟨k' + 1, by omega, by go_num, take_allR (by omega) HA.out (by simpa using hp), thenBelow HBo.out hb1⟩
              case measure => simp [intOf]; omega
          · clear hall hBo hc y1
            go_wp2_with fail
            go_ret
            exact ⟨ret_int (by rw [valR, E3.out, all_takeR (by omega) HA.out, hx]; simp [h4]), HC.out⟩

theorem rValidate_empty (vars : Int) (a : Option Addr) (cap : Nat) (w : World) (h0 : inB 0 96 vars = true) :
    Calls Tryd.prog 68 #[.agg #[.int .i64 vars, .slice a 0 cap]] w fun e w' => e = .returned (.int .i64 (valR vars [])) ∧ Below w.heap.size w w' := by
  go_enter Tryd.func68, Tryd.ntmps68
  go_wp2_with (go_at_call 74; refine (within_any _ _ _ _).mono ?_; rintro e w' ⟨rfl, rfl⟩)
  refine wp_loop_rounds 1 ?_
  rw [rounds_succ]
  go_wp2_with fail
  refine wp_loop_rounds 1 ?_
  rw [rounds_succ]
  go_wp2_with fail
  go_ret
  exact ⟨ret_int rfl, allocBelow _ _⟩
theorem rValidate_out (vars : Int) (a : Option Addr) (n cap : Nat) (w : World) (h0 : inB 0 96 vars = false) :
    Calls Tryd.prog 68 #[.agg #[.int .i64 vars, .slice a n cap]] w fun e w' => e = .returned (.int .i64 1) ∧ Below w.heap.size w w' := by
  go_enter Tryd.func68, Tryd.ntmps68
  go_wp2_with (go_at_call 74; refine (within_any _ _ _ _).mono ?_; rintro e w' ⟨rfl, rfl⟩)
  go_ret
  exact ⟨rfl, allocBelow _ _⟩
theorem rValidate_any {lo : Nat} {w : World} {v : Value} {rs : List Rw} (vars : Int) (h : IsRows lo w v rs) :
    Calls Tryd.prog 68 #[.agg #[.int .i64 vars, v]] w fun e w' => e = .returned (.int .i64 (valS vars rs)) ∧ Below w.heap.size w w' := by
  obtain ⟨a, cap, rfl, hl, hm, hc⟩ := h.mono (Nat.zero_le _)
  unfold maxLen at hm
  by_cases h0 : vars < 0 ∨ 96 < vars
  · rw [valS, if_pos h0]
    exact rValidate_out _ _ _ _ _ (by simp [inB]; omega)
  · rw [valS, if_neg h0]
    have hi : inB 0 96 vars = true := by simp [inB]; omega
    rcases hc with rfl | ⟨b, off, rfl, _, hb, hc⟩
    · exact rValidate_empty _ _ _ _ hi
    · exact rValidate_full _ _ _ _ _ _ _ rfl (by omega) hb hi (fun i hi => by obtain ⟨sv, h1, h2, h3, h4⟩ := hc i hi; exact ⟨sv, h1, h2, h3⟩)

end Go.Proofs.YtpadmggccpgajaaDoor

namespace Go.Proofs.YtpadmggccpgajaaDoor
open Go.RowKit Go.Deep

/-- The order of slices of integers. -/
def cmpI : List Int → List Int → Int
  | [], [] => 0
  | [], _ :: _ => -1
  | _ :: _, [] => 1
  | x :: xs, y :: ys => if x < y then -1 else if y < x then 1 else cmpI xs ys

set_option maxHeartbeats 400000 in
theorem cmpInts_full (b off n cap b' off' n' cap' : Nat) (w : World) (xs ys : List Int) (hx : xs.length = n) (hy : ys.length = n') (hn : n ≤ 9223372036854775807)
    (hc : ∀ i, i < n → w.cell? ⟨b, off + i, none⟩ = some (.int .i64 (xs.getD i 0))) (hc' : ∀ i, i < n' → w.cell? ⟨b', off' + i, none⟩ = some (.int .i64 (ys.getD i 0))) :
    Calls Tryd.prog 53 #[.slice (some ⟨b, off, none⟩) n cap, .slice (some ⟨b', off', none⟩) n' cap'] w fun e w' => e = .returned (.int .i64 (cmpI xs ys)) ∧ Below w.heap.size w w' := by
  go_enter Tryd.func53, Tryd.ntmps53
  go_wp2
  go_loopw [5] (fun v wr => ∃ k : Nat, k ≤ n ∧ k ≤ n' ∧ v = .int .i64 k ∧ cmpI (xs.drop k) (ys.drop k) = cmpI xs ys ∧ Below w.heap.size w wr ∧ (∀ p : Addr, wr.cell? p = w.cell? p)) (fun v _ => n - (intOf v).toNat)
  case atStart => exact ⟨0, Nat.zero_le _, Nat.zero_le _, rfl, rfl, Below.refl _ _, fun _ => rfl⟩
  case round =>
    obtain ⟨k, hk, hk', rfl, hcm, hb, hsame⟩ := hrel
    have HS : Hid (∀ p : Addr, wr.cell? p = w.cell? p) := hsame
    have HB : Hid (Below w.heap.size w wr) := hb
    by_cases h1 : k < n
    · by_cases h2 : k < n'
      · have g1 : wr.cell? ⟨b, off + k, none⟩ = some (.int .i64 (xs.getD k 0)) := (hsame _).trans (hc k h1)
        have g2 : wr.cell? ⟨b', off' + k, none⟩ = some (.int .i64 (ys.getD k 0)) := (hsame _).trans (hc' k h2)
        have HC : Hid (cmpI xs ys = (if xs[k]'(by omega) < ys[k]'(by omega) then -1 else if ys[k]'(by omega) < xs[k]'(by omega) then 1 else cmpI (xs.drop (k+1)) (ys.drop (k+1)))) := by
          show _ = _
          rw [← hcm, List.drop_eq_getElem_cons (l := xs) (by omega), List.drop_eq_getElem_cons (l := ys) (by omega), cmpI]
        clear hsame hcm hb
        go_wp2
        go_quiet (fail)
        go_wp2
        · have hlt : xs[k] < ys[k] := by assumption
          go_ret
          exact ⟨ret_int (by rw [HC.out, if_pos hlt]), quietBelow HB.out _⟩
        · have hle : ys[k] ≤ xs[k] := by assumption
          go_quiet (fail)
          go_wp2
          · have hlt : ys[k] < xs[k] := by assumption
            go_ret
            exact ⟨ret_int (by rw [HC.out, if_neg (by omega), if_pos hlt]), (by (repeat refine quietBelow ?_ _); exact HB.out)⟩
          · have hle' : xs[k] ≤ ys[k] := by assumption
            go_roundw
            case rel => exact ⟨k + 1, by omega, by omega, by go_num, by rw [HC.out, if_neg (by omega), if_neg (by omega)], (by (repeat refine quietBelow ?_ _); exact HB.out), fun p => HS.out p⟩
            case measure => simp [intOf]; omega
      · have hd : ys.drop k = [] := List.drop_eq_nil_of_le (by omega)
        have HC : Hid (cmpI xs ys = 1) := by
          show _ = _
          rw [← hcm, hd, List.drop_eq_getElem_cons (by omega), cmpI]
        have hlt : n' < n := by omega
        clear hsame hcm hb hd
        go_wp2
        go_ret
        exact ⟨ret_int HC.out.symm, HB.out⟩
    · have hkn : k = n := by omega
      have hd : xs.drop k = [] := List.drop_eq_nil_of_le (by omega)
      by_cases h2 : n < n'
      · have HC : Hid (cmpI xs ys = -1) := by
          show _ = _
          rw [← hcm, hd, List.drop_eq_getElem_cons (by omega), cmpI]
        clear hsame hcm hb hd hkn
        go_wp2
        go_ret
        exact ⟨ret_int HC.out.symm, HB.out⟩
      · have HC : Hid (cmpI xs ys = 0) := by
          show _ = _
          rw [← hcm, hd, List.drop_eq_nil_of_le (by omega), cmpI]
        have hnn : ¬ n' < n := by omega
        clear hsame hcm hb hd hkn
        go_wp2
        go_ret
        exact ⟨ret_int HC.out.symm, HB.out⟩

set_option maxHeartbeats 400000 in
theorem cmpInts_left (a a' : Option Addr) (cap n' cap' : Nat) (w : World) (ys : List Int) (hy : ys.length = n') (hn' : n' ≤ 9223372036854775807) :
    Calls Tryd.prog 53 #[.slice a 0 cap, .slice a' n' cap'] w fun e w' => e = .returned (.int .i64 (cmpI [] ys)) ∧ Below w.heap.size w w' := by
  have HC : Hid (cmpI [] ys = if 0 < n' then -1 else 0) := by
    show _ = _
    cases ys <;> simp_all [cmpI] <;> omega
  by_cases h2 : 0 < n'
  · go_enter Tryd.func53, Tryd.ntmps53
    go_wp2
    go_rounds 1
    go_ret
    exact ⟨ret_int (by rw [HC.out, if_pos h2]), Below.refl _ _⟩
  · obtain rfl : n' = 0 := by omega
    clear h2
    go_enter Tryd.func53, Tryd.ntmps53
    go_wp2
    go_rounds 1
    go_ret
    exact ⟨ret_int (by rw [HC.out]; rfl), Below.refl _ _⟩

set_option maxHeartbeats 400000 in
theorem cmpInts_right (a a' : Option Addr) (n cap cap' : Nat) (w : World) (x : Int) (xs : List Int) (hx : (x :: xs).length = n) (hn : n ≤ 9223372036854775807) :
    Calls Tryd.prog 53 #[.slice a n cap, .slice a' 0 cap'] w fun e w' => e = .returned (.int .i64 (cmpI (x :: xs) [])) ∧ Below w.heap.size w w' := by
  have h2 : 0 < n := by simp at hx; omega
  clear hx
  go_enter Tryd.func53, Tryd.ntmps53
  go_wp2
  go_rounds 1
  go_ret
  exact ⟨rfl, Below.refl _ _⟩

theorem cmpInts_any {lo lo' : Nat} {w : World} {v v' : Value} {xs ys : List Int} (h : IsInts lo w v xs) (h' : IsInts lo' w v' ys) :
    Calls Tryd.prog 53 #[v, v'] w fun e w' => e = .returned (.int .i64 (cmpI xs ys)) ∧ Below w.heap.size w w' := by
  obtain ⟨a, cap, rfl, hl, hm, hi, hc⟩ := h
  obtain ⟨a', cap', rfl, hl', hm', hi', hc'⟩ := h'
  unfold maxLen at hm hm'
  rcases hc with rfl | ⟨b, off, rfl, _, _, hc⟩
  · exact cmpInts_left _ _ _ _ _ _ _ rfl (by omega)
  · rcases hc' with rfl | ⟨b', off', rfl, _, _, hc'⟩
    · cases xs with
      | nil => exact cmpInts_left _ _ _ _ _ _ _ rfl (by simp)
      | cons x xs => exact cmpInts_right _ _ _ _ _ _ _ _ rfl (by omega)
    · exact cmpInts_full _ _ _ _ _ _ _ _ _ _ _ rfl rfl (by omega) hc hc'

end Go.Proofs.YtpadmggccpgajaaDoor

namespace Go.Proofs.YtpadmggccpgajaaDoor
open Go.RowKit Go.Deep

/-- A slice of integers that the call has made: nil, or a row of its own. -/
def OwnV (lo : Nat) (w : World) (v : Value) (xs : List Int) : Prop :=
  (v = .slice none 0 0 ∧ xs = []) ∨ ∃ g cap, v = .slice (some ⟨g, 0, none⟩) xs.length cap ∧ xs.length ≤ cap ∧ cap ≤ maxLen ∧ OwnInts lo w g xs
theorem OwnV.ints {lo : Nat} {w : World} {v : Value} {xs : List Int} (h : OwnV lo w v xs) : IsInts lo w v xs := by
  rcases h with ⟨rfl, rfl⟩ | ⟨g, cap, rfl, hl, hm, h1, h2, h3, cur, t, hg, hc⟩
  · exact ⟨none, 0, rfl, by simp, by simp [maxLen], by simp, .inl rfl⟩
  · exact ints_of_block hg h1 rfl hl hm h3 hc
theorem OwnV.below {lo : Nat} {w w' : World} {v : Value} {xs : List Int} (h : OwnV lo w v xs) (hb : Below w.heap.size w w') : OwnV lo w' v xs := by
  rcases h with h | ⟨g, cap, hv, hl, hm, h⟩
  · exact .inl h
  · exact .inr ⟨g, cap, hv, hl, hm, h.below hb⟩
theorem OwnV.mono {lo lo' : Nat} {w : World} {v : Value} {xs : List Int} (h : OwnV lo w v xs) (hl' : lo' ≤ lo) : OwnV lo' w v xs := by
  rcases h with h | ⟨g, cap, hv, hl, hm, h⟩
  · exact .inl h
  · exact .inr ⟨g, cap, hv, hl, hm, h.mono hl'⟩
theorem OwnV.shape {lo : Nat} {w : World} {v : Value} {xs : List Int} (h : OwnV lo w v xs) : ∃ a cap, v = .slice a xs.length cap := h.ints.shape
theorem cmpI_self : ∀ xs, cmpI xs xs = 0
  | [] => rfl
  | x :: xs => by simp [cmpI, cmpI_self xs]
theorem cmpI_zero : ∀ {xs ys : List Int}, cmpI xs ys = 0 → xs = ys
  | [], [], _ => rfl
  | [], _ :: _, h => by simp [cmpI] at h
  | _ :: _, [], h => by simp [cmpI] at h
  | x :: xs, y :: ys, h => by
    unfold cmpI at h
    split at h
    · cases h
    · split at h
      · cases h
      · rw [show x = y by omega, cmpI_zero h]
def eqI (xs ys : List Int) : Bool := decide (xs = ys)
theorem eqI_cmp (xs ys : List Int) : (cmpI xs ys == 0) = eqI xs ys := by
  unfold eqI
  rw [Bool.eq_iff_iff, beq_iff_eq, decide_eq_true_iff]
  exact ⟨cmpI_zero, fun h => by rw [h]; exact cmpI_self _⟩
theorem SameInts_any {lo lo' : Nat} {w : World} {v v' : Value} {xs ys : List Int} (h : IsInts lo w v xs) (h' : IsInts lo' w v' ys) :
    Calls Tryd.prog 19 #[v, v'] w fun e w' => e = .returned (.bool (eqI xs ys)) ∧ Below w.heap.size w w' := by
  obtain ⟨a, cap, rfl⟩ := h.shape
  obtain ⟨a', cap', rfl⟩ := h'.shape
  have E := hid0 (eqI_cmp xs ys)
  go_enter Tryd.func19, Tryd.ntmps19
  go_wp2_with (go_at_call 53; refine (cmpInts_any h h').mono ?_; rintro e w1 ⟨rfl, hb1⟩)
  go_ret
  exact ⟨ret_bool E.out, hb1⟩
end Go.Proofs.YtpadmggccpgajaaDoor

namespace Go.Proofs.YtpadmggccpgajaaDoor
open Go.RowKit Go.Shelf

def renB : Go.Shelf.Ren := ⟨fun | 240 => 135 | 276 => 165 | 166 => 85 | 170 => 83 | 169 => 86 | n => n, fun | 0 => 0 | 3 => 3 | 4 => 4 | 5 => 5 | 9 => 9 | 20 => 20 | 37 => 115 | 70 => 114 | 72 => 117 | 75 => 123 | 80 => 126 | 127 => 152 | 164 => 174 | n => n, fun | n => n⟩
theorem laysB166 : Go.Proofs.Lays.n166 Tryd.prog renB := {
  mixed := by kernel_rfl
  f166 := Tryd.func85.trans (congrArg some (by kernel_rfl))
  f240 := Tryd.func135.trans (congrArg some (by kernel_rfl))
  f276 := Tryd.func165.trans (congrArg some (by kernel_rfl))
  t0 := Tryd.underlying0
  a0 := Tryd.isAgg0
  z0 := Tryd.sizeOf0
  v0 := Tryd.zeroValue0
  t3 := Tryd.underlying3
  a3 := Tryd.isAgg3
  z3 := Tryd.sizeOf3
  v3 := Tryd.zeroValue3
  t4 := Tryd.underlying4
  a4 := Tryd.isAgg4
  z4 := Tryd.sizeOf4
  v4 := Tryd.zeroValue4
  t9 := Tryd.underlying9
  a9 := Tryd.isAgg9
  z9 := Tryd.sizeOf9
  v9 := Tryd.zeroValue9
  t20 := Tryd.underlying20
  a20 := Tryd.isAgg20
  z20 := Tryd.sizeOf20
  v20 := Tryd.zeroValue20
  t37 := Tryd.underlying115
  a37 := Tryd.isAgg115
  z37 := Tryd.sizeOf115
  v37 := Tryd.zeroValue115
  t70 := Tryd.underlying114
  a70 := Tryd.isAgg114
  z70 := Tryd.sizeOf114
  v70 := Tryd.zeroValue114
  t72 := Tryd.underlying117
  a72 := Tryd.isAgg117
  z72 := Tryd.sizeOf117
  v72 := Tryd.zeroValue117
  t75 := Tryd.underlying123
  a75 := Tryd.isAgg123
  z75 := Tryd.sizeOf123
  v75 := Tryd.zeroValue123
  t164 := Tryd.underlying174
  a164 := Tryd.isAgg174
  z164 := Tryd.sizeOf174
  v164 := Tryd.zeroValue174 }
theorem laysB170 : Go.Proofs.Lays.n170 Tryd.prog renB := {
  mixed := by kernel_rfl
  f170 := Tryd.func83.trans (congrArg some (by kernel_rfl))
  t0 := Tryd.underlying0
  a0 := Tryd.isAgg0
  z0 := Tryd.sizeOf0
  v0 := Tryd.zeroValue0
  t3 := Tryd.underlying3
  a3 := Tryd.isAgg3
  z3 := Tryd.sizeOf3
  v3 := Tryd.zeroValue3
  t37 := Tryd.underlying115
  a37 := Tryd.isAgg115
  z37 := Tryd.sizeOf115
  v37 := Tryd.zeroValue115
  t70 := Tryd.underlying114
  a70 := Tryd.isAgg114
  z70 := Tryd.sizeOf114
  v70 := Tryd.zeroValue114
  t72 := Tryd.underlying117
  a72 := Tryd.isAgg117
  z72 := Tryd.sizeOf117
  v72 := Tryd.zeroValue117 }
theorem laysB169 : Go.Proofs.Lays.n169 Tryd.prog renB := {
  mixed := by kernel_rfl
  f169 := Tryd.func86.trans (congrArg some (by kernel_rfl))
  t0 := Tryd.underlying0
  a0 := Tryd.isAgg0
  z0 := Tryd.sizeOf0
  v0 := Tryd.zeroValue0
  t3 := Tryd.underlying3
  a3 := Tryd.isAgg3
  z3 := Tryd.sizeOf3
  v3 := Tryd.zeroValue3
  t9 := Tryd.underlying9
  a9 := Tryd.isAgg9
  z9 := Tryd.sizeOf9
  v9 := Tryd.zeroValue9
  t37 := Tryd.underlying115
  a37 := Tryd.isAgg115
  z37 := Tryd.sizeOf115
  v37 := Tryd.zeroValue115
  t70 := Tryd.underlying114
  a70 := Tryd.isAgg114
  z70 := Tryd.sizeOf114
  v70 := Tryd.zeroValue114
  t72 := Tryd.underlying117
  a72 := Tryd.isAgg117
  z72 := Tryd.sizeOf117
  v72 := Tryd.zeroValue117
  t127 := Tryd.underlying152
  a127 := Tryd.isAgg152
  z127 := Tryd.sizeOf152
  v127 := Tryd.zeroValue152 }
theorem extraB : Builder.Extra Tryd.prog renB := {
  sizeBuilder := by kernel_rfl
  liesBuilder := by kernel_rfl
  t5 := Tryd.underlying5
  a5 := Tryd.isAgg5
  z5 := Tryd.sizeOf5
  v5 := Tryd.zeroValue5
  infoByte := by kernel_rfl
  cellsByte := by kernel_rfl
  sizeByte := by kernel_rfl
  neB5 := by decide }

theorem B_Len (B b : Nat) (bs : List Value) (w : World) (h : Lib.IsBuilder 117 5 B b bs w) :
    Calls Tryd.prog 83 #[.pointer (some ⟨b, 0, none⟩)] w fun e w' => e = .returned (.int .i64 bs.length) ∧ w' = w := Any.Builder_Len laysB170 B b bs w h
theorem B_WriteString (B b : Nat) (bs : List Value) (s : ByteArray) (w : World) (h : Lib.IsBuilder 117 5 B b bs w) (hlen : bs.length + s.size ≤ 140737488355328) (hBw : B ≤ w.heap.size) :
    Calls Tryd.prog 85 #[.pointer (some ⟨b, 0, none⟩), .string s] w fun e w' => e = .returned (.tuple #[.int .i64 s.size, .nilIface]) ∧ (Lib.BuilderAt 117 5 B b (.pointer (some ⟨b, 0, none⟩)) (bs ++ Lib.strCells s) w' ∧ Below B w w') := Any.Builder_WriteString laysB166 extraB B b bs s w h hlen hBw
theorem B_String (B b : Nat) (l : List UInt8) (w : World) (h : Lib.IsBuilder 117 5 B b (Lib.byteCells l) w) (h0 : l ≠ []) :
    Calls Tryd.prog 86 #[.pointer (some ⟨b, 0, none⟩)] w fun e w' => e = .returned (.string ⟨l.toArray⟩) ∧ Below B w w' := Any.Builder_String laysB169 extraB B b l w h h0

theorem itoa0 (w : World) : Calls Tryd.prog 84 #[.int .i64 0] w fun e w' => e = .returned (.string ⟨#[48]⟩) ∧ w = w' := by
  go_enter Tryd.func84, Tryd.ntmps84
  go_wp2
  go_ret
  exact ⟨by rfl, rfl⟩
theorem itoa1 (w : World) : Calls Tryd.prog 84 #[.int .i64 1] w fun e w' => e = .returned (.string ⟨#[49]⟩) ∧ w = w' := by
  go_enter Tryd.func84, Tryd.ntmps84
  go_wp2
  go_ret
  exact ⟨by rfl, rfl⟩
theorem itoa2 (w : World) : Calls Tryd.prog 84 #[.int .i64 2] w fun e w' => e = .returned (.string ⟨#[50]⟩) ∧ w = w' := by
  go_enter Tryd.func84, Tryd.ntmps84
  go_wp2
  go_ret
  exact ⟨by rfl, rfl⟩
theorem itoa3 (w : World) : Calls Tryd.prog 84 #[.int .i64 3] w fun e w' => e = .returned (.string ⟨#[51]⟩) ∧ w = w' := by
  go_enter Tryd.func84, Tryd.ntmps84
  go_wp2
  go_ret
  exact ⟨by rfl, rfl⟩
set_option maxRecDepth 100000 in
theorem term20 (w : World) : Calls Tryd.prog 82 #[.int .i64 2, .int .i64 0] w fun e w' => e = .returned (.string ⟨#[50, 42, 120, 48]⟩) ∧ w = w' := by
  have hmx : (max 2 (-2) : Int) = 2 := rfl
  go_enter Tryd.func82, Tryd.ntmps82
  go_wp2_with (first | ((with_reducible refine (itoa0 _).mono ?_); rintro e w' ⟨rfl, rfl⟩) | ((with_reducible refine (itoa2 _).mono ?_); rintro e w' ⟨rfl, rfl⟩))
  go_ret
  exact ⟨by rfl, rfl⟩
set_option maxRecDepth 100000 in
theorem term11 (w : World) : Calls Tryd.prog 82 #[.int .i64 (-1), .int .i64 1] w fun e w' => e = .returned (.string ⟨#[120, 49]⟩) ∧ w = w' := by
  go_enter Tryd.func82, Tryd.ntmps82
  go_wp2_with ((with_reducible refine (itoa1 _).mono ?_); rintro e w' ⟨rfl, rfl⟩)
  go_ret
  exact ⟨by rfl, rfl⟩

theorem B_Len' (B b : Nat) (l : List UInt8) (w : World) (h : Lib.IsBuilder 117 5 B b (Lib.byteCells l) w) :
    Calls Tryd.prog 83 #[.pointer (some ⟨b, 0, none⟩)] w fun e w' => e = .returned (.int .i64 l.length) ∧ w = w' :=
  (B_Len B b _ w h).mono fun e w' hh => ⟨by rw [hh.1, Lib.byteCells_length], hh.2.symm⟩
theorem B_Write' (B b : Nat) (l : List UInt8) (s : ByteArray) (w : World) (h : Lib.IsBuilder 117 5 B b (Lib.byteCells l) w) (hlen : l.length + s.size ≤ 200000) (hBw : B ≤ w.heap.size) :
    Calls Tryd.prog 85 #[.pointer (some ⟨b, 0, none⟩), .string s] w fun e w' => e = .returned (.tuple #[.int .i64 s.size, .nilIface]) ∧ Hid (Lib.IsBuilder 117 5 B b (Lib.byteCells (l ++ s.data.toList)) w') ∧ Below B w w' :=
  (B_WriteString B b _ s w h (by rw [Lib.byteCells_length]; omega) hBw).mono fun e w' hh => ⟨hh.1, by show Lib.IsBuilder _ _ _ _ _ _; rw [Lib.byteCells_append, ← Lib.strCells_eq]; exact .inr hh.2.1, hh.2.2⟩

/-- writeItem: the sign as the place asks for it, then the item. -/
def signOf (c : Int) (l : List UInt8) : List UInt8 := if l = [] then (if c < 0 then [45] else []) else if c < 0 then [32, 45, 32] else [32, 43, 32]
set_option maxHeartbeats 800000 in
theorem writeItem_any (B b : Nat) (l : List UInt8) (c : Int) (s : ByteArray) (w : World) (h : Lib.IsBuilder 117 5 B b (Lib.byteCells l) w) (hlen : l.length + s.size ≤ 100000) (hBw : B ≤ w.heap.size) :
    Calls Tryd.prog 81 #[.pointer (some ⟨b, 0, none⟩), .int .i64 c, .string s] w fun e w' => e = .returned (.tuple #[]) ∧ Hid (Lib.IsBuilder 117 5 B b (Lib.byteCells (l ++ signOf c l ++ s.data.toList)) w') ∧ Below B w w' := by
  have H := hid0 h
  clear h
  by_cases hl : l = []
  · subst hl
    by_cases hc : c < 0
    · have E : Hid (signOf c [] = [45]) := by show _ = _; simp [signOf, hc]
      simp only [List.length_nil] at hlen
      go_enter Tryd.func81, Tryd.ntmps81
      go_wp2_with (first | (go_at_call 83; (with_reducible refine (B_Len' B b [] _ H.out).mono ?_); rintro e w' ⟨rfl, rfl⟩) | ((with_reducible refine (B_Write' B b [] _ _ H.out (by decide) hBw).mono ?_); rintro e w1 ⟨rfl, H1, hb1⟩; have hBw1 : B ≤ w1.heap.size := Nat.le_trans hBw hb1.size) | ((with_reducible refine (B_Write' B b _ _ _ H1.out (by simp; omega) hBw1).mono ?_); rintro e w2 ⟨rfl, H2, hb2⟩))
      go_end0
      exact ⟨rfl, by rw [E.out]; exact H2.out, hb1.trans hb2⟩
    · have E : Hid (signOf c [] = []) := by show _ = _; simp [signOf, hc]
      simp only [List.length_nil] at hlen
      go_enter Tryd.func81, Tryd.ntmps81
      go_wp2_with (first | (go_at_call 83; (with_reducible refine (B_Len' B b [] _ H.out).mono ?_); rintro e w' ⟨rfl, rfl⟩) | ((with_reducible refine (B_Write' B b [] _ _ H.out (by simp; omega) hBw).mono ?_); rintro e w1 ⟨rfl, H1, hb1⟩; have hBw1 : B ≤ w1.heap.size := Nat.le_trans hBw hb1.size))
      go_end0
      exact ⟨rfl, by rw [E.out]; exact H1.out, hb1⟩
  · have hl0 : 0 < l.length := by cases l with | nil => exact absurd rfl hl | cons x xs => simp
    have hl1 : (((l.length : Nat) : Int) == 0) = false := by simp; omega
    by_cases hc : c < 0
    · have E : Hid (signOf c l = [32, 45, 32]) := by show _ = _; simp [signOf, hc, hl]
      clear hl
      go_enter Tryd.func81, Tryd.ntmps81
      go_wp2_with (first | (go_at_call 83; (with_reducible refine (B_Len' B b l _ H.out).mono ?_); rintro e w' ⟨rfl, rfl⟩) | ((with_reducible refine (B_Write' B b l _ _ H.out (by (have : l.length ≤ 100000 := by omega); exact Nat.add_le_add this (by decide : _ ≤ 100000)) hBw).mono ?_); rintro e w1 ⟨rfl, H1, hb1⟩; have hBw1 : B ≤ w1.heap.size := Nat.le_trans hBw hb1.size) | ((with_reducible refine (B_Write' B b _ _ _ H1.out (by simp; omega) hBw1).mono ?_); rintro e w2 ⟨rfl, H2, hb2⟩))
      go_end0
      exact ⟨rfl, by rw [E.out]; exact H2.out, hb1.trans hb2⟩
    · have E : Hid (signOf c l = [32, 43, 32]) := by show _ = _; simp [signOf, hc, hl]
      clear hl
      go_enter Tryd.func81, Tryd.ntmps81
      go_wp2_with (first | (go_at_call 83; (with_reducible refine (B_Len' B b l _ H.out).mono ?_); rintro e w' ⟨rfl, rfl⟩) | ((with_reducible refine (B_Write' B b l _ _ H.out (by (have : l.length ≤ 100000 := by omega); exact Nat.add_le_add this (by decide : _ ≤ 100000)) hBw).mono ?_); rintro e w1 ⟨rfl, H1, hb1⟩; have hBw1 : B ≤ w1.heap.size := Nat.le_trans hBw hb1.size) | ((with_reducible refine (B_Write' B b _ _ _ H1.out (by simp; omega) hBw1).mono ?_); rintro e w2 ⟨rfl, H2, hb2⟩))
      go_end0
      exact ⟨rfl, by rw [E.out]; exact H2.out, hb1.trans hb2⟩

set_option maxHeartbeats 1600000 in
set_option maxRecDepth 100000 in
theorem format_known (b off cap : Nat) (w : World) (hb : b < w.heap.size) (hi : IsInts 0 w (.slice (some ⟨b, off, none⟩) 3 cap) [2, -1, 0])
    (c0 : w.cell? ⟨b, off, none⟩ = some (.int .i64 2)) (c1 : w.cell? ⟨b, off + 1, none⟩ = some (.int .i64 (-1))) (c2 : w.cell? ⟨b, off + 2, none⟩ = some (.int .i64 0)) :
    Calls Tryd.prog 42 #[.agg #[.slice (some ⟨b, off, none⟩) 3 cap, .int .i64 (-3)]] w fun e w' => e = .returned (.tuple #[.string ⟨#[50, 42, 120, 48, 32, 45, 32, 120, 49, 32, 45, 32, 51, 32, 62, 61, 32, 48]⟩, .int .i64 0]) ∧ Below w.heap.size w w' := by
  have HI := hid0 hi
  have S : smR ([2, -1, 0], -3) = true := by decide
  clear hi
  go_enter Tryd.func42, Tryd.ntmps42
  go_wp2_with (first | (go_at_call 80; refine (small_any _ (HI.out.below (by go_grown))).mono ?_; rintro e w1 ⟨rfl, hb1⟩; have hB1 : Below w.heap.size w w1 := (thenBelow (allocBelow _ _) hb1); obtain ⟨p1, p2⟩ := blk hb1 (n := w.heap.size) (by go_size); have hz1 : w.heap.size < w1.heap.size := (by have := hb1.size; simp at this; omega)))
  have hW1 : Below w1.heap.size w1 (w1.alloc (.cells #[.pointer none, .slice none 0 0] 117)) := allocBelow _ _
  have HF := hid0 (Lib.fresh_isBuilder 117 5 w1)
  have g0 : (w1.alloc (.cells #[.pointer none, .slice none 0 0] 117)).cell? ⟨b, off, none⟩ = some (.int .i64 2) := ((thenBelow hB1 hW1).cell (p := ⟨b, off, none⟩) hb).trans c0
  have y0 : (w1.alloc (.cells #[.pointer none, .slice none 0 0] 117)).cell? ⟨w.heap.size, 1, none⟩ = some (.int .i64 (-3)) := by rw [World.cell?_alloc_past _ _ _ (by simpa using hz1), p1]; simp
  refine wp_loop_rounds 4 ?_
  rw [rounds_succ]
  go_wp2_with (first | ((with_reducible refine (term20 _).mono ?_); rintro e w' ⟨rfl, rfl⟩) | (go_at_call 81; refine (writeItem_any w1.heap.size w1.heap.size [] _ _ _ HF.out (by decide) (by go_size)).mono ?_; rintro e v1 ⟨rfl, K1, hv1⟩))
  have HV1 : Below w1.heap.size w1 v1 := hW1.trans hv1
  have g1 : v1.cell? ⟨b, off + 1, none⟩ = some (.int .i64 (-1)) := ((thenBelow hB1 HV1).cell (p := ⟨b, off + 1, none⟩) hb).trans c1
  rw [rounds_succ]
  go_wp2_with (first | ((with_reducible refine (term11 _).mono ?_); rintro e w' ⟨rfl, rfl⟩) | (go_at_call 81; refine (writeItem_any w1.heap.size w1.heap.size _ _ _ _ K1.out (by decide) HV1.size).mono ?_; rintro e v2 ⟨rfl, K2, hv2⟩))
  have HV2 : Below w1.heap.size w1 v2 := HV1.trans hv2
  have g2 : v2.cell? ⟨b, off + 2, none⟩ = some (.int .i64 0) := ((thenBelow hB1 HV2).cell (p := ⟨b, off + 2, none⟩) hb).trans c2
  rw [rounds_succ]
  go_wp2_with fail
  have y2 : v2.cell? ⟨w.heap.size, 1, none⟩ = some (.int .i64 (-3)) := ((hv1.trans hv2).cell (p := ⟨w.heap.size, 1, none⟩) hz1).trans y0
  have hmx : (max (-3) 3 : Int) = 3 := rfl
  rw [rounds_succ]
  go_wp2_with fail
  have KD1 : Hid (Lib.IsBuilder 117 5 w1.heap.size w1.heap.size (Lib.byteCells ([] ++ signOf 2 [] ++ (⟨#[50, 42, 120, 48]⟩ : ByteArray).data.toList ++ signOf (-1) ([] ++ signOf 2 [] ++ (⟨#[50, 42, 120, 48]⟩ : ByteArray).data.toList) ++ (⟨#[120, 49]⟩ : ByteArray).data.toList)) v2.drew) := K2.out
  have hw3 : IntKind.i64.wrap 3 = 3 := IntWalk.i64_in _ (by omega)
  refine wp_region_still_tail 9 (by kernel_rfl) (by kernel_rfl) ?_
  simp only [List.take_succ_cons, List.take_zero, List.drop_succ_cons, List.drop_zero]
  change wpStill _ _ v2.drew _ _ _
  have y3 : v2.drew.cell? ⟨w.heap.size, 1, none⟩ = some (.int .i64 (-3)) := y2
  iterate 8 still_step
  still_call ((itoa3 _).mono fun _ _ hh => ⟨hh.1, hh.2.symm⟩)
  refine wpStill_nil ?_
  go_wp2_with (first | (go_at_call 81; refine (writeItem_any w1.heap.size w1.heap.size _ _ _ _ KD1.out (by decide) HV2.size).mono ?_; rintro e v3 ⟨rfl, K3, hv3⟩) | (go_at_call 85; refine (B_Write' w1.heap.size w1.heap.size _ _ _ K3.out (by decide) (Nat.le_trans HV2.size hv3.size)).mono ?_; rintro e v4 ⟨rfl, K4, hv4⟩) | (go_at_call 86; refine (B_String w1.heap.size w1.heap.size _ _ K4.out (by decide)).mono ?_; rintro e v5 ⟨rfl, hv5⟩))
  go_ret2
  exact ⟨by rfl, thenBelow hB1 (HV2.trans ((Below.refl _ _).drew.trans (hv3.trans (hv4.trans hv5))))⟩
end Go.Proofs.YtpadmggccpgajaaDoor

namespace Go.Proofs.YtpadmggccpgajaaDoor
open Go.RowKit Go.Deep

theorem lit_ints {w : World} {b : Nat} {cs : Array Value} {t : TypeId} {xs : List Int} (hg : w.heap[b]? = some (.cells cs t (0, 0))) (hc : cs = (xs.map (Value.int .i64)).toArray) (hi : ∀ x ∈ xs, -1000 ≤ x ∧ x ≤ 1000) (hn : xs.length ≤ 1000) :
    IsInts 0 w (.slice (some ⟨b, 0, none⟩) xs.length xs.length) xs :=
  ints_of_block hg (Nat.zero_le _) rfl (Nat.le_refl _) (by unfold maxLen; omega) (fun x hx => by have := hi x hx; constructor <;> omega) fun i h => by subst hc; simp [h]

theorem tightenK {w : World} {b : Nat} (hg : w.heap[b]? = some (.cells #[.int .i64 2, .int .i64 (-4)] 3 (0, 0))) :
    Calls Tryd.prog 63 #[.agg #[.slice (some ⟨b, 0, none⟩) 2 2, .int .i64 (-3)]] w fun e w' => ∃ g, e = .returned (.agg #[.slice (some ⟨g, 0, none⟩) 2 2, .int .i64 (-2)]) ∧ OwnInts w.heap.size w' g [1, -2] ∧ Below w.heap.size w w' :=
  Tighten_every (xs := [2, -4]) (-3) (lit_ints (xs := [2, -4]) hg rfl (by decide) (by decide)) (by decide)
theorem valueK {w : World} {lo b : Nat} {v : Value} (h : IsInts lo w v [1, -2]) (hg : w.heap[b]? = some (.cells #[.int .i64 2, .int .i64 0] 3 (0, 0))) :
    Calls Tryd.prog 64 #[.agg #[v, .int .i64 (-2)], .slice (some ⟨b, 0, none⟩) 2 2] w fun e w' => e = .returned (.tuple #[.int .i64 0, .int .i64 0]) ∧ Below w.heap.size w w' :=
  Value_any (xs := [1, -2]) (ys := [2, 0]) (-2) h (lit_ints (xs := [2, 0]) hg rfl (by decide) (by decide))
theorem formatK {w : World} {b : Nat} (hg : w.heap[b]? = some (.cells #[.int .i64 2, .int .i64 (-1), .int .i64 0] 3 (0, 0))) :
    Calls Tryd.prog 42 #[.agg #[.slice (some ⟨b, 0, none⟩) 3 3, .int .i64 (-3)]] w fun e w' => e = .returned (.tuple #[.string ⟨#[50, 42, 120, 48, 32, 45, 32, 120, 49, 32, 45, 32, 51, 32, 62, 61, 32, 48]⟩, .int .i64 0]) ∧ Below w.heap.size w w' :=
  format_known b 0 3 w (Array.getElem?_eq_some_iff.1 hg).1 (lit_ints (xs := [2, -1, 0]) hg rfl (by decide) (by decide)) (by simp [World.cell?, hg]) (by simp [World.cell?, hg]) (by simp [World.cell?, hg])
theorem satK {w : World} {b p : Nat} {u : Value} (h : IsInts 0 w u [1, -2]) (hg : w.heap[b]? = some (.cells #[u, .int .i64 (-2)] 54 (0, 0))) (hp : w.heap[p]? = some (.cells #[.int .i64 2, .int .i64 0] 3 (0, 0))) :
    Calls Tryd.prog 36 #[.agg #[.int .i64 2, .slice (some ⟨b, 0, none⟩) 1 1], .slice (some ⟨p, 0, none⟩) 2 2] w fun e w' => e = .returned (.bool true) ∧ Below w.heap.size w w' :=
  Satisfies_any (lo := 0) (lo' := 0) (rs := [([1, -2], -2)]) (ys := [2, 0]) 2 ⟨_, _, rfl, by decide, by unfold maxLen; decide, .inr ⟨b, 0, rfl, Nat.zero_le _, (Array.getElem?_eq_some_iff.1 hg).1, fun i hi => by
    obtain rfl : i = 0 := by simpa using hi
    exact ⟨u, by simp [World.cell?, hg], by simp [World.cell?, hg], h, by simp [I64]⟩⟩⟩ (lit_ints (xs := [2, 0]) hp rfl (by decide) (by decide))

set_option maxHeartbeats 1600000 in
theorem known_any (w : World) : Calls Tryd.prog 26 #[] w fun e w' => e = .returned (.bool true) ∧ Below w.heap.size w w' := by
  go_enter Tryd.func26, Tryd.ntmps26
  go_wp2_with (first | (go_at_call 63; refine (tightenK (heap_new _ _ (by go_size))).mono ?_; rintro e w1 ⟨g, rfl, hO, hb1⟩; have HO := hid0 hO.ints; have hB1 : Below w.heap.size w w1 := (thenBelow (allocBelow _ _) hb1); clear hO hb1) | (go_at_call 64; refine (valueK ((HO.out.mono (Nat.zero_le _)).below (by go_grown)) (heap_new _ _ (by go_size))).mono ?_; rintro e w2 ⟨rfl, hb2⟩; have hB2 : Below w1.heap.size w1 w2 := (Below.trans (by go_grown) (hb2.mono (by go_size))); obtain ⟨p1, p2⟩ := blk hb2 (n := w1.heap.size) (by go_size); have hz2 : w1.heap.size < w2.heap.size := (by have := hb2.size; simp at this; omega); clear hb2) | (go_at_call 42; refine (formatK (heap_new _ _ (by go_size))).mono ?_; rintro e w3 ⟨rfl, hb3⟩; have hB3 : Below w1.heap.size w1 w3 := (thenBelow hB2 (thenBelow (allocBelow _ _) hb3)); obtain ⟨q1, q2⟩ := blk hb3 (n := w1.heap.size) (by go_size); have hz3 : w1.heap.size < w3.heap.size := (by have := hb3.size; simp at this; omega); clear hb3))
  have HB3 : Below w.heap.size w w3 := thenBelow hB1 hB3
  refine (satK ((HO.out.mono (Nat.zero_le _)).below (Below.trans hB3 (by go_grown))) ((heap_old _ _ (by go_size)).trans (heap_new _ _ rfl)) (heap_new _ _ (by go_size))).mono ?_
  rintro e w4 ⟨rfl, hb4⟩
  have HB4 : Below w.heap.size w w4 := thenBelow HB3 (Below.trans (by go_grown) (hb4.mono (by go_size)))
  go_wp2_with fail
  go_ret
  exact ⟨rfl, HB4⟩
end Go.Proofs.YtpadmggccpgajaaDoor

namespace Go.Proofs.YtpadmggccpgajaaDoor
open Go.RowKit Go.Deep
variable {J : World → Prop}
def cRo (r : Rw) : List AV := [intsA r.1, iv r.2]
theorem lenRo (r : Rw) : (cRo r).length = 2 := rfl
theorem plain_ro (r : Rw) : ∀ X ∈ cRo r, Plain X := by
  intro X hX
  simp only [cRo, List.mem_cons, List.not_mem_nil, or_false] at hX
  rcases hX with rfl | rfl
  · exact plain_ints _
  · exact .v _
def cSy (n : Int) (rs : List Rw) : List AV := [iv n, slA 2 cRo rs]
theorem plain_sy (n : Int) (rs : List Rw) : ∀ X ∈ cSy n rs, Plain X := by
  intro X hX
  simp only [cSy, List.mem_cons, List.not_mem_nil, or_false] at hX
  rcases hX with rfl | rfl
  · exact .v _
  · exact plain_sl plain_ro _
structure RwOk (r : Rw) : Prop where
  coef : InOk r.1
  con : I64 r.2
structure SyOk (rs : List Rw) : Prop where
  rows : ∀ r ∈ rs, RwOk r
  len : rs.length ≤ 9223372036854775807
theorem lo00 {w : World} : ∀ b, b < w.heap.size → 0 ≤ b := fun _ _ => Nat.zero_le _
theorem pu_rows {F ok : Nat → Prop} {w : World} {v : Value} {rs : List Rw} {lo : Nat} (hI : ∀ r ∈ rs, RwOk r) (hlo : ∀ b, ok b → lo ≤ b) (h : Pu F w ok (slA 2 cRo rs) v) : IsRows lo w v rs := by
  unfold slA at h
  generalize hcs : rs.flatMap cRo = cs at h
  generalize hn : rs.length = n at h
  cases h with
  | sl0 h2 hz0 =>
    rename_i a cap
    have : rs = [] := List.eq_nil_of_length_eq_zero hn
    subst this
    exact ⟨a, cap, rfl, by simp, h2, .inl rfl⟩
  | sl hc h1 h2 hb hw hf h =>
    rename_i b off cap g
    subst hn
    refine ⟨_, cap, rfl, h1, h2, .inr ⟨b, off, rfl, hlo _ hb, hw, fun i hi => ?_⟩⟩
    have hR := hI rs[i] (List.getElem_mem hi)
    have hlt : i * 2 + 1 < cs.length := by rw [hc]; omega
    have e0 : cs[i * 2] = intsA rs[i].1 := by
      have := eflat_get lenRo rs i 0 hi (by decide)
      rw [hcs, Nat.add_zero, List.getElem?_eq_getElem (by omega)] at this
      exact Option.some.inj this
    have e1 : cs[i * 2 + 1] = iv rs[i].2 := by
      have := eflat_get lenRo rs i 1 hi (by decide)
      rw [hcs, List.getElem?_eq_getElem hlt] at this
      exact Option.some.inj this
    have h0 := h (i * 2) (by omega)
    have h1 := h (i * 2 + 1) hlt
    rw [e0] at h0
    rw [e1] at h1
    refine ⟨g (i * 2), hf _ (by omega), ?_, pu_ints hR.coef hlo h0, hR.con⟩
    rw [Nat.add_assoc, hf _ hlt]
    rw [h1.v_inv]
theorem sy_args {F ok : Nat → Prop} {w : World} {v : Value} {n : Int} {rs : List Rw} (h : Pu F w ok (.agg (cSy n rs)) v) : ∃ u, v = .agg #[.int .i64 n, u] ∧ Pu F w ok (slA 2 cRo rs) u := by
  obtain ⟨vs, rfl, hl, hv⟩ := agg_cells h
  match vs, hl, hv with
  | [a, b], _, hv =>
    have e0 : a = .int .i64 n := (hv 0 (by simp [cSy])).v_inv
    subst e0
    exact ⟨b, rfl, hv 1 (by simp [cSy])⟩
theorem row_args {F ok : Nat → Prop} {w : World} {v : Value} {r : Rw} (h : Pu F w ok (.agg (cRo r)) v) : ∃ u, v = .agg #[u, .int .i64 r.2] ∧ Pu F w ok (intsA r.1) u := by
  obtain ⟨vs, rfl, hl, hv⟩ := agg_cells h
  match vs, hl, hv with
  | [a, b], _, hv =>
    have e1 : b = .int .i64 r.2 := (hv 1 (by simp [cRo])).v_inv
    subst e1
    exact ⟨a, rfl, hv 0 (by simp [cRo])⟩
section
variable {n : Int} {rs : List Rw} {r : Rw}
theorem lValidate_c (H : SyOk rs) : Ctr Tryd.prog J 65 [.agg (cSy n rs)] (iv (valS n rs)) := ctr1 fun w v _ h => by
  obtain ⟨u, rfl, hu⟩ := sy_args h
  exact (Validate_any n (pu_rows H.rows lo00 hu)).mono fun _ _ => ret_sc
theorem rrValidate_c (H : SyOk rs) : Ctr Tryd.prog J 68 [.agg (cSy n rs)] (iv (valS n rs)) := ctr1 fun w v _ h => by
  obtain ⟨u, rfl, hu⟩ := sy_args h
  exact (rValidate_any n (pu_rows H.rows lo00 hu)).mono fun _ _ => ret_sc
theorem wide_c (H : SyOk rs) : Ctr Tryd.prog J 24 [.agg (cSy n rs)] (bv (wideB rs)) := ctr1 fun w v _ h => by
  obtain ⟨u, rfl, hu⟩ := sy_args h
  exact (wide_any n (pu_rows H.rows lo00 hu)).mono fun _ _ => ret_sc
theorem long_c (H : RwOk r) : Ctr Tryd.prog J 25 [.agg (cRo r)] (bv (longB r)) := ctr1 fun w v _ h => by
  obtain ⟨u, rfl, hu⟩ := row_args h
  exact (long_row (pu_ints H.coef lo00 hu)).mono fun _ _ => ret_sc
theorem wknown_c : Ctr Tryd.prog J 26 [] (bv true) := fun w vs _ hl _ => by
  have : vs = #[] := Array.eq_empty_of_size_eq_zero (by simpa using hl)
  subst this
  exact (known_any w).mono fun _ _ => ret_sc
theorem sameIntsL (xs : List Int) (hx : InOk xs) : Ctr Tryd.prog J 19 [intsA xs, intsA xs] (bv true) := ctr2 fun w v v' _ h h' =>
  (SameInts_any (pu_ints hx lo00 h) (pu_ints hx lo00 h')).mono fun e w' hh => by
    have : eqI xs xs = true := decide_eq_true rfl
    rw [this] at hh
    exact ret_sc hh
theorem ownI' {F : Nat → Prop} {lo g n : Nat} {w : World} {xs : List Int} (h : OwnInts lo w g xs) (hn : n = xs.length) : Pu F w (nw w lo) (intsA xs) (.slice (some ⟨g, 0, none⟩) n n) := by
  subst hn
  obtain ⟨h1, h2, h3, cur, t, hg, hc⟩ := h
  refine .sl (b := g) (off := 0) (f := fun j => .int .i64 (xs.getD j 0)) (by simp) (Nat.le_refl _) h2 ⟨h1, _, _, hg⟩ (Array.getElem?_eq_some_iff.1 hg).1 (fun j hj => ?_) fun j hj => ?_
  · have hj' : j < xs.length := by simpa using hj
    rw [Nat.zero_add, cellB hg j (v := .int .i64 (xs.getD j 0)) (hc j hj')]
  · have hj' : j < xs.length := by simpa using hj
    simp only [List.getElem_map, List.getD_eq_getElem?_getD, List.getElem?_eq_getElem hj', Option.getD_some]
    exact .v _
theorem cloneRow_c (H : RwOk r) (hn : r.1.length ≤ 1000) : Ctr Tryd.prog J 67 [.agg (cRo r)] (.agg (cRo r)) := ctr1 fun w v _ h => by
  obtain ⟨u, rfl, hu⟩ := row_args h
  exact (cloneRow_any r.2 (pu_ints H.coef lo00 hu) hn).mono fun _ _ ⟨g, he, ho, hb⟩ => ⟨_, he, .agg rfl fun j hj => (match j, hj with
    | 0, _ => ownI' ho rfl
    | 1, _ => .v _), hb⟩
end
/-- The rows of a slice in the making. -/
def zRo : List AV := [.v (.slice none 0 0), iv 0]
def zR (rs : List Rw) (k : Nat) : List AV := (rs.take k).flatMap cRo ++ (List.replicate (rs.length - k) zRo).flatten
section
variable {rs : List Rw} {k : Nat}
theorem zR_zero (m : Nat) (hm : m = rs.length) : (List.range (m * 2)).map (fun j => AV.v ((#[Value.slice none 0 0, Value.int .i64 0] : Array Value).getD (j % 2) undef)) = zR rs 0 := by
  unfold zR
  rw [List.take_zero, List.flatMap_nil, List.nil_append, Nat.sub_zero, ← hm]
  clear hm
  induction m with
  | zero => rfl
  | succ m ih =>
    rw [show (m + 1) * 2 = m * 2 + 1 + 1 by omega, List.range_succ, List.range_succ, List.map_append, List.map_append, ih, List.replicate_succ', List.flatten_append]
    have e1 : (m * 2) % 2 = 0 := by omega
    have e2 : (m * 2 + 1) % 2 = 1 := by omega
    simp [e2, zRo]
theorem zR_len (h : k ≤ rs.length) : (zR rs k).length = rs.length * 2 := by
  unfold zR
  rw [List.length_append, flat_length lenRo, List.length_flatten]
  simp [zRo]
  omega
theorem zR_step (h : k < rs.length) : setAll (zR rs k) (k * 2) (rowCells true [.fr (intsA rs[k].1), iv rs[k].2]) = zR rs (k + 1) := by
  unfold zR
  have e : rs.length - k = (rs.length - (k + 1)) + 1 := by omega
  rw [e, List.replicate_succ, List.flatten_cons]
  have hl : ((rs.take k).flatMap cRo).length = k * 2 := by rw [flat_length lenRo]; simp; omega
  have := setAll_mid (rowCells true [.fr (intsA rs[k].1), iv rs[k].2]) ((rs.take k).flatMap cRo) zRo (List.replicate (rs.length - (k + 1)) zRo).flatten rfl
  rw [hl, List.append_assoc] at this
  rw [this, List.take_succ_eq_append_getElem h, List.flatMap_append]
  simp [rowCells, AV.unfr, cRo]
theorem zR_end (h : k = rs.length) : zR rs k = rs.flatMap cRo := by
  subst h
  unfold zR
  rw [List.take_length, Nat.sub_self]; simp
theorem newRo (r : Rw) : ∀ d ∈ [AV.fr (intsA r.1), iv r.2], d.isNew = true := fun d hd => by
  simp only [List.mem_cons, List.not_mem_nil, or_false] at hd; rcases hd with rfl | rfl <;> rfl
theorem cellRo (r : Rw) : ∀ d ∈ [AV.fr (intsA r.1), iv r.2], d.cell = true := fun d hd => by
  simp only [List.mem_cons, List.not_mem_nil, or_false] at hd; rcases hd with rfl | rfl <;> rfl
theorem snocRo (h : k < rs.length) : (rs.take k).flatMap cRo ++ rowCells true [.fr (intsA rs[k].1), iv rs[k].2] = (rs.take (k + 1)).flatMap cRo := by
  rw [List.take_succ_eq_append_getElem h, List.flatMap_append]
  simp [rowCells, AV.unfr, cRo]
theorem snocRw {r : Rw} : rs.flatMap cRo ++ rowCells true [.fr (intsA r.1), iv r.2] = (rs ++ [r]).flatMap cRo := by
  rw [List.flatMap_append]
  simp [rowCells, AV.unfr, cRo]
end
end Go.Proofs.YtpadmggccpgajaaDoor

namespace Go.Proofs.YtpadmggccpgajaaDoor
open Go.RowKit Go.Deep
variable {J : World → Prop}
set_option linter.unusedSimpArgs false in
set_option linter.unusedVariables false in
set_option maxRecDepth 100000 in
set_option maxHeartbeats 6400000 in
theorem CopyRow_w {r : Rw} (hn : r.1.length ≤ 1000) : Ctr Tryd.prog J 28 [.agg (cRo r)] (.agg (cRo r)) := by
 refine ctr_of_tri Tryd.func28 rfl (by intro X hX; simp only [List.mem_cons, List.not_mem_nil, or_false] at hX; rcases hX with rfl; exact plain_agg (plain_ro r)) (n := 9) rfl (by simp) (fun w0 => ?_)
 refine kW 9 [] [(0, .agg (cRo r))] ?_
 refine tri_seq ?_
 refine tri_region ?_
 refine t_op rfl (sp_box (X := .agg (cRo r)) (k := 1) (.tmp 0) rfl rfl) ⟨I0, T0⟩ T0 rfl ?_
 refine t_op rfl (sp_alloc (z := .agg #[.slice none 0 0, .int .i64 0]) (k := 2) rfl (by kernel_rfl)) T0 T0 rfl ?_
 refine kN 9 [(1, .box 54 (cRo r)), (2, .box 54 [.v (.slice none 0 0), iv 0])] [(1, .box 1 0), (2, .box 2 0)] ?_
 refine t_then ?_
 refine tri_seq ?_
 refine tri_draw [⟨[(.tmp 1, .box 1 0)], [], .box 1 0, .no⟩, ⟨[(.tmp 3, .box 1 0)], [(1, .box 54 (cRo r))], intsA r.1, .no⟩, ⟨[(.func 39, .v (.func (.func 39) #[] #[])), (.tmp 4, intsA r.1)], [], .fr (intsA r.1), .no⟩, ⟨[(.tmp 1, .box 1 0)], [], .box 1 1, .no⟩, ⟨[(.tmp 6, .box 1 1)], [(1, .box 54 (cRo r))], iv r.2, .no⟩, ⟨[(.tmp 5, .fr (intsA r.1)), (.tmp 7, iv r.2)], [], .agg [.fr (intsA r.1), iv r.2], .no⟩, ⟨[(.tmp 2, .box 2 0), (.tmp 8, .agg [.fr (intsA r.1), iv r.2])], [(2, .box 54 [.v (.slice none 0 0), iv 0])], .v undef, .st 2 (.box 54 [.fr (intsA r.1), iv r.2])⟩] (by kernel_rfl) (by kernel_rfl) ?_
 refine ⟨app_yes rfl (fB 0 (.tmp 1) rfl Tryd.underlying54 rfl 1 rfl) ⟨I0, T0⟩ T0 T0, ?_⟩
 refine ⟨app_yes rfl (lB (.box 54 (cRo r)) (intsA r.1) (.tmp 3) rfl Tryd.underlying24 rfl rfl) ⟨I0, T0⟩ ⟨rfl, T0⟩ T0, ?_⟩
 refine ⟨app_yes rfl (sp_call (c := .func 39) (xs := #[.tmp 4]) [] (CopyInts_c r.1 (Nat.le_trans hn (by decide))) rfl (by kernel_rfl) rfl (Xs := [intsA r.1]) rfl rfl rfl) ⟨I0, I0, T0⟩ T0 T0, ?_⟩
 refine ⟨app_yes rfl (fB 1 (.tmp 1) rfl Tryd.underlying54 rfl 1 rfl) ⟨I0, T0⟩ T0 T0, ?_⟩
 refine ⟨app_yes rfl (lB (.box 54 (cRo r)) (iv r.2) (.tmp 6) rfl Tryd.underlying3 rfl rfl) ⟨I0, T0⟩ ⟨rfl, T0⟩ T0, ?_⟩
 refine ⟨app_yes rfl (sp_bldSI (X := .fr (intsA r.1)) rfl rfl (fun _ _ _ => by kernel_rfl)) ⟨I0, I0, T0⟩ T0 T0, ?_⟩
 refine ⟨app_yes rfl (sp_storeBox (T0 := 54) (X := .agg [.fr (intsA r.1), iv r.2]) (cs := [.v (.slice none 0 0), iv 0]) (ds := [.fr (intsA r.1), iv r.2]) (z := 2) (.tmp 2) (.tmp 8) rfl (by kernel_rfl) (by kernel_rfl) (by kernel_rfl) (of_decide_eq_true (by kernel_rfl)) (by kernel_rfl)) ⟨I0, I0, T0⟩ ⟨rfl, T0⟩ rfl, ?_⟩
 show ETri J w0 _ _ _
 refine kW 9 [(2, .box 54 [.fr (intsA r.1), iv r.2])] [(2, .box 2 0)] ?_
 refine t_then ?_
 refine tri_ret ?_
 refine tri_end1 Tryd.results28 (.cellS rfl rfl Tryd.underlying54 rfl (z := 2) (by kernel_rfl) rfl (by decide)) ?_
 exact rfl
set_option linter.unusedSimpArgs false in
set_option linter.unusedVariables false in
set_option maxRecDepth 100000 in
set_option maxHeartbeats 6400000 in
theorem CopySystem_o {n : Int} {rs : List Rw} (hl : rs.length ≤ 250) (hs : ∀ r ∈ rs, r.1.length ≤ 1000) (k : Nat) : CtrO Tryd.prog J 27 [.agg (cSy n rs)] k (.row true 54 2 rs.length (rs.flatMap cRo)) (.agg [iv n, .own k]) := by
 refine ctrO_of_tri Tryd.func27 rfl (by intro X hX; simp only [List.mem_cons, List.not_mem_nil, or_false] at hX; rcases hX with rfl; exact plain_agg (plain_sy n rs)) (n := 27) rfl (by simp) (fun w0 => ?_)
 refine kW 27 [] [(0, .agg (cSy n rs))] ?_
 refine tri_seq ?_
 refine tri_region ?_
 refine t_op rfl (sp_box (X := .agg (cSy n rs)) (k := 1) (.tmp 0) rfl rfl) ⟨I0, T0⟩ T0 rfl ?_
 refine t_op rfl (sp_alloc (z := .agg #[.int .i64 0, .slice none 0 0]) (k := 2) rfl (by kernel_rfl)) T0 T0 rfl ?_
 refine kN 27 [(1, .box 52 (cSy n rs)), (2, .box 52 [iv 0, .v (.slice none 0 0)])] [(1, .box 1 0), (2, .box 2 0)] ?_
 refine t_then ?_
 refine tri_seq ?_
 refine tri_region ?_
 refine oA (fB 0 (.tmp 1) rfl Tryd.underlying52 rfl 1 rfl) I0 ?_
 refine oB (lB (.box 52 (cSy n rs)) (iv n) (.tmp 5) rfl Tryd.underlying3 rfl rfl) I0 rfl ?_
 refine oA (sp_bld [(.tmp 6, .int .i64 n)] #[.int .i64 n, .slice none 0 0] rfl rfl (by kernel_rfl) rfl) I0 ?_
 refine t_op rfl (sp_alloc (z := .agg #[.int .i64 0, .slice none 0 0]) (k := 3) rfl (by kernel_rfl)) T0 T0 rfl ?_
 refine t_op rfl (sp_storeBox (T0 := 52) (X := .agg [iv n, .v (.slice none 0 0)]) (cs := [iv 0, .v (.slice none 0 0)]) (ds := [iv n, .v (.slice none 0 0)]) (z := 2) (.tmp 3) (.tmp 7) rfl (by kernel_rfl) (by kernel_rfl) (by kernel_rfl) (of_decide_eq_true (by kernel_rfl)) (by kernel_rfl)) ⟨I0, I0, T0⟩ ⟨rfl, T0⟩ rfl ?_
 refine kN 27 [(1, .box 52 (cSy n rs)), (2, .box 52 [iv 0, .v (.slice none 0 0)]), (3, .box 52 [iv n, .v (.slice none 0 0)])] [(1, .box 1 0), (2, .box 2 0), (3, .box 3 0)] ?_
 refine t_then ?_
 refine tri_seq ?_
 refine tri_seq ?_
 refine tri_region ?_
 refine oA (sp_assign (.const (.int .i64 0)) (iv 0) rfl) I0 ?_
 refine kN 27 [(1, .box 52 (cSy n rs)), (2, .box 52 [iv 0, .v (.slice none 0 0)]), (3, .box 52 [iv n, .v (.slice none 0 0)])] [(1, .box 1 0), (2, .box 2 0), (3, .box 3 0), (4, iv 0)] ?_
 refine t_then ?_
 refine tri_block ?_
 refine tri_wk (wk_adoptB 3 1 4 true 54 2 rfl rfl rfl rfl) ?_
 refine tri_loop (σ := {k : Nat // k ≤ rs.length}) (fun s => (ofL [(1, .box 52 (cSy n rs)), (2, .box 52 [iv 0, .v (.slice none 0 0)]), (3, .box 52 [iv n, .own 4]), (4, .row true 54 2 s.1 ((rs.take s.1).flatMap cRo))], ofT 27 [(1, .box 1 0), (2, .box 2 0), (3, .box 3 0), (4, iv s.1)])) (fun s => rs.length - s.1) ⟨0, Nat.zero_le _⟩ (wk_keep _ _ rfl (by kernel_rfl) (by kernel_rfl)) (fun s => ?_)
 obtain ⟨j, hj0⟩ := s
 show ETri J w0 (ofL [(1, .box 52 (cSy n rs)), (2, .box 52 [iv 0, .v (.slice none 0 0)]), (3, .box 52 [iv n, .own 4]), (4, .row true 54 2 j ((rs.take j).flatMap cRo))]) (ofT 27 [(1, .box 1 0), (2, .box 2 0), (3, .box 3 0), (4, iv j)]) _
 refine tri_seq ?_
 refine tri_seq ?_
 by_cases hs1 : ((j : Nat) : Int) < ((rs.length : Nat) : Int)
 refine tri_region ?_
 refine oA (sp_move (.tmp 4) (iv j) rfl) I0 ?_
 refine oA (fB 1 (.tmp 1) rfl Tryd.underlying52 rfl 1 rfl) I0 ?_
 refine oB (lB (.box 52 (cSy n rs)) (slA 2 cRo rs) (.tmp 9) rfl Tryd.underlying50 rfl rfl) I0 rfl ?_
 refine oA (sp_lenSl (.tmp 10) rfl Tryd.underlying50) I0 ?_
 refine oC (sp_lss rfl (dT hs1)) I0 I0 ?_
 refine kN 27 [(1, .box 52 (cSy n rs)), (2, .box 52 [iv 0, .v (.slice none 0 0)]), (3, .box 52 [iv n, .own 4]), (4, .row true 54 2 j ((rs.take j).flatMap cRo))] [(1, .box 1 0), (2, .box 2 0), (3, .box 3 0), (4, iv j), (12, bv true)] ?_
 refine t_then ?_
 refine t_condT rfl ?_
 refine tri_skip ?_
 refine t_then ?_
 refine tri_seq ?_
 refine tri_block ?_
 refine tri_draw [⟨[(.tmp 3, .box 3 0)], [], .box 3 1, .no⟩, ⟨[(.tmp 15, .box 3 1)], [(3, .box 52 [iv n, .own 4])], .own 4, .no⟩, ⟨[(.tmp 1, .box 1 0)], [], .box 1 1, .no⟩, ⟨[(.tmp 17, .box 1 1)], [(1, .box 52 (cSy n rs))], slA 2 cRo rs, .no⟩, ⟨[(.tmp 4, iv j)], [], iv j, .no⟩, ⟨[(.tmp 18, slA 2 cRo rs), (.tmp 19, iv j)], [], .el (rs.flatMap cRo) (j * 2), .no⟩, ⟨[(.tmp 20, .el (rs.flatMap cRo) (j * 2))], [], .agg (cRo rs[j]), .no⟩, ⟨[(.func 28, .v (.func (.func 28) #[] #[])), (.tmp 21, .agg (cRo rs[j]))], [], .fr (.agg (cRo rs[j])), .no⟩, ⟨[(.tmp 22, .agg [.fr (intsA rs[j].1), iv rs[j].2])], [], .own 5, .new 5 (.row false 54 2 1 ([.fr (intsA rs[j].1), iv rs[j].2]))⟩, ⟨[(.tmp 16, .own 4), (.tmp 23, .own 5)], [(4, .row true 54 2 j ((rs.take j).flatMap cRo)), (5, .row false 54 2 1 ([.fr (intsA rs[j].1), iv rs[j].2]))], .own 4, .ap 4 (.row true 54 2 (j + 1) ((rs.take (j + 1)).flatMap cRo))⟩, ⟨[(.tmp 3, .box 3 0)], [], .box 3 1, .no⟩, ⟨[(.tmp 25, .box 3 1), (.tmp 24, .own 4)], [(3, .box 52 [iv n, .any])], .v undef, .st 3 (.box 52 [iv n, .own 4])⟩] (by kernel_rfl) (by kernel_rfl) ?_
 refine ⟨app_yes rfl (fB 1 (.tmp 3) rfl Tryd.underlying52 rfl 1 rfl) ⟨I0, T0⟩ T0 T0, ?_⟩
 refine ⟨app_yes rfl (lB (.box 52 [iv n, .own 4]) (.own 4) (.tmp 15) rfl Tryd.underlying50 rfl rfl) ⟨I0, T0⟩ ⟨rfl, T0⟩ T0, ?_⟩
 refine ⟨app_yes rfl (fB 1 (.tmp 1) rfl Tryd.underlying52 rfl 1 rfl) ⟨I0, T0⟩ T0 T0, ?_⟩
 refine ⟨app_yes rfl (lB (.box 52 (cSy n rs)) (slA 2 cRo rs) (.tmp 17) rfl Tryd.underlying50 rfl rfl) ⟨I0, T0⟩ ⟨rfl, T0⟩ T0, ?_⟩
 refine ⟨app_yes rfl (sp_move (.tmp 4) (iv j) rfl) ⟨I0, T0⟩ T0 T0, ?_⟩
 refine ⟨app_yes rfl (sp_indexSl (off := j * 2) (.tmp 18) (.tmp 19) rfl Tryd.underlying50 (by kernel_rfl) (by omega) (by omega) rfl) ⟨I0, I0, T0⟩ T0 T0, ?_⟩
 refine ⟨app_yes rfl (sp_loadElS (z := 2) (.tmp 20) rfl Tryd.underlying54 rfl (by kernel_rfl) (flat_take lenRo rs j (by omega)) rfl) ⟨I0, T0⟩ T0 T0, ?_⟩
 refine ⟨app_yes rfl (sp_call (c := .func 28) (xs := #[.tmp 21]) [] (CopyRow_w (hs rs[j] (List.getElem_mem (by omega)))) rfl (by kernel_rfl) rfl (Xs := [.agg (cRo rs[j])]) rfl rfl rfl) ⟨I0, I0, T0⟩ T0 T0, ?_⟩
 refine ⟨app_yes rfl (sp_build (z := 2) (k := 5) (fr := false) (cs := [.fr (intsA rs[j].1), iv rs[j].2]) [.tmp 22] [.agg [.fr (intsA rs[j].1), iv rs[j].2]] rfl Tryd.underlying50 (by kernel_rfl) (by decide) (by decide) rfl rfl rfl (by kernel_rfl) (by decide) (fun h => Bool.noConfusion h) (by kernel_rfl)) ⟨.inr (.inr (.inl ⟨_, rfl, rfl⟩)), T0⟩ T0 rfl, ?_⟩
 refine ⟨app_yes rfl (sp_appendOwn (n := j) (cs := ((rs.take j).flatMap cRo)) (fr := true) (m := 1) (ds := [.fr (intsA rs[j].1), iv rs[j].2]) (⟨Tryd.underlying50, by kernel_rfl, by decide⟩ : Elt Tryd.prog 50 54 2 32) (.tmp 16) (.tmp 23) rfl (fun _ => newRo rs[j]) (by unfold maxLen; omega) (by omega) (cellRo rs[j]) (es := ((rs.take (j + 1)).flatMap cRo)) (snocRo (by omega))) ⟨I0, I0, T0⟩ ⟨rfl, rfl, T0⟩ rfl, ?_⟩
 refine ⟨app_yes rfl (fB 1 (.tmp 3) rfl Tryd.underlying52 rfl 1 rfl) ⟨I0, T0⟩ T0 T0, ?_⟩
 refine ⟨app_yes rfl (sp_storeBox (T0 := 52) (X := .own 4) (cs := [iv n, .any]) (ds := [iv n, .own 4]) (z := 1) (.tmp 25) (.tmp 24) rfl (by kernel_rfl) (by kernel_rfl) (by kernel_rfl) (of_decide_eq_true (by kernel_rfl)) (by kernel_rfl)) ⟨I0, I0, T0⟩ ⟨rfl, T0⟩ rfl, ?_⟩
 show ETri J w0 _ _ _
 refine kW 27 [(1, .box 52 (cSy n rs)), (2, .box 52 [iv 0, .v (.slice none 0 0)]), (3, .box 52 [iv n, .own 4]), (4, .row true 54 2 (j + 1) ((rs.take (j + 1)).flatMap cRo))] [(1, .box 1 0), (2, .box 2 0), (3, .box 3 0), (4, iv j), (12, bv true)] ?_
 refine t_block ?_
 refine t_then ?_
 refine tri_region ?_
 refine oA (sp_move (.tmp 4) (iv j) rfl) I0 ?_
 refine oC (sp_add (c := ((j + 1 : Nat) : Int)) rfl (w64 (by omega) (by omega) (by omega))) I0 I0 ?_
 refine oA (sp_assign (.tmp 14) (iv (j + 1 : Nat)) rfl) I0 ?_
 refine kN 27 [(1, .box 52 (cSy n rs)), (2, .box 52 [iv 0, .v (.slice none 0 0)]), (3, .box 52 [iv n, .own 4]), (4, .row true 54 2 (j + 1) ((rs.take (j + 1)).flatMap cRo))] [(1, .box 1 0), (2, .box 2 0), (3, .box 3 0), (4, iv (j + 1 : Nat)), (12, bv true)] ?_
 refine t_then ?_
 refine tri_again ⟨j + 1, by omega⟩ (show rs.length - (j + 1) < rs.length - j by omega) ?_
 exact wk_keep _ _ rfl (by kernel_rfl) (by kernel_rfl)
 refine tri_region ?_
 refine oA (sp_move (.tmp 4) (iv j) rfl) I0 ?_
 refine oA (fB 1 (.tmp 1) rfl Tryd.underlying52 rfl 1 rfl) I0 ?_
 refine oB (lB (.box 52 (cSy n rs)) (slA 2 cRo rs) (.tmp 9) rfl Tryd.underlying50 rfl rfl) I0 rfl ?_
 refine oA (sp_lenSl (.tmp 10) rfl Tryd.underlying50) I0 ?_
 refine oC (sp_lss rfl (dF hs1)) I0 I0 ?_
 refine kN 27 [(1, .box 52 (cSy n rs)), (2, .box 52 [iv 0, .v (.slice none 0 0)]), (3, .box 52 [iv n, .own 4]), (4, .row true 54 2 j ((rs.take j).flatMap cRo))] [(1, .box 1 0), (2, .box 2 0), (3, .box 3 0), (4, iv j), (12, bv false)] ?_
 refine t_then ?_
 refine t_condF rfl ?_
 refine tri_exit ?_
 refine t_then_exit ?_
 refine t_then_exit ?_
 refine t_hit ?_
 refine t_then ?_
 refine tri_seq ?_
 refine tri_region ?_
 refine oB (sp_loadBoxS (Y := .box 52 [iv n, .own 4]) (ds := [iv n, .own 4]) (z := 2) (.tmp 3) rfl Tryd.underlying52 rfl (by kernel_rfl) (by decide) (by kernel_rfl) (by kernel_rfl)) I0 rfl ?_
 refine t_op rfl (sp_storeBox (T0 := 52) (X := .agg [iv n, .own 4]) (cs := [iv 0, .v (.slice none 0 0)]) (ds := [iv n, .own 4]) (z := 2) (.tmp 2) (.tmp 26) rfl (by kernel_rfl) (by kernel_rfl) (by kernel_rfl) (of_decide_eq_true (by kernel_rfl)) (by kernel_rfl)) ⟨I0, I0, T0⟩ ⟨rfl, T0⟩ rfl ?_
 refine kN 27 [(2, .box 52 [iv n, .own 4]), (4, .row true 54 2 j ((rs.take j).flatMap cRo))] [(2, .box 2 0)] ?_
 refine t_then ?_
 refine tri_ret ?_
 have hj : j = rs.length := by omega
 subst hj
 refine tri_give1 4 Tryd.results27 (.cellS rfl rfl Tryd.underlying52 rfl (z := 2) (by kernel_rfl) rfl (by decide)) ?_ rfl
 show some (ABlk.row true _ 2 _ _) = _
 rw [List.take_length]
set_option linter.unusedSimpArgs false in
set_option linter.unusedVariables false in
set_option maxRecDepth 100000 in
set_option maxHeartbeats 6400000 in
theorem cloneRows_o {rs : List Rw} (H : SyOk rs) (hl : rs.length ≤ 250) (hs : ∀ r ∈ rs, r.1.length ≤ 1000) (k : Nat) : CtrO Tryd.prog J 66 [slA 2 cRo rs] k (.row true 54 2 rs.length (rs.flatMap cRo)) (.own k) := by
 refine ctrO_of_tri Tryd.func66 rfl (by intro X hX; simp only [List.mem_cons, List.not_mem_nil, or_false] at hX; rcases hX with rfl; exact plain_sl plain_ro _) (n := 23) rfl (by simp) (fun w0 => ?_)
 refine kW 23 [] [(0, slA 2 cRo rs)] ?_
 refine tri_seq ?_
 refine tri_region ?_
 refine oA (sp_assign (.const (.slice none 0 0)) (.v (.slice none 0 0)) rfl) I0 ?_
 refine kN 23 [] [(0, slA 2 cRo rs), (2, .v (.slice none 0 0))] ?_
 refine t_then ?_
 refine tri_seq ?_
 refine tri_region ?_
 refine oA (sp_move (.tmp 0) (slA 2 cRo rs) rfl) I0 ?_
 refine oA (sp_lenSl (.tmp 6) rfl Tryd.underlying50) I0 ?_
 refine t_op rfl (sp_makeZ (k := 1) (n := rs.length) (bytes := 32) (z := 2) (zv := .agg #[.slice none 0 0, .int .i64 0]) true rfl Tryd.underlying50 (by kernel_rfl) rfl (by decide) (by omega) (by unfold maxLen; omega) (cs := (zR rs 0)) (zR_zero _ rfl)) ⟨I0, I0, T0⟩ T0 rfl ?_
 refine oA (sp_assign (.tmp 8) (.own 1) rfl) I0 ?_
 refine kN 23 [(1, .row true 54 2 rs.length (zR rs 0))] [(0, slA 2 cRo rs), (2, .v (.slice none 0 0)), (3, .own 1)] ?_
 refine t_then ?_
 refine tri_seq ?_
 refine tri_seq ?_
 refine tri_region ?_
 refine oA (sp_move (.tmp 0) (slA 2 cRo rs) rfl) I0 ?_
 refine oA (sp_lenSl (.tmp 9) rfl Tryd.underlying50) I0 ?_
 refine oA (sp_move (.const (.int .i64 0)) (iv 0) rfl) I0 ?_
 refine kN 23 [(1, .row true 54 2 rs.length (zR rs 0))] [(2, .v (.slice none 0 0)), (3, .own 1), (9, slA 2 cRo rs), (10, iv rs.length), (11, iv 0)] ?_
 refine t_then ?_
 refine tri_block ?_
 refine tri_loop (σ := {k : Nat // k ≤ rs.length}) (fun s => (ofL [(1, .row true 54 2 rs.length (zR rs s.1))], ofT 23 [(2, .v (.slice none 0 0)), (3, .own 1), (9, slA 2 cRo rs), (10, iv rs.length), (11, iv s.1)])) (fun s => rs.length - s.1) ⟨0, Nat.zero_le _⟩ (wk_keep _ _ rfl (by kernel_rfl) (by kernel_rfl)) (fun s => ?_)
 obtain ⟨j, hj0⟩ := s
 show ETri J w0 (ofL [(1, .row true 54 2 rs.length (zR rs j))]) (ofT 23 [(2, .v (.slice none 0 0)), (3, .own 1), (9, slA 2 cRo rs), (10, iv rs.length), (11, iv j)]) _
 refine tri_seq ?_
 by_cases hs1 : ((j : Nat) : Int) < ((rs.length : Nat) : Int)
 refine tri_region ?_
 refine oC (sp_lss rfl (dT hs1)) I0 I0 ?_
 refine kN 23 [(1, .row true 54 2 rs.length (zR rs j))] [(2, .v (.slice none 0 0)), (3, .own 1), (9, slA 2 cRo rs), (10, iv rs.length), (11, iv j), (12, bv true)] ?_
 refine t_then ?_
 refine tri_seq ?_
 refine t_condT rfl ?_
 refine tri_skip ?_
 refine t_then ?_
 refine tri_seq ?_
 refine tri_block ?_
 refine tri_seq ?_
 refine tri_region ?_
 refine oA (sp_move (.tmp 11) (iv j) rfl) I0 ?_
 refine oC (sp_indexSl (off := j * 2) (.tmp 9) (.tmp 11) rfl Tryd.underlying50 (by kernel_rfl) (by omega) (by omega) rfl) I0 I0 ?_
 refine oA (sp_loadElS (z := 2) (.tmp 14) rfl Tryd.underlying54 rfl (by kernel_rfl) (flat_take lenRo rs j (by omega)) rfl) I0 ?_
 refine t_op rfl (sp_alloc (z := .agg #[.slice none 0 0, .int .i64 0]) (k := 2) rfl (by kernel_rfl)) T0 T0 rfl ?_
 refine oA (sp_assign (.tmp 13) (iv j) rfl) I0 ?_
 refine t_op rfl (sp_storeBox (T0 := 54) (X := .agg (cRo rs[j])) (cs := [.v (.slice none 0 0), iv 0]) (ds := cRo rs[j]) (z := 2) (.tmp 5) (.tmp 15) rfl (by kernel_rfl) (by kernel_rfl) (by kernel_rfl) (of_decide_eq_true (by kernel_rfl)) (by kernel_rfl)) ⟨I0, I0, T0⟩ ⟨rfl, T0⟩ rfl ?_
 refine kN 23 [(1, .row true 54 2 rs.length (zR rs j)), (2, .box 54 (cRo rs[j]))] [(2, .v (.slice none 0 0)), (3, .own 1), (4, iv j), (5, .box 2 0), (9, slA 2 cRo rs), (10, iv rs.length), (11, iv j), (12, bv true)] ?_
 refine t_then ?_
 refine tri_region ?_
 refine oA (sp_move (.tmp 3) (.own 1) rfl) I0 ?_
 refine oA (sp_move (.tmp 4) (iv j) rfl) I0 ?_
 refine oB (sp_loadBoxS (Y := .box 54 (cRo rs[j])) (ds := cRo rs[j]) (z := 2) (.tmp 5) rfl Tryd.underlying54 rfl (by kernel_rfl) (by decide) (by kernel_rfl) (by kernel_rfl)) I0 rfl ?_
 refine oC (sp_call (c := .func 67) (xs := #[.tmp 18]) [] (cloneRow_c (H.rows rs[j] (List.getElem_mem (by omega))) (hs rs[j] (List.getElem_mem (by omega)))) rfl (by kernel_rfl) rfl (Xs := [.agg (cRo rs[j])]) rfl rfl rfl) I0 I0 ?_
 refine t_op rfl (sp_indexOwn (off := j * 2) (.tmp 16) (.tmp 17) rfl Tryd.underlying50 (by kernel_rfl) (by omega) (by omega) rfl) ⟨I0, I0, T0⟩ ⟨rfl, T0⟩ T0 ?_
 refine t_op rfl (sp_storeRow (X := .agg [.fr (intsA rs[j].1), iv rs[j].2]) (off := j * 2) (cs := (zR rs j)) (ds := (zR rs (j + 1))) (zz := 2) (.tmp 20) (.tmp 19) rfl (by kernel_rfl) (by kernel_rfl) (fun _ => newRo rs[j]) (by kernel_rfl) (by rw [zR_len (by omega)]; omega) (zR_step (by omega))) ⟨I0, .inr (.inr (.inl ⟨_, rfl, rfl⟩)), T0⟩ ⟨rfl, T0⟩ rfl ?_
 refine kN 23 [(1, .row true 54 2 rs.length (zR rs (j + 1))), (2, .box 54 (cRo rs[j]))] [(2, .v (.slice none 0 0)), (3, .own 1), (4, iv j), (5, .box 2 0), (9, slA 2 cRo rs), (10, iv rs.length), (11, iv j), (12, bv true)] ?_
 refine t_block ?_
 refine t_then ?_
 refine tri_region ?_
 refine oC (sp_add (c := ((j + 1 : Nat) : Int)) rfl (w64 (by omega) (by omega) (by omega))) I0 I0 ?_
 refine oA (sp_move (.tmp 21) (iv (j + 1 : Nat)) rfl) I0 ?_
 refine kN 23 [(1, .row true 54 2 rs.length (zR rs (j + 1))), (2, .box 54 (cRo rs[j]))] [(2, .v (.slice none 0 0)), (3, .own 1), (4, iv j), (5, .box 2 0), (9, slA 2 cRo rs), (10, iv rs.length), (11, iv (j + 1 : Nat)), (12, bv true)] ?_
 refine t_then ?_
 refine tri_again ⟨j + 1, by omega⟩ (show rs.length - (j + 1) < rs.length - j by omega) ?_
 exact wk_keep _ _ rfl (by kernel_rfl) (by kernel_rfl)
 refine tri_region ?_
 refine oC (sp_lss rfl (dF hs1)) I0 I0 ?_
 refine kN 23 [(1, .row true 54 2 rs.length (zR rs j))] [(2, .v (.slice none 0 0)), (3, .own 1), (9, slA 2 cRo rs), (10, iv rs.length), (11, iv j), (12, bv false)] ?_
 refine t_then ?_
 refine tri_seq ?_
 refine t_condF rfl ?_
 refine tri_exit ?_
 refine t_then_exit ?_
 refine t_then_exit ?_
 refine t_hit ?_
 refine t_then ?_
 refine tri_seq ?_
 refine tri_region ?_
 refine oA (sp_move (.tmp 3) (.own 1) rfl) I0 ?_
 refine oA (sp_assign (.tmp 22) (.own 1) rfl) I0 ?_
 refine kN 23 [(1, .row true 54 2 rs.length (zR rs j))] [(2, .own 1)] ?_
 refine t_then ?_
 refine tri_ret ?_
 refine tri_give1 1 Tryd.results66 (.tmp rfl) (by exact congrArg (fun c => some (ABlk.row true 54 2 rs.length c)) (zR_end (by omega))) rfl
end Go.Proofs.YtpadmggccpgajaaDoor

namespace Go.Proofs.YtpadmggccpgajaaDoor
open Go.RowKit Go.Deep

end Go.Proofs.YtpadmggccpgajaaDoor

namespace Go.Proofs.YtpadmggccpgajaaDoor
open Go.RowKit Go.Deep
/-- Numbers may have turned, but not in the blocks of K. -/
structure Ichg (K : Nat → Prop) (w w' : World) : Prop where
  os : w'.os = w.os
  tape : w'.tape = w.tape
  output : w'.output = w.output
  size : w.heap.size ≤ w'.heap.size
  keep : ∀ b, b < w.heap.size → K b → w'.heap[b]? = w.heap[b]?
  soft : ∀ b, soft w b → soft w' b
  cell : ∀ c j x, w.cell? ⟨c, j, none⟩ = some x → w'.cell? ⟨c, j, none⟩ = some x ∨ ∃ k i i', x = .int k i ∧ w'.cell? ⟨c, j, none⟩ = some (.int k i')
theorem Ichg.refl (K : Nat → Prop) (w : World) : Ichg K w w := ⟨rfl, rfl, rfl, Nat.le_refl _, fun _ _ _ => rfl, fun _ h => h, fun _ _ _ h => .inl h⟩
theorem Ichg.set {K : Nat → Prop} {w w' : World} (h : Ichg K w w') {b o : Nat} {i i' : Int} (hb : ¬ K b) (hs : Go.Proofs.YtpadmggccpgajaaDoor.soft w' b) (hc : w'.cell? ⟨b, o, none⟩ = some (.int .i64 i)) : Ichg K w (w'.setCells b o [.int .i64 i']) := by
  obtain ⟨cur, T, hg⟩ := hs
  have ho : o < cur.size := by
    simp only [World.cell?, hg] at hc
    exact (Array.getElem?_eq_some_iff.1 (by simpa using hc)).1
  obtain ⟨q1, q2, q3⟩ := setCells_os b [.int .i64 i'] o w'
  refine ⟨q1.trans h.os, q2.trans h.tape, q3.trans h.output, by rw [setCells_size]; exact h.size, fun c hc1 hK => (setCells_other (fun e => by subst e; exact hb hK) _ _ _).trans (h.keep c hc1 hK), fun c hc1 => soft_set1 hg ho (h.soft c hc1), fun c j x hx => ?_⟩
  rw [cell_set1 hg ho]
  split
  · rename_i e
    obtain ⟨rfl, rfl⟩ := e
    rcases h.cell _ _ _ hx with h1 | ⟨k, p, p', rfl, h1⟩
    · rw [hc] at h1
      cases h1
      exact .inr ⟨.i64, i, i', rfl, rfl⟩
    · rw [hc] at h1
      cases h1
      exact .inr ⟨.i64, p, i', rfl, rfl⟩
  · exact h.cell _ _ _ hx
theorem setCell_eq (w : World) (b o : Nat) (v : Value) : w.setCells b o [v] = w.setCell ⟨b, o, none⟩ v := rfl
set_option maxHeartbeats 800000 in
theorem spoil_w {K : Nat → Prop} (g off n cap : Nat) (w : World) (hn : n ≤ 9223372036854775807) (hK : ¬ K g) (hs : soft w g) (hc : ∀ j, j < n → ∃ i, w.cell? ⟨g, off + j, none⟩ = some (.int .i64 i)) :
    Calls Tryd.prog 32 #[.slice (some ⟨g, off, none⟩) n cap] w fun e w' => e = .returned (.tuple #[]) ∧ Ichg K w w' := by
  have Hs := hid0 hs
  have Hc := hid0 hc
  have HK := hid0 hK
  clear hs hc hK
  go_enter Tryd.func32, Tryd.ntmps32
  go_wp2_with fail
  go_loopw [2] (fun v wr => ∃ (k : Nat), k ≤ n ∧ v = .int .i64 k ∧ Ichg K w wr ∧ soft wr g ∧ ∀ j, j < n → ∃ i, wr.cell? ⟨g, off + j, none⟩ = some (.int .i64 i)) (fun v _ => n - (intOf v).toNat)
  case atStart => exact ⟨0, Nat.zero_le _, rfl, Ichg.refl _ _, Hs.out, Hc.out⟩
  case round =>
    obtain ⟨k, hk, rfl, hI, hS, hC⟩ := hrel
    have HI := hid0 hI
    have HS := hid0 hS
    have HC := hid0 hC
    by_cases h1 : k < n
    · obtain ⟨i0, g1⟩ := hC k h1
      have G1 := hid0 g1
      have g2 : wr.frozen? ⟨g, off + k, none⟩ = false := by obtain ⟨cur, T, hg⟩ := hS; exact frozenB hg _
      clear hI hS hC
      go_wp2_with fail
      go_roundw
      case rel =>
        refine ⟨k + 1, by omega, by go_num, HI.out.set HK.out HS.out G1.out, ?_, fun j hj => ?_⟩
        · obtain ⟨cur, T, hg⟩ := HS.out
          have ho : off + k < cur.size := by
            have := G1.out
            simp only [World.cell?, hg] at this
            exact (Array.getElem?_eq_some_iff.1 (by simpa using this)).1
          exact soft_set1 hg ho HS.out
        · obtain ⟨cur, T, hg⟩ := HS.out
          have ho : off + k < cur.size := by
            have := G1.out
            simp only [World.cell?, hg] at this
            exact (Array.getElem?_eq_some_iff.1 (by simpa using this)).1
          have := cell_set1 (v := .int .i64 (-77)) hg ho g (off + j)
          rw [setCell_eq] at this
          rw [this]
          split
          · exact ⟨_, rfl⟩
          · exact HC.out j hj
      case measure => simp [intOf]; omega
    · clear hI hS hC
      go_wp2_with fail
      go_end0
      exact ⟨rfl, HI.out⟩
theorem spoil_z (w : World) (a : Option Addr) (cap : Nat) : Calls Tryd.prog 32 #[.slice a 0 cap] w fun e w' => e = .returned (.tuple #[]) ∧ w = w' := by
  go_enter Tryd.func32, Tryd.ntmps32
  go_wp2_with fail
  refine wp_loop_rounds 1 ?_
  rw [rounds_succ]
  go_wp2_with fail
  go_end0
  exact ⟨rfl, rfl⟩
end Go.Proofs.YtpadmggccpgajaaDoor
