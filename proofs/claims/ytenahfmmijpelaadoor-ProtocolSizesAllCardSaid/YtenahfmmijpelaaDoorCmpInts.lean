/-
  THE ORDER OF SLICES OF INTEGERS: CompareInts of the reference.
-/
import Derived.Test.YtenahfmmijpelaaDoorProg
import Derived.Test.YtenahfmmijpelaaDoorBase
import Derived.WalkSpells
import Derived.WalkLawsBesides
import Derived.Deep.QuietTactic
import Derived.BigQuiet
namespace Go.Proofs.YtenahfmmijpelaaDoor
open Go.RowKit Go.Deep

/-- The order of slices of integers. -/
def cmpI : List Int → List Int → Int
  | [], [] => 0
  | [], _ :: _ => -1
  | _ :: _, [] => 1
  | x :: xs, y :: ys => if x < y then -1 else if y < x then 1 else cmpI xs ys

set_option maxHeartbeats 400000 in
theorem cmpInts_full (b off n cap b' off' n' cap' : Nat) (w : World) (xs ys : List Int) (hx : xs.length = n) (hy : ys.length = n') (hn : n ≤ 9223372036854775807)
    (hc : ∀ i, i < n → w.cell? ⟨b, off + i, none⟩ = some (.int .i64 (xs.getD i 0))) (hc' : ∀ i, i < n' → w.cell? ⟨b', off' + i, none⟩ = some (.int .i64 (ys.getD i 0))) :
    Calls Tryd.prog 79 #[.slice (some ⟨b, off, none⟩) n cap, .slice (some ⟨b', off', none⟩) n' cap'] w fun e w' => e = .returned (.int .i64 (cmpI xs ys)) ∧ Below w.heap.size w w' := by
  go_enter Tryd.func79, Tryd.ntmps79
  go_wp2
  go_loopw [5] (fun v wr => ∃ k : Nat, k ≤ n ∧ k ≤ n' ∧ v = .int .i64 k ∧ cmpI (xs.drop k) (ys.drop k) = cmpI xs ys ∧ Below w.heap.size w wr ∧ (∀ p : Addr, wr.cell? p = w.cell? p)) (fun v _ => n - (intOf v).toNat)
  case atStart => exact ⟨0, Nat.zero_le _, Nat.zero_le _, rfl, rfl, Below.refl _ _, fun _ => rfl⟩
  case round =>
    obtain ⟨k, hk, hk', rfl, hcm, hb, hsame⟩ := hrel
    have HS : Hid (∀ p : Addr, wr.cell? p = w.cell? p) := hsame
    have HB : Hid (Below w.heap.size w wr) := hb
    by_cases h1 : k < n
    · by_cases h2 : k < n'
      · have g1 : wr.cell? ⟨b, off + k, none⟩ = some (.int .i64 (xs.getD k 0)) := (hsame _).trans (hc k h1)
        have g2 : wr.cell? ⟨b', off' + k, none⟩ = some (.int .i64 (ys.getD k 0)) := (hsame _).trans (hc' k h2)
        have HC : Hid (cmpI xs ys = (if xs[k]'(by omega) < ys[k]'(by omega) then -1 else if ys[k]'(by omega) < xs[k]'(by omega) then 1 else cmpI (xs.drop (k+1)) (ys.drop (k+1)))) := by
          show _ = _
          rw [← hcm, List.drop_eq_getElem_cons (l := xs) (by omega), List.drop_eq_getElem_cons (l := ys) (by omega), cmpI]
        clear hsame hcm hb
        go_wp2
        go_quiet (fail)
        go_wp2
        · have hlt : xs[k] < ys[k] := by assumption
          go_ret
          exact ⟨ret_int (by rw [HC.out, if_pos hlt]), quietBelow HB.out _⟩
        · have hle : ys[k] ≤ xs[k] := by assumption
          go_quiet (fail)
          go_wp2
          · have hlt : ys[k] < xs[k] := by assumption
            go_ret
            exact ⟨ret_int (by rw [HC.out, if_neg (by omega), if_pos hlt]), (by (repeat refine quietBelow ?_ _); exact HB.out)⟩
          · have hle' : xs[k] ≤ ys[k] := by assumption
            go_roundw
            case rel => exact ⟨k + 1, by omega, by omega, by go_num, by rw [HC.out, if_neg (by omega), if_neg (by omega)], (by (repeat refine quietBelow ?_ _); exact HB.out), fun p => HS.out p⟩
            case measure => simp [intOf]; omega
      · have hd : ys.drop k = [] := List.drop_eq_nil_of_le (by omega)
        have HC : Hid (cmpI xs ys = 1) := by
          show _ = _
          rw [← hcm, hd, List.drop_eq_getElem_cons (by omega), cmpI]
        have hlt : n' < n := by omega
        clear hsame hcm hb hd
        go_wp2
        go_ret
        exact ⟨ret_int HC.out.symm, HB.out⟩
    · have hkn : k = n := by omega
      have hd : xs.drop k = [] := List.drop_eq_nil_of_le (by omega)
      by_cases h2 : n < n'
      · have HC : Hid (cmpI xs ys = -1) := by
          show _ = _
          rw [← hcm, hd, List.drop_eq_getElem_cons (by omega), cmpI]
        clear hsame hcm hb hd hkn
        go_wp2
        go_ret
        exact ⟨ret_int HC.out.symm, HB.out⟩
      · have HC : Hid (cmpI xs ys = 0) := by
          show _ = _
          rw [← hcm, hd, List.drop_eq_nil_of_le (by omega), cmpI]
        have hnn : ¬ n' < n := by omega
        clear hsame hcm hb hd hkn
        go_wp2
        go_ret
        exact ⟨ret_int HC.out.symm, HB.out⟩

set_option maxHeartbeats 400000 in
theorem cmpInts_left (a a' : Option Addr) (cap n' cap' : Nat) (w : World) (ys : List Int) (hy : ys.length = n') (hn' : n' ≤ 9223372036854775807) :
    Calls Tryd.prog 79 #[.slice a 0 cap, .slice a' n' cap'] w fun e w' => e = .returned (.int .i64 (cmpI [] ys)) ∧ Below w.heap.size w w' := by
  have HC : Hid (cmpI [] ys = if 0 < n' then -1 else 0) := by
    show _ = _
    cases ys <;> simp_all [cmpI] <;> omega
  by_cases h2 : 0 < n'
  · go_enter Tryd.func79, Tryd.ntmps79
    go_wp2
    go_rounds 1
    go_ret
    exact ⟨ret_int (by rw [HC.out, if_pos h2]), Below.refl _ _⟩
  · obtain rfl : n' = 0 := by omega
    clear h2
    go_enter Tryd.func79, Tryd.ntmps79
    go_wp2
    go_rounds 1
    go_ret
    exact ⟨ret_int (by rw [HC.out]; rfl), Below.refl _ _⟩

set_option maxHeartbeats 400000 in
theorem cmpInts_right (a a' : Option Addr) (n cap cap' : Nat) (w : World) (x : Int) (xs : List Int) (hx : (x :: xs).length = n) (hn : n ≤ 9223372036854775807) :
    Calls Tryd.prog 79 #[.slice a n cap, .slice a' 0 cap'] w fun e w' => e = .returned (.int .i64 (cmpI (x :: xs) [])) ∧ Below w.heap.size w w' := by
  have h2 : 0 < n := by simp at hx; omega
  clear hx
  go_enter Tryd.func79, Tryd.ntmps79
  go_wp2
  go_rounds 1
  go_ret
  exact ⟨rfl, Below.refl _ _⟩

theorem cmpInts_any {lo lo' : Nat} {w : World} {v v' : Value} {xs ys : List Int} (h : IsInts lo w v xs) (h' : IsInts lo' w v' ys) :
    Calls Tryd.prog 79 #[v, v'] w fun e w' => e = .returned (.int .i64 (cmpI xs ys)) ∧ Below w.heap.size w w' := by
  obtain ⟨a, cap, rfl, hl, hm, hi, hc⟩ := h
  obtain ⟨a', cap', rfl, hl', hm', hi', hc'⟩ := h'
  unfold maxLen at hm hm'
  rcases hc with rfl | ⟨b, off, rfl, _, _, hc⟩
  · exact cmpInts_left _ _ _ _ _ _ _ rfl (by omega)
  · rcases hc' with rfl | ⟨b', off', rfl, _, _, hc'⟩
    · cases xs with
      | nil => exact cmpInts_left _ _ _ _ _ _ _ rfl (by simp)
      | cons x xs => exact cmpInts_right _ _ _ _ _ _ _ _ rfl (by omega)
    · exact cmpInts_full _ _ _ _ _ _ _ _ _ _ _ rfl rfl (by omega) hc hc'

end Go.Proofs.YtenahfmmijpelaaDoor
