/-
  slices.Compare OF INTEGERS.
-/
import Derived.Test.YtbeadfagacndeaaCmpNum
import Derived.Test.YtbeadfagacndeaaCmpInts
import Derived.Test.YtbeadfagacndeaaHold
import Derived.LoopTactic
namespace Go.Proofs.Ytbeadfagacndeaa
open Go.RowKit Go.Deep

set_option maxHeartbeats 800000 in
theorem sCompare_full (b off n cap b' off' n' cap' : Nat) (w : World) (xs ys : List Int) (hx : xs.length = n) (hy : ys.length = n') (hn : n ≤ 9223372036854775807)
    (hc : ∀ i, i < n → w.cell? ⟨b, off + i, none⟩ = some (.int .i64 (xs.getD i 0))) (hc' : ∀ i, i < n' → w.cell? ⟨b', off' + i, none⟩ = some (.int .i64 (ys.getD i 0))) :
    Calls Try.prog 26 #[.slice (some ⟨b, off, none⟩) n cap, .slice (some ⟨b', off', none⟩) n' cap'] w fun e w' => e = .returned (.int .i64 (cmpI xs ys)) ∧ w = w' := by
  go_enter Try.func26, Try.ntmps26
  go_wp2_with fail
  go_loop [11] (fun v => ∃ k : Nat, k ≤ n ∧ k ≤ n' ∧ v = .int .i64 k ∧ cmpI (xs.drop k) (ys.drop k) = cmpI xs ys) (fun v => n - (intOf v).toNat)
  case atStart => exact ⟨0, Nat.zero_le _, Nat.zero_le _, rfl, rfl⟩
  case round =>
    obtain ⟨k, hk, hk', rfl, hcm⟩ := hrel
    by_cases h1 : k < n
    · by_cases h2 : k < n'
      · have g1 := hc k h1
        have g2 := hc' k h2
        have HC : Hid (cmpI xs ys = (if xs[k]'(by omega) < ys[k]'(by omega) then -1 else if ys[k]'(by omega) < xs[k]'(by omega) then 1 else cmpI (xs.drop (k+1)) (ys.drop (k+1)))) := by
          show _ = _
          rw [← hcm, List.drop_eq_getElem_cons (l := xs) (by omega), List.drop_eq_getElem_cons (l := ys) (by omega), cmpI]
        clear hcm
        by_cases hlt : (xs[k]'(by omega)) < (ys[k]'(by omega))
        · have hN : cmpN (xs[k]'(by omega)) (ys[k]'(by omega)) = -1 := by simp [cmpN, hlt]
          have E : Hid (cmpI xs ys = -1) := by show _ = _; rw [HC.out, if_pos hlt]
          clear hlt
          go_wp2_with (go_at_call 27; refine (cmpCompare_any _ _ _).mono ?_; rintro e w' ⟨rfl, rfl⟩)
          go_ret
          exact ⟨ret_int E.out.symm, rfl⟩
        · by_cases hgt : (ys[k]'(by omega)) < (xs[k]'(by omega))
          · have hN : cmpN (xs[k]'(by omega)) (ys[k]'(by omega)) = 1 := by simp [cmpN, hlt, hgt]
            have E : Hid (cmpI xs ys = 1) := by show _ = _; rw [HC.out, if_neg hlt, if_pos hgt]
            clear hlt hgt
            go_wp2_with (go_at_call 27; refine (cmpCompare_any _ _ _).mono ?_; rintro e w' ⟨rfl, rfl⟩)
            go_ret
            exact ⟨ret_int E.out.symm, rfl⟩
          · have hN : cmpN (xs[k]'(by omega)) (ys[k]'(by omega)) = 0 := by simp [cmpN, hlt, hgt]
            have E : Hid (cmpI (xs.drop (k + 1)) (ys.drop (k + 1)) = cmpI xs ys) := by show _ = _; rw [HC.out, if_neg hlt, if_neg hgt]
            clear hlt hgt
            go_wp2_with (go_at_call 27; refine (cmpCompare_any _ _ _).mono ?_; rintro e w' ⟨rfl, rfl⟩)
            go_round
            case rel => exact ⟨k + 1, by omega, by omega, by go_num, E.out⟩
            case measure => simp [intOf]; omega
      · have hd : ys.drop k = [] := List.drop_eq_nil_of_le (by omega)
        have HC : Hid (cmpI xs ys = 1) := by
          show _ = _
          rw [← hcm, hd, List.drop_eq_getElem_cons (by omega), cmpI]
        have g1 := hc k h1
        have hlt : n' ≤ k := by omega
        clear hcm hd
        go_wp2_with fail
        go_ret
        exact ⟨ret_int HC.out.symm, rfl⟩
    · have hkn : k = n := by omega
      have hd : xs.drop k = [] := List.drop_eq_nil_of_le (by omega)
      by_cases h2 : n < n'
      · have HC : Hid (cmpI xs ys = -1) := by
          show _ = _
          rw [← hcm, hd, List.drop_eq_getElem_cons (by omega), cmpI]
        clear hcm hd hkn
        go_wp2_with fail
        go_ret
        exact ⟨ret_int HC.out.symm, rfl⟩
      · have HC : Hid (cmpI xs ys = 0) := by
          show _ = _
          rw [← hcm, hd, List.drop_eq_nil_of_le (by omega), cmpI]
        clear hcm hd hkn
        go_wp2_with fail
        go_ret
        exact ⟨ret_int HC.out.symm, rfl⟩

theorem sCompare_left (a a' : Option Addr) (cap n' cap' : Nat) (w : World) (ys : List Int) (hy : ys.length = n') :
    Calls Try.prog 26 #[.slice a 0 cap, .slice a' n' cap'] w fun e w' => e = .returned (.int .i64 (cmpI [] ys)) ∧ w = w' := by
  have HC : Hid (cmpI [] ys = if 0 < n' then -1 else 0) := by
    show _ = _
    cases ys <;> simp_all [cmpI] <;> omega
  by_cases h2 : 0 < n'
  · go_enter Try.func26, Try.ntmps26
    go_wp2_with fail
    go_rounds 1
    go_ret
    exact ⟨ret_int (by rw [HC.out, if_pos h2]), rfl⟩
  · obtain rfl : n' = 0 := by omega
    clear h2
    go_enter Try.func26, Try.ntmps26
    go_wp2_with fail
    go_rounds 1
    go_ret
    exact ⟨ret_int (by rw [HC.out]; rfl), rfl⟩
theorem sCompare_right (b off n cap cap' : Nat) (a' : Option Addr) (w : World) (x : Int) (xs : List Int) (hx : (x :: xs).length = n) (hn : n ≤ 9223372036854775807) (hc : w.cell? ⟨b, off, none⟩ = some (.int .i64 x)) :
    Calls Try.prog 26 #[.slice (some ⟨b, off, none⟩) n cap, .slice a' 0 cap'] w fun e w' => e = .returned (.int .i64 (cmpI (x :: xs) [])) ∧ w = w' := by
  have h2 : 0 < n := by simp at hx; omega
  clear hx
  go_enter Try.func26, Try.ntmps26
  go_wp2_with fail
  go_rounds 1
  go_ret
  exact ⟨rfl, rfl⟩
theorem sCompare_any {lo lo' : Nat} {w : World} {v v' : Value} {xs ys : List Int} (h : IsInts lo w v xs) (h' : IsInts lo' w v' ys) :
    Calls Try.prog 26 #[v, v'] w fun e w' => e = .returned (.int .i64 (cmpI xs ys)) ∧ w = w' := by
  obtain ⟨a, cap, rfl, hl, hm, hi, hc⟩ := h
  obtain ⟨a', cap', rfl, hl', hm', hi', hc'⟩ := h'
  unfold maxLen at hm hm'
  rcases hc with rfl | ⟨b, off, rfl, _, _, hc⟩
  · exact sCompare_left _ _ _ _ _ _ _ rfl
  · rcases hc' with rfl | ⟨b', off', rfl, _, _, hc'⟩
    · cases xs with
      | nil => exact sCompare_left _ _ _ _ _ _ _ rfl
      | cons x xs => exact sCompare_right _ _ _ _ _ _ _ _ _ rfl (by omega) (by simpa using hc 0 (by simp))
    · exact sCompare_full _ _ _ _ _ _ _ _ _ _ _ rfl rfl (by omega) hc hc'

end Go.Proofs.Ytbeadfagacndeaa
