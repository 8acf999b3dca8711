/-
  THE SMALL FUNCTIONS OF ruleError: positionError, directionError, responseError, guardsError, sharedError, statesExist.
-/
import Derived.Test.YtenahfmmijpelaaDoorVSet
import Derived.Test.YtenahfmmijpelaaDoorFamData
namespace Go.Proofs.YtenahfmmijpelaaDoor
open Go.RowKit Go.Deep
set_option maxHeartbeats 800000 in
theorem positionError_any (pos top : Int) (w : World) : Calls Tryd.prog 90 #[.int .i64 pos, .int .i64 top] w fun e w' => e = .returned (.int .i64 (posE pos top)) ∧ w = w' := by
  have E : Hid (posE pos top = if inB 0 2 pos = false ∨ (pos ≠ 0 ∧ top = 3) then 1 else 0) := (rfl : posE pos top = _)
  cases h1 : inB 0 2 pos with
  | false =>
    have H1 := Lib.hid h1
    clear h1
    go_enter Tryd.func90, Tryd.ntmps90
    go_wp2_with (go_at_call 29; refine (between_any _ _ _ _).mono ?_; rintro e w' ⟨rfl, rfl⟩; rw [H1.out])
    go_ret
    exact ⟨ret_int (by have := H1.out; rw [E.out]; simp [this]), rfl⟩
  | true =>
    have H1 := Lib.hid h1
    clear h1
    by_cases h2 : pos = 0
    · subst h2
      go_enter Tryd.func90, Tryd.ntmps90
      go_wp2_with (go_at_call 29; refine (between_any _ _ _ _).mono ?_; rintro e w' ⟨rfl, rfl⟩; rw [H1.out])
      go_ret
      exact ⟨ret_int (by have := H1.out; rw [E.out]; simp [this]), rfl⟩
    · have b2 : (pos != 0) = true := by simpa using h2
      have H2 := Lib.hid h2
      clear h2
      by_cases h3 : top = 3
      · subst h3
        go_enter Tryd.func90, Tryd.ntmps90
        go_wp2_with (go_at_call 29; refine (between_any _ _ _ _).mono ?_; rintro e w' ⟨rfl, rfl⟩; rw [H1.out])
        go_ret
        exact ⟨ret_int (by have := H2.out; rw [E.out]; simp [this]), rfl⟩
      · have b3 : (top == 3) = false := by simpa using h3
        have H3 := Lib.hid h3
        clear h3
        go_enter Tryd.func90, Tryd.ntmps90
        go_wp2_with (go_at_call 29; refine (between_any _ _ _ _).mono ?_; rintro e w' ⟨rfl, rfl⟩; rw [H1.out])
        go_ret
        exact ⟨ret_int (by have h1 := H1.out; have h3 := H3.out; rw [E.out]; simp [h1, h3]), rfl⟩
set_option maxHeartbeats 800000 in
theorem directionError_any (dir top : Int) (w : World) : Calls Tryd.prog 91 #[.int .i64 dir, .int .i64 top] w fun e w' => e = .returned (.int .i64 (dirE dir top)) ∧ w = w' := by
  have E : Hid (dirE dir top = if top = 4 then (if dir = 3 ∨ dir = 4 then 0 else 1) else (if dir = 1 ∨ dir = 2 then 0 else 1)) := (rfl : dirE dir top = _)
  by_cases ht : top = 4
  · subst ht
    by_cases h1 : dir = 3
    · subst h1
      go_enter Tryd.func91, Tryd.ntmps91
      go_wp2_with fail
      go_ret
      exact ⟨ret_int (by rw [E.out]; simp), rfl⟩
    · have b1 : (dir != 3) = true := by simpa using h1
      have b1' : (dir == 3) = false := by simpa using h1
      by_cases h2 : dir = 4
      · subst h2
        go_enter Tryd.func91, Tryd.ntmps91
        go_wp2_with fail
        go_ret
        exact ⟨ret_int (by rw [E.out]; simp), rfl⟩
      · have b2 : (dir != 4) = true := by simpa using h2
        have H := Lib.hid (And.intro h1 h2)
        clear h1 h2
        go_enter Tryd.func91, Tryd.ntmps91
        go_wp2_with fail
        go_ret
        exact ⟨ret_int (by have := H.out; rw [E.out]; simp [this]), rfl⟩
  · have bt : (top == 4) = false := by simpa using ht
    have HT := Lib.hid ht
    clear ht
    by_cases h1 : dir = 1
    · subst h1
      go_enter Tryd.func91, Tryd.ntmps91
      go_wp2_with fail
      go_ret
      exact ⟨ret_int (by have := HT.out; rw [E.out]; simp [this]), rfl⟩
    · have b1 : (dir != 1) = true := by simpa using h1
      have b1' : (dir == 1) = false := by simpa using h1
      by_cases h2 : dir = 2
      · subst h2
        go_enter Tryd.func91, Tryd.ntmps91
        go_wp2_with fail
        go_ret
        exact ⟨ret_int (by have := HT.out; rw [E.out]; simp [this]), rfl⟩
      · have b2 : (dir != 2) = true := by simpa using h2
        have H := Lib.hid (And.intro h1 h2)
        clear h1 h2
        go_enter Tryd.func91, Tryd.ntmps91
        go_wp2_with fail
        go_ret
        exact ⟨ret_int (by have := H.out; have t := HT.out; rw [E.out]; simp [this, t]), rfl⟩

set_option maxHeartbeats 800000 in
theorem responseError_any {lo : Nat} {w : World} {v : Value} {xs : List Int} (n : Nat) (hn : n ≤ 9223372036854775807) (h : IsInts lo w v xs) :
    Calls Tryd.prog 87 #[v, .int .i64 n] w fun e w' => e = .returned (.int .i64 (reE n xs)) ∧ w = w' := by
  obtain ⟨a, cap, rfl, hl, hm, hi, hc⟩ := h
  unfold maxLen at hm
  by_cases hne : xs.length = n
  · rcases hc with rfl | ⟨b, off, rfl, _, _, hc⟩
    · obtain rfl : n = 0 := by simpa using hne.symm
      go_enter Tryd.func87, Tryd.ntmps87
      go_wp2_with fail
      refine wp_loop_rounds 1 ?_
      rw [rounds_succ]
      go_wp2_with fail
      go_ret
      exact ⟨rfl, rfl⟩
    · have HC := Lib.hid hc
      have HE : Hid (reE n xs = if allK n xs xs.length = false then 5 else 0) := by show _ = _; unfold reE; rw [if_neg (by simpa using hne)]
      have b1 : ((xs.length : Int) == (n : Int)) = true := by rw [hne]; simp
      have b2 : ((xs.length : Int) != (n : Int)) = false := by rw [hne]; simp
      clear hc hi hne
      go_enter Tryd.func87, Tryd.ntmps87
      go_wp2_with fail
      go_loop [13] (fun u => ∃ k : Nat, k ≤ xs.length ∧ u = .int .i64 k ∧ allK n xs k = true) (fun u => xs.length - (intOf u).toNat)
      case atStart => exact ⟨0, Nat.zero_le _, rfl, rfl⟩
      case round =>
        obtain ⟨k, hk, rfl, hs⟩ := hrel
        have HS := Lib.hid hs
        clear hs
        by_cases hlt : k < xs.length
        · have g1 := HC.out k hlt
          have ex : xs.getD k 0 = xs[k] := by simp [List.getD, List.getElem?_eq_getElem hlt]
          have HX := Lib.hid ex
          generalize hX : xs.getD k 0 = x at g1 HX
          clear ex hX
          cases hp : ixB n x with
          | true =>
            have HP := Lib.hid hp
            clear hp
            go_wp2_with (go_at_call 66; refine (isIndex_any x n hn _).mono ?_; rintro e w1 ⟨rfl, rfl⟩; rw [HP.out])
            go_round
            case rel => exact ⟨k + 1, by omega, by go_num, allK_succ hlt HS.out (by rw [← HX.out]; exact HP.out)⟩
            case measure => simp [intOf]; omega
          | false =>
            have HP := Lib.hid hp
            clear hp
            go_wp2_with (go_at_call 66; refine (isIndex_any x n hn _).mono ?_; rintro e w1 ⟨rfl, rfl⟩; rw [HP.out])
            go_ret
            exact ⟨ret_int (by rw [HE.out, if_pos (allK_no hlt (by rw [← HX.out]; exact HP.out))]), rfl⟩
        · have hke : k = xs.length := by omega
          have HF := Lib.hid (show reE n xs = 0 by rw [HE.out, if_neg (by rw [← hke, HS.out]; simp)])
          clear hke
          go_wp2_with fail
          go_ret
          exact ⟨ret_int (by rw [HF.out]), rfl⟩
  · have HE := Lib.hid (show reE n xs = 1 by unfold reE; rw [if_pos hne])
    have b1 : ((xs.length : Int) == (n : Int)) = false := by rw [beq_eq_false_iff_ne]; omega
    have b2 : ((xs.length : Int) != (n : Int)) = true := by rw [bne, b1]; rfl
    clear hne hc hi
    go_enter Tryd.func87, Tryd.ntmps87
    go_wp2_with fail
    go_ret
    exact ⟨ret_int (by rw [HE.out]), rfl⟩
end Go.Proofs.YtenahfmmijpelaaDoor
