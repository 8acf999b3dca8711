/-
  IsShape OF THE REFERENCE.
-/
import Derived.Test.YtbeadfagacndeaaShp
namespace Go.Proofs.Ytbeadfagacndeaa
open Go.RowKit Go.Deep
set_option maxHeartbeats 800000 in
theorem rIsShape_full (b off n cap : Nat) (w : World) (xs : List Int) (hx : xs.length = n) (hn : n ≤ 1000000)
    (hc : ∀ i, i < n → w.cell? ⟨b, off + i, none⟩ = some (.int .i64 (xs.getD i 0))) :
    Calls Try.prog 10 #[.slice (some ⟨b, off, none⟩) n cap] w fun e w' => e = .returned (.bool (shp xs)) ∧ w = w' := by
  have HC := Lib.hid hc
  have HX := Lib.hid hx
  clear hc hx
  go_enter Try.func10, Try.ntmps10
  go_wp2_with fail
  go_loop [3, 4] (fun v u => ∃ (k : Nat) (m : Int), k ≤ n ∧ u = .int .i64 k ∧ v = .int .i64 m ∧ 0 ≤ m ∧ m ≤ k + 1 ∧ shpF (xs.drop k) m = shp xs) (fun _ u => n - (intOf u).toNat)
  case atStart => exact ⟨0, 1, Nat.zero_le _, rfl, rfl, by omega, by omega, rfl⟩
  case round =>
    obtain ⟨k, m, hk, rfl, rfl, h0, h1, hs⟩ := hrel
    have HS := Lib.hid hs
    clear hs
    by_cases hlt : k < n
    · have g1 := HC.out k hlt
      have HD := Lib.hid (show shpF (xs.drop k) m = if m = 0 then false else if xs.getD k 0 ≠ 0 ∧ xs.getD k 0 ≠ 2 then false else shpF (xs.drop (k + 1)) (m + xs.getD k 0 - 1) by
        have hd : xs.drop k = xs[k]'(by rw [HX.out]; exact hlt) :: xs.drop (k + 1) := List.drop_eq_getElem_cons _
        rw [hd, shpF, show xs.getD k 0 = xs[k]'(by rw [HX.out]; exact hlt) by simp [List.getD, List.getElem?_eq_getElem (show k < xs.length by rw [HX.out]; exact hlt)]])
      generalize hX : xs.getD k 0 = x at g1 HD
      clear hX
      by_cases m0 : m = 0
      · subst m0
        go_wp2_with fail
        go_ret
        exact ⟨ret_bool (by rw [← HS.out, HD.out]; simp), rfl⟩
      · have m1 : (m == 0) = false := by simpa using m0
        have M0 := Lib.hid m0
        have m2 : 1 ≤ m := by omega
        clear m0
        by_cases x0 : x = 0
        · subst x0
          go_wp2_with fail
          go_round
          case rel => exact ⟨k + 1, m - 1, by omega, by go_num, by go_num, by omega, by omega, by rw [← HS.out, HD.out, if_neg M0.out, if_neg (by omega)]; congr 1; omega⟩
          case measure => simp [intOf]; omega
        · by_cases x2 : x = 2
          · subst x2
            go_wp2_with fail
            go_round
            case rel => exact ⟨k + 1, m + 1, by omega, by go_num, by go_num, by omega, by omega, by rw [← HS.out, HD.out, if_neg M0.out, if_neg (by omega)]; congr 1; omega⟩
            case measure => simp [intOf]; omega
          · have x3 : (x != 0) = true := by simpa using x0
            have x4 : (x != 2) = true := by simpa using x2
            have XX := Lib.hid (And.intro x0 x2)
            clear x0 x2
            go_wp2_with fail
            go_ret
            exact ⟨ret_bool (by rw [← HS.out, HD.out, if_neg M0.out, if_pos XX.out]), rfl⟩
    · have HE := Lib.hid (show shp xs = (m == 0) by
        rw [← HS.out, List.drop_eq_nil_of_le (by rw [HX.out]; omega), shpF]; rfl)
      go_wp2_with fail
      go_ret
      exact ⟨ret_bool (by rw [HE.out]), rfl⟩
set_option maxHeartbeats 800000 in
theorem rIsShape_empty (a : Option Addr) (cap : Nat) (w : World) :
    Calls Try.prog 10 #[.slice a 0 cap] w fun e w' => e = .returned (.bool (shp [])) ∧ w = w' := by
  go_enter Try.func10, Try.ntmps10
  go_wp2_with fail
  refine wp_loop_rounds 1 ?_
  rw [rounds_succ]
  go_wp2_with fail
  go_ret
  exact ⟨rfl, rfl⟩
theorem rIsShape_any {lo : Nat} {w : World} {v : Value} {xs : List Int} (h : IsInts lo w v xs) (hn : xs.length ≤ 1000000) :
    Calls Try.prog 10 #[v] w fun e w' => e = .returned (.bool (shp xs)) ∧ w = w' := by
  obtain ⟨a, cap, rfl, hl, hm, hi, hc⟩ := h
  rcases hc with rfl | ⟨b, off, rfl, _, _, hc⟩
  · exact rIsShape_empty _ _ _
  · exact rIsShape_full _ _ _ _ _ _ rfl hn hc
end Go.Proofs.Ytbeadfagacndeaa
