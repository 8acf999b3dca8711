/-
  cmp.Or: the first of some numbers that is not 0.
-/
import Derived.Test.YtenahfmmijpelaaDoorCmpNum
import Derived.LoopTactic
import Derived.Lib.Hide
namespace Go.Proofs.YtenahfmmijpelaaDoor
open Go.RowKit Go.Deep
def orL : List Int → Int
  | [] => 0
  | x :: xs => if x = 0 then orL xs else x
set_option maxHeartbeats 800000 in
theorem Or_full (b off n cap : Nat) (w : World) (xs : List Int) (hx : xs.length = n) (hn : n ≤ 9223372036854775807)
    (hc : ∀ i, i < n → w.cell? ⟨b, off + i, none⟩ = some (.int .i64 (xs.getD i 0))) :
    Calls Tryd.prog 43 #[.slice (some ⟨b, off, none⟩) n cap] w fun e w' => e = .returned (.int .i64 (orL xs)) ∧ w = w' := by
  have HC := Lib.hid hc
  have HX := Lib.hid hx
  clear hc hx
  go_enter Tryd.func43, Tryd.ntmps43
  go_wp2_with fail
  go_loop [8] (fun u => ∃ k : Nat, k ≤ n ∧ u = .int .i64 k ∧ orL (xs.drop k) = orL xs) (fun u => n - (intOf u).toNat)
  case atStart => exact ⟨0, Nat.zero_le _, rfl, rfl⟩
  case round =>
    obtain ⟨k, hk, rfl, hs⟩ := hrel
    have HS := Lib.hid hs
    clear hs
    by_cases hlt : k < n
    · have g1 := HC.out k hlt
      have HD := Lib.hid (show orL (xs.drop k) = if xs.getD k 0 = 0 then orL (xs.drop (k + 1)) else xs.getD k 0 by
        have hd : xs.drop k = xs[k]'(by rw [HX.out]; exact hlt) :: xs.drop (k + 1) := List.drop_eq_getElem_cons _
        rw [hd, orL, show xs.getD k 0 = xs[k]'(by rw [HX.out]; exact hlt) by simp [List.getD, List.getElem?_eq_getElem (show k < xs.length by rw [HX.out]; exact hlt)]])
      generalize hX : xs.getD k 0 = x at g1 HD
      clear hX
      by_cases x0 : x = 0
      · subst x0
        go_wp2_with fail
        go_round
        case rel => exact ⟨k + 1, by omega, by go_num, by rw [← HS.out, HD.out, if_pos rfl]⟩
        case measure => simp [intOf]; omega
      · have x3 : (x != 0) = true := by simpa using x0
        have XX := Lib.hid x0
        clear x0
        go_wp2_with fail
        go_ret
        exact ⟨ret_int (by rw [← HS.out, HD.out, if_neg XX.out]), rfl⟩
    · have HE := Lib.hid (show orL xs = 0 by rw [← HS.out, List.drop_eq_nil_of_le (by rw [HX.out]; omega), orL])
      go_wp2_with fail
      go_ret
      exact ⟨ret_int (by rw [HE.out]), rfl⟩
/-- Of a block that is known whole. -/
theorem Or_block {w : World} {g n : Nat} {t : TypeId} {cs : Array Value} (xs : List Int) (hg : w.heap[g]? = some (.cells cs t (0, 0))) (hcs : cs = (xs.map (Value.int .i64)).toArray) (hn : n = xs.length) (hb : n ≤ 1000) :
    Calls Tryd.prog 43 #[.slice (some ⟨g, 0, none⟩) n n] w fun e w' => e = .returned (.int .i64 (orL xs)) ∧ w = w' :=
  Or_full g 0 n n w xs hn.symm (by omega) fun i hi => by
    subst hcs hn
    simp [World.cell?, hg, hi]
end Go.Proofs.YtenahfmmijpelaaDoor
