/-
  slices.Equal ON SLICES OF INTEGERS.
-/
import Derived.Test.YtbdnihjokndhaabDoorCopyInts
import Derived.Deep.QuietTactic
import Derived.BigQuiet
import Derived.LoopTactic
import Derived.Lib.Hide
namespace Go.Proofs.YtbdnihjokndhaabDoor
open Go.RowKit Go.Deep

/-- The first k elements are the same. -/
def sameK (xs ys : List Int) (k : Nat) : Prop := xs.take k = ys.take k
theorem sameK_succ {xs ys : List Int} {k : Nat} (h : k < xs.length) (h' : k < ys.length) (hk : sameK xs ys k) (e : xs[k] = ys[k]) : sameK xs ys (k + 1) := by
  unfold sameK at *; rw [List.take_succ_eq_append_getElem h, List.take_succ_eq_append_getElem h', hk, e]
theorem eqI_differ {xs ys : List Int} {k : Nat} (h : k < xs.length) (h' : k < ys.length) (e : xs[k] ≠ ys[k]) : eqI xs ys = false := by
  unfold eqI; rw [decide_eq_false_iff_not]; rintro rfl; exact e rfl
theorem eqI_len {xs ys : List Int} (h : xs.length ≠ ys.length) : eqI xs ys = false := by
  unfold eqI; rw [decide_eq_false_iff_not]; rintro rfl; exact h rfl
theorem eqI_end {xs ys : List Int} {k : Nat} (h : k = xs.length) (h' : k = ys.length) (hk : sameK xs ys k) : eqI xs ys = true := by
  unfold sameK at hk; rw [List.take_of_length_le (by omega), List.take_of_length_le (by omega)] at hk
  unfold eqI; rw [decide_eq_true_iff]; exact hk

set_option maxHeartbeats 800000 in
theorem Equal_full (b off n cap b' off' n' cap' : Nat) (w : World) (xs ys : List Int) (hx : xs.length = n) (hy : ys.length = n') (hn : n ≤ 9223372036854775807) (hb : b < w.heap.size) (hb' : b' < w.heap.size)
    (hc : ∀ i, i < n → w.cell? ⟨b, off + i, none⟩ = some (.int .i64 (xs.getD i 0))) (hc' : ∀ i, i < n' → w.cell? ⟨b', off' + i, none⟩ = some (.int .i64 (ys.getD i 0))) :
    Calls Tryd.prog 16 #[.slice (some ⟨b, off, none⟩) n cap, .slice (some ⟨b', off', none⟩) n' cap'] w fun e w' => e = .returned (.bool (eqI xs ys)) ∧ Below w.heap.size w w' := by
  by_cases hnn : n = n'
  · subst hnn
    go_enter Tryd.func16, Tryd.ntmps16
    go_wp2_with fail
    go_loopw [13] (fun v wr => ∃ k : Nat, k ≤ n ∧ v = .int .i64 k ∧ sameK xs ys k ∧ Below w.heap.size w wr) (fun v _ => n - (intOf v).toNat)
    case atStart => exact ⟨0, Nat.zero_le _, rfl, rfl, Below.refl _ _⟩
    case round =>
      obtain ⟨k, hk, rfl, hs, hB⟩ := hrel
      have HS := Lib.hid hs
      have HB := Lib.hid hB
      clear hs
      by_cases h1 : k < n
      · have g1 : wr.cell? ⟨b, off + k, none⟩ = some (.int .i64 (xs.getD k 0)) := (hB.cell (p := ⟨b, off + k, none⟩) hb).trans (hc k h1)
        have g2 : wr.cell? ⟨b', off' + k, none⟩ = some (.int .i64 (ys.getD k 0)) := (hB.cell (p := ⟨b', off' + k, none⟩) hb').trans (hc' k h1)
        have ex : xs.getD k 0 = xs[k]'(by omega) := by simp [List.getD, List.getElem?_eq_getElem (show k < xs.length by omega)]
        have ey : ys.getD k 0 = ys[k]'(by omega) := by simp [List.getD, List.getElem?_eq_getElem (show k < ys.length by omega)]
        rw [ex] at g1
        rw [ey] at g2
        generalize hX : xs[k]'(by omega) = x at g1
        generalize hY : ys[k]'(by omega) = y at g2
        have HX := Lib.hid hX
        have HY := Lib.hid hY
        clear hB ex ey hX hY
        by_cases he : x = y
        · have HE := Lib.hid he
          have e1 : (x == y) = true := by simp [he]
          have e2 : (x != y) = false := by rw [bne, e1]; rfl
          clear he
          go_wp2_with fail
          go_quiet (fail)
          go_wp2_with fail
          go_roundw
          case rel => exact ⟨k + 1, by omega, by go_num, sameK_succ (by omega) (by omega) HS.out (by rw [HX.out, HY.out]; exact HE.out), quietBelow HB.out _⟩
          case measure => simp [intOf]; omega
        · have HE := Lib.hid he
          have e1 : (x == y) = false := by simp [he]
          have e2 : (x != y) = true := by rw [bne, e1]; rfl
          clear he
          go_wp2_with fail
          go_quiet (fail)
          go_wp2_with fail
          go_ret
          exact ⟨ret_bool (by rw [eqI_differ (k := k) (by omega) (by omega) (by rw [HX.out, HY.out]; exact HE.out)]), quietBelow HB.out _⟩
      · clear hB
        go_wp2_with fail
        go_ret
        exact ⟨ret_bool (by rw [eqI_end (k := k) (by omega) (by omega) HS.out]), HB.out⟩
  · have h1 : (((n : Nat) : Int) == ((n' : Nat) : Int)) = false := by simp; omega
    have h2 : (((n : Nat) : Int) != ((n' : Nat) : Int)) = true := by rw [bne, h1]; rfl
    have E := Lib.hid (eqI_len (xs := xs) (ys := ys) (by rw [hx, hy]; exact hnn))
    clear hnn
    go_enter Tryd.func16, Tryd.ntmps16
    go_wp2_with fail
    go_ret
    exact ⟨ret_bool (by rw [E.out]), Below.refl _ _⟩
theorem Equal_left (a a' : Option Addr) (cap n' cap' : Nat) (w : World) (ys : List Int) (hy : ys.length = n') (hn : n' ≤ 9223372036854775807) :
    Calls Tryd.prog 16 #[.slice a 0 cap, .slice a' n' cap'] w fun e w' => e = .returned (.bool (eqI [] ys)) ∧ Below w.heap.size w w' := by
  by_cases h0 : n' = 0
  · subst h0
    obtain rfl := List.eq_nil_of_length_eq_zero hy
    go_enter Tryd.func16, Tryd.ntmps16
    go_wp2_with fail
    refine wp_loop_rounds 1 ?_
    rw [rounds_succ]
    go_wp2_with fail
    go_ret
    exact ⟨rfl, Below.refl _ _⟩
  · have h1 : (((0 : Nat) : Int) == ((n' : Nat) : Int)) = false := by simp; omega
    have h1' : ((0 : Int) == ((n' : Nat) : Int)) = false := by simp; omega
    have h2 : ((0 : Int) != ((n' : Nat) : Int)) = true := by rw [bne, h1']; rfl
    have E := Lib.hid (eqI_len (xs := []) (ys := ys) (by simp; omega))
    clear h0
    go_enter Tryd.func16, Tryd.ntmps16
    go_wp2_with fail
    go_ret
    exact ⟨ret_bool (by rw [E.out]), Below.refl _ _⟩
theorem Equal_right (a a' : Option Addr) (n cap cap' : Nat) (w : World) (x : Int) (xs : List Int) (hx : (x :: xs).length = n) (hn : n ≤ 9223372036854775807) :
    Calls Tryd.prog 16 #[.slice a n cap, .slice a' 0 cap'] w fun e w' => e = .returned (.bool (eqI (x :: xs) [])) ∧ Below w.heap.size w w' := by
  have h0 : 0 < n := by simp at hx; omega
  have h1 : (((n : Nat) : Int) == (0 : Int)) = false := by simp; omega
  have h2 : (((n : Nat) : Int) != (0 : Int)) = true := by rw [bne, h1]; rfl
  have E := Lib.hid (eqI_len (xs := x :: xs) (ys := []) (by simp))
  clear hx
  go_enter Tryd.func16, Tryd.ntmps16
  go_wp2_with fail
  go_ret
  exact ⟨ret_bool (by rw [E.out]), Below.refl _ _⟩
theorem Equal_any {lo lo' : Nat} {w : World} {v v' : Value} {xs ys : List Int} (h : IsInts lo w v xs) (h' : IsInts lo' w v' ys) :
    Calls Tryd.prog 16 #[v, v'] w fun e w' => e = .returned (.bool (eqI xs ys)) ∧ Below w.heap.size w w' := by
  obtain ⟨a, cap, rfl, hl, hm, hi, hc⟩ := h
  obtain ⟨a', cap', rfl, hl', hm', hi', hc'⟩ := h'
  unfold maxLen at hm hm'
  rcases hc with rfl | ⟨b, off, rfl, _, hb, hc⟩
  · exact Equal_left _ _ _ _ _ _ _ rfl (by omega)
  · rcases hc' with rfl | ⟨b', off', rfl, _, hb', hc'⟩
    · cases xs with
      | nil => exact Equal_left _ _ _ _ _ _ _ rfl (by simp)
      | cons x xs => exact Equal_right _ _ _ _ _ _ _ _ rfl (by omega)
    · exact Equal_full _ _ _ _ _ _ _ _ _ _ _ rfl rfl (by omega) hb hb' hc hc'
end Go.Proofs.YtbdnihjokndhaabDoor
