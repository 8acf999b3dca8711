/-
  EqualProperty OF THE PROGRAM.
-/
import Derived.Test.YtbdnihjokndhaabDoorSlEq
import Derived.Test.YtbdnihjokndhaabDoorRowList
namespace Go.Proofs.YtbdnihjokndhaabDoor
open Go.RowKit Go.Deep

def sameC (r s : Rw) : Bool := (r.2 == s.2) && eqI r.1 s.1
set_option maxHeartbeats 800000 in
theorem sameCount_any {lo lo' : Nat} {w : World} {v v' : Value} {xs ys : List Int} (c d : Int) (h : IsInts lo w v xs) (h' : IsInts lo' w v' ys) :
    Calls Tryd.prog 18 #[.agg #[v, .int .i64 c], .agg #[v', .int .i64 d]] w fun e w' => e = .returned (.bool (sameC (xs, c) (ys, d))) ∧ Below w.heap.size w w' := by
  have H := Lib.hid h
  have H' := Lib.hid h'
  obtain ⟨a, cap, rfl⟩ := h.shape
  obtain ⟨a', cap', rfl⟩ := h'.shape
  have E : Hid (sameC (xs, c) (ys, d) = ((c == d) && eqI xs ys)) := (rfl : sameC _ _ = _)
  clear h h'
  cases hcd : (c == d) with
  | false =>
    go_enter Tryd.func18, Tryd.ntmps18
    go_wp2_with fail
    go_ret
    exact ⟨ret_bool (by rw [E.out, hcd]; rfl), (allocBelow _ _).trans ((allocBelow _ _).mono (by simp))⟩
  | true =>
    go_enter Tryd.func18, Tryd.ntmps18
    go_wp2_with (go_at_call 16; refine (Equal_any (H.out.below (by go_grown)) (H'.out.below (by go_grown))).mono ?_; rintro e w1 ⟨rfl, hb1⟩)
    go_ret
    exact ⟨ret_bool (by rw [E.out, hcd]; rfl), Below.trans (by go_grown) (hb1.mono (by go_size))⟩

/-- Lists of counts. -/
def eqC (rs ss : List Rw) : Bool := decide (rs = ss)
theorem sameC_eq (r s : Rw) : sameC r s = decide (r = s) := by
  obtain ⟨xs, c⟩ := r
  obtain ⟨ys, d⟩ := s
  unfold sameC eqI
  by_cases h1 : c = d <;> by_cases h2 : xs = ys <;> simp [h1, h2]
def sameKR (xs ys : List Rw) (k : Nat) : Prop := xs.take k = ys.take k
theorem sameKR_succ {xs ys : List Rw} {k : Nat} (h : k < xs.length) (h' : k < ys.length) (hk : sameKR xs ys k) (e : sameC xs[k] ys[k] = true) : sameKR xs ys (k + 1) := by
  rw [sameC_eq, decide_eq_true_iff] at e
  unfold sameKR at *; rw [List.take_succ_eq_append_getElem h, List.take_succ_eq_append_getElem h', hk, e]
theorem eqC_differ {xs ys : List Rw} {k : Nat} (h : k < xs.length) (h' : k < ys.length) (e : sameC xs[k] ys[k] = false) : eqC xs ys = false := by
  rw [sameC_eq, decide_eq_false_iff_not] at e
  unfold eqC; rw [decide_eq_false_iff_not]; rintro rfl; exact e rfl
theorem eqC_len {xs ys : List Rw} (h : xs.length ≠ ys.length) : eqC xs ys = false := by
  unfold eqC; rw [decide_eq_false_iff_not]; rintro rfl; exact h rfl
theorem eqC_end {xs ys : List Rw} {k : Nat} (h : k = xs.length) (h' : k = ys.length) (hk : sameKR xs ys k) : eqC xs ys = true := by
  unfold sameKR at hk; rw [List.take_of_length_le (by omega), List.take_of_length_le (by omega)] at hk
  unfold eqC; rw [decide_eq_true_iff]; exact hk

set_option maxHeartbeats 800000 in
theorem EqualFunc_full (b off n cap b' off' n' cap' : Nat) (w : World) (xs ys : List Rw) (hx : xs.length = n) (hy : ys.length = n') (hn : n ≤ 9223372036854775807) (hb : b < w.heap.size) (hb' : b' < w.heap.size)
    (hc : ∀ i (hi : i < n), ∃ sv, w.cell? ⟨b, off + i * 2, none⟩ = some sv ∧ w.cell? ⟨b, off + i * 2 + 1, none⟩ = some (.int .i64 (xs[i]'(by omega)).2) ∧ IsInts 0 w sv (xs[i]'(by omega)).1 ∧ I64 (xs[i]'(by omega)).2)
    (hc' : ∀ i (hi : i < n'), ∃ sv, w.cell? ⟨b', off' + i * 2, none⟩ = some sv ∧ w.cell? ⟨b', off' + i * 2 + 1, none⟩ = some (.int .i64 (ys[i]'(by omega)).2) ∧ IsInts 0 w sv (ys[i]'(by omega)).1 ∧ I64 (ys[i]'(by omega)).2) :
    Calls Tryd.prog 17 #[.slice (some ⟨b, off, none⟩) n cap, .slice (some ⟨b', off', none⟩) n' cap', .func (Fn.func 18) #[] #[]] w fun e w' => e = .returned (.bool (eqC xs ys)) ∧ Below w.heap.size w w' := by
  have HC := Lib.hid hc
  have HC' := Lib.hid hc'
  clear hc hc'
  by_cases hnn : n = n'
  · subst hnn
    go_enter Tryd.func17, Tryd.ntmps17
    go_wp2_with fail
    go_loopw [17] (fun v wr => ∃ k : Nat, k ≤ n ∧ v = .int .i64 k ∧ sameKR xs ys k ∧ Below w.heap.size w wr) (fun v _ => n - (intOf v).toNat)
    case atStart => exact ⟨0, Nat.zero_le _, rfl, rfl, Below.refl _ _⟩
    case round =>
      obtain ⟨k, hk, rfl, hs, hB⟩ := hrel
      have HS := Lib.hid hs
      have HB := Lib.hid hB
      clear hs
      by_cases h1 : k < n
      · obtain ⟨sv, q1, q2, q3, _⟩ := HC.out k h1
        obtain ⟨sv', r1, r2, r3, _⟩ := HC'.out k h1
        obtain ⟨a1, c1, rfl⟩ := q3.shape
        obtain ⟨a2, c2, rfl⟩ := r3.shape
        have g1 := (hB.cell (p := ⟨b, off + k * 2, none⟩) hb).trans q1
        have g2 := (hB.cell (p := ⟨b, off + k * 2 + 1, none⟩) hb).trans q2
        have g3 := (hB.cell (p := ⟨b', off' + k * 2, none⟩) hb').trans r1
        have g4 := (hB.cell (p := ⟨b', off' + k * 2 + 1, none⟩) hb').trans r2
        have Q := Lib.hid (q3.below hB)
        have R := Lib.hid (r3.below hB)
        have hbw : b < wr.heap.size := Nat.lt_of_lt_of_le hb hB.size
        have hbw' : b' < wr.heap.size := Nat.lt_of_lt_of_le hb' hB.size
        clear hB q1 q2 q3 r1 r2 r3
        generalize hX : xs[k]'(by omega) = x at g1 g2 Q
        generalize hY : ys[k]'(by omega) = y at g3 g4 R
        have HX := Lib.hid hX
        have HY := Lib.hid hY
        clear hX hY
        cases he : sameC x y with
        | true =>
          have HE := Lib.hid he
          go_wp2_with (go_at_call 18; refine (sameCount_any _ _ (Q.out.below (by go_grown)) (R.out.below (by go_grown))).mono ?_; rintro e w1 ⟨rfl, hb1⟩)
          go_roundw
          case rel => exact ⟨k + 1, by omega, by go_num, sameKR_succ (by omega) (by omega) HS.out (by rw [HX.out, HY.out]; exact HE.out), thenBelow HB.out (Below.trans (by go_grown) (hb1.mono (by go_size)))⟩
          case measure => simp [intOf]; omega
        | false =>
          have HE := Lib.hid he
          go_wp2_with (go_at_call 18; refine (sameCount_any _ _ (Q.out.below (by go_grown)) (R.out.below (by go_grown))).mono ?_; rintro e w1 ⟨rfl, hb1⟩)
          go_ret
          exact ⟨ret_bool (by rw [eqC_differ (k := k) (by omega) (by omega) (by rw [HX.out, HY.out]; exact HE.out)]), thenBelow HB.out (Below.trans (by go_grown) (hb1.mono (by go_size)))⟩
      · clear hB
        go_wp2_with fail
        go_ret
        exact ⟨ret_bool (by rw [eqC_end (k := k) (by omega) (by omega) HS.out]), HB.out⟩
  · have h1 : (((n : Nat) : Int) == ((n' : Nat) : Int)) = false := by simp; omega
    have h2 : (((n : Nat) : Int) != ((n' : Nat) : Int)) = true := by rw [bne, h1]; rfl
    have E := Lib.hid (eqC_len (xs := xs) (ys := ys) (by rw [hx, hy]; exact hnn))
    clear hnn
    go_enter Tryd.func17, Tryd.ntmps17
    go_wp2_with fail
    go_ret
    exact ⟨ret_bool (by rw [E.out]), Below.refl _ _⟩
theorem EqualFunc_left (a a' : Option Addr) (cap n' cap' : Nat) (w : World) (ys : List Rw) (hy : ys.length = n') (hn : n' ≤ 9223372036854775807) :
    Calls Tryd.prog 17 #[.slice a 0 cap, .slice a' n' cap', .func (Fn.func 18) #[] #[]] w fun e w' => e = .returned (.bool (eqC [] ys)) ∧ Below w.heap.size w w' := by
  by_cases h0 : n' = 0
  · subst h0
    obtain rfl := List.eq_nil_of_length_eq_zero hy
    go_enter Tryd.func17, Tryd.ntmps17
    go_wp2_with fail
    refine wp_loop_rounds 1 ?_
    rw [rounds_succ]
    go_wp2_with fail
    go_ret
    exact ⟨rfl, Below.refl _ _⟩
  · have h1' : ((0 : Int) == ((n' : Nat) : Int)) = false := by simp; omega
    have h2 : ((0 : Int) != ((n' : Nat) : Int)) = true := by rw [bne, h1']; rfl
    have E := Lib.hid (eqC_len (xs := []) (ys := ys) (by simp; omega))
    clear h0
    go_enter Tryd.func17, Tryd.ntmps17
    go_wp2_with fail
    go_ret
    exact ⟨ret_bool (by rw [E.out]), Below.refl _ _⟩
theorem EqualFunc_right (a a' : Option Addr) (n cap cap' : Nat) (w : World) (x : Rw) (xs : List Rw) (hx : (x :: xs).length = n) (hn : n ≤ 9223372036854775807) :
    Calls Tryd.prog 17 #[.slice a n cap, .slice a' 0 cap', .func (Fn.func 18) #[] #[]] w fun e w' => e = .returned (.bool (eqC (x :: xs) [])) ∧ Below w.heap.size w w' := by
  have h0 : 0 < n := by simp at hx; omega
  have h1 : (((n : Nat) : Int) == (0 : Int)) = false := by simp; omega
  have h2 : (((n : Nat) : Int) != (0 : Int)) = true := by rw [bne, h1]; rfl
  have E := Lib.hid (eqC_len (xs := x :: xs) (ys := []) (by simp))
  clear hx
  go_enter Tryd.func17, Tryd.ntmps17
  go_wp2_with fail
  go_ret
  exact ⟨ret_bool (by rw [E.out]), Below.refl _ _⟩
theorem EqualFunc_any {lo lo' : Nat} {w : World} {v v' : Value} {xs ys : List Rw} (h : IsRows lo w v xs) (h' : IsRows lo' w v' ys) :
    Calls Tryd.prog 17 #[v, v', .func (Fn.func 18) #[] #[]] w fun e w' => e = .returned (.bool (eqC xs ys)) ∧ Below w.heap.size w w' := by
  obtain ⟨a, cap, rfl, hl, hm, hc⟩ := h.mono (Nat.zero_le _)
  obtain ⟨a', cap', rfl, hl', hm', hc'⟩ := h'.mono (Nat.zero_le _)
  unfold maxLen at hm hm'
  rcases hc with rfl | ⟨b, off, rfl, _, hb, hc⟩
  · exact EqualFunc_left _ _ _ _ _ _ _ rfl (by omega)
  · rcases hc' with rfl | ⟨b', off', rfl, _, hb', hc'⟩
    · cases xs with
      | nil => exact EqualFunc_left _ _ _ _ _ _ _ rfl (by simp)
      | cons x xs => exact EqualFunc_right _ _ _ _ _ _ _ _ rfl (by omega)
    · exact EqualFunc_full _ _ _ _ _ _ _ _ _ _ _ rfl rfl (by omega) hb hb' hc hc'
end Go.Proofs.YtbdnihjokndhaabDoor
