/-
  slices.Equal OF INTEGERS AND OF GUARDS: it only reads.
-/
import Derived.Test.YtenahfmmijpelaaDoorCopyInts
import Derived.Test.YtenahfmmijpelaaDoorFamBase
import Derived.Test.YtenahfmmijpelaaDoorBlk
import Derived.Deep.QuietTactic
import Derived.BigQuiet
import Derived.LoopTactic
import Derived.Lib.Hide
import Derived.Outline
namespace Go.Proofs.YtenahfmmijpelaaDoor
open Go.RowKit Go.Deep
/-- The first k elements are the same. -/
def samK {α : Type} (xs ys : List α) (k : Nat) : Prop := xs.take k = ys.take k
theorem samK_succ {α : Type} {xs ys : List α} {k : Nat} (h : k < xs.length) (h' : k < ys.length) (hk : samK xs ys k) (e : xs[k] = ys[k]) : samK xs ys (k + 1) := by
  unfold samK at *; rw [List.take_succ_eq_append_getElem h, List.take_succ_eq_append_getElem h', hk, e]
section
variable {α : Type} [DecidableEq α]
theorem eq_differ {xs ys : List α} {k : Nat} (h : k < xs.length) (h' : k < ys.length) (e : xs[k] ≠ ys[k]) : decide (xs = ys) = false := by
  rw [decide_eq_false_iff_not]; rintro rfl; exact e rfl
theorem eq_len {xs ys : List α} (h : xs.length ≠ ys.length) : decide (xs = ys) = false := by
  rw [decide_eq_false_iff_not]; rintro rfl; exact h rfl
theorem eq_end {xs ys : List α} {k : Nat} (h : k = xs.length) (h' : k = ys.length) (hk : samK xs ys k) : decide (xs = ys) = true := by
  unfold samK at hk; rw [List.take_of_length_le (by omega), List.take_of_length_le (by omega)] at hk
  rw [decide_eq_true_iff]; exact hk
end
set_option maxHeartbeats 1600000 in
theorem eqIntsQ_full (b off n cap b' off' n' cap' : Nat) (w : World) (xs ys : List Int) (hx : xs.length = n) (hy : ys.length = n') (hn : n ≤ 9223372036854775807)
    (hc : ∀ i, i < n → w.cell? ⟨b, off + i, none⟩ = some (.int .i64 (xs.getD i 0))) (hc' : ∀ i, i < n' → w.cell? ⟨b', off' + i, none⟩ = some (.int .i64 (ys.getD i 0))) :
    Calls Tryd.prog 95 #[.slice (some ⟨b, off, none⟩) n cap, .slice (some ⟨b', off', none⟩) n' cap'] w fun e w' => e = .returned (.bool (decide (xs = ys))) ∧ ∃ q, w' = w.drewN q := by
  have HC := Lib.hid hc
  have HC' := Lib.hid hc'
  have HX := Lib.hid hx
  have HY := Lib.hid hy
  clear hc hc' hx hy
  by_cases hnn : n = n'
  · subst hnn
    go_enter Tryd.func95, Tryd.ntmps95
    go_wp2_with fail
    go_loopw [13] (fun v wr => ∃ (k q : Nat), k ≤ n ∧ v = .int .i64 k ∧ samK xs ys k ∧ wr = w.drewN q) (fun v _ => n - (intOf v).toNat)
    case atStart => exact ⟨0, 0, Nat.zero_le _, rfl, rfl, rfl⟩
    case round =>
      obtain ⟨k, q, hk, rfl, hs, rfl⟩ := hrel
      have HS := Lib.hid hs
      clear hs
      by_cases h1 : k < n
      · have hkx : k < xs.length := by rw [HX.out]; exact h1
        have hky : k < ys.length := by rw [HY.out]; exact h1
        have g1 := HC.out k h1
        have g2 := HC'.out k h1
        rw [show xs.getD k 0 = xs[k] by simp [List.getD, List.getElem?_eq_getElem hkx]] at g1
        rw [show ys.getD k 0 = ys[k] by simp [List.getD, List.getElem?_eq_getElem hky]] at g2
        generalize hX : xs[k] = x at g1
        generalize hY : ys[k] = y at g2
        have HXk := Lib.hid hX
        have HYk := Lib.hid hY
        clear hX hY
        by_cases he : x = y
        · have HE := Lib.hid he
          have e1 : (x == y) = true := by simp [he]
          have e2 : (x != y) = false := by rw [bne, e1]; rfl
          clear he
          go_wp2_with fail
          go_quiet (fail)
          go_wp2_with fail
          go_roundw
          case rel => exact ⟨k + 1, q + nq, by omega, by go_num, samK_succ hkx hky HS.out (by rw [HXk.out, HYk.out]; exact HE.out), by first | rfl | rw [World.drewN_drewN]⟩
          case measure => simp [intOf]; omega
        · have HE := Lib.hid he
          have e1 : (x == y) = false := by simp [he]
          have e2 : (x != y) = true := by rw [bne, e1]; rfl
          clear he
          go_wp2_with fail
          go_quiet (fail)
          go_wp2_with fail
          go_ret
          exact ⟨ret_bool (by rw [eq_differ hkx hky (by rw [HXk.out, HYk.out]; exact HE.out)]), q + nq, by first | rfl | rw [World.drewN_drewN]⟩
      · have HE := Lib.hid (eq_end (k := k) (by rw [HX.out]; omega) (by rw [HY.out]; omega) HS.out)
        go_wp2_with fail
        go_ret
        exact ⟨ret_bool (by rw [HE.out]), q, rfl⟩
  · have h1 : (((n : Nat) : Int) == ((n' : Nat) : Int)) = false := by simp; omega
    have h2 : (((n : Nat) : Int) != ((n' : Nat) : Int)) = true := by rw [bne, h1]; rfl
    have E := Lib.hid (eq_len (xs := xs) (ys := ys) (by rw [HX.out, HY.out]; exact hnn))
    clear hnn
    go_enter Tryd.func95, Tryd.ntmps95
    go_wp2_with fail
    go_ret
    exact ⟨ret_bool (by rw [E.out]), 0, rfl⟩
set_option maxHeartbeats 800000 in
theorem eqIntsQ_left (a a' : Option Addr) (cap n' cap' : Nat) (w : World) (ys : List Int) (hy : ys.length = n') (hn : n' ≤ 9223372036854775807) :
    Calls Tryd.prog 95 #[.slice a 0 cap, .slice a' n' cap'] w fun e w' => e = .returned (.bool (decide ([] = ys))) ∧ ∃ q, w' = w.drewN q := by
  by_cases h0 : n' = 0
  · subst h0
    obtain rfl := List.eq_nil_of_length_eq_zero hy
    go_enter Tryd.func95, Tryd.ntmps95
    go_wp2_with fail
    refine wp_loop_rounds 1 ?_
    rw [rounds_succ]
    go_wp2_with fail
    go_ret
    exact ⟨rfl, 0, rfl⟩
  · have h1' : ((0 : Int) == ((n' : Nat) : Int)) = false := by simp; omega
    have h2 : ((0 : Int) != ((n' : Nat) : Int)) = true := by rw [bne, h1']; rfl
    have E := Lib.hid (eq_len (xs := []) (ys := ys) (by simp; omega))
    clear h0
    go_enter Tryd.func95, Tryd.ntmps95
    go_wp2_with fail
    go_ret
    exact ⟨ret_bool (by rw [E.out]), 0, rfl⟩
set_option maxHeartbeats 800000 in
theorem eqIntsQ_right (a a' : Option Addr) (n cap cap' : Nat) (w : World) (x : Int) (xs : List Int) (hx : (x :: xs).length = n) (hn : n ≤ 9223372036854775807) :
    Calls Tryd.prog 95 #[.slice a n cap, .slice a' 0 cap'] w fun e w' => e = .returned (.bool (decide (x :: xs = []))) ∧ ∃ q, w' = w.drewN q := by
  have h0 : 0 < n := by simp at hx; omega
  have h1 : (((n : Nat) : Int) == (0 : Int)) = false := by simp; omega
  have h2 : (((n : Nat) : Int) != (0 : Int)) = true := by rw [bne, h1]; rfl
  have E := Lib.hid (eq_len (xs := x :: xs) (ys := []) (by simp))
  clear hx
  go_enter Tryd.func95, Tryd.ntmps95
  go_wp2_with fail
  go_ret
  exact ⟨ret_bool (by rw [E.out]), 0, rfl⟩
theorem eqIntsQ_any {lo lo' : Nat} {w : World} {v v' : Value} {xs ys : List Int} (h : IsInts lo w v xs) (h' : IsInts lo' w v' ys) :
    Calls Tryd.prog 95 #[v, v'] w fun e w' => e = .returned (.bool (decide (xs = ys))) ∧ ∃ q, w' = w.drewN q := by
  obtain ⟨a, cap, rfl, hl, hm, hi, hc⟩ := h
  obtain ⟨a', cap', rfl, hl', hm', hi', hc'⟩ := h'
  unfold maxLen at hm hm'
  rcases hc with rfl | ⟨b, off, rfl, _, _, hc⟩
  · exact eqIntsQ_left _ _ _ _ _ _ _ rfl (by omega)
  · rcases hc' with rfl | ⟨b', off', rfl, _, _, hc'⟩
    · cases xs with
      | nil => exact eqIntsQ_left _ _ _ _ _ _ _ rfl (by simp)
      | cons x xs => exact eqIntsQ_right _ _ _ _ _ _ _ _ rfl (by omega)
    · exact eqIntsQ_full _ _ _ _ _ _ _ _ _ _ _ rfl rfl (by omega) hc hc'

set_option maxHeartbeats 1600000 in
theorem eqThsQ_full (b off n cap b' off' n' cap' : Nat) (w : World) (xs ys : List Th) (hx : xs.length = n) (hy : ys.length = n') (hn : n ≤ 9223372036854775807)
    (hc : ∀ i (hi : i < xs.length), ∃ cs : List Value, cs.length = 6 ∧ (∀ j, j < 6 → w.cell? ⟨b, off + i * 6 + j, none⟩ = cs[j]?) ∧ ThEl 0 w cs xs[i]) (hc' : ∀ i (hi : i < ys.length), ∃ cs : List Value, cs.length = 6 ∧ (∀ j, j < 6 → w.cell? ⟨b', off' + i * 6 + j, none⟩ = cs[j]?) ∧ ThEl 0 w cs ys[i]) :
    Calls Tryd.prog 96 #[.slice (some ⟨b, off, none⟩) n cap, .slice (some ⟨b', off', none⟩) n' cap'] w fun e w' => e = .returned (.bool (decide (xs = ys))) ∧ ∃ q, w' = w.drewN q := by
  have HC := Lib.hid hc
  have HC' := Lib.hid hc'
  have HX := Lib.hid hx
  have HY := Lib.hid hy
  clear hc hc' hx hy
  by_cases hnn : n = n'
  · subst hnn
    go_enter Tryd.func96, Tryd.ntmps96
    go_wp2_with fail
    go_loopw [13] (fun v wr => ∃ (k q : Nat), k ≤ n ∧ v = .int .i64 k ∧ samK xs ys k ∧ wr = w.drewN q) (fun v _ => n - (intOf v).toNat)
    case atStart => exact ⟨0, 0, Nat.zero_le _, rfl, rfl, rfl⟩
    case round =>
      obtain ⟨k, q, hk, rfl, hs, rfl⟩ := hrel
      have HS := Lib.hid hs
      clear hs
      by_cases h1 : k < n
      · have hkx : k < xs.length := by rw [HX.out]; exact h1
        have hky : k < ys.length := by rw [HY.out]; exact h1
        obtain ⟨cs, _, r1, p1, _⟩ := HC.out k hkx
        obtain ⟨cs', _, r2, p2, _⟩ := HC'.out k hky
        generalize hX : xs[k] = x at p1
        generalize hY : ys[k] = y at p2
        have HXk := Lib.hid hX
        have HYk := Lib.hid hY
        obtain ⟨x1, x2, ⟨x3, x4, x5, x6⟩⟩ := x
        obtain ⟨y1, y2, ⟨y3, y4, y5, y6⟩⟩ := y
        subst p1 p2
        clear hX hY
        have g0 : w.cell? ⟨b, off + k * 6, none⟩ = some (.int .i64 x1) := r1 0 (by omega)
        have j0 : w.cell? ⟨b', off' + k * 6, none⟩ = some (.int .i64 y1) := r2 0 (by omega)
        have g1 : w.cell? ⟨b, off + k * 6 + 1, none⟩ = some (.int .i64 x2) := r1 1 (by omega)
        have j1 : w.cell? ⟨b', off' + k * 6 + 1, none⟩ = some (.int .i64 y2) := r2 1 (by omega)
        have g2 : w.cell? ⟨b, off + k * 6 + 2, none⟩ = some (.int .i64 x3) := r1 2 (by omega)
        have j2 : w.cell? ⟨b', off' + k * 6 + 2, none⟩ = some (.int .i64 y3) := r2 2 (by omega)
        have g3 : w.cell? ⟨b, off + k * 6 + 3, none⟩ = some (.int .i64 x4) := r1 3 (by omega)
        have j3 : w.cell? ⟨b', off' + k * 6 + 3, none⟩ = some (.int .i64 y4) := r2 3 (by omega)
        have g4 : w.cell? ⟨b, off + k * 6 + 4, none⟩ = some (.int .i64 x5) := r1 4 (by omega)
        have j4 : w.cell? ⟨b', off' + k * 6 + 4, none⟩ = some (.int .i64 y5) := r2 4 (by omega)
        have g5 : w.cell? ⟨b, off + k * 6 + 5, none⟩ = some (.int .i64 x6) := r1 5 (by omega)
        have j5 : w.cell? ⟨b', off' + k * 6 + 5, none⟩ = some (.int .i64 y6) := r2 5 (by omega)
        clear r1 r2
        by_cases e0 : x1 = y1
        · subst e0
          by_cases e1 : x2 = y2
          · subst e1
            by_cases e2 : x3 = y3
            · subst e2
              by_cases e3 : x4 = y4
              · subst e3
                by_cases e4 : x5 = y5
                · subst e4
                  by_cases e5 : x6 = y6
                  · subst e5
                    go_wp2_with fail
                    go_quiet (fail)
                    go_wp2_with fail
                    go_roundw
                    case rel => exact ⟨k + 1, q + nq, by omega, by go_num, samK_succ hkx hky HS.out (by rw [HXk.out, HYk.out]), by first | rfl | rw [World.drewN_drewN]⟩
                    case measure => simp [intOf]; omega
                  · have e5' : (x6 == y6) = false := by simp [e5]
                    have HE := Lib.hid (show (⟨x1, x2, ⟨x3, x4, x5, x6⟩⟩ : Th) ≠ ⟨x1, x2, ⟨x3, x4, x5, y6⟩⟩ by intro h; simp only [Th.mk.injEq, Ln.mk.injEq] at h; simp_all)
                    clear e5
                    go_wp2_with fail
                    go_quiet (fail)
                    go_wp2_with fail
                    go_ret
                    exact ⟨ret_bool (by rw [eq_differ hkx hky (by rw [HXk.out, HYk.out]; exact HE.out)]), q + nq, by first | rfl | rw [World.drewN_drewN]⟩
                · have e4' : (x5 == y5) = false := by simp [e4]
                  have HE := Lib.hid (show (⟨x1, x2, ⟨x3, x4, x5, x6⟩⟩ : Th) ≠ ⟨x1, x2, ⟨x3, x4, y5, y6⟩⟩ by intro h; simp only [Th.mk.injEq, Ln.mk.injEq] at h; simp_all)
                  clear e4
                  go_wp2_with fail
                  go_quiet (fail)
                  go_wp2_with fail
                  go_ret
                  exact ⟨ret_bool (by rw [eq_differ hkx hky (by rw [HXk.out, HYk.out]; exact HE.out)]), q + nq, by first | rfl | rw [World.drewN_drewN]⟩
              · have e3' : (x4 == y4) = false := by simp [e3]
                have HE := Lib.hid (show (⟨x1, x2, ⟨x3, x4, x5, x6⟩⟩ : Th) ≠ ⟨x1, x2, ⟨x3, y4, y5, y6⟩⟩ by intro h; simp only [Th.mk.injEq, Ln.mk.injEq] at h; simp_all)
                clear e3
                go_wp2_with fail
                go_quiet (fail)
                go_wp2_with fail
                go_ret
                exact ⟨ret_bool (by rw [eq_differ hkx hky (by rw [HXk.out, HYk.out]; exact HE.out)]), q + nq, by first | rfl | rw [World.drewN_drewN]⟩
            · have e2' : (x3 == y3) = false := by simp [e2]
              have HE := Lib.hid (show (⟨x1, x2, ⟨x3, x4, x5, x6⟩⟩ : Th) ≠ ⟨x1, x2, ⟨y3, y4, y5, y6⟩⟩ by intro h; simp only [Th.mk.injEq, Ln.mk.injEq] at h; simp_all)
              clear e2
              go_wp2_with fail
              go_quiet (fail)
              go_wp2_with fail
              go_ret
              exact ⟨ret_bool (by rw [eq_differ hkx hky (by rw [HXk.out, HYk.out]; exact HE.out)]), q + nq, by first | rfl | rw [World.drewN_drewN]⟩
          · have e1' : (x2 == y2) = false := by simp [e1]
            have HE := Lib.hid (show (⟨x1, x2, ⟨x3, x4, x5, x6⟩⟩ : Th) ≠ ⟨x1, y2, ⟨y3, y4, y5, y6⟩⟩ by intro h; simp only [Th.mk.injEq, Ln.mk.injEq] at h; simp_all)
            clear e1
            go_wp2_with fail
            go_quiet (fail)
            go_wp2_with fail
            go_ret
            exact ⟨ret_bool (by rw [eq_differ hkx hky (by rw [HXk.out, HYk.out]; exact HE.out)]), q + nq, by first | rfl | rw [World.drewN_drewN]⟩
        · have e0' : (x1 == y1) = false := by simp [e0]
          have HE := Lib.hid (show (⟨x1, x2, ⟨x3, x4, x5, x6⟩⟩ : Th) ≠ ⟨y1, y2, ⟨y3, y4, y5, y6⟩⟩ by intro h; simp only [Th.mk.injEq, Ln.mk.injEq] at h; simp_all)
          clear e0
          go_wp2_with fail
          go_quiet (fail)
          go_wp2_with fail
          go_ret
          exact ⟨ret_bool (by rw [eq_differ hkx hky (by rw [HXk.out, HYk.out]; exact HE.out)]), q + nq, by first | rfl | rw [World.drewN_drewN]⟩
      · have HE := Lib.hid (eq_end (k := k) (by rw [HX.out]; omega) (by rw [HY.out]; omega) HS.out)
        go_wp2_with fail
        go_ret
        exact ⟨ret_bool (by rw [HE.out]), q, rfl⟩
  · have h1 : (((n : Nat) : Int) == ((n' : Nat) : Int)) = false := by simp; omega
    have h2 : (((n : Nat) : Int) != ((n' : Nat) : Int)) = true := by rw [bne, h1]; rfl
    have E := Lib.hid (eq_len (xs := xs) (ys := ys) (by rw [HX.out, HY.out]; exact hnn))
    clear hnn
    go_enter Tryd.func96, Tryd.ntmps96
    go_wp2_with fail
    go_ret
    exact ⟨ret_bool (by rw [E.out]), 0, rfl⟩
set_option maxHeartbeats 800000 in
theorem eqThsQ_left (a a' : Option Addr) (cap n' cap' : Nat) (w : World) (ys : List Th) (hy : ys.length = n') (hn : n' ≤ 9223372036854775807) :
    Calls Tryd.prog 96 #[.slice a 0 cap, .slice a' n' cap'] w fun e w' => e = .returned (.bool (decide ([] = ys))) ∧ ∃ q, w' = w.drewN q := by
  by_cases h0 : n' = 0
  · subst h0
    obtain rfl := List.eq_nil_of_length_eq_zero hy
    go_enter Tryd.func96, Tryd.ntmps96
    go_wp2_with fail
    refine wp_loop_rounds 1 ?_
    rw [rounds_succ]
    go_wp2_with fail
    go_ret
    exact ⟨rfl, 0, rfl⟩
  · have h1' : ((0 : Int) == ((n' : Nat) : Int)) = false := by simp; omega
    have h2 : ((0 : Int) != ((n' : Nat) : Int)) = true := by rw [bne, h1']; rfl
    have E := Lib.hid (eq_len (xs := []) (ys := ys) (by simp; omega))
    clear h0
    go_enter Tryd.func96, Tryd.ntmps96
    go_wp2_with fail
    go_ret
    exact ⟨ret_bool (by rw [E.out]), 0, rfl⟩
set_option maxHeartbeats 800000 in
theorem eqThsQ_right (a a' : Option Addr) (n cap cap' : Nat) (w : World) (x : Th) (xs : List Th) (hx : (x :: xs).length = n) (hn : n ≤ 9223372036854775807) :
    Calls Tryd.prog 96 #[.slice a n cap, .slice a' 0 cap'] w fun e w' => e = .returned (.bool (decide (x :: xs = []))) ∧ ∃ q, w' = w.drewN q := by
  have h0 : 0 < n := by simp at hx; omega
  have h1 : (((n : Nat) : Int) == (0 : Int)) = false := by simp; omega
  have h2 : (((n : Nat) : Int) != (0 : Int)) = true := by rw [bne, h1]; rfl
  have E := Lib.hid (eq_len (xs := x :: xs) (ys := []) (by simp))
  clear hx
  go_enter Tryd.func96, Tryd.ntmps96
  go_wp2_with fail
  go_ret
  exact ⟨ret_bool (by rw [E.out]), 0, rfl⟩
theorem eqThsQ_any {lo lo' : Nat} {w : World} {v v' : Value} {xs ys : List Th} (h : IsSl 6 ThEl lo w v xs) (h' : IsSl 6 ThEl lo' w v' ys) :
    Calls Tryd.prog 96 #[v, v'] w fun e w' => e = .returned (.bool (decide (xs = ys))) ∧ ∃ q, w' = w.drewN q := by
  obtain ⟨a, cap, rfl, hl, hm, _, hc⟩ := h.mono ThEl.mono (Nat.zero_le lo)
  obtain ⟨a', cap', rfl, hl', hm', _, hc'⟩ := h'.mono ThEl.mono (Nat.zero_le lo')
  unfold maxLen at hm hm'
  rcases hc with rfl | ⟨b, off, rfl, _, _, hc⟩
  · exact eqThsQ_left _ _ _ _ _ _ _ rfl (by omega)
  · rcases hc' with rfl | ⟨b', off', rfl, _, _, hc'⟩
    · cases xs with
      | nil => exact eqThsQ_left _ _ _ _ _ _ _ rfl (by simp)
      | cons x xs => exact eqThsQ_right _ _ _ _ _ _ _ _ rfl (by omega)
    · exact eqThsQ_full _ _ _ _ _ _ _ _ _ _ _ rfl rfl (by omega) hc hc'

end Go.Proofs.YtenahfmmijpelaaDoor
