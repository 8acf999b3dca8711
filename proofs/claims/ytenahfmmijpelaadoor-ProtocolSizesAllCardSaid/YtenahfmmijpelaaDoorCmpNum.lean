/-
  THE ORDER OF NUMBERS: cmp.Compare and cmp.Or.
-/
import Derived.Test.YtenahfmmijpelaaDoorProg
import Derived.Test.YtenahfmmijpelaaDoorBase
import Derived.WalkSpells
import Derived.WalkLawsBesides
import Derived.LoopN
namespace Go.Proofs.YtenahfmmijpelaaDoor
open Go.RowKit Go.Deep

/-- The order of numbers. -/
def cmpN (x y : Int) : Int := if x < y then -1 else if y < x then 1 else 0

theorem cmpCompare_any (x y : Int) (w : World) : Calls Tryd.prog 44 #[.int .i64 x, .int .i64 y] w fun e w' => e = .returned (.int .i64 (cmpN x y)) ∧ w = w' := by
  have E : Hid (cmpN x y = if x < y then -1 else if y < x then 1 else 0) := (rfl : cmpN x y = _)
  by_cases h1 : x < y
  · go_enter Tryd.func44, Tryd.ntmps44
    go_wp2
    go_ret
    exact ⟨ret_int (by rw [E.out, if_pos (by omega)]), rfl⟩
  · by_cases h2 : y < x
    · go_enter Tryd.func44, Tryd.ntmps44
      go_wp2
      go_ret
      exact ⟨ret_int (by rw [E.out, if_neg (by omega), if_pos (by omega)]), rfl⟩
    · obtain rfl : x = y := by omega
      clear h1 h2
      go_enter Tryd.func44, Tryd.ntmps44
      go_wp2
      go_ret
      exact ⟨ret_int (by rw [E.out]; simp), rfl⟩

/-- The first that is not 0. -/
def orI (x y : Int) : Int := if x ≠ 0 then x else y
theorem cmpOr_two (b : Nat) (x y : Int) (w : World) (h0 : w.cell? ⟨b, 0, none⟩ = some (.int .i64 x)) (h1 : w.cell? ⟨b, 1, none⟩ = some (.int .i64 y)) :
    Calls Tryd.prog 43 #[.slice (some ⟨b, 0, none⟩) 2 2] w fun e w' => e = .returned (.int .i64 (orI x y)) ∧ w = w' := by
  by_cases hx : x = 0
  · subst hx
    by_cases hy : y = 0
    · subst hy
      go_enter Tryd.func43, Tryd.ntmps43
      go_wp2
      go_rounds 3
      go_ret
      exact ⟨rfl, rfl⟩
    · have hy' : (y != 0) = true := by simpa using hy
      rw [show orI 0 y = y from rfl]
      clear hy
      go_enter Tryd.func43, Tryd.ntmps43
      go_wp2
      go_rounds 3
      go_ret
      exact ⟨rfl, rfl⟩
  · have hx' : (x != 0) = true := by simpa using hx
    rw [show orI x y = x from if_pos hx]
    clear hx
    go_enter Tryd.func43, Tryd.ntmps43
    go_wp2
    go_rounds 3
    go_ret
    exact ⟨rfl, rfl⟩

/-- The first of three that is not 0. -/
theorem cmpOr_three (b : Nat) (x y z : Int) (w : World) (h0 : w.cell? ⟨b, 0, none⟩ = some (.int .i64 x)) (h1 : w.cell? ⟨b, 1, none⟩ = some (.int .i64 y)) (h2 : w.cell? ⟨b, 2, none⟩ = some (.int .i64 z)) :
    Calls Tryd.prog 43 #[.slice (some ⟨b, 0, none⟩) 3 3] w fun e w' => e = .returned (.int .i64 (orI x (orI y z))) ∧ w = w' := by
  by_cases hx : x = 0
  · subst hx
    by_cases hy : y = 0
    · subst hy
      by_cases hz : z = 0
      · subst hz
        go_enter Tryd.func43, Tryd.ntmps43
        go_wp2
        go_rounds 4
        go_ret
        exact ⟨rfl, rfl⟩
      · have hz' : (z != 0) = true := by simpa using hz
        rw [show orI 0 (orI 0 z) = z from rfl]
        clear hz
        go_enter Tryd.func43, Tryd.ntmps43
        go_wp2
        go_rounds 4
        go_ret
        exact ⟨rfl, rfl⟩
    · have hy' : (y != 0) = true := by simpa using hy
      rw [show orI 0 (orI y z) = y from (by show orI y z = y; exact if_pos hy)]
      clear hy
      go_enter Tryd.func43, Tryd.ntmps43
      go_wp2
      go_rounds 4
      go_ret
      exact ⟨rfl, rfl⟩
  · have hx' : (x != 0) = true := by simpa using hx
    rw [show orI x (orI y z) = x from if_pos hx]
    clear hx
    go_enter Tryd.func43, Tryd.ntmps43
    go_wp2
    go_rounds 4
    go_ret
    exact ⟨rfl, rfl⟩
end Go.Proofs.YtenahfmmijpelaaDoor
