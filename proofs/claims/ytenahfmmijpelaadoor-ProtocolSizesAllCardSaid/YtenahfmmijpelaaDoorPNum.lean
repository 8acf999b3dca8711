/-
  NUMBERS AND SIZES: what between, isFactor, isLarge, isParameter, valueAt and Evaluate return, of the program and of the reference.
-/
import Derived.Test.YtenahfmmijpelaaDoorProg
import Derived.Test.YtenahfmmijpelaaDoorBase
import Derived.WalkSpells
import Derived.WalkLawsBesides
import Derived.Deep.QuietTactic
import Derived.BigQuiet
namespace Go.Proofs.YtenahfmmijpelaaDoor
open Go.RowKit Go.Deep

/-- n lies from lo to hi. -/
def inB (lo hi n : Int) : Bool := decide (lo ≤ n) && decide (n ≤ hi)
theorem between_any (n lo hi : Int) (w : World) :
    Calls Tryd.prog 29 #[.int .i64 n, .int .i64 lo, .int .i64 hi] w fun e w' => e = .returned (.bool (inB lo hi n)) ∧ w = w' := by
  have e : Hid (inB lo hi n = (decide (lo ≤ n) && decide (n ≤ hi))) := (rfl : inB lo hi n = _)
  by_cases h1 : lo ≤ n
  · by_cases h2 : n ≤ hi
    · go_enter Tryd.func29, Tryd.ntmps29
      go_wp2
      go_ret
      exact ⟨ret_bool (by rw [e.out]; simp; omega), rfl⟩
    · go_enter Tryd.func29, Tryd.ntmps29
      go_wp2
      go_ret
      exact ⟨ret_bool (by rw [e.out]; simp; omega), rfl⟩
  · go_enter Tryd.func29, Tryd.ntmps29
    go_wp2
    go_ret
    exact ⟨ret_bool (by rw [e.out]; simp; omega), rfl⟩
theorem swithin_any (n lo hi : Int) (w : World) :
    Calls Tryd.prog 46 #[.int .i64 n, .int .i64 lo, .int .i64 hi] w fun e w' => e = .returned (.bool (inB lo hi n)) ∧ w = w' := by
  have e : Hid (inB lo hi n = (decide (lo ≤ n) && decide (n ≤ hi))) := (rfl : inB lo hi n = _)
  by_cases h1 : lo ≤ n
  · by_cases h2 : n ≤ hi
    · go_enter Tryd.func46, Tryd.ntmps46
      go_wp2
      go_ret
      exact ⟨ret_bool (by rw [e.out]; simp; omega), rfl⟩
    · go_enter Tryd.func46, Tryd.ntmps46
      go_wp2
      go_ret
      exact ⟨ret_bool (by rw [e.out]; simp; omega), rfl⟩
  · go_enter Tryd.func46, Tryd.ntmps46
    go_wp2
    go_ret
    exact ⟨ret_bool (by rw [e.out]; simp; omega), rfl⟩

/-- A factor, a parameter. -/
def faB (n : Int) : Bool := inB (-100) 100 n
def paB (n : Int) : Bool := inB 0 1048576 n
theorem isFactor_any (n : Int) (w : World) : Calls Tryd.prog 65 #[.int .i64 n] w fun e w' => e = .returned (.bool (faB n)) ∧ w = w' := by
  go_enter Tryd.func65, Tryd.ntmps65
  go_wp2_with (go_at_call 29; refine (between_any _ _ _ _).mono ?_; rintro e w' ⟨rfl, rfl⟩)
  go_ret
  exact ⟨rfl, rfl⟩
theorem within_fa (n : Int) (w : World) : Calls Tryd.prog 46 #[.int .i64 n, .int .i64 (-100), .int .i64 100] w fun e w' => e = .returned (.bool (faB n)) ∧ w = w' := swithin_any _ _ _ _
theorem within_pa (n : Int) (w : World) : Calls Tryd.prog 46 #[.int .i64 n, .int .i64 0, .int .i64 1048576] w fun e w' => e = .returned (.bool (paB n)) ∧ w = w' := swithin_any _ _ _ _

/-- The numbers of an expression are factors. -/
def smL (c n t f : Int) : Bool := faB c && faB n && faB t && faB f
theorem isLarge_any (c n t f : Int) (w : World) :
    Calls Tryd.prog 34 #[.agg #[.int .i64 c, .int .i64 n, .int .i64 t, .int .i64 f]] w fun e w' => e = .returned (.bool (!smL c n t f)) ∧ Below w.heap.size w w' := by
  have e : Hid (smL c n t f = (faB c && faB n && faB t && faB f)) := (rfl : smL c n t f = _)
  cases h1 : faB c with
  | false =>
    go_enter Tryd.func34, Tryd.ntmps34
    go_wp2_with (go_at_call 65; refine (isFactor_any _ _).mono ?_; rintro e w' ⟨rfl, rfl⟩)
    go_ret
    exact ⟨ret_bool (by rw [e.out, h1]; rfl), allocBelow _ _⟩
  | true =>
    cases h2 : faB n with
    | false =>
      go_enter Tryd.func34, Tryd.ntmps34
      go_wp2_with (go_at_call 65; refine (isFactor_any _ _).mono ?_; rintro e w' ⟨rfl, rfl⟩)
      go_ret
      exact ⟨ret_bool (by rw [e.out, h1, h2]; rfl), allocBelow _ _⟩
    | true =>
      cases h3 : faB t with
      | false =>
        go_enter Tryd.func34, Tryd.ntmps34
        go_wp2_with (go_at_call 65; refine (isFactor_any _ _).mono ?_; rintro e w' ⟨rfl, rfl⟩)
        go_ret
        exact ⟨ret_bool (by rw [e.out, h1, h2, h3]; rfl), allocBelow _ _⟩
      | true =>
        go_enter Tryd.func34, Tryd.ntmps34
        go_wp2_with (go_at_call 65; refine (isFactor_any _ _).mono ?_; rintro e w' ⟨rfl, rfl⟩)
        go_ret
        exact ⟨ret_bool (by rw [e.out, h1, h2, h3]; rfl), allocBelow _ _⟩
theorem few_any (c n t f : Int) (w : World) :
    Calls Tryd.prog 48 #[.agg #[.int .i64 c, .int .i64 n, .int .i64 t, .int .i64 f]] w fun e w' => e = .returned (.bool (smL c n t f)) ∧ Below w.heap.size w w' := by
  have e : Hid (smL c n t f = (faB c && faB n && faB t && faB f)) := (rfl : smL c n t f = _)
  cases h1 : faB c with
  | false =>
    go_enter Tryd.func48, Tryd.ntmps48
    go_wp2_with (go_at_call 46; refine (within_fa _ _).mono ?_; rintro e w' ⟨rfl, rfl⟩)
    go_ret
    exact ⟨ret_bool (by rw [e.out, h1]; rfl), allocBelow _ _⟩
  | true =>
    cases h2 : faB n with
    | false =>
      go_enter Tryd.func48, Tryd.ntmps48
      go_wp2_with (go_at_call 46; refine (within_fa _ _).mono ?_; rintro e w' ⟨rfl, rfl⟩)
      go_ret
      exact ⟨ret_bool (by rw [e.out, h1, h2]; rfl), allocBelow _ _⟩
    | true =>
      cases h3 : faB t with
      | false =>
        go_enter Tryd.func48, Tryd.ntmps48
        go_wp2_with (go_at_call 46; refine (within_fa _ _).mono ?_; rintro e w' ⟨rfl, rfl⟩)
        go_ret
        exact ⟨ret_bool (by rw [e.out, h1, h2, h3]; rfl), allocBelow _ _⟩
      | true =>
        go_enter Tryd.func48, Tryd.ntmps48
        go_wp2_with (go_at_call 46; refine (within_fa _ _).mono ?_; rintro e w' ⟨rfl, rfl⟩)
        go_ret
        exact ⟨ret_bool (by rw [e.out, h1, h2, h3]; rfl), allocBelow _ _⟩
end Go.Proofs.YtenahfmmijpelaaDoor
