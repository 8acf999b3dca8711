import Derived.Lib.Hide
import Derived.Test.YtmpbfdfjcfanoaaDoorGrpmimdldbm
set_option linter.all false
/-
  THE VALUE OF AN EXPRESSION AT A SIZE: valueAt and Evaluate of the program, value and Evaluate of the reference: the same sums.
-/
namespace Go.Proofs.YtmpbfdfjcfanoaaDoor
open Go.RowKit Go.Deep

/-- C + N*n + T*t + F*f as Go sums it. -/
def linV (c n t f a b d : Int) : Int := wrap64 (wrap64 (wrap64 (c + wrap64 (n * a)) + wrap64 (t * b)) + wrap64 (f * d))
def LV (c n t f : Int) : Value := .agg #[.int .i64 c, .int .i64 n, .int .i64 t, .int .i64 f]
def SV (a b d : Int) : Value := .agg #[.int .i64 a, .int .i64 b, .int .i64 d]
/-- The error and the value. -/
def evE (c n t f a b d : Int) : Int := if smL c n t f = false then 4 else if (paB a && paB b && paB d) = false then 8 else 0
def evN (c n t f a b d : Int) : Int := if evE c n t f a b d = 0 then linV c n t f a b d else 0

theorem valueAt_any (c n t f a b d : Int) (w : World) :
    Calls Tryd.prog 105 #[.agg #[.int .i64 c, .int .i64 n, .int .i64 t, .int .i64 f], .agg #[.int .i64 a, .int .i64 b, .int .i64 d]] w fun e w' => e = .returned (.int .i64 (linV c n t f a b d)) ∧ Below w.heap.size w w' := by
  have E := Lib.hid (show linV c n t f a b d = wrap64 (wrap64 (wrap64 (c + wrap64 (n * a)) + wrap64 (t * b)) + wrap64 (f * d)) from rfl)
  go_enter Tryd.func105, Tryd.ntmps105
  go_wp2_with fail
  go_ret
  exact ⟨ret_int (by rw [E.out]), (allocBelow _ _).trans ((allocBelow _ _).mono (by simp))⟩

theorem ret_two {a b c d : Int} (h : a = c) (k : b = d) : Ending.returned (.tuple #[.int .i64 a, .int .i64 b]) = .returned (.tuple #[.int .i64 c, .int .i64 d]) := by rw [h, k]
theorem rvalueAt_any (c n t f a b d : Int) (w : World) :
    Calls Tryd.prog 106 #[.agg #[.int .i64 c, .int .i64 n, .int .i64 t, .int .i64 f], .agg #[.int .i64 a, .int .i64 b, .int .i64 d]] w fun e w' => e = .returned (.int .i64 (linV c n t f a b d)) ∧ Below w.heap.size w w' := by
  have E := Lib.hid (show linV c n t f a b d = wrap64 (wrap64 (wrap64 (c + wrap64 (n * a)) + wrap64 (t * b)) + wrap64 (f * d)) from rfl)
  go_enter Tryd.func106, Tryd.ntmps106
  go_wp2_with fail
  go_ret
  exact ⟨ret_int (by rw [E.out]), (allocBelow _ _).trans ((allocBelow _ _).mono (by simp))⟩

theorem ret_twor {a b c d : Int} (h : a = c) (k : b = d) : Ending.returned (.tuple #[.int .i64 a, .int .i64 b]) = .returned (.tuple #[.int .i64 c, .int .i64 d]) := by rw [h, k]
end Go.Proofs.YtmpbfdfjcfanoaaDoor
