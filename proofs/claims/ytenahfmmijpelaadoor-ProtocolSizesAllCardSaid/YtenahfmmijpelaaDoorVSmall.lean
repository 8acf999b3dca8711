/-
  THE SMALL FUNCTIONS OF Validate: isIndex, setError, someSetError of the program; Set of the reference.
-/
import Derived.Test.YtenahfmmijpelaaDoorPNum
import Derived.Test.YtenahfmmijpelaaDoorFamBase
import Derived.Test.YtenahfmmijpelaaDoorHold
import Derived.Lib.Hide
import Derived.LoopTactic
namespace Go.Proofs.YtenahfmmijpelaaDoor
open Go.RowKit Go.Deep

/-- x is an index below n. -/
def ixB (n : Nat) (x : Int) : Bool := inB 0 ((n : Int) - 1) x
theorem isIndex_any (x : Int) (n : Nat) (hn : n ≤ 9223372036854775807) (w : World) :
    Calls Tryd.prog 66 #[.int .i64 x, .int .i64 n] w fun e w' => e = .returned (.bool (ixB n x)) ∧ w = w' := by
  have hw : IntKind.i64.wrap ((n : Int) - 1) = (n : Int) - 1 := IntWalk.i64_in _ (by omega)
  go_enter Tryd.func66, Tryd.ntmps66
  go_wp2_with (go_at_call 29; refine (between_any _ _ _ _).mono ?_; rintro e w' ⟨rfl, rfl⟩)
  go_ret
  exact ⟨rfl, rfl⟩

def allK (n : Nat) (xs : List Int) (k : Nat) : Bool := (xs.take k).all (ixB n)
theorem allK_succ {n : Nat} {xs : List Int} {k : Nat} (h : k < xs.length) (hk : allK n xs k = true) (hp : ixB n xs[k] = true) : allK n xs (k + 1) = true := by
  unfold allK at *; rw [List.take_succ_eq_append_getElem h, List.all_append, hk]; simp [hp]
theorem allK_no {n : Nat} {xs : List Int} {k : Nat} (h : k < xs.length) (hp : ixB n xs[k] = false) : allK n xs xs.length = false := by
  unfold allK; rw [List.take_length, List.all_eq_false]; exact ⟨xs[k], List.getElem_mem h, by simp [hp]⟩
/-- The elements up to k ascend. -/
def ascK (xs : List Int) (k : Nat) : Bool := (List.range k).all fun j => decide (j = 0) || decide (xs.getD (j - 1) 0 < xs.getD j 0)
theorem ascK_one (xs : List Int) : ascK xs 1 = true := rfl
theorem ascK_succ {xs : List Int} {k : Nat} (hk : ascK xs k = true) (hp : xs.getD (k - 1) 0 < xs.getD k 0) : ascK xs (k + 1) = true := by
  unfold ascK at *; rw [List.range_succ, List.all_append, hk]; simp only [List.all_cons, List.all_nil, Bool.and_true, decide_eq_true hp, Bool.or_true]
theorem ascK_no {xs : List Int} {k n : Nat} (h : k < n) (h0 : 0 < k) (hp : ¬ xs.getD (k - 1) 0 < xs.getD k 0) : ascK xs n = false := by
  unfold ascK; rw [List.all_eq_false]; exact ⟨k, List.mem_range.2 h, by rw [decide_eq_false (by omega : ¬ k = 0), decide_eq_false hp]; simp⟩
/-- Which error a slice that is to be a set of indexes below n has. -/
def setE (n : Nat) (xs : List Int) : Int := if allK n xs xs.length = false then 5 else if ascK xs xs.length = false then 1 else 0
end Go.Proofs.YtenahfmmijpelaaDoor
