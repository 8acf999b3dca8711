/-
  ARGUMENTS THAT ARE INTEGERS AND SLICES OF INTEGERS, by their cells.
-/
import Derived.Test.YtbeadfagacndeaaProg
import Derived.Test.YtbeadfagacndeaaBase
import Derived.ChangeArms
namespace Go.Proofs.Ytbeadfagacndeaa
open Go.RowKit Go.Deep Go.ChangeShapes Go.WideShapes Go.ChangeAt Go.Joins
theorem zcells_int : Try.prog.cellsOf 3 = 1 := by kernel_rfl
theorem zcells_ints : Try.prog.cellsOf 22 = 1 := by kernel_rfl
theorem zint_of_trod {H : Type} {enc : TypeId × Value → H} {w : World} {base : Nat} {sp : Nat → Bool} {held : Bool} {n : Nat} {v : Value} {x : DataW H × List MemPlace} (h : DataW.trod enc Try.prog w base sp held n 3 [v] = some x) : ∃ c, v = .int .i64 c ∧ I64 c := by
  obtain ⟨c, e1, _, e3⟩ := DataW.trod_int Try.underlying3 h
  simp at e1
  exact ⟨c, e1, I64.of_wf e3⟩
theorem zarg_ints {H : Type} {enc : TypeId × Value → H} {w : World} {r : Reach} {b0 : Nat} {v : Value} {d : DataW H} {p : List MemPlace} (hv : Value.okWide Try.prog w r b0 22 v) (h : DataW.Trod enc Try.prog w 0 (fun _ => true) true 22 v d p) : ∃ xs, IsInts 0 w v xs := by
  obtain ⟨fuel, hf⟩ := h
  obtain ⟨a, n, c, rfl⟩ := okWide_slice Try.underlying22 hv
  exact ints_of_trod Try.underlying22 Try.underlying3 zcells_int (by simpa [Value.cells] using hf)
end Go.Proofs.Ytbeadfagacndeaa
