/-
  AN ARGUMENT THAT IS A STRUCT of integers and slices of integers, by its cells.
-/
import Derived.Test.YtbeadfagacndeaaZBase
namespace Go.Proofs.Ytbeadfagacndeaa
open Go.RowKit Go.Deep Go.ChangeShapes Go.WideShapes Go.ChangeAt Go.Joins
theorem cells_place : Try.prog.cellsOf 24 = 3 := by kernel_rfl
set_option maxRecDepth 100000 in
theorem place_of_trod {H : Type} {enc : TypeId × Value → H} {w : World} {base : Nat} {sp : Nat → Bool} {held : Bool} {n : Nat} {cs : List Value} {x : DataW H × List MemPlace} (h : DataW.trod enc Try.prog w base sp held n 24 cs = some x) :
    ∃ c0 c1 u2 xs2, cs = [.int .i64 c0, .int .i64 c1, u2] ∧ I64 c0 ∧ I64 c1 ∧ IsInts 0 w u2 xs2 := by
  obtain ⟨ys, m, _, _, hlen, _, hf⟩ := DataW.trod_struct Try.underlying24 h
  rw [cells_place] at hlen
  match cs, hlen with
  | [v0, v1, v2], _ =>
    have h0 : DataW.trod enc Try.prog w base sp held m 3 (([v0, v1, v2].drop 0).take (Try.prog.cellsOf 3)) = ys[0]? := hf 0 _ rfl
    rw [zcells_int] at h0
    simp only [List.drop_zero, List.take_succ_cons, List.take_zero] at h0
    have h1 : DataW.trod enc Try.prog w base sp held m 3 (([v0, v1, v2].drop 1).take (Try.prog.cellsOf 3)) = ys[1]? := hf 1 _ rfl
    rw [zcells_int] at h1
    simp only [List.drop_succ_cons, List.drop_zero, List.take_succ_cons, List.take_zero] at h1
    have h2 : DataW.trod enc Try.prog w base sp held m 22 (([v0, v1, v2].drop 2).take (Try.prog.cellsOf 22)) = ys[2]? := hf 2 _ rfl
    rw [zcells_ints] at h2
    simp only [List.drop_succ_cons, List.drop_zero, List.take_succ_cons, List.take_zero] at h2
    have hx : ∀ i, i < 3 → ∃ y, ys[i]? = some y := fun i hi => ⟨ys[i]'(by simp at *; omega), List.getElem?_eq_getElem _⟩
    obtain ⟨y0, e0⟩ := hx 0 (by omega)
    rw [e0] at h0
    obtain ⟨c0, rfl, q0⟩ := zint_of_trod h0
    obtain ⟨y1, e1⟩ := hx 1 (by omega)
    rw [e1] at h1
    obtain ⟨c1, rfl, q1⟩ := zint_of_trod h1
    obtain ⟨y2, e2⟩ := hx 2 (by omega)
    rw [e2] at h2
    obtain ⟨xs2, q2⟩ := ints_of_trod Try.underlying22 Try.underlying3 zcells_int h2
    exact ⟨c0, c1, v2, xs2, rfl, q0, q1, q2⟩
set_option maxRecDepth 100000 in
theorem arg_place {H : Type} {enc : TypeId × Value → H} {w : World} {r : Reach} {b0 : Nat} {v : Value} {d : DataW H} {p : List MemPlace} (hv : Value.okWide Try.prog w r b0 24 v) (h : DataW.Trod enc Try.prog w 0 (fun _ => true) true 24 v d p) :
    ∃ c0 c1 u2 xs2, v = .agg #[.int .i64 c0, .int .i64 c1, u2] ∧ I64 c0 ∧ I64 c1 ∧ IsInts 0 w u2 xs2 := by
  obtain ⟨cs, rfl, _⟩ := okWide_struct Try.underlying24 hv
  obtain ⟨fuel, hf⟩ := h
  obtain ⟨c0, c1, u2, xs2, e, q⟩ := place_of_trod hf
  have e2 : cs = #[.int .i64 c0, .int .i64 c1, u2] := by obtain ⟨l⟩ := cs; simp [Value.cells] at e; simpa using e
  exact ⟨c0, c1, u2, xs2, by rw [e2], q⟩
end Go.Proofs.Ytbeadfagacndeaa
