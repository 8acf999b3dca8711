/-
  AN ARGUMENT THAT IS A STRUCT of integers and slices of integers, by its cells.
-/
import Derived.Test.YtbeadfagacndeaaZBase
namespace Go.Proofs.Ytbeadfagacndeaa
open Go.RowKit Go.Deep Go.ChangeShapes Go.WideShapes Go.ChangeAt Go.Joins
theorem cells_cfg : Try.prog.cellsOf 38 = 6 := by kernel_rfl
set_option maxRecDepth 100000 in
theorem cfg_of_trod {H : Type} {enc : TypeId × Value → H} {w : World} {base : Nat} {sp : Nat → Bool} {held : Bool} {n : Nat} {cs : List Value} {x : DataW H × List MemPlace} (h : DataW.trod enc Try.prog w base sp held n 38 cs = some x) :
    ∃ u0 xs0 u1 xs1 c2 u3 xs3 u4 xs4 c5, cs = [u0, u1, .int .i64 c2, u3, u4, .int .i64 c5] ∧ IsInts 0 w u0 xs0 ∧ IsInts 0 w u1 xs1 ∧ I64 c2 ∧ IsInts 0 w u3 xs3 ∧ IsInts 0 w u4 xs4 ∧ I64 c5 := by
  obtain ⟨ys, m, _, _, hlen, _, hf⟩ := DataW.trod_struct Try.underlying38 h
  rw [cells_cfg] at hlen
  match cs, hlen with
  | [v0, v1, v2, v3, v4, v5], _ =>
    have h0 : DataW.trod enc Try.prog w base sp held m 22 (([v0, v1, v2, v3, v4, v5].drop 0).take (Try.prog.cellsOf 22)) = ys[0]? := hf 0 _ rfl
    rw [zcells_ints] at h0
    simp only [List.drop_zero, List.take_succ_cons, List.take_zero] at h0
    have h1 : DataW.trod enc Try.prog w base sp held m 22 (([v0, v1, v2, v3, v4, v5].drop 1).take (Try.prog.cellsOf 22)) = ys[1]? := hf 1 _ rfl
    rw [zcells_ints] at h1
    simp only [List.drop_succ_cons, List.drop_zero, List.take_succ_cons, List.take_zero] at h1
    have h2 : DataW.trod enc Try.prog w base sp held m 3 (([v0, v1, v2, v3, v4, v5].drop 2).take (Try.prog.cellsOf 3)) = ys[2]? := hf 2 _ rfl
    rw [zcells_int] at h2
    simp only [List.drop_succ_cons, List.drop_zero, List.take_succ_cons, List.take_zero] at h2
    have h3 : DataW.trod enc Try.prog w base sp held m 22 (([v0, v1, v2, v3, v4, v5].drop 3).take (Try.prog.cellsOf 22)) = ys[3]? := hf 3 _ rfl
    rw [zcells_ints] at h3
    simp only [List.drop_succ_cons, List.drop_zero, List.take_succ_cons, List.take_zero] at h3
    have h4 : DataW.trod enc Try.prog w base sp held m 22 (([v0, v1, v2, v3, v4, v5].drop 4).take (Try.prog.cellsOf 22)) = ys[4]? := hf 4 _ rfl
    rw [zcells_ints] at h4
    simp only [List.drop_succ_cons, List.drop_zero, List.take_succ_cons, List.take_zero] at h4
    have h5 : DataW.trod enc Try.prog w base sp held m 3 (([v0, v1, v2, v3, v4, v5].drop 5).take (Try.prog.cellsOf 3)) = ys[5]? := hf 5 _ rfl
    rw [zcells_int] at h5
    simp only [List.drop_succ_cons, List.drop_zero, List.take_succ_cons, List.take_zero] at h5
    have hx : ∀ i, i < 6 → ∃ y, ys[i]? = some y := fun i hi => ⟨ys[i]'(by simp at *; omega), List.getElem?_eq_getElem _⟩
    obtain ⟨y0, e0⟩ := hx 0 (by omega)
    rw [e0] at h0
    obtain ⟨xs0, q0⟩ := ints_of_trod Try.underlying22 Try.underlying3 zcells_int h0
    obtain ⟨y1, e1⟩ := hx 1 (by omega)
    rw [e1] at h1
    obtain ⟨xs1, q1⟩ := ints_of_trod Try.underlying22 Try.underlying3 zcells_int h1
    obtain ⟨y2, e2⟩ := hx 2 (by omega)
    rw [e2] at h2
    obtain ⟨c2, rfl, q2⟩ := zint_of_trod h2
    obtain ⟨y3, e3⟩ := hx 3 (by omega)
    rw [e3] at h3
    obtain ⟨xs3, q3⟩ := ints_of_trod Try.underlying22 Try.underlying3 zcells_int h3
    obtain ⟨y4, e4⟩ := hx 4 (by omega)
    rw [e4] at h4
    obtain ⟨xs4, q4⟩ := ints_of_trod Try.underlying22 Try.underlying3 zcells_int h4
    obtain ⟨y5, e5⟩ := hx 5 (by omega)
    rw [e5] at h5
    obtain ⟨c5, rfl, q5⟩ := zint_of_trod h5
    exact ⟨v0, xs0, v1, xs1, c2, v3, xs3, v4, xs4, c5, rfl, q0, q1, q2, q3, q4, q5⟩
set_option maxRecDepth 100000 in
theorem arg_cfg {H : Type} {enc : TypeId × Value → H} {w : World} {r : Reach} {b0 : Nat} {v : Value} {d : DataW H} {p : List MemPlace} (hv : Value.okWide Try.prog w r b0 38 v) (h : DataW.Trod enc Try.prog w 0 (fun _ => true) true 38 v d p) :
    ∃ u0 xs0 u1 xs1 c2 u3 xs3 u4 xs4 c5, v = .agg #[u0, u1, .int .i64 c2, u3, u4, .int .i64 c5] ∧ IsInts 0 w u0 xs0 ∧ IsInts 0 w u1 xs1 ∧ I64 c2 ∧ IsInts 0 w u3 xs3 ∧ IsInts 0 w u4 xs4 ∧ I64 c5 := by
  obtain ⟨cs, rfl, _⟩ := okWide_struct Try.underlying38 hv
  obtain ⟨fuel, hf⟩ := h
  obtain ⟨u0, xs0, u1, xs1, c2, u3, xs3, u4, xs4, c5, e, q⟩ := cfg_of_trod hf
  have e2 : cs = #[u0, u1, .int .i64 c2, u3, u4, .int .i64 c5] := by obtain ⟨l⟩ := cs; simp [Value.cells] at e; simpa using e
  exact ⟨u0, xs0, u1, xs1, c2, u3, xs3, u4, xs4, c5, by rw [e2], q⟩
end Go.Proofs.Ytbeadfagacndeaa
