/-
  THE LAWS' ARGUMENTS THAT ARE STRUCTS OF INTEGERS, by their cells.
-/
import Derived.Test.YtenahfmmijpelaaDoorProg
import Derived.Test.YtenahfmmijpelaaDoorBase
import Derived.ChangeArms
namespace Go.Proofs.YtenahfmmijpelaaDoor
open Go.RowKit Go.Deep Go.ChangeShapes Go.WideShapes Go.ChangeAt Go.Joins
theorem cells_int : Tryd.prog.cellsOf 3 = 1 := by kernel_rfl
theorem int_of_trod {H : Type} {enc : TypeId × Value → H} {w : World} {base : Nat} {sp : Nat → Bool} {held : Bool} {n : Nat} {v : Value} {x : DataW H × List MemPlace} (h : DataW.trod enc Tryd.prog w base sp held n 3 [v] = some x) : ∃ c, v = .int .i64 c ∧ I64 c := by
  obtain ⟨c, e1, _, e3⟩ := DataW.trod_int Tryd.underlying3 h
  simp at e1
  exact ⟨c, e1, I64.of_wf e3⟩
theorem cells_size : Tryd.prog.cellsOf 43 = 3 := by kernel_rfl
set_option maxRecDepth 100000 in
theorem size_of_trod {H : Type} {enc : TypeId × Value → H} {w : World} {base : Nat} {sp : Nat → Bool} {held : Bool} {n : Nat} {cs : List Value} {x : DataW H × List MemPlace} (h : DataW.trod enc Tryd.prog w base sp held n 43 cs = some x) :
    ∃ c0 c1 c2, cs = [.int .i64 c0, .int .i64 c1, .int .i64 c2] ∧ I64 c0 ∧ I64 c1 ∧ I64 c2 := by
  obtain ⟨ys, m, _, _, hlen, _, hf⟩ := DataW.trod_struct Tryd.underlying43 h
  rw [cells_size] at hlen
  match cs, hlen with
  | [v0, v1, v2], _ =>
    have h0 : DataW.trod enc Tryd.prog w base sp held m 3 (([v0, v1, v2].drop 0).take (Tryd.prog.cellsOf 3)) = ys[0]? := hf 0 _ rfl
    have h1 : DataW.trod enc Tryd.prog w base sp held m 3 (([v0, v1, v2].drop 1).take (Tryd.prog.cellsOf 3)) = ys[1]? := hf 1 _ rfl
    have h2 : DataW.trod enc Tryd.prog w base sp held m 3 (([v0, v1, v2].drop 2).take (Tryd.prog.cellsOf 3)) = ys[2]? := hf 2 _ rfl
    rw [cells_int] at h0 h1 h2
    simp only [List.drop_zero, List.take_succ_cons, List.take_zero] at h0
    simp only [List.drop_succ_cons, List.drop_zero, List.take_succ_cons, List.take_zero] at h1 h2
    have hx : ∀ i, i < 3 → ∃ y, ys[i]? = some y := fun i hi => ⟨ys[i]'(by simp at *; omega), List.getElem?_eq_getElem _⟩
    obtain ⟨y0, e0⟩ := hx 0 (by omega)
    rw [e0] at h0
    obtain ⟨c0, rfl, q0⟩ := int_of_trod h0
    obtain ⟨y1, e1⟩ := hx 1 (by omega)
    rw [e1] at h1
    obtain ⟨c1, rfl, q1⟩ := int_of_trod h1
    obtain ⟨y2, e2⟩ := hx 2 (by omega)
    rw [e2] at h2
    obtain ⟨c2, rfl, q2⟩ := int_of_trod h2
    exact ⟨c0, c1, c2, rfl, q0, q1, q2⟩
set_option maxRecDepth 100000 in
theorem arg_size {H : Type} {enc : TypeId × Value → H} {w : World} {r : Reach} {b0 : Nat} {v : Value} {d : DataW H} {p : List MemPlace} (hv : Value.okWide Tryd.prog w r b0 43 v) (h : DataW.Trod enc Tryd.prog w 0 (fun _ => true) true 43 v d p) :
    ∃ c0 c1 c2, v = .agg #[.int .i64 c0, .int .i64 c1, .int .i64 c2] ∧ I64 c0 ∧ I64 c1 ∧ I64 c2 := by
  obtain ⟨cs, rfl, _⟩ := okWide_struct Tryd.underlying43 hv
  obtain ⟨fuel, hf⟩ := h
  obtain ⟨c0, c1, c2, e, q⟩ := size_of_trod hf
  have e2 : cs = #[.int .i64 c0, .int .i64 c1, .int .i64 c2] := by obtain ⟨l⟩ := cs; simp [Value.cells] at e; simpa using e
  exact ⟨c0, c1, c2, by rw [e2], q⟩
theorem cells_lin : Tryd.prog.cellsOf 54 = 4 := by kernel_rfl
set_option maxRecDepth 100000 in
theorem lin_of_trod {H : Type} {enc : TypeId × Value → H} {w : World} {base : Nat} {sp : Nat → Bool} {held : Bool} {n : Nat} {cs : List Value} {x : DataW H × List MemPlace} (h : DataW.trod enc Tryd.prog w base sp held n 54 cs = some x) :
    ∃ c0 c1 c2 c3, cs = [.int .i64 c0, .int .i64 c1, .int .i64 c2, .int .i64 c3] ∧ I64 c0 ∧ I64 c1 ∧ I64 c2 ∧ I64 c3 := by
  obtain ⟨ys, m, _, _, hlen, _, hf⟩ := DataW.trod_struct Tryd.underlying54 h
  rw [cells_lin] at hlen
  match cs, hlen with
  | [v0, v1, v2, v3], _ =>
    have h0 : DataW.trod enc Tryd.prog w base sp held m 3 (([v0, v1, v2, v3].drop 0).take (Tryd.prog.cellsOf 3)) = ys[0]? := hf 0 _ rfl
    have h1 : DataW.trod enc Tryd.prog w base sp held m 3 (([v0, v1, v2, v3].drop 1).take (Tryd.prog.cellsOf 3)) = ys[1]? := hf 1 _ rfl
    have h2 : DataW.trod enc Tryd.prog w base sp held m 3 (([v0, v1, v2, v3].drop 2).take (Tryd.prog.cellsOf 3)) = ys[2]? := hf 2 _ rfl
    have h3 : DataW.trod enc Tryd.prog w base sp held m 3 (([v0, v1, v2, v3].drop 3).take (Tryd.prog.cellsOf 3)) = ys[3]? := hf 3 _ rfl
    rw [cells_int] at h0 h1 h2 h3
    simp only [List.drop_zero, List.take_succ_cons, List.take_zero] at h0
    simp only [List.drop_succ_cons, List.drop_zero, List.take_succ_cons, List.take_zero] at h1 h2 h3
    have hx : ∀ i, i < 4 → ∃ y, ys[i]? = some y := fun i hi => ⟨ys[i]'(by simp at *; omega), List.getElem?_eq_getElem _⟩
    obtain ⟨y0, e0⟩ := hx 0 (by omega)
    rw [e0] at h0
    obtain ⟨c0, rfl, q0⟩ := int_of_trod h0
    obtain ⟨y1, e1⟩ := hx 1 (by omega)
    rw [e1] at h1
    obtain ⟨c1, rfl, q1⟩ := int_of_trod h1
    obtain ⟨y2, e2⟩ := hx 2 (by omega)
    rw [e2] at h2
    obtain ⟨c2, rfl, q2⟩ := int_of_trod h2
    obtain ⟨y3, e3⟩ := hx 3 (by omega)
    rw [e3] at h3
    obtain ⟨c3, rfl, q3⟩ := int_of_trod h3
    exact ⟨c0, c1, c2, c3, rfl, q0, q1, q2, q3⟩
set_option maxRecDepth 100000 in
theorem arg_lin {H : Type} {enc : TypeId × Value → H} {w : World} {r : Reach} {b0 : Nat} {v : Value} {d : DataW H} {p : List MemPlace} (hv : Value.okWide Tryd.prog w r b0 54 v) (h : DataW.Trod enc Tryd.prog w 0 (fun _ => true) true 54 v d p) :
    ∃ c0 c1 c2 c3, v = .agg #[.int .i64 c0, .int .i64 c1, .int .i64 c2, .int .i64 c3] ∧ I64 c0 ∧ I64 c1 ∧ I64 c2 ∧ I64 c3 := by
  obtain ⟨cs, rfl, _⟩ := okWide_struct Tryd.underlying54 hv
  obtain ⟨fuel, hf⟩ := h
  obtain ⟨c0, c1, c2, c3, e, q⟩ := lin_of_trod hf
  have e2 : cs = #[.int .i64 c0, .int .i64 c1, .int .i64 c2, .int .i64 c3] := by obtain ⟨l⟩ := cs; simp [Value.cells] at e; simpa using e
  exact ⟨c0, c1, c2, c3, by rw [e2], q⟩
end Go.Proofs.YtenahfmmijpelaaDoor
