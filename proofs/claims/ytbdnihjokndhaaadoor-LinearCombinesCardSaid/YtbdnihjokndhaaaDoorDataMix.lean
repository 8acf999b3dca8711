/-
  A LAW's ARGUMENT OF TWO ROWS AND TWO FACTORS, by its cells; a variable and a value.
-/
import Derived.Test.YtbdnihjokndhaaaDoorData
namespace Go.Proofs.YtbdnihjokndhaaaDoor
open Go.RowKit Go.Deep Go.ChangeShapes Go.WideShapes Go.ChangeAt Go.Joins

theorem cells_mix : Tryd.prog.cellsOf 35 = 6 := by kernel_rfl
set_option maxRecDepth 100000 in
theorem mix_of_trod {H : Type} {enc : TypeId × Value → H} {w : World} {base : Nat} {sp : Nat → Bool} {held : Bool} {n : Nat} {cs : List Value} {x : DataW H × List MemPlace} (h : DataW.trod enc Tryd.prog w base sp held n 35 cs = some x) :
    ∃ u c xs v d ys ka kb, cs = [u, .int .i64 c, v, .int .i64 d, .int .i64 ka, .int .i64 kb] ∧ IsInts 0 w u xs ∧ IsInts 0 w v ys ∧ I64 c ∧ I64 d ∧ I64 ka ∧ I64 kb := by
  obtain ⟨ys, m, _, _, hlen, _, hf⟩ := DataW.trod_struct Tryd.underlying35 h
  rw [cells_mix] at hlen
  match cs, hlen with
  | [v0, v1, v2, v3, v4, v5], _ =>
    have h0 : DataW.trod enc Tryd.prog w base sp held m 24 (([v0, v1, v2, v3, v4, v5].drop 0).take (Tryd.prog.cellsOf 24)) = ys[0]? := hf 0 _ rfl
    have h1 : DataW.trod enc Tryd.prog w base sp held m 24 (([v0, v1, v2, v3, v4, v5].drop 2).take (Tryd.prog.cellsOf 24)) = ys[1]? := hf 1 _ rfl
    have h2 : DataW.trod enc Tryd.prog w base sp held m 3 (([v0, v1, v2, v3, v4, v5].drop 4).take (Tryd.prog.cellsOf 3)) = ys[2]? := hf 2 _ rfl
    have h3 : DataW.trod enc Tryd.prog w base sp held m 3 (([v0, v1, v2, v3, v4, v5].drop 5).take (Tryd.prog.cellsOf 3)) = ys[3]? := hf 3 _ rfl
    rw [cells_row] at h0 h1
    rw [cells_int] at h2 h3
    simp only [List.drop_zero, List.take_succ_cons, List.take_zero] at h0
    simp only [List.drop_succ_cons, List.drop_zero, List.take_succ_cons, List.take_zero] at h1 h2 h3
    have hx : ∀ i, i < 4 → ∃ y, ys[i]? = some y := fun i hi => ⟨ys[i]'(by simp at *; omega), List.getElem?_eq_getElem _⟩
    obtain ⟨y0, e0⟩ := hx 0 (by omega)
    obtain ⟨y1, e1⟩ := hx 1 (by omega)
    obtain ⟨y2, e2⟩ := hx 2 (by omega)
    obtain ⟨y3, e3⟩ := hx 3 (by omega)
    rw [e0] at h0
    rw [e1] at h1
    rw [e2] at h2
    rw [e3] at h3
    obtain ⟨u, c, xs, q0, hu, hc⟩ := row_of_trod h0
    obtain ⟨v, d, zs, q1, hv, hd⟩ := row_of_trod h1
    obtain ⟨ka, rfl, hka⟩ := int_of_trod h2
    obtain ⟨kb, rfl, hkb⟩ := int_of_trod h3
    simp only [List.cons.injEq, and_true] at q0 q1
    obtain ⟨rfl, rfl⟩ := q0
    obtain ⟨rfl, rfl⟩ := q1
    exact ⟨_, c, xs, _, d, zs, ka, kb, rfl, hu, hv, hc, hd, hka, hkb⟩
set_option maxRecDepth 100000 in
theorem arg_mix {H : Type} {enc : TypeId × Value → H} {w : World} {r : Reach} {b0 : Nat} {v : Value} {d : DataW H} {p : List MemPlace} (hv : Value.okWide Tryd.prog w r b0 35 v) (h : DataW.Trod enc Tryd.prog w 0 (fun _ => true) true 35 v d p) :
    ∃ ua ca xa ub cb xb ka kb, v = .agg #[ua, .int .i64 ca, ub, .int .i64 cb, .int .i64 ka, .int .i64 kb] ∧ IsInts 0 w ua xa ∧ IsInts 0 w ub xb ∧ I64 ca ∧ I64 cb ∧ I64 ka ∧ I64 kb := by
  obtain ⟨cs, rfl, _⟩ := okWide_struct Tryd.underlying35 hv
  obtain ⟨fuel, hf⟩ := h
  obtain ⟨ua, ca, xa, ub, cb, xb, ka, kb, e, r⟩ := mix_of_trod hf
  have e2 : cs = #[ua, .int .i64 ca, ub, .int .i64 cb, .int .i64 ka, .int .i64 kb] := by obtain ⟨l⟩ := cs; simp [Value.cells] at e; simpa using e
  exact ⟨ua, ca, xa, ub, cb, xb, ka, kb, by rw [e2], r⟩
end Go.Proofs.YtbdnihjokndhaaaDoor
