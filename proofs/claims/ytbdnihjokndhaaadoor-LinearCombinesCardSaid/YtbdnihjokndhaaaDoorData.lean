/-
  WHAT THE LAWS' ARGUMENTS READ AS: a row, a list of rows, a system, by their cells.
-/
import Derived.Test.YtbdnihjokndhaaaDoorSys
import Derived.ChangeArms
namespace Go.Proofs.YtbdnihjokndhaaaDoor
open Go.RowKit Go.Deep Go.ChangeShapes Go.WideShapes Go.ChangeAt Go.Joins

theorem cells_int : Tryd.prog.cellsOf 3 = 1 := by kernel_rfl
theorem cells_ints : Tryd.prog.cellsOf 22 = 1 := by kernel_rfl
theorem cells_row : Tryd.prog.cellsOf 24 = 2 := by kernel_rfl
theorem cells_rows : Tryd.prog.cellsOf 40 = 1 := by kernel_rfl
theorem cells_sys : Tryd.prog.cellsOf 42 = 2 := by kernel_rfl

section
variable {H : Type} {enc : TypeId × Value → H} {w : World} {base : Nat} {sp : Nat → Bool} {held : Bool}

theorem int_of_trod {n : Nat} {v : Value} {x : DataW H × List MemPlace} (h : DataW.trod enc Tryd.prog w base sp held n 3 [v] = some x) : ∃ c, v = .int .i64 c ∧ I64 c := by
  obtain ⟨c, e1, _, e3⟩ := DataW.trod_int Tryd.underlying3 h
  simp at e1
  exact ⟨c, e1, I64.of_wf e3⟩

set_option maxRecDepth 100000 in
theorem row_of_trod {n : Nat} {cs : List Value} {x : DataW H × List MemPlace} (h : DataW.trod enc Tryd.prog w base sp held n 24 cs = some x) :
    ∃ v c xs, cs = [v, .int .i64 c] ∧ IsInts 0 w v xs ∧ I64 c := by
  obtain ⟨ys, m, _, _, hlen, _, hf⟩ := DataW.trod_struct Tryd.underlying24 h
  rw [cells_row] at hlen
  match cs, hlen with
  | [v0, v1], _ =>
    have h0 : DataW.trod enc Tryd.prog w base sp held m 22 (([v0, v1].drop 0).take (Tryd.prog.cellsOf 22)) = ys[0]? := hf 0 _ rfl
    have h1 : DataW.trod enc Tryd.prog w base sp held m 3 (([v0, v1].drop 1).take (Tryd.prog.cellsOf 3)) = ys[1]? := hf 1 _ rfl
    rw [cells_ints] at h0
    rw [cells_int] at h1
    simp only [List.drop_zero, List.take_succ_cons, List.take_zero] at h0
    simp only [List.drop_succ_cons, List.drop_zero, List.take_succ_cons, List.take_zero] at h1
    have hx : ∀ i, i < 2 → ∃ y, ys[i]? = some y := fun i hi => ⟨ys[i]'(by simp at *; omega), List.getElem?_eq_getElem _⟩
    obtain ⟨y0, e0⟩ := hx 0 (by omega)
    obtain ⟨y1, e1⟩ := hx 1 (by omega)
    rw [e0] at h0
    rw [e1] at h1
    obtain ⟨xs, hxs⟩ := ints_of_trod Tryd.underlying22 Tryd.underlying3 cells_int h0
    obtain ⟨c, rfl, hc⟩ := int_of_trod h1
    exact ⟨v0, c, xs, rfl, hxs, hc⟩

set_option maxRecDepth 100000 in
theorem rows_of_trod {n : Nat} {v : Value} {x : DataW H × List MemPlace} (h : DataW.trod enc Tryd.prog w base sp held n 40 [v] = some x) : ∃ rs, IsRows 0 w v rs := by
  rcases open_slice Tryd.underlying40 h with ⟨hcs, _⟩ | ⟨a, len, cap, m, n', D, Pl, hcs, _, hl, hm, hmm, _, hi⟩
  · simp at hcs
    exact ⟨[], none, 0, hcs, by simp, by simp [maxLen], .inl rfl⟩
  · simp at hcs
    have hlm : len ≤ m := by rw [hmm]; split <;> omega
    by_cases h0 : len = 0
    · subst h0
      exact ⟨[], some a, cap, hcs, by simp, hm, .inl rfl⟩
    · have hrow : ∀ i, i < len → ∃ q : Value × Rw, w.cell? (a.add (i * 2)) = some q.1 ∧ w.cell? ((a.add (i * 2)).add 1) = some (.int .i64 q.2.2) ∧ IsInts 0 w q.1 q.2.1 ∧ I64 q.2.2 := fun i hil => by
        obtain ⟨cs', hc, ht⟩ := hi i (by omega)
        rw [cells_row] at hc
        obtain ⟨u, c, xs, rfl, h1, h2⟩ := row_of_trod ht
        obtain ⟨_, _, hat⟩ := World.cells?_some hc
        refine ⟨⟨u, xs, c⟩, ?_, ?_, h1, h2⟩
        · have := hat 0 (by omega)
          have e : (a.add (i * 2)).add 0 = a.add (i * 2) := by rw [Go.Deep.add_add]; simp
          rw [e] at this
          simpa using this
        · simpa using hat 1 (by omega)
      have : Inhabited (Value × Rw) := ⟨⟨undef, [], 0⟩⟩
      obtain ⟨f, hf⟩ := choose_lt hrow
      obtain ⟨b, off, spot⟩ := a
      have hc0 := (hf 0 (by omega)).1
      have hspot : spot = none := by simpa [Addr.add] using World.cell?_spot hc0
      subst hspot
      have hadd : ∀ j, (⟨b, off, none⟩ : Addr).add j = ⟨b, off + j, none⟩ := fun j => by simp only [Addr.add]; split <;> simp_all
      have hlen : ((List.range len).map fun i => (f i).2).length = len := by simp
      refine ⟨(List.range len).map fun i => (f i).2, some ⟨b, off, none⟩, cap, by rw [hlen]; exact hcs, by rw [hlen]; exact hl, hm, .inr ⟨b, off, rfl, Nat.zero_le _, cell_lt hc0, fun i hil => ?_⟩⟩
      rw [hlen] at hil
      obtain ⟨g1, g2, g3, g4⟩ := hf i hil
      have e1 : ((List.range len).map fun i => (f i).2)[i]'(by simpa using hil) = (f i).2 := by simp
      rw [Go.Deep.add_add, hadd] at g2
      rw [hadd] at g1
      rw [e1]
      exact ⟨_, g1, g2, g3, g4⟩

set_option maxRecDepth 100000 in
theorem sys_of_trod {n : Nat} {cs : List Value} {x : DataW H × List MemPlace} (h : DataW.trod enc Tryd.prog w base sp held n 42 cs = some x) :
    ∃ vars v rs, cs = [.int .i64 vars, v] ∧ IsRows 0 w v rs ∧ I64 vars := by
  obtain ⟨ys, m, _, _, hlen, _, hf⟩ := DataW.trod_struct Tryd.underlying42 h
  rw [cells_sys] at hlen
  match cs, hlen with
  | [v0, v1], _ =>
    have h0 : DataW.trod enc Tryd.prog w base sp held m 3 (([v0, v1].drop 0).take (Tryd.prog.cellsOf 3)) = ys[0]? := hf 0 _ rfl
    have h1 : DataW.trod enc Tryd.prog w base sp held m 40 (([v0, v1].drop 1).take (Tryd.prog.cellsOf 40)) = ys[1]? := hf 1 _ rfl
    rw [cells_int] at h0
    rw [cells_rows] at h1
    simp only [List.drop_zero, List.take_succ_cons, List.take_zero] at h0
    simp only [List.drop_succ_cons, List.drop_zero, List.take_succ_cons, List.take_zero] at h1
    have hx : ∀ i, i < 2 → ∃ y, ys[i]? = some y := fun i hi => ⟨ys[i]'(by simp at *; omega), List.getElem?_eq_getElem _⟩
    obtain ⟨y0, e0⟩ := hx 0 (by omega)
    obtain ⟨y1, e1⟩ := hx 1 (by omega)
    rw [e0] at h0
    rw [e1] at h1
    obtain ⟨vars, rfl, hc⟩ := int_of_trod h0
    obtain ⟨rs, hrs⟩ := rows_of_trod h1
    exact ⟨vars, v1, rs, rfl, hrs, hc⟩
end

set_option maxRecDepth 100000 in
/-- The laws' arguments, by value. -/
theorem arg_row {H : Type} {enc : TypeId × Value → H} {w : World} {r : Reach} {b0 : Nat} {v : Value} {d : DataW H} {p : List MemPlace} (hv : Value.okWide Tryd.prog w r b0 24 v) (h : DataW.Trod enc Tryd.prog w 0 (fun _ => true) true 24 v d p) :
    ∃ u c xs, v = .agg #[u, .int .i64 c] ∧ IsInts 0 w u xs ∧ I64 c := by
  obtain ⟨cs, rfl, _⟩ := okWide_struct Tryd.underlying24 hv
  obtain ⟨fuel, hf⟩ := h
  obtain ⟨u, c, xs, e, h1, h2⟩ := row_of_trod hf
  have e2 : cs = #[u, .int .i64 c] := by obtain ⟨l⟩ := cs; simp [Value.cells] at e; simpa using e
  exact ⟨u, c, xs, by rw [e2], h1, h2⟩
set_option maxRecDepth 100000 in
theorem arg_sys {H : Type} {enc : TypeId × Value → H} {w : World} {r : Reach} {b0 : Nat} {v : Value} {d : DataW H} {p : List MemPlace} (hv : Value.okWide Tryd.prog w r b0 42 v) (h : DataW.Trod enc Tryd.prog w 0 (fun _ => true) true 42 v d p) :
    ∃ vars u rs, v = .agg #[.int .i64 vars, u] ∧ IsRows 0 w u rs ∧ I64 vars := by
  obtain ⟨cs, rfl, _⟩ := okWide_struct Tryd.underlying42 hv
  obtain ⟨fuel, hf⟩ := h
  obtain ⟨vars, u, rs, e, h1, h2⟩ := sys_of_trod hf
  have e2 : cs = #[.int .i64 vars, u] := by obtain ⟨l⟩ := cs; simp [Value.cells] at e; simpa using e
  exact ⟨vars, u, rs, by rw [e2], h1, h2⟩
set_option maxRecDepth 100000 in
theorem arg_ints {H : Type} {enc : TypeId × Value → H} {w : World} {r : Reach} {b0 : Nat} {v : Value} {d : DataW H} {p : List MemPlace} (hv : Value.okWide Tryd.prog w r b0 22 v) (h : DataW.Trod enc Tryd.prog w 0 (fun _ => true) true 22 v d p) :
    ∃ xs, IsInts 0 w v xs := by
  obtain ⟨a, len, cap, rfl⟩ := okWide_slice Tryd.underlying22 hv
  obtain ⟨fuel, hf⟩ := h
  exact ints_of_trod Tryd.underlying22 Tryd.underlying3 cells_int (by simpa [Value.cells] using hf)
end Go.Proofs.YtbdnihjokndhaaaDoor
