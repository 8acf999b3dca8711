/-
  A LAW's ARGUMENT THAT IS A PROPERTY, by its cells.
-/
import Derived.Test.YtbdnihjokndhaabDoorPData
import Derived.Test.YtbdnihjokndhaabDoorPropBase
import Derived.ChangeArms
import Derived.ChangeMaps5
namespace Go.Proofs.YtbdnihjokndhaabDoor
open Go.RowKit Go.Deep Go.ChangeShapes Go.WideShapes Go.ChangeAt Go.Joins

theorem cells_string : Tryd.prog.cellsOf 9 = 1 := by kernel_rfl
theorem cells_prop : Tryd.prog.cellsOf 25 = 6 := by kernel_rfl
theorem cells_ints : Tryd.prog.cellsOf 22 = 1 := by kernel_rfl
theorem cells_row : Tryd.prog.cellsOf 39 = 2 := by kernel_rfl
theorem cells_rows : Tryd.prog.cellsOf 23 = 1 := by kernel_rfl

section
variable {H : Type} {enc : TypeId × Value → H} {w : World} {base : Nat} {sp : Nat → Bool} {held : Bool}

set_option maxRecDepth 100000 in
theorem row_of_trod {n : Nat} {cs : List Value} {x : DataW H × List MemPlace} (h : DataW.trod enc Tryd.prog w base sp held n 39 cs = some x) :
    ∃ v c xs, cs = [v, .int .i64 c] ∧ IsInts 0 w v xs ∧ I64 c := by
  obtain ⟨ys, m, _, _, hlen, _, hf⟩ := DataW.trod_struct Tryd.underlying39 h
  rw [cells_row] at hlen
  match cs, hlen with
  | [v0, v1], _ =>
    have h0 : DataW.trod enc Tryd.prog w base sp held m 22 (([v0, v1].drop 0).take (Tryd.prog.cellsOf 22)) = ys[0]? := hf 0 _ rfl
    have h1 : DataW.trod enc Tryd.prog w base sp held m 3 (([v0, v1].drop 1).take (Tryd.prog.cellsOf 3)) = ys[1]? := hf 1 _ rfl
    rw [cells_ints] at h0
    rw [cells_int] at h1
    simp only [List.drop_zero, List.take_succ_cons, List.take_zero] at h0
    simp only [List.drop_succ_cons, List.drop_zero, List.take_succ_cons, List.take_zero] at h1
    have hx : ∀ i, i < 2 → ∃ y, ys[i]? = some y := fun i hi => ⟨ys[i]'(by simp at *; omega), List.getElem?_eq_getElem _⟩
    obtain ⟨y0, e0⟩ := hx 0 (by omega)
    obtain ⟨y1, e1⟩ := hx 1 (by omega)
    rw [e0] at h0
    rw [e1] at h1
    obtain ⟨xs, hxs⟩ := ints_of_trod Tryd.underlying22 Tryd.underlying3 cells_int h0
    obtain ⟨c, rfl, hc⟩ := int_of_trod h1
    exact ⟨v0, c, xs, rfl, hxs, hc⟩

set_option maxRecDepth 100000 in
theorem rows_of_trod {n : Nat} {v : Value} {x : DataW H × List MemPlace} (h : DataW.trod enc Tryd.prog w base sp held n 23 [v] = some x) : ∃ rs, IsRows 0 w v rs := by
  rcases open_slice Tryd.underlying23 h with ⟨hcs, _⟩ | ⟨a, len, cap, m, n', D, Pl, hcs, _, hl, hm, hmm, _, hi⟩
  · simp at hcs
    exact ⟨[], none, 0, hcs, by simp, by simp [maxLen], .inl rfl⟩
  · simp at hcs
    have hlm : len ≤ m := by rw [hmm]; split <;> omega
    by_cases h0 : len = 0
    · subst h0
      exact ⟨[], some a, cap, hcs, by simp, hm, .inl rfl⟩
    · have hrow : ∀ i, i < len → ∃ q : Value × Rw, w.cell? (a.add (i * 2)) = some q.1 ∧ w.cell? ((a.add (i * 2)).add 1) = some (.int .i64 q.2.2) ∧ IsInts 0 w q.1 q.2.1 ∧ I64 q.2.2 := fun i hil => by
        obtain ⟨cs', hc, ht⟩ := hi i (by omega)
        rw [cells_row] at hc
        obtain ⟨u, c, xs, rfl, h1, h2⟩ := row_of_trod ht
        obtain ⟨_, _, hat⟩ := World.cells?_some hc
        refine ⟨⟨u, xs, c⟩, ?_, ?_, h1, h2⟩
        · have := hat 0 (by omega)
          have e : (a.add (i * 2)).add 0 = a.add (i * 2) := by rw [Go.Deep.add_add]; simp
          rw [e] at this
          simpa using this
        · simpa using hat 1 (by omega)
      have : Inhabited (Value × Rw) := ⟨⟨undef, [], 0⟩⟩
      obtain ⟨f, hf⟩ := choose_lt hrow
      obtain ⟨b, off, spot⟩ := a
      have hc0 := (hf 0 (by omega)).1
      have hspot : spot = none := by simpa [Addr.add] using World.cell?_spot hc0
      subst hspot
      have hadd : ∀ j, (⟨b, off, none⟩ : Addr).add j = ⟨b, off + j, none⟩ := fun j => by simp only [Addr.add]; split <;> simp_all
      have hlen : ((List.range len).map fun i => (f i).2).length = len := by simp
      refine ⟨(List.range len).map fun i => (f i).2, some ⟨b, off, none⟩, cap, by rw [hlen]; exact hcs, by rw [hlen]; exact hl, hm, .inr ⟨b, off, rfl, Nat.zero_le _, cell_lt hc0, fun i hil => ?_⟩⟩
      rw [hlen] at hil
      obtain ⟨g1, g2, g3, g4⟩ := hf i hil
      have e1 : ((List.range len).map fun i => (f i).2)[i]'(by simpa using hil) = (f i).2 := by simp
      rw [Go.Deep.add_add, hadd] at g2
      rw [hadd] at g1
      rw [e1]
      exact ⟨_, g1, g2, g3, g4⟩
set_option maxRecDepth 100000 in
theorem prop_of_trod {n : Nat} {cs : List Value} {x : DataW H × List MemPlace} (h : DataW.trod enc Tryd.prog w base sp held n 25 cs = some x) :
    ∃ v q, v = .agg cs.toArray ∧ IsProp 0 w v q := by
  obtain ⟨ys, m, _, _, hlen, _, hf⟩ := DataW.trod_struct Tryd.underlying25 h
  rw [cells_prop] at hlen
  match cs, hlen with
  | [v0, v1, v2, v3, v4, v5], _ =>
    have h0 : DataW.trod enc Tryd.prog w base sp held m 9 (([v0, v1, v2, v3, v4, v5].drop 0).take (Tryd.prog.cellsOf 9)) = ys[0]? := hf 0 _ rfl
    rw [cells_string] at h0
    have h1 : DataW.trod enc Tryd.prog w base sp held m 3 (([v0, v1, v2, v3, v4, v5].drop 1).take (Tryd.prog.cellsOf 3)) = ys[1]? := hf 1 _ rfl
    rw [cells_int] at h1
    have h2 : DataW.trod enc Tryd.prog w base sp held m 22 (([v0, v1, v2, v3, v4, v5].drop 2).take (Tryd.prog.cellsOf 22)) = ys[2]? := hf 2 _ rfl
    rw [cells_ints] at h2
    have h3 : DataW.trod enc Tryd.prog w base sp held m 23 (([v0, v1, v2, v3, v4, v5].drop 3).take (Tryd.prog.cellsOf 23)) = ys[3]? := hf 3 _ rfl
    rw [cells_rows] at h3
    have h4 : DataW.trod enc Tryd.prog w base sp held m 22 (([v0, v1, v2, v3, v4, v5].drop 4).take (Tryd.prog.cellsOf 22)) = ys[4]? := hf 4 _ rfl
    rw [cells_ints] at h4
    have h5 : DataW.trod enc Tryd.prog w base sp held m 22 (([v0, v1, v2, v3, v4, v5].drop 5).take (Tryd.prog.cellsOf 22)) = ys[5]? := hf 5 _ rfl
    rw [cells_ints] at h5
    simp only [List.drop_zero, List.take_succ_cons, List.take_zero] at h0
    simp only [List.drop_succ_cons, List.drop_zero, List.take_succ_cons, List.take_zero] at h1 h2 h3 h4 h5
    have hx : ∀ i, i < 6 → ∃ y, ys[i]? = some y := fun i hi => ⟨ys[i]'(by simp at *; omega), List.getElem?_eq_getElem _⟩
    obtain ⟨y0, e0⟩ := hx 0 (by omega)
    rw [e0] at h0
    obtain ⟨y1, e1⟩ := hx 1 (by omega)
    rw [e1] at h1
    obtain ⟨y2, e2⟩ := hx 2 (by omega)
    rw [e2] at h2
    obtain ⟨y3, e3⟩ := hx 3 (by omega)
    rw [e3] at h3
    obtain ⟨y4, e4⟩ := hx 4 (by omega)
    rw [e4] at h4
    obtain ⟨y5, e5⟩ := hx 5 (by omega)
    rw [e5] at h5
    obtain ⟨nm, hs, _, hnm⟩ := DataW.trod_string Tryd.underlying9 h0
    simp at hs
    subst hs
    obtain ⟨kind, rfl, hk⟩ := int_of_trod h1
    obtain ⟨start, H2⟩ := ints_of_trod Tryd.underlying22 Tryd.underlying3 cells_int h2
    obtain ⟨bad, H3⟩ := rows_of_trod h3
    obtain ⟨adj, H4⟩ := ints_of_trod Tryd.underlying22 Tryd.underlying3 cells_int h4
    obtain ⟨goal, H5⟩ := ints_of_trod Tryd.underlying22 Tryd.underlying3 cells_int h5
    exact ⟨_, ⟨nm, kind, start, bad, adj, goal⟩, rfl, v2, v3, v4, v5, rfl, H2, H3, H4, H5, hnm, hk⟩
end
set_option maxRecDepth 100000 in
theorem arg_prop {H : Type} {enc : TypeId × Value → H} {w : World} {r : Reach} {b0 : Nat} {v : Value} {d : DataW H} {p : List MemPlace} (hv : Value.okWide Tryd.prog w r b0 25 v) (h : DataW.Trod enc Tryd.prog w 0 (fun _ => true) true 25 v d p) :
    ∃ q, IsProp 0 w v q := by
  obtain ⟨cs, rfl, _⟩ := okWide_struct Tryd.underlying25 hv
  obtain ⟨fuel, hf⟩ := h
  obtain ⟨v', q, e, hq⟩ := prop_of_trod hf
  have e2 : v' = .agg cs := by rw [e]; simp [Value.cells]
  exact ⟨q, e2 ▸ hq⟩
end Go.Proofs.YtbdnihjokndhaabDoor
