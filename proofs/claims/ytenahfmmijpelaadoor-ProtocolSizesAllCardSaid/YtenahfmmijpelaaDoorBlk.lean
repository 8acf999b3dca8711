/-
  A BLOCK THAT IS KNOWN WHOLE: how it stands behind stores; a struct read out of a block and stored into one, whole.
-/
import Derived.Test.YtenahfmmijpelaaDoorBase
import Derived.Test.YtenahfmmijpelaaDoorSlices
import Derived.Test.YtenahfmmijpelaaDoorHold
import Derived.Deep.MidRow
namespace Go.Proofs.YtenahfmmijpelaaDoor
open Go.RowKit Go.Deep
theorem setCells_block {g : Nat} {t : TypeId} : ∀ (vs : List Value) (o : Nat) (w : World) (cur : Array Value), w.heap[g]? = some (.cells cur t (0, 0)) → o + vs.length ≤ cur.size →
    ∃ cur', (w.setCells g o vs).heap[g]? = some (.cells cur' t (0, 0)) ∧ cur'.size = cur.size ∧ ∀ j, cur'[j]? = if o ≤ j ∧ j < o + vs.length then vs[j - o]? else cur[j]?
  | [], o, w, cur, h, _ => ⟨cur, h, rfl, fun j => by rw [if_neg (by simp)]⟩
  | v :: r, o, w, cur, h, hl => by
    simp only [List.length_cons] at hl
    have h1 := heap_setCell_same w g o cur t v h
    obtain ⟨cur', h2, h3, h4⟩ := setCells_block r (o + 1) _ _ h1 (by simp; omega)
    refine ⟨cur', h2, by rw [h3]; simp, fun j => ?_⟩
    rw [h4 j]
    simp only [List.length_cons]
    by_cases hj : o + 1 ≤ j ∧ j < o + 1 + r.length
    · rw [if_pos hj, if_pos (by omega), show j - o = (j - (o + 1)) + 1 by omega, List.getElem?_cons_succ]
    · rw [if_neg hj]
      by_cases hjo : j = o
      · subst hjo
        rw [if_pos (by omega), Nat.sub_self, List.getElem?_cons_zero]
        simp only [Array.getElem?_setIfInBounds]
        rw [if_pos trivial, if_pos (by omega)]
      · rw [if_neg (by omega), Array.getElem?_setIfInBounds_ne (by omega)]
/-- A whole block is stored. -/
theorem setCells_whole {w : World} {g : Nat} {t : TypeId} {cur : Array Value} (vs : List Value) (h : w.heap[g]? = some (.cells cur t (0, 0))) (hl : vs.length = cur.size) : (w.setCells g 0 vs).heap[g]? = some (.cells vs.toArray t (0, 0)) := by
  obtain ⟨cur', h1, h2, h3⟩ := setCells_block vs 0 w cur h (by omega)
  rw [h1]
  congr 2
  apply Array.ext'
  apply List.ext_getElem?
  intro j
  have := h3 j
  simp only [Nat.zero_le, true_and, Nat.zero_add, Nat.sub_zero] at this
  simp only [Array.getElem?_toList]
  rw [this]
  split
  · rfl
  · rw [Array.getElem?_eq_none (by omega), List.getElem?_eq_none (by omega)]
theorem belowCells {B b : Nat} {a : World} (hb : B ≤ b) : ∀ (vs : List Value) (o : Nat) {w : World}, Below B a w → Below B a (w.setCells b o vs)
  | [], _, _, h => h
  | v :: r, o, _, h => belowCells hb r (o + 1) (h.setCell hb v)
theorem setCells_size (g : Nat) : ∀ (vs : List Value) (o : Nat) (w : World), (w.setCells g o vs).heap.size = w.heap.size
  | [], _, _ => rfl
  | v :: r, o, w => by rw [World.setCells, setCells_size g r]; simp [World.setCell]
theorem setCells_other {g k : Nat} (hk : k ≠ g) : ∀ (vs : List Value) (o : Nat) (w : World), (w.setCells g o vs).heap[k]? = w.heap[k]?
  | [], _, _ => rfl
  | v :: r, o, w => by rw [World.setCells, setCells_other hk r]; exact Below.heap_setCell _ _ _ _ hk
theorem thereBlock {w : World} {g : Nat} {t : TypeId} {cur : Array Value} {n : Nat} (h : w.heap[g]? = some (.cells cur t (0, 0))) (hn : n = cur.size) : w.there g 0 n := fun j hj => by
  subst hn
  constructor
  · simp only [World.cell?, h, Nat.zero_add]; simp [hj]
  · simp [World.frozen?, h]
theorem rangeBlock {w : World} {g : Nat} {t : TypeId} {fr : Nat × Nat} {cs : List Value} (h : w.heap[g]? = some (.cells cs.toArray t fr)) : w.rangeAt g 0 cs := fun j v hj => by
  simp only [World.cell?, h, Nat.zero_add]
  simpa using hj
theorem rangeOf {w : World} {b o size : Nat} {cs : List Value} (hl : cs.length = size) (h : ∀ j, j < size → w.cell? ⟨b, o + j, none⟩ = cs[j]?) : w.rangeAt b o cs := fun j v hj => by
  rw [h j (by have := (List.getElem?_eq_some_iff.1 hj).1; omega), hj]
theorem rangeBelow {w w' : World} {b o : Nat} {cs : List Value} (h : w.rangeAt b o cs) (hb : Below w.heap.size w w') : w'.rangeAt b o cs := fun j v hj => keep1 (h j v hj) hb
/-- A block that was there. -/
theorem keepB {W w1 : World} {g : Nat} {o : Obj} (h : W.heap[g]? = some o) (hb : Below W.heap.size W w1) : w1.heap[g]? = some o := (hb.block g (Array.getElem?_eq_some_iff.1 h).1).trans h
theorem cellB {w : World} {g : Nat} {t : TypeId} {fr : Nat × Nat} {cs : Array Value} (h : w.heap[g]? = some (.cells cs t fr)) (i : Nat) {v : Value} (hv : cs[i]? = some v) : w.cell? ⟨g, i, none⟩ = some v := by
  simp only [World.cell?, h]; simpa using hv
theorem frozenB {w : World} {g : Nat} {t : TypeId} {cs : Array Value} (h : w.heap[g]? = some (.cells cs t (0, 0))) (i : Nat) : w.frozen? ⟨g, i, none⟩ = false := by simp [World.frozen?, h]
section
variable {P : Program} {ops : Array Oper} {rest : List Oper} {o : Oper} {a : Act} {w : World} {Q : Exit → Act → World → Prop}
/-- A struct is read out of the midst of a block. -/
theorem ld_mid {T : TypeId} {size : Nat} {fs : Array Field} (hu : P.underlying T = some (.struct fs)) (hi : (P.info? T).map (·.size) = some size) (hgd : o.guard = none) (x : Operand) (ho : o.op = .load T x)
    (b off : Nat) (cs : List Value) (hx : a.eval x = .pointer (some ⟨b, off, none⟩)) (hl : cs.length = size) (hc : w.rangeAt b off cs) (h : wpList P ops Q rest (a.put o.dst (.agg cs.toArray)) w) : wpList P ops Q (o :: rest) a w :=
  wpList_load_mid hgd T x ho b off hx cs _ hc hu rfl (by rw [hl]; exact hi) h
/-- A struct is stored into a block of its own, whole. -/
theorem st_whole {T : TypeId} {size : Nat} (hi : (P.info? T).map (·.size) = some size) (hgd : o.guard = none) (x y : Operand) (ho : o.op = .store T x y)
    (g : Nat) (cells : List Value) {cur : Array Value} {t : TypeId} (hx : a.eval x = .pointer (some ⟨g, 0, none⟩)) (hy : a.eval y = .agg cells.toArray) (hl : cells.length = size) (hg : w.heap[g]? = some (.cells cur t (0, 0))) (hcur : cur.size = size)
    (h1 : ∀ v ∈ cells, v.oneCell' = true)
    (h : ∀ w', w'.heap[g]? = some (.cells cells.toArray t (0, 0)) → (∀ B w0, B ≤ g → Below B w0 w → Below B w0 w') → w'.heap.size = w.heap.size → (∀ k, k ≠ g → w'.heap[k]? = w.heap[k]?) → wpList P ops Q rest (a.put o.dst undef) w') : wpList P ops Q (o :: rest) a w :=
  wpList_store_mid hgd T x y ho g 0 cells.toArray hx hy (thereBlock hg (by simp [hl, hcur])) (by simpa [hl] using hi) (all_oneCell_toArray h1)
    (h _ (by simpa using setCells_whole cells hg (by omega)) (fun B w0 hB hb => belowCells hB _ _ hb) (setCells_size g _ _ _) (fun k hk => setCells_other hk _ _ _))
end
end Go.Proofs.YtenahfmmijpelaaDoor
