/-
  A SLICE OF STRUCTS AS IT LIES IN MEMORY, whatever the struct: its cells, how it stays, how a call's argument reads so.
-/
import Derived.Test.YtenahfmmijpelaaDoorBase
import Derived.ChangeArms
namespace Go.Proofs.YtenahfmmijpelaaDoor
open Go.RowKit Go.Deep Go.ChangeShapes Go.WideShapes Go.ChangeAt Go.Joins

/-- The value v is a slice whose elements, of 'size' cells each, read by P as xs; its cells lie in a block from lo on. -/
def IsSl {α : Type} (size : Nat) (P : Nat → World → List Value → α → Prop) (lo : Nat) (w : World) (v : Value) (xs : List α) : Prop :=
  ∃ (a : Option Addr) (cap : Nat), v = .slice a xs.length cap ∧ xs.length ≤ cap ∧ cap ≤ maxLen ∧ (a = none → cap = 0) ∧
    (xs = [] ∨ ∃ b off, a = some ⟨b, off, none⟩ ∧ lo ≤ b ∧ b < w.heap.size ∧
      ∀ i (hi : i < xs.length), ∃ cs : List Value, cs.length = size ∧ (∀ j, j < size → w.cell? ⟨b, off + i * size + j, none⟩ = cs[j]?) ∧ P lo w cs xs[i])
/-- P stays when only new blocks are made. -/
def Stays {α : Type} (P : Nat → World → List Value → α → Prop) : Prop := ∀ lo w w' cs x, P lo w cs x → Below w.heap.size w w' → P lo w' cs x
def Mono {α : Type} (P : Nat → World → List Value → α → Prop) : Prop := ∀ lo lo' w cs x, P lo w cs x → lo' ≤ lo → P lo' w cs x

theorem IsSl.below {α : Type} {size : Nat} {P : Nat → World → List Value → α → Prop} (hP : Stays P) {lo : Nat} {w w' : World} {v : Value} {xs : List α} (h : IsSl size P lo w v xs) (hb : Below w.heap.size w w') : IsSl size P lo w' v xs := by
  obtain ⟨a, cap, hv, hl, hm, hn, hc⟩ := h
  refine ⟨a, cap, hv, hl, hm, hn, ?_⟩
  rcases hc with hc | ⟨b, off, ha, hlo, hbk, hcell⟩
  · exact .inl hc
  · refine .inr ⟨b, off, ha, hlo, Nat.lt_of_lt_of_le hbk hb.size, fun i hi => ?_⟩
    obtain ⟨cs, h1, h2, h3⟩ := hcell i hi
    exact ⟨cs, h1, fun j hj => (hb.cell (p := ⟨b, off + i * size + j, none⟩) hbk).trans (h2 j hj), hP _ _ _ _ _ h3 hb⟩
theorem IsSl.mono {α : Type} {size : Nat} {P : Nat → World → List Value → α → Prop} (hP : Mono P) {lo lo' : Nat} {w : World} {v : Value} {xs : List α} (h : IsSl size P lo w v xs) (hl : lo' ≤ lo) : IsSl size P lo' w v xs := by
  obtain ⟨a, cap, hv, h1, hm, hn, hc⟩ := h
  refine ⟨a, cap, hv, h1, hm, hn, ?_⟩
  rcases hc with hc | ⟨b, off, ha, hlo, hbk, r⟩
  · exact .inl hc
  · exact .inr ⟨b, off, ha, Nat.le_trans hl hlo, hbk, fun i hi => by obtain ⟨cs, h1, h2, h3⟩ := r i hi; exact ⟨cs, h1, h2, hP _ _ _ _ _ h3 hl⟩⟩
theorem IsSl.shape {α : Type} {size : Nat} {P : Nat → World → List Value → α → Prop} {lo : Nat} {w : World} {v : Value} {xs : List α} (h : IsSl size P lo w v xs) : ∃ a cap, v = .slice a xs.length cap := by
  obtain ⟨a, cap, hv, _⟩ := h
  exact ⟨a, cap, hv⟩
theorem IsSl.bound {α : Type} {size : Nat} {P : Nat → World → List Value → α → Prop} {lo : Nat} {w : World} {v : Value} {xs : List α} (h : IsSl size P lo w v xs) : xs.length ≤ 9223372036854775807 := by
  obtain ⟨a, cap, _, h1, hm, _⟩ := h
  unfold maxLen at hm; omega
/-- The element at k. -/
theorem IsSl.at {α : Type} {size : Nat} {P : Nat → World → List Value → α → Prop} {lo : Nat} {w : World} {a : Option Addr} {n cap : Nat} {xs : List α} (h : IsSl size P lo w (.slice a n cap) xs) (k : Nat) (hk : k < xs.length) :
    ∃ b off cs, a = some ⟨b, off, none⟩ ∧ lo ≤ b ∧ b < w.heap.size ∧ cs.length = size ∧ (∀ j, j < size → w.cell? ⟨b, off + k * size + j, none⟩ = cs[j]?) ∧ P lo w cs xs[k] := by
  obtain ⟨a', cap', hv, _, _, _, hc⟩ := h
  simp only [Value.slice.injEq] at hv
  rcases hc with rfl | ⟨b, off, ha, hlo, hb, hc⟩
  · simp at hk
  · obtain ⟨cs, h1, h2, h3⟩ := hc k hk
    exact ⟨b, off, cs, hv.1.trans ha, hlo, hb, h1, h2, h3⟩

section
variable {H : Type} {enc : TypeId × Value → H} {P : Program} {w : World} {base : Nat} {sp : Nat → Bool} {held : Bool}
/-- An argument that is a slice, by its cell: out of how an element reads. -/
theorem sl_of_trod {α : Type} {Q : Nat → World → List Value → α → Prop} {t e : TypeId} {size : Nat} {n : Nat} {v : Value} {x : DataW H × List MemPlace} (ht : P.underlying t = some (.slice e)) (hce : P.cellsOf e = size) (hs : 0 < size) [Inhabited α]
    (hel : ∀ (m : Nat) (cs : List Value) (y : DataW H × List MemPlace), DataW.trod enc P w base sp held m e cs = some y → cs.length = size → ∃ a, Q 0 w cs a)
    (h : DataW.trod enc P w base sp held n t [v] = some x) : ∃ xs, IsSl size Q 0 w v xs := by
  rcases open_slice ht h with ⟨hcs, _⟩ | ⟨a, len, cap, m, n', D, Pl, hcs, _, hl, hm, hmm, _, hi⟩
  · simp at hcs
    exact ⟨[], none, 0, hcs, by simp, by simp [maxLen], by simp, .inl rfl⟩
  · simp at hcs
    have hlm : len ≤ m := by rw [hmm]; split <;> omega
    by_cases h0 : len = 0
    · subst h0
      exact ⟨[], some a, cap, hcs, by simp, hm, (fun e => by cases e), .inl rfl⟩
    · have hrow : ∀ i, i < len → ∃ q : List Value × α, q.1.length = size ∧ (∀ j, j < size → w.cell? ((a.add (i * size)).add j) = q.1[j]?) ∧ Q 0 w q.1 q.2 := fun i hil => by
        obtain ⟨cs', hc, htr⟩ := hi i (by omega)
        rw [hce] at hc
        obtain ⟨_, hlen, hat⟩ := World.cells?_some hc
        obtain ⟨y, hy⟩ := hel _ cs' _ htr hlen
        exact ⟨⟨cs', y⟩, hlen, fun j hj => hat j (by omega), hy⟩
      obtain ⟨f, hf⟩ := choose_lt hrow
      obtain ⟨b, off, spot⟩ := a
      have hc0 := (hf 0 (by omega)).2.1 0 hs
      have hl0 := (hf 0 (by omega)).1
      obtain ⟨v0, hv0⟩ : ∃ v0, (f 0).1[0]? = some v0 := ⟨(f 0).1[0]'(by omega), List.getElem?_eq_getElem _⟩
      rw [hv0] at hc0
      have hspot : spot = none := by simpa [Addr.add] using World.cell?_spot hc0
      subst hspot
      have hadd : ∀ j, (⟨b, off, none⟩ : Addr).add j = ⟨b, off + j, none⟩ := fun j => by simp only [Addr.add]; split <;> simp_all
      have hbk : b < w.heap.size := by have := cell_lt hc0; simpa [Addr.add] using this
      have hlen : ((List.range len).map fun i => (f i).2).length = len := by simp
      refine ⟨(List.range len).map fun i => (f i).2, some ⟨b, off, none⟩, cap, by rw [hlen]; exact hcs, by rw [hlen]; exact hl, hm, (fun e => by cases e), .inr ⟨b, off, rfl, Nat.zero_le _, hbk, fun i hil => ?_⟩⟩
      rw [hlen] at hil
      obtain ⟨g1, g2, g3⟩ := hf i hil
      have e1 : ((List.range len).map fun i => (f i).2)[i]'(by simpa using hil) = (f i).2 := by simp
      rw [e1]
      exact ⟨(f i).1, g1, fun j hj => by have := g2 j hj; rwa [Go.Deep.add_add, hadd, ← Nat.add_assoc] at this, g3⟩
end
end Go.Proofs.YtenahfmmijpelaaDoor
