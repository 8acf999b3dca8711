/-
  WHAT THE ARGUMENTS READ AS: plain facts on slices of integers, on rows and on lists of rows as they lie in memory, and how they stay. Nothing here speaks of one program.
-/
import Derived.WalkKit
import Derived.ProofKit
import Derived.Handy
import Derived.OpenShut
import Derived.Deep.Slices
import Derived.Lib.SmallJoins
namespace Go.Proofs.YtenahfmmijpelaaDoor
open Go.ChangeShapes Go.WideShapes Go.ChangeAt Go.RowKit Go.Deep Go.Joins

/-- It fits an int. -/
def I64 (n : Int) : Prop := -9223372036854775808 ≤ n ∧ n ≤ 9223372036854775807
theorem I64.of_wf {n : Int} (h : (Lit.int .i64 n).wf = true) : I64 n := by
  have := h
  simp [Lit.wf, IntKind.min, IntKind.signed, IntKind.bits] at this
  exact this

/-- The value v is a slice that reads as the integers xs in the world w; its cells lie in a block from lo on. -/
def IsInts (lo : Nat) (w : World) (v : Value) (xs : List Int) : Prop :=
  ∃ (a : Option Addr) (cap : Nat), v = .slice a xs.length cap ∧ xs.length ≤ cap ∧ cap ≤ maxLen ∧ ((∀ x ∈ xs, I64 x) ∧ (a = none → cap = 0)) ∧
    (xs = [] ∨ ∃ b off, a = some ⟨b, off, none⟩ ∧ lo ≤ b ∧ b < w.heap.size ∧ ∀ i, i < xs.length → w.cell? ⟨b, off + i, none⟩ = some (.int .i64 (xs.getD i 0)))

theorem IsInts.below {lo : Nat} {w w' : World} {v : Value} {xs : List Int} (h : IsInts lo w v xs) (hb : Below w.heap.size w w') : IsInts lo w' v xs := by
  obtain ⟨a, cap, hv, hl, hm, hi, hc⟩ := h
  refine ⟨a, cap, hv, hl, hm, hi, ?_⟩
  rcases hc with hc | ⟨b, off, ha, hlo, hbk, hcell⟩
  · exact .inl hc
  · exact .inr ⟨b, off, ha, hlo, Nat.lt_of_lt_of_le hbk hb.size, fun i hi => (hb.cell (p := ⟨b, off + i, none⟩) hbk).trans (hcell i hi)⟩

theorem IsInts.mono {lo lo' : Nat} {w : World} {v : Value} {xs : List Int} (h : IsInts lo w v xs) (hl : lo' ≤ lo) : IsInts lo' w v xs := by
  obtain ⟨a, cap, hv, h1, hm, hi, hc⟩ := h
  refine ⟨a, cap, hv, h1, hm, hi, ?_⟩
  rcases hc with hc | ⟨b, off, ha, hlo, r⟩
  · exact .inl hc
  · exact .inr ⟨b, off, ha, Nat.le_trans hl hlo, r⟩

theorem IsInts.shape {lo : Nat} {w : World} {v : Value} {xs : List Int} (h : IsInts lo w v xs) : ∃ a cap, v = .slice a xs.length cap := by
  obtain ⟨a, cap, hv, _⟩ := h
  exact ⟨a, cap, hv⟩

theorem hid0 {p : Prop} (h : p) : Hid p := h
theorem ret_int {k : IntKind} {a b : Int} (h : a = b) : Ending.returned (.int k a) = .returned (.int k b) := by rw [h]
theorem ret_bool {a b : Bool} (h : a = b) : Ending.returned (.bool a) = .returned (.bool b) := by rw [h]
theorem quietBelow {B : Nat} {w wr : World} (h : Below B w wr) (n : Nat) : Below B w (wr.drewN n) := ⟨h.os, h.tape, h.output, h.size, h.block⟩
theorem thenBelow {w wr w1 : World} (h : Below w.heap.size w wr) (k : Below wr.heap.size wr w1) : Below w.heap.size w w1 := h.trans (k.mono h.size)
theorem allocBelow (w : World) (o : Obj) : Below w.heap.size w (w.alloc o) := (Below.refl _ _).alloc (Nat.le_refl _) _

theorem bcell {W w1 : World} (hb : Below W.heap.size W w1) : (∀ b o, b < W.heap.size → w1.cell? ⟨b, o, none⟩ = W.cell? ⟨b, o, none⟩) ∧ (∀ b o, b < W.heap.size → w1.frozen? ⟨b, o, none⟩ = W.frozen? ⟨b, o, none⟩) :=
  ⟨fun b o h => hb.cell (p := ⟨b, o, none⟩) h, fun b o h => hb.frozen (p := ⟨b, o, none⟩) h⟩
/-- A block that was there: its cells and marks behind a call. -/
theorem blk {W w1 : World} (hb : Below W.heap.size W w1) {n : Nat} (hn : n < W.heap.size) : (∀ o, w1.cell? ⟨n, o, none⟩ = W.cell? ⟨n, o, none⟩) ∧ (∀ o, w1.frozen? ⟨n, o, none⟩ = W.frozen? ⟨n, o, none⟩) :=
  ⟨fun o => hb.cell (p := ⟨n, o, none⟩) hn, fun o => hb.frozen (p := ⟨n, o, none⟩) hn⟩
theorem cell_lt {w : World} {p : Addr} {v : Value} (h : w.cell? p = some v) : p.block < w.heap.size := by
  unfold World.cell? at h
  cases hb : w.heap[p.block]? with
  | none => simp [hb] at h
  | some o => exact (Array.getElem?_eq_some_iff.1 hb).1
/-- Two cells that were there, and all that lay below, behind one more call. -/
theorem keep3 {w w1 w2 : World} {p q : Addr} {u v : Value} (h0 : w1.cell? p = some u) (h1 : w1.cell? q = some v) (h2 : Below w.heap.size w w1) (hb : Below w1.heap.size w1 w2) : w2.cell? p = some u ∧ w2.cell? q = some v ∧ Below w.heap.size w w2 :=
  ⟨(hb.cell (cell_lt h0)).trans h0, (hb.cell (cell_lt h1)).trans h1, thenBelow h2 hb⟩
theorem keepS {w w1 w2 : World} {p q : Addr} {u v : Value} (h : w1.cell? p = some u ∧ w1.cell? q = some v ∧ Below w.heap.size w w1) (hb : Below w1.heap.size w1 w2) : w2.cell? p = some u ∧ w2.cell? q = some v ∧ Below w.heap.size w w2 := keep3 h.1 h.2.1 h.2.2 hb
theorem held3 {a b c : Prop} (h : a ∧ b ∧ c) : c := h.2.2
theorem drewBelow (w : World) : Below w.heap.size w w.drew := (Below.refl _ _).drew
theorem heap_new (w : World) (o : Obj) {n : Nat} (h : n = w.heap.size) : (w.alloc o).heap[n]? = some o := by subst h; exact heap_alloc_new w o
theorem heap_old (w : World) (o : Obj) {n : Nat} (h : n < w.heap.size) : (w.alloc o).heap[n]? = w.heap[n]? := Below.heap_alloc w o n h
/-- All blocks but g are as they were. -/
theorem but_cell {W w1 : World} {g : Nat} (h : ∀ k, k ≠ g → w1.heap[k]? = W.heap[k]?) : (∀ b o, b ≠ g → w1.cell? ⟨b, o, none⟩ = W.cell? ⟨b, o, none⟩) ∧ (∀ b o, b ≠ g → w1.frozen? ⟨b, o, none⟩ = W.frozen? ⟨b, o, none⟩) :=
  ⟨fun b o hb => World.cell?_of_block (w := W) (a := ⟨b, o, none⟩) (h b hb), fun b o hb => World.frozen?_of_block (w := W) (a := ⟨b, o, none⟩) (h b hb)⟩

theorem IsInts.src {lo : Nat} {w : World} {a : Option Addr} {n cap : Nat} {xs : List Int} (h : IsInts lo w (.slice a n cap) xs) (h0 : 0 < xs.length) :
    ∃ ad, a = some ad ∧ ∀ w', Below w.heap.size w w' → ∀ j v, (xs.map (Value.int .i64))[j]? = some v → w'.cell? (ad.add j) = some v := by
  obtain ⟨a', cap', hv, hl, hm, hi, hc⟩ := h
  rcases hc with rfl | ⟨b, off, rfl, hlo, hbk, hcell⟩
  · simp at h0
  · simp only [Value.slice.injEq] at hv
    refine ⟨⟨b, off, none⟩, hv.1, fun w' hb j v hj => ?_⟩
    have hjl : j < xs.length := by have := (List.getElem?_eq_some_iff.1 hj).1; simpa using this
    have e2 : (⟨b, off, none⟩ : Addr).add j = ⟨b, off + j, none⟩ := by simp only [Addr.add]; split <;> simp_all
    rw [e2, hb.cell (p := ⟨b, off + j, none⟩) hbk, hcell j hjl, ← hj]
    simp [hjl]

/-- A row of integers in a block of its own reads as these. -/
theorem ints_of_block {w : World} {g lo n cap : Nat} {t : TypeId} {cur : Array Value} {fr : Nat × Nat} {xs : List Int} (hg : w.heap[g]? = some (.cells cur t fr)) (hlo : lo ≤ g) (hn : xs.length = n) (hl : n ≤ cap) (hm : cap ≤ maxLen) (hi : ∀ x ∈ xs, I64 x)
    (hc : ∀ i, i < n → cur[i]? = some (.int .i64 (xs.getD i 0))) : IsInts lo w (.slice (some ⟨g, 0, none⟩) n cap) xs := by
  subst hn
  refine ⟨_, _, rfl, hl, hm, ⟨hi, fun e => by cases e⟩, ?_⟩
  by_cases h0 : xs = []
  · exact .inl h0
  · refine .inr ⟨g, 0, rfl, hlo, (Array.getElem?_eq_some_iff.1 hg).1, fun i h => ?_⟩
    have := hc i h
    simp only [World.cell?, hg, Nat.zero_add]
    simpa using this

/-- A row of integers that the call has made itself: a block of its own from lo on, not frozen. -/
def OwnInts (lo : Nat) (w : World) (g : Nat) (xs : List Int) : Prop :=
  lo ≤ g ∧ xs.length ≤ maxLen ∧ (∀ x ∈ xs, I64 x) ∧ ∃ cur t, w.heap[g]? = some (.cells cur t (0, 0)) ∧ ∀ i, i < xs.length → cur[i]? = some (.int .i64 (xs.getD i 0))
theorem OwnInts.lt {lo : Nat} {w : World} {g : Nat} {xs : List Int} (h : OwnInts lo w g xs) : g < w.heap.size := by
  obtain ⟨_, _, _, cur, t, hg, _⟩ := h
  exact (Array.getElem?_eq_some_iff.1 hg).1
theorem OwnInts.ints {lo : Nat} {w : World} {g : Nat} {xs : List Int} (h : OwnInts lo w g xs) : IsInts lo w (.slice (some ⟨g, 0, none⟩) xs.length xs.length) xs := by
  obtain ⟨h1, h2, h3, cur, t, hg, hc⟩ := h
  exact ints_of_block hg h1 rfl (Nat.le_refl _) h2 h3 hc
theorem OwnInts.cell {lo : Nat} {w : World} {g : Nat} {xs : List Int} (h : OwnInts lo w g xs) (i : Nat) (hi : i < xs.length) : w.cell? ⟨g, i, none⟩ = some (.int .i64 (xs.getD i 0)) := by
  obtain ⟨h1, h2, h3, cur, t, hg, hc⟩ := h
  have := hc i hi
  simp only [World.cell?, hg]
  simpa using this
theorem OwnInts.frozen {lo : Nat} {w : World} {g : Nat} {xs : List Int} (h : OwnInts lo w g xs) (i : Nat) : w.frozen? ⟨g, i, none⟩ = false := by
  obtain ⟨h1, h2, h3, cur, t, hg, hc⟩ := h
  simp [World.frozen?, hg]
theorem OwnInts.but {lo : Nat} {w w' : World} {g : Nat} {xs : List Int} (h : OwnInts lo w g xs) (hb : w'.heap[g]? = w.heap[g]?) : OwnInts lo w' g xs := by
  obtain ⟨h1, h2, h3, cur, t, hg, hc⟩ := h
  exact ⟨h1, h2, h3, cur, t, by rw [hb]; exact hg, hc⟩
theorem OwnInts.below {lo : Nat} {w w' : World} {g : Nat} {xs : List Int} (h : OwnInts lo w g xs) (hb : Below w.heap.size w w') : OwnInts lo w' g xs := h.but (hb.block g h.lt)
theorem OwnInts.mono {lo lo' : Nat} {w : World} {g : Nat} {xs : List Int} (h : OwnInts lo w g xs) (hl : lo' ≤ lo) : OwnInts lo' w g xs := ⟨Nat.le_trans hl h.1, h.2⟩
theorem OwnInts.set {lo : Nat} {w : World} {g : Nat} {xs : List Int} (h : OwnInts lo w g xs) (i : Nat) (y : Int) (hy : I64 y) : OwnInts lo (w.setCell ⟨g, i, none⟩ (.int .i64 y)) g (xs.set i y) := by
  obtain ⟨h1, h2, h3, cur, t, hg, hc⟩ := h
  refine ⟨h1, by simpa using h2, fun x hx => ?_, cur.setIfInBounds i (.int .i64 y), t, heap_setCell_same w g i cur t _ hg, fun j hj => ?_⟩
  · rcases List.mem_or_eq_of_mem_set hx with hx | rfl
    · exact h3 x hx
    · exact hy
  · rw [List.length_set] at hj
    have hcj := hc j hj
    have hjc : j < cur.size := (Array.getElem?_eq_some_iff.1 hcj).1
    by_cases e : i = j
    · subst e
      simp [hjc, List.getD, hj]
    · rw [Array.getElem?_setIfInBounds_ne e, hcj]
      simp [List.getD, List.getElem?_set_ne e]
theorem OwnInts.setOther {lo : Nat} {w : World} {g : Nat} {xs : List Int} (h : OwnInts lo w g xs) (a : Addr) (u : Value) (hne : a.block ≠ g) : OwnInts lo (w.setCell a u) g xs :=
  h.but (Below.heap_setCell _ _ _ _ (fun e => hne e.symm))

section
variable {H : Type} {enc : TypeId × Value → H} {P : Program} {w : World} {base : Nat} {sp : Nat → Bool} {held : Bool}

/-- An argument that is a slice of integers, by its cell. -/
theorem ints_of_trod {t e : TypeId} {n : Nat} {v : Value} {x : DataW H × List MemPlace} (ht : P.underlying t = some (.slice e)) (he : P.underlying e = some (.int .i64)) (hc : P.cellsOf e = 1)
    (h : DataW.trod enc P w base sp held n t [v] = some x) : ∃ xs, IsInts 0 w v xs := by
  rcases open_ints ht he hc h with ⟨hcs, _⟩ | ⟨a, len, cap, zs, hcs, _, hl, hm, hz, _, hcell, hwz⟩
  · simp at hcs
    exact ⟨[], none, 0, hcs, by simp, by simp [maxLen], by simp, .inl rfl⟩
  · simp at hcs
    have hlz : len ≤ zs.length := by rw [hz]; split <;> omega
    have hlen : (zs.take len).length = len := by simp; omega
    refine ⟨zs.take len, some a, cap, by rw [hlen]; exact hcs, by rw [hlen]; exact hl, hm, ⟨fun x hx => I64.of_wf (hwz x (List.mem_of_mem_take hx)), fun e => by cases e⟩, ?_⟩
    by_cases h0 : len = 0
    · exact .inl (by subst h0; rfl)
    · refine .inr ?_
      obtain ⟨b, off, spot⟩ := a
      have hc0 := hcell 0 (by omega)
      have hspot : spot = none := by simpa [Addr.add] using World.cell?_spot hc0
      subst hspot
      refine ⟨b, off, rfl, Nat.zero_le _, cell_lt hc0, fun i hi => ?_⟩
      rw [hlen] at hi
      have hci := hcell i (by omega)
      have e1 : (zs.take len).getD i 0 = zs.getD i 0 := by simp [List.getD, hi]
      rw [e1]
      have e2 : (⟨b, off, none⟩ : Addr).add i = ⟨b, off + i, none⟩ := by simp only [Addr.add]; split <;> simp_all
      rw [e2] at hci
      exact hci
end
end Go.Proofs.YtenahfmmijpelaaDoor
