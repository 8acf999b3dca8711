import Derived.WalkKit
import Derived.ProofKit
import Derived.Handy
import Derived.OpenShut
import Derived.Deep.Slices
import Derived.Lib.SmallJoins
import Derived.ChangeArms
import Derived.Deep.MidRow
import Derived.Laws.AppendOwn
import Derived.Deep.AppendLies
import Derived.Deep.LoopGhost
import Derived.Great.BuildSlice
import Derived.Maps.AppendAt
import Derived.Great.FillDense
import Derived.Orders
import Derived.IntWalk
import Derived.Laws.Small
import Derived.Laws.StructEq
import Derived.Test.YtmpbfdfjcfanoaaDoorProg
import Derived.WalkSpells
import Derived.WalkLawsBesides
import Derived.Deep.QuietTactic
import Derived.BigQuiet
import Derived.Lib.Hide
import Derived.LoopTactic
set_option linter.all false
/-
  WHAT THE ARGUMENTS READ AS: plain facts on slices of integers, on rows and on lists of rows as they lie in memory, and how they stay. Nothing here speaks of one program.
-/
namespace Go.Proofs.YtmpbfdfjcfanoaaDoor
open Go.ChangeShapes Go.WideShapes Go.ChangeAt Go.RowKit Go.Deep Go.Joins

/-- It fits an int. -/
def I64 (n : Int) : Prop := -9223372036854775808 ≤ n ∧ n ≤ 9223372036854775807
theorem I64.of_wf {n : Int} (h : (Lit.int .i64 n).wf = true) : I64 n := by
  have := h
  simp [Lit.wf, IntKind.min, IntKind.signed, IntKind.bits] at this
  exact this

/-- The value v is a slice that reads as the integers xs in the world w; its cells lie in a block from lo on. -/
def IsInts (lo : Nat) (w : World) (v : Value) (xs : List Int) : Prop :=
  ∃ (a : Option Addr) (cap : Nat), v = .slice a xs.length cap ∧ xs.length ≤ cap ∧ cap ≤ maxLen ∧ ((∀ x ∈ xs, I64 x) ∧ (a = none → cap = 0)) ∧
    (xs = [] ∨ ∃ b off, a = some ⟨b, off, none⟩ ∧ lo ≤ b ∧ b < w.heap.size ∧ ∀ i, i < xs.length → w.cell? ⟨b, off + i, none⟩ = some (.int .i64 (xs.getD i 0)))

theorem IsInts.below {lo : Nat} {w w' : World} {v : Value} {xs : List Int} (h : IsInts lo w v xs) (hb : Below w.heap.size w w') : IsInts lo w' v xs := by
  obtain ⟨a, cap, hv, hl, hm, hi, hc⟩ := h
  refine ⟨a, cap, hv, hl, hm, hi, ?_⟩
  rcases hc with hc | ⟨b, off, ha, hlo, hbk, hcell⟩
  · exact .inl hc
  · exact .inr ⟨b, off, ha, hlo, Nat.lt_of_lt_of_le hbk hb.size, fun i hi => (hb.cell (p := ⟨b, off + i, none⟩) hbk).trans (hcell i hi)⟩

theorem IsInts.mono {lo lo' : Nat} {w : World} {v : Value} {xs : List Int} (h : IsInts lo w v xs) (hl : lo' ≤ lo) : IsInts lo' w v xs := by
  obtain ⟨a, cap, hv, h1, hm, hi, hc⟩ := h
  refine ⟨a, cap, hv, h1, hm, hi, ?_⟩
  rcases hc with hc | ⟨b, off, ha, hlo, r⟩
  · exact .inl hc
  · exact .inr ⟨b, off, ha, Nat.le_trans hl hlo, r⟩

theorem IsInts.shape {lo : Nat} {w : World} {v : Value} {xs : List Int} (h : IsInts lo w v xs) : ∃ a cap, v = .slice a xs.length cap := by
  obtain ⟨a, cap, hv, _⟩ := h
  exact ⟨a, cap, hv⟩

theorem hid0 {p : Prop} (h : p) : Hid p := h
theorem ret_int {k : IntKind} {a b : Int} (h : a = b) : Ending.returned (.int k a) = .returned (.int k b) := by rw [h]
theorem ret_bool {a b : Bool} (h : a = b) : Ending.returned (.bool a) = .returned (.bool b) := by rw [h]
theorem quietBelow {B : Nat} {w wr : World} (h : Below B w wr) (n : Nat) : Below B w (wr.drewN n) := ⟨h.os, h.tape, h.output, h.size, h.block⟩
theorem thenBelow {w wr w1 : World} (h : Below w.heap.size w wr) (k : Below wr.heap.size wr w1) : Below w.heap.size w w1 := h.trans (k.mono h.size)
theorem allocBelow (w : World) (o : Obj) : Below w.heap.size w (w.alloc o) := (Below.refl _ _).alloc (Nat.le_refl _) _

theorem bcell {W w1 : World} (hb : Below W.heap.size W w1) : (∀ b o, b < W.heap.size → w1.cell? ⟨b, o, none⟩ = W.cell? ⟨b, o, none⟩) ∧ (∀ b o, b < W.heap.size → w1.frozen? ⟨b, o, none⟩ = W.frozen? ⟨b, o, none⟩) :=
  ⟨fun b o h => hb.cell (p := ⟨b, o, none⟩) h, fun b o h => hb.frozen (p := ⟨b, o, none⟩) h⟩
/-- A block that was there: its cells and marks behind a call. -/
theorem blk {W w1 : World} (hb : Below W.heap.size W w1) {n : Nat} (hn : n < W.heap.size) : (∀ o, w1.cell? ⟨n, o, none⟩ = W.cell? ⟨n, o, none⟩) ∧ (∀ o, w1.frozen? ⟨n, o, none⟩ = W.frozen? ⟨n, o, none⟩) :=
  ⟨fun o => hb.cell (p := ⟨n, o, none⟩) hn, fun o => hb.frozen (p := ⟨n, o, none⟩) hn⟩
theorem cell_lt {w : World} {p : Addr} {v : Value} (h : w.cell? p = some v) : p.block < w.heap.size := by
  unfold World.cell? at h
  cases hb : w.heap[p.block]? with
  | none => simp [hb] at h
  | some o => exact (Array.getElem?_eq_some_iff.1 hb).1
/-- Two cells that were there, and all that lay below, behind one more call. -/
theorem keep3 {w w1 w2 : World} {p q : Addr} {u v : Value} (h0 : w1.cell? p = some u) (h1 : w1.cell? q = some v) (h2 : Below w.heap.size w w1) (hb : Below w1.heap.size w1 w2) : w2.cell? p = some u ∧ w2.cell? q = some v ∧ Below w.heap.size w w2 :=
  ⟨(hb.cell (cell_lt h0)).trans h0, (hb.cell (cell_lt h1)).trans h1, thenBelow h2 hb⟩
theorem keepS {w w1 w2 : World} {p q : Addr} {u v : Value} (h : w1.cell? p = some u ∧ w1.cell? q = some v ∧ Below w.heap.size w w1) (hb : Below w1.heap.size w1 w2) : w2.cell? p = some u ∧ w2.cell? q = some v ∧ Below w.heap.size w w2 := keep3 h.1 h.2.1 h.2.2 hb
theorem held3 {a b c : Prop} (h : a ∧ b ∧ c) : c := h.2.2
theorem drewBelow (w : World) : Below w.heap.size w w.drew := (Below.refl _ _).drew
theorem heap_new (w : World) (o : Obj) {n : Nat} (h : n = w.heap.size) : (w.alloc o).heap[n]? = some o := by subst h; exact heap_alloc_new w o
theorem heap_old (w : World) (o : Obj) {n : Nat} (h : n < w.heap.size) : (w.alloc o).heap[n]? = w.heap[n]? := Below.heap_alloc w o n h
/-- All blocks but g are as they were. -/
theorem but_cell {W w1 : World} {g : Nat} (h : ∀ k, k ≠ g → w1.heap[k]? = W.heap[k]?) : (∀ b o, b ≠ g → w1.cell? ⟨b, o, none⟩ = W.cell? ⟨b, o, none⟩) ∧ (∀ b o, b ≠ g → w1.frozen? ⟨b, o, none⟩ = W.frozen? ⟨b, o, none⟩) :=
  ⟨fun b o hb => World.cell?_of_block (w := W) (a := ⟨b, o, none⟩) (h b hb), fun b o hb => World.frozen?_of_block (w := W) (a := ⟨b, o, none⟩) (h b hb)⟩

theorem IsInts.src {lo : Nat} {w : World} {a : Option Addr} {n cap : Nat} {xs : List Int} (h : IsInts lo w (.slice a n cap) xs) (h0 : 0 < xs.length) :
    ∃ ad, a = some ad ∧ ∀ w', Below w.heap.size w w' → ∀ j v, (xs.map (Value.int .i64))[j]? = some v → w'.cell? (ad.add j) = some v := by
  obtain ⟨a', cap', hv, hl, hm, hi, hc⟩ := h
  rcases hc with rfl | ⟨b, off, rfl, hlo, hbk, hcell⟩
  · simp at h0
  · simp only [Value.slice.injEq] at hv
    refine ⟨⟨b, off, none⟩, hv.1, fun w' hb j v hj => ?_⟩
    have hjl : j < xs.length := by have := (List.getElem?_eq_some_iff.1 hj).1; simpa using this
    have e2 : (⟨b, off, none⟩ : Addr).add j = ⟨b, off + j, none⟩ := by simp only [Addr.add]; split <;> simp_all
    rw [e2, hb.cell (p := ⟨b, off + j, none⟩) hbk, hcell j hjl, ← hj]
    simp [hjl]

/-- A row of integers in a block of its own reads as these. -/
theorem ints_of_block {w : World} {g lo n cap : Nat} {t : TypeId} {cur : Array Value} {fr : Nat × Nat} {xs : List Int} (hg : w.heap[g]? = some (.cells cur t fr)) (hlo : lo ≤ g) (hn : xs.length = n) (hl : n ≤ cap) (hm : cap ≤ maxLen) (hi : ∀ x ∈ xs, I64 x)
    (hc : ∀ i, i < n → cur[i]? = some (.int .i64 (xs.getD i 0))) : IsInts lo w (.slice (some ⟨g, 0, none⟩) n cap) xs := by
  subst hn
  refine ⟨_, _, rfl, hl, hm, ⟨hi, fun e => by cases e⟩, ?_⟩
  by_cases h0 : xs = []
  · exact .inl h0
  · refine .inr ⟨g, 0, rfl, hlo, (Array.getElem?_eq_some_iff.1 hg).1, fun i h => ?_⟩
    have := hc i h
    simp only [World.cell?, hg, Nat.zero_add]
    simpa using this

/-- A row of integers that the call has made itself: a block of its own from lo on, not frozen. -/
def OwnInts (lo : Nat) (w : World) (g : Nat) (xs : List Int) : Prop :=
  lo ≤ g ∧ xs.length ≤ maxLen ∧ (∀ x ∈ xs, I64 x) ∧ ∃ cur t, w.heap[g]? = some (.cells cur t (0, 0)) ∧ ∀ i, i < xs.length → cur[i]? = some (.int .i64 (xs.getD i 0))
theorem OwnInts.lt {lo : Nat} {w : World} {g : Nat} {xs : List Int} (h : OwnInts lo w g xs) : g < w.heap.size := by
  obtain ⟨_, _, _, cur, t, hg, _⟩ := h
  exact (Array.getElem?_eq_some_iff.1 hg).1
theorem OwnInts.ints {lo : Nat} {w : World} {g : Nat} {xs : List Int} (h : OwnInts lo w g xs) : IsInts lo w (.slice (some ⟨g, 0, none⟩) xs.length xs.length) xs := by
  obtain ⟨h1, h2, h3, cur, t, hg, hc⟩ := h
  exact ints_of_block hg h1 rfl (Nat.le_refl _) h2 h3 hc
theorem OwnInts.cell {lo : Nat} {w : World} {g : Nat} {xs : List Int} (h : OwnInts lo w g xs) (i : Nat) (hi : i < xs.length) : w.cell? ⟨g, i, none⟩ = some (.int .i64 (xs.getD i 0)) := by
  obtain ⟨h1, h2, h3, cur, t, hg, hc⟩ := h
  have := hc i hi
  simp only [World.cell?, hg]
  simpa using this
theorem OwnInts.frozen {lo : Nat} {w : World} {g : Nat} {xs : List Int} (h : OwnInts lo w g xs) (i : Nat) : w.frozen? ⟨g, i, none⟩ = false := by
  obtain ⟨h1, h2, h3, cur, t, hg, hc⟩ := h
  simp [World.frozen?, hg]
theorem OwnInts.but {lo : Nat} {w w' : World} {g : Nat} {xs : List Int} (h : OwnInts lo w g xs) (hb : w'.heap[g]? = w.heap[g]?) : OwnInts lo w' g xs := by
  obtain ⟨h1, h2, h3, cur, t, hg, hc⟩ := h
  exact ⟨h1, h2, h3, cur, t, by rw [hb]; exact hg, hc⟩
theorem OwnInts.below {lo : Nat} {w w' : World} {g : Nat} {xs : List Int} (h : OwnInts lo w g xs) (hb : Below w.heap.size w w') : OwnInts lo w' g xs := h.but (hb.block g h.lt)
theorem OwnInts.mono {lo lo' : Nat} {w : World} {g : Nat} {xs : List Int} (h : OwnInts lo w g xs) (hl : lo' ≤ lo) : OwnInts lo' w g xs := ⟨Nat.le_trans hl h.1, h.2⟩
theorem OwnInts.set {lo : Nat} {w : World} {g : Nat} {xs : List Int} (h : OwnInts lo w g xs) (i : Nat) (y : Int) (hy : I64 y) : OwnInts lo (w.setCell ⟨g, i, none⟩ (.int .i64 y)) g (xs.set i y) := by
  obtain ⟨h1, h2, h3, cur, t, hg, hc⟩ := h
  refine ⟨h1, by simpa using h2, fun x hx => ?_, cur.setIfInBounds i (.int .i64 y), t, heap_setCell_same w g i cur t _ hg, fun j hj => ?_⟩
  · rcases List.mem_or_eq_of_mem_set hx with hx | rfl
    · exact h3 x hx
    · exact hy
  · rw [List.length_set] at hj
    have hcj := hc j hj
    have hjc : j < cur.size := (Array.getElem?_eq_some_iff.1 hcj).1
    by_cases e : i = j
    · subst e
      simp [hjc, List.getD, hj]
    · rw [Array.getElem?_setIfInBounds_ne e, hcj]
      simp [List.getD, List.getElem?_set_ne e]
theorem OwnInts.setOther {lo : Nat} {w : World} {g : Nat} {xs : List Int} (h : OwnInts lo w g xs) (a : Addr) (u : Value) (hne : a.block ≠ g) : OwnInts lo (w.setCell a u) g xs :=
  h.but (Below.heap_setCell _ _ _ _ (fun e => hne e.symm))

section
variable {H : Type} {enc : TypeId × Value → H} {P : Program} {w : World} {base : Nat} {sp : Nat → Bool} {held : Bool}

/-- An argument that is a slice of integers, by its cell. -/
theorem ints_of_trod {t e : TypeId} {n : Nat} {v : Value} {x : DataW H × List MemPlace} (ht : P.underlying t = some (.slice e)) (he : P.underlying e = some (.int .i64)) (hc : P.cellsOf e = 1)
    (h : DataW.trod enc P w base sp held n t [v] = some x) : ∃ xs, IsInts 0 w v xs := by
  rcases open_ints ht he hc h with ⟨hcs, _⟩ | ⟨a, len, cap, zs, hcs, _, hl, hm, hz, _, hcell, hwz⟩
  · simp at hcs
    exact ⟨[], none, 0, hcs, by simp, by simp [maxLen], by simp, .inl rfl⟩
  · simp at hcs
    have hlz : len ≤ zs.length := by rw [hz]; split <;> omega
    have hlen : (zs.take len).length = len := by simp; omega
    refine ⟨zs.take len, some a, cap, by rw [hlen]; exact hcs, by rw [hlen]; exact hl, hm, ⟨fun x hx => I64.of_wf (hwz x (List.mem_of_mem_take hx)), fun e => by cases e⟩, ?_⟩
    by_cases h0 : len = 0
    · exact .inl (by subst h0; rfl)
    · refine .inr ?_
      obtain ⟨b, off, spot⟩ := a
      have hc0 := hcell 0 (by omega)
      have hspot : spot = none := by simpa [Addr.add] using World.cell?_spot hc0
      subst hspot
      refine ⟨b, off, rfl, Nat.zero_le _, cell_lt hc0, fun i hi => ?_⟩
      rw [hlen] at hi
      have hci := hcell i (by omega)
      have e1 : (zs.take len).getD i 0 = zs.getD i 0 := by simp [List.getD, hi]
      rw [e1]
      have e2 : (⟨b, off, none⟩ : Addr).add i = ⟨b, off + i, none⟩ := by simp only [Addr.add]; split <;> simp_all
      rw [e2] at hci
      exact hci
end
end Go.Proofs.YtmpbfdfjcfanoaaDoor

/-
  A SLICE OF STRUCTS AS IT LIES IN MEMORY, whatever the struct: its cells, how it stays, how a call's argument reads so.
-/
namespace Go.Proofs.YtmpbfdfjcfanoaaDoor
open Go.RowKit Go.Deep Go.ChangeShapes Go.WideShapes Go.ChangeAt Go.Joins

/-- The value v is a slice whose elements, of 'size' cells each, read by P as xs; its cells lie in a block from lo on. -/
def IsSl {α : Type} (size : Nat) (P : Nat → World → List Value → α → Prop) (lo : Nat) (w : World) (v : Value) (xs : List α) : Prop :=
  ∃ (a : Option Addr) (cap : Nat), v = .slice a xs.length cap ∧ xs.length ≤ cap ∧ cap ≤ maxLen ∧ (a = none → cap = 0) ∧
    (xs = [] ∨ ∃ b off, a = some ⟨b, off, none⟩ ∧ lo ≤ b ∧ b < w.heap.size ∧
      ∀ i (hi : i < xs.length), ∃ cs : List Value, cs.length = size ∧ (∀ j, j < size → w.cell? ⟨b, off + i * size + j, none⟩ = cs[j]?) ∧ P lo w cs xs[i])
/-- P stays when only new blocks are made. -/
def Stays {α : Type} (P : Nat → World → List Value → α → Prop) : Prop := ∀ lo w w' cs x, P lo w cs x → Below w.heap.size w w' → P lo w' cs x
def Mono {α : Type} (P : Nat → World → List Value → α → Prop) : Prop := ∀ lo lo' w cs x, P lo w cs x → lo' ≤ lo → P lo' w cs x

theorem IsSl.below {α : Type} {size : Nat} {P : Nat → World → List Value → α → Prop} (hP : Stays P) {lo : Nat} {w w' : World} {v : Value} {xs : List α} (h : IsSl size P lo w v xs) (hb : Below w.heap.size w w') : IsSl size P lo w' v xs := by
  obtain ⟨a, cap, hv, hl, hm, hn, hc⟩ := h
  refine ⟨a, cap, hv, hl, hm, hn, ?_⟩
  rcases hc with hc | ⟨b, off, ha, hlo, hbk, hcell⟩
  · exact .inl hc
  · refine .inr ⟨b, off, ha, hlo, Nat.lt_of_lt_of_le hbk hb.size, fun i hi => ?_⟩
    obtain ⟨cs, h1, h2, h3⟩ := hcell i hi
    exact ⟨cs, h1, fun j hj => (hb.cell (p := ⟨b, off + i * size + j, none⟩) hbk).trans (h2 j hj), hP _ _ _ _ _ h3 hb⟩
theorem IsSl.mono {α : Type} {size : Nat} {P : Nat → World → List Value → α → Prop} (hP : Mono P) {lo lo' : Nat} {w : World} {v : Value} {xs : List α} (h : IsSl size P lo w v xs) (hl : lo' ≤ lo) : IsSl size P lo' w v xs := by
  obtain ⟨a, cap, hv, h1, hm, hn, hc⟩ := h
  refine ⟨a, cap, hv, h1, hm, hn, ?_⟩
  rcases hc with hc | ⟨b, off, ha, hlo, hbk, r⟩
  · exact .inl hc
  · exact .inr ⟨b, off, ha, Nat.le_trans hl hlo, hbk, fun i hi => by obtain ⟨cs, h1, h2, h3⟩ := r i hi; exact ⟨cs, h1, h2, hP _ _ _ _ _ h3 hl⟩⟩
theorem IsSl.shape {α : Type} {size : Nat} {P : Nat → World → List Value → α → Prop} {lo : Nat} {w : World} {v : Value} {xs : List α} (h : IsSl size P lo w v xs) : ∃ a cap, v = .slice a xs.length cap := by
  obtain ⟨a, cap, hv, _⟩ := h
  exact ⟨a, cap, hv⟩
theorem IsSl.bound {α : Type} {size : Nat} {P : Nat → World → List Value → α → Prop} {lo : Nat} {w : World} {v : Value} {xs : List α} (h : IsSl size P lo w v xs) : xs.length ≤ 9223372036854775807 := by
  obtain ⟨a, cap, _, h1, hm, _⟩ := h
  unfold maxLen at hm; omega
/-- The element at k. -/
theorem IsSl.at {α : Type} {size : Nat} {P : Nat → World → List Value → α → Prop} {lo : Nat} {w : World} {a : Option Addr} {n cap : Nat} {xs : List α} (h : IsSl size P lo w (.slice a n cap) xs) (k : Nat) (hk : k < xs.length) :
    ∃ b off cs, a = some ⟨b, off, none⟩ ∧ lo ≤ b ∧ b < w.heap.size ∧ cs.length = size ∧ (∀ j, j < size → w.cell? ⟨b, off + k * size + j, none⟩ = cs[j]?) ∧ P lo w cs xs[k] := by
  obtain ⟨a', cap', hv, _, _, _, hc⟩ := h
  simp only [Value.slice.injEq] at hv
  rcases hc with rfl | ⟨b, off, ha, hlo, hb, hc⟩
  · simp at hk
  · obtain ⟨cs, h1, h2, h3⟩ := hc k hk
    exact ⟨b, off, cs, hv.1.trans ha, hlo, hb, h1, h2, h3⟩

section
variable {H : Type} {enc : TypeId × Value → H} {P : Program} {w : World} {base : Nat} {sp : Nat → Bool} {held : Bool}
/-- An argument that is a slice, by its cell: out of how an element reads. -/
theorem sl_of_trod {α : Type} {Q : Nat → World → List Value → α → Prop} {t e : TypeId} {size : Nat} {n : Nat} {v : Value} {x : DataW H × List MemPlace} (ht : P.underlying t = some (.slice e)) (hce : P.cellsOf e = size) (hs : 0 < size) [Inhabited α]
    (hel : ∀ (m : Nat) (cs : List Value) (y : DataW H × List MemPlace), DataW.trod enc P w base sp held m e cs = some y → cs.length = size → ∃ a, Q 0 w cs a)
    (h : DataW.trod enc P w base sp held n t [v] = some x) : ∃ xs, IsSl size Q 0 w v xs := by
  rcases open_slice ht h with ⟨hcs, _⟩ | ⟨a, len, cap, m, n', D, Pl, hcs, _, hl, hm, hmm, _, hi⟩
  · simp at hcs
    exact ⟨[], none, 0, hcs, by simp, by simp [maxLen], by simp, .inl rfl⟩
  · simp at hcs
    have hlm : len ≤ m := by rw [hmm]; split <;> omega
    by_cases h0 : len = 0
    · subst h0
      exact ⟨[], some a, cap, hcs, by simp, hm, (fun e => by cases e), .inl rfl⟩
    · have hrow : ∀ i, i < len → ∃ q : List Value × α, q.1.length = size ∧ (∀ j, j < size → w.cell? ((a.add (i * size)).add j) = q.1[j]?) ∧ Q 0 w q.1 q.2 := fun i hil => by
        obtain ⟨cs', hc, htr⟩ := hi i (by omega)
        rw [hce] at hc
        obtain ⟨_, hlen, hat⟩ := World.cells?_some hc
        obtain ⟨y, hy⟩ := hel _ cs' _ htr hlen
        exact ⟨⟨cs', y⟩, hlen, fun j hj => hat j (by omega), hy⟩
      obtain ⟨f, hf⟩ := choose_lt hrow
      obtain ⟨b, off, spot⟩ := a
      have hc0 := (hf 0 (by omega)).2.1 0 hs
      have hl0 := (hf 0 (by omega)).1
      obtain ⟨v0, hv0⟩ : ∃ v0, (f 0).1[0]? = some v0 := ⟨(f 0).1[0]'(by omega), List.getElem?_eq_getElem _⟩
      rw [hv0] at hc0
      have hspot : spot = none := by simpa [Addr.add] using World.cell?_spot hc0
      subst hspot
      have hadd : ∀ j, (⟨b, off, none⟩ : Addr).add j = ⟨b, off + j, none⟩ := fun j => by simp only [Addr.add]; split <;> simp_all
      have hbk : b < w.heap.size := by have := cell_lt hc0; simpa [Addr.add] using this
      have hlen : ((List.range len).map fun i => (f i).2).length = len := by simp
      refine ⟨(List.range len).map fun i => (f i).2, some ⟨b, off, none⟩, cap, by rw [hlen]; exact hcs, by rw [hlen]; exact hl, hm, (fun e => by cases e), .inr ⟨b, off, rfl, Nat.zero_le _, hbk, fun i hil => ?_⟩⟩
      rw [hlen] at hil
      obtain ⟨g1, g2, g3⟩ := hf i hil
      have e1 : ((List.range len).map fun i => (f i).2)[i]'(by simpa using hil) = (f i).2 := by simp
      rw [e1]
      exact ⟨(f i).1, g1, fun j hj => by have := g2 j hj; rwa [Go.Deep.add_add, hadd, ← Nat.add_assoc] at this, g3⟩
end
end Go.Proofs.YtmpbfdfjcfanoaaDoor

/-
  FOUR CELLS THAT STAY, through a region whose order is open: two boxed rows.
-/
namespace Go.Proofs.YtmpbfdfjcfanoaaDoor
open Go.RowKit
theorem keepF {W w1 w2 : World} {p1 p2 p3 p4 : Addr} {u1 u2 u3 u4 : Value} (h : w1.cell? p1 = some u1 ∧ w1.cell? p2 = some u2 ∧ w1.cell? p3 = some u3 ∧ w1.cell? p4 = some u4 ∧ Below W.heap.size W w1) (hb : Below w1.heap.size w1 w2) :
    w2.cell? p1 = some u1 ∧ w2.cell? p2 = some u2 ∧ w2.cell? p3 = some u3 ∧ w2.cell? p4 = some u4 ∧ Below W.heap.size W w2 :=
  ⟨(hb.cell (cell_lt h.1)).trans h.1, (hb.cell (cell_lt h.2.1)).trans h.2.1, (hb.cell (cell_lt h.2.2.1)).trans h.2.2.1, (hb.cell (cell_lt h.2.2.2.1)).trans h.2.2.2.1, thenBelow h.2.2.2.2 hb⟩
theorem heldF {a b c d e : Prop} (h : a ∧ b ∧ c ∧ d ∧ e) : e := h.2.2.2.2
/-- A cell that was there stays there. -/
theorem keep1 {W w1 : World} {p : Addr} {u : Value} (h : W.cell? p = some u) (hb : Below W.heap.size W w1) : w1.cell? p = some u := (hb.cell (cell_lt h)).trans h
theorem new_cell (w : World) (cs : Array Value) (t : TypeId) (i : Nat) {n : Nat} (h : n = w.heap.size) : (w.alloc (.cells cs t)).cell? ⟨n, i, none⟩ = cs[i]? := by subst h; simp
/-- Six cells that stay. -/
theorem keepSix {w w1 w2 : World} {p1 p2 p3 p4 p5 p6 : Addr} {u1 u2 u3 u4 u5 u6 : Value} (h : w1.cell? p1 = some u1 ∧ w1.cell? p2 = some u2 ∧ w1.cell? p3 = some u3 ∧ w1.cell? p4 = some u4 ∧ w1.cell? p5 = some u5 ∧ w1.cell? p6 = some u6 ∧ Below w.heap.size w w1) (hb : Below w1.heap.size w1 w2) :
    w2.cell? p1 = some u1 ∧ w2.cell? p2 = some u2 ∧ w2.cell? p3 = some u3 ∧ w2.cell? p4 = some u4 ∧ w2.cell? p5 = some u5 ∧ w2.cell? p6 = some u6 ∧ Below w.heap.size w w2 :=
  ⟨keep1 h.1 hb, keep1 h.2.1 hb, keep1 h.2.2.1 hb, keep1 h.2.2.2.1 hb, keep1 h.2.2.2.2.1 hb, keep1 h.2.2.2.2.2.1 hb, thenBelow h.2.2.2.2.2.2 hb⟩
theorem heldSix {a b c d e f g : Prop} (h : a ∧ b ∧ c ∧ d ∧ e ∧ f ∧ g) : g := h.2.2.2.2.2.2
end Go.Proofs.YtmpbfdfjcfanoaaDoor

/-
  A BLOCK THAT IS KNOWN WHOLE: how it stands behind stores; a struct read out of a block and stored into one, whole.
-/
namespace Go.Proofs.YtmpbfdfjcfanoaaDoor
open Go.RowKit Go.Deep
theorem setCells_block {g : Nat} {t : TypeId} : ∀ (vs : List Value) (o : Nat) (w : World) (cur : Array Value), w.heap[g]? = some (.cells cur t (0, 0)) → o + vs.length ≤ cur.size →
    ∃ cur', (w.setCells g o vs).heap[g]? = some (.cells cur' t (0, 0)) ∧ cur'.size = cur.size ∧ ∀ j, cur'[j]? = if o ≤ j ∧ j < o + vs.length then vs[j - o]? else cur[j]?
  | [], o, w, cur, h, _ => ⟨cur, h, rfl, fun j => by rw [if_neg (by simp)]⟩
  | v :: r, o, w, cur, h, hl => by
    simp only [List.length_cons] at hl
    have h1 := heap_setCell_same w g o cur t v h
    obtain ⟨cur', h2, h3, h4⟩ := setCells_block r (o + 1) _ _ h1 (by simp; omega)
    refine ⟨cur', h2, by rw [h3]; simp, fun j => ?_⟩
    rw [h4 j]
    simp only [List.length_cons]
    by_cases hj : o + 1 ≤ j ∧ j < o + 1 + r.length
    · rw [if_pos hj, if_pos (by omega), show j - o = (j - (o + 1)) + 1 by omega, List.getElem?_cons_succ]
    · rw [if_neg hj]
      by_cases hjo : j = o
      · subst hjo
        rw [if_pos (by omega), Nat.sub_self, List.getElem?_cons_zero]
        simp only [Array.getElem?_setIfInBounds]
        rw [if_pos trivial, if_pos (by omega)]
      · rw [if_neg (by omega), Array.getElem?_setIfInBounds_ne (by omega)]
/-- A whole block is stored. -/
theorem setCells_whole {w : World} {g : Nat} {t : TypeId} {cur : Array Value} (vs : List Value) (h : w.heap[g]? = some (.cells cur t (0, 0))) (hl : vs.length = cur.size) : (w.setCells g 0 vs).heap[g]? = some (.cells vs.toArray t (0, 0)) := by
  obtain ⟨cur', h1, h2, h3⟩ := setCells_block vs 0 w cur h (by omega)
  rw [h1]
  congr 2
  apply Array.ext'
  apply List.ext_getElem?
  intro j
  have := h3 j
  simp only [Nat.zero_le, true_and, Nat.zero_add, Nat.sub_zero] at this
  simp only [Array.getElem?_toList]
  rw [this]
  split
  · rfl
  · rw [Array.getElem?_eq_none (by omega), List.getElem?_eq_none (by omega)]
theorem belowCells {B b : Nat} {a : World} (hb : B ≤ b) : ∀ (vs : List Value) (o : Nat) {w : World}, Below B a w → Below B a (w.setCells b o vs)
  | [], _, _, h => h
  | v :: r, o, _, h => belowCells hb r (o + 1) (h.setCell hb v)
theorem setCells_size (g : Nat) : ∀ (vs : List Value) (o : Nat) (w : World), (w.setCells g o vs).heap.size = w.heap.size
  | [], _, _ => rfl
  | v :: r, o, w => by rw [World.setCells, setCells_size g r]; simp [World.setCell]
theorem setCells_other {g k : Nat} (hk : k ≠ g) : ∀ (vs : List Value) (o : Nat) (w : World), (w.setCells g o vs).heap[k]? = w.heap[k]?
  | [], _, _ => rfl
  | v :: r, o, w => by rw [World.setCells, setCells_other hk r]; exact Below.heap_setCell _ _ _ _ hk
theorem thereBlock {w : World} {g : Nat} {t : TypeId} {cur : Array Value} {n : Nat} (h : w.heap[g]? = some (.cells cur t (0, 0))) (hn : n = cur.size) : w.there g 0 n := fun j hj => by
  subst hn
  constructor
  · simp only [World.cell?, h, Nat.zero_add]; simp [hj]
  · simp [World.frozen?, h]
theorem rangeBlock {w : World} {g : Nat} {t : TypeId} {fr : Nat × Nat} {cs : List Value} (h : w.heap[g]? = some (.cells cs.toArray t fr)) : w.rangeAt g 0 cs := fun j v hj => by
  simp only [World.cell?, h, Nat.zero_add]
  simpa using hj
theorem rangeOf {w : World} {b o size : Nat} {cs : List Value} (hl : cs.length = size) (h : ∀ j, j < size → w.cell? ⟨b, o + j, none⟩ = cs[j]?) : w.rangeAt b o cs := fun j v hj => by
  rw [h j (by have := (List.getElem?_eq_some_iff.1 hj).1; omega), hj]
theorem rangeBelow {w w' : World} {b o : Nat} {cs : List Value} (h : w.rangeAt b o cs) (hb : Below w.heap.size w w') : w'.rangeAt b o cs := fun j v hj => keep1 (h j v hj) hb
/-- A block that was there. -/
theorem keepB {W w1 : World} {g : Nat} {o : Obj} (h : W.heap[g]? = some o) (hb : Below W.heap.size W w1) : w1.heap[g]? = some o := (hb.block g (Array.getElem?_eq_some_iff.1 h).1).trans h
theorem cellB {w : World} {g : Nat} {t : TypeId} {fr : Nat × Nat} {cs : Array Value} (h : w.heap[g]? = some (.cells cs t fr)) (i : Nat) {v : Value} (hv : cs[i]? = some v) : w.cell? ⟨g, i, none⟩ = some v := by
  simp only [World.cell?, h]; simpa using hv
theorem frozenB {w : World} {g : Nat} {t : TypeId} {cs : Array Value} (h : w.heap[g]? = some (.cells cs t (0, 0))) (i : Nat) : w.frozen? ⟨g, i, none⟩ = false := by simp [World.frozen?, h]
section
variable {P : Program} {ops : Array Oper} {rest : List Oper} {o : Oper} {a : Act} {w : World} {Q : Exit → Act → World → Prop}
/-- A struct is read out of the midst of a block. -/
theorem ld_mid {T : TypeId} {size : Nat} {fs : Array Field} (hu : P.underlying T = some (.struct fs)) (hi : (P.info? T).map (·.size) = some size) (hgd : o.guard = none) (x : Operand) (ho : o.op = .load T x)
    (b off : Nat) (cs : List Value) (hx : a.eval x = .pointer (some ⟨b, off, none⟩)) (hl : cs.length = size) (hc : w.rangeAt b off cs) (h : wpList P ops Q rest (a.put o.dst (.agg cs.toArray)) w) : wpList P ops Q (o :: rest) a w :=
  wpList_load_mid hgd T x ho b off hx cs _ hc hu rfl (by rw [hl]; exact hi) h
/-- A struct is stored into a block of its own, whole. -/
theorem st_whole {T : TypeId} {size : Nat} (hi : (P.info? T).map (·.size) = some size) (hgd : o.guard = none) (x y : Operand) (ho : o.op = .store T x y)
    (g : Nat) (cells : List Value) {cur : Array Value} {t : TypeId} (hx : a.eval x = .pointer (some ⟨g, 0, none⟩)) (hy : a.eval y = .agg cells.toArray) (hl : cells.length = size) (hg : w.heap[g]? = some (.cells cur t (0, 0))) (hcur : cur.size = size)
    (h1 : ∀ v ∈ cells, v.oneCell' = true)
    (h : ∀ w', w'.heap[g]? = some (.cells cells.toArray t (0, 0)) → (∀ B w0, B ≤ g → Below B w0 w → Below B w0 w') → w'.heap.size = w.heap.size → (∀ k, k ≠ g → w'.heap[k]? = w.heap[k]?) → wpList P ops Q rest (a.put o.dst undef) w') : wpList P ops Q (o :: rest) a w :=
  wpList_store_mid hgd T x y ho g 0 cells.toArray hx hy (thereBlock hg (by simp [hl, hcur])) (by simpa [hl] using hi) (all_oneCell_toArray h1)
    (h _ (by simpa using setCells_whole cells hg (by omega)) (fun B w0 hB hb => belowCells hB _ _ hb) (setCells_size g _ _ _) (fun k hk => setCells_other hk _ _ _))
end
end Go.Proofs.YtmpbfdfjcfanoaaDoor

/-
  VALUES AS TREES OF WHAT CAN BE READ FROM THEM; what a call owns, by names.
-/
namespace Go.Proofs.YtmpbfdfjcfanoaaDoor
open Go.RowKit Go.Deep
variable {J : World → Prop}

/-- A value: as it is; a struct, several results, by their parts; a pointer into a block that the call owns; a slice that the call owns; a slice, a pointer into one, by what can be read; whatever it is. -/
inductive AV where
  | v (x : Value)
  | agg (cs : List AV)
  | tup (vs : List AV)
  | box (k o : Nat)
  | own (k : Nat)
  | sl (z n : Nat) (cs : List AV)
  | el (cs : List AV) (o : Nat)
  | fr (X : AV)
  | any

/-- What can be read of the value x in the world w; its memory lies in blocks that are ok (F: those that are new). -/
inductive Pu (F : Nat → Prop) (w : World) : (Nat → Prop) → AV → Value → Prop
  | any {ok : Nat → Prop} (x : Value) : Pu F w ok .any x
  | v {ok : Nat → Prop} (x : Value) : Pu F w ok (.v x) x
  | agg {ok : Nat → Prop} {cs : List AV} {vs : Array Value} (hl : vs.size = cs.length) (h : ∀ j (hj : j < cs.length), Pu F w ok cs[j] (vs.getD j undef)) : Pu F w ok (.agg cs) (.agg vs)
  | tup {ok : Nat → Prop} {cs : List AV} {vs : Array Value} (hl : vs.size = cs.length) (h : ∀ j (hj : j < cs.length), Pu F w ok cs[j] (vs.getD j undef)) : Pu F w ok (.tup cs) (.tuple vs)
  | fr {ok : Nat → Prop} {X : AV} {x : Value} (h : Pu F w (fun b => ok b ∧ F b) X x) : Pu F w ok (.fr X) x
  | sl0 {ok : Nat → Prop} {z : Nat} {a : Option Addr} {cap : Nat} (h2 : cap ≤ maxLen) (hz : a = none → cap = 0) : Pu F w ok (.sl z 0 []) (.slice a 0 cap)
  | sl {ok : Nat → Prop} {z n b off cap : Nat} {cs : List AV} {f : Nat → Value} (hc : cs.length = n * z) (h1 : n ≤ cap) (h2 : cap ≤ maxLen) (hb : ok b) (hw : b < w.heap.size)
      (hf : ∀ j, j < cs.length → w.cell? ⟨b, off + j, none⟩ = some (f j)) (h : ∀ j (hj : j < cs.length), Pu F w ok cs[j] (f j)) : Pu F w ok (.sl z n cs) (.slice (some ⟨b, off, none⟩) n cap)
  | el {ok : Nat → Prop} {b off o : Nat} {cs : List AV} {f : Nat → Value} (hb : ok b) (hw : b < w.heap.size)
      (hf : ∀ j, j < cs.length → w.cell? ⟨b, off + j, none⟩ = some (f j)) (h : ∀ j (hj : j < cs.length), Pu F w ok cs[j] (f j)) : Pu F w ok (.el cs o) (.pointer (some ⟨b, off + o, none⟩))

theorem Pu.mono {F F' ok : Nat → Prop} {w w' : World} {X : AV} {x : Value} (h : Pu F w ok X x) : ∀ {ok' : Nat → Prop}, (∀ b, ok b → b < w.heap.size → ok' b ∧ b < w'.heap.size ∧ w'.heap[b]? = w.heap[b]?) → (∀ b, b < w.heap.size → F b → F' b) → Pu F' w' ok' X x := by
  induction h with
  | any x => exact fun _ _ => .any x
  | v x => exact fun _ _ => .v x
  | agg hl _ ih => exact fun hs hF => .agg hl fun j hj => ih j hj hs hF
  | tup hl _ ih => exact fun hs hF => .tup hl fun j hj => ih j hj hs hF
  | fr _ ih => exact fun hs hF => .fr (ih (fun b hb hw => ⟨⟨(hs b hb.1 hw).1, hF b hw hb.2⟩, (hs b hb.1 hw).2⟩) hF)
  | sl0 h2 hz => exact fun _ _ => .sl0 h2 hz
  | sl hc h1 h2 hb hw hf _ ih =>
    intro ok' hs hF
    obtain ⟨a1, a2, a3⟩ := hs _ hb hw
    exact .sl hc h1 h2 a1 a2 (fun j hj => (World.cell?_of_block (w := _) (w' := w') (a := ⟨_, _, none⟩) a3).trans (hf j hj)) fun j hj => ih j hj hs hF
  | el hb hw hf _ ih =>
    intro ok' hs hF
    obtain ⟨a1, a2, a3⟩ := hs _ hb hw
    exact .el a1 a2 (fun j hj => (World.cell?_of_block (w := _) (w' := w') (a := ⟨_, _, none⟩) a3).trans (hf j hj)) fun j hj => ih j hj hs hF
theorem Pu.weak {F ok ok' : Nat → Prop} {w : World} {X : AV} {x : Value} (h : Pu F w ok X x) (hs : ∀ b, ok b → ok' b) : Pu F w ok' X x := h.mono (fun b hb hw => ⟨hs b hb, hw, rfl⟩) fun _ _ h => h
/-- What is new is that without a word on it, too. -/
theorem Pu.strip {F ok : Nat → Prop} {w : World} {X : AV} {x : Value} (h : Pu F w ok (.fr X) x) : Pu F w ok X x := by
  cases h with | fr h => exact h.weak fun _ h => h.1

/-- Where something named lies: nowhere yet (a nil slice); a block, with a slice's room and length. -/
inductive Nm where
  | nil
  | at (b c n : Nat)
abbrev Names := Nat → Option Nm
def Nm.val : Nm → Value
  | .nil => .slice none 0 0
  | .at b c n => .slice (some ⟨b, 0, none⟩) n c
/-- A block without a name. -/
def okOf (ρ : Names) (b : Nat) : Prop := ∀ k c n, ρ k ≠ some (.at b c n)
/-- .. and new, where that is asked. -/
def okR (ρ : Names) (fr : Bool) (B : Nat) (b : Nat) : Prop := okOf ρ b ∧ (fr = true → B ≤ b)

inductive Rel (ρ : Names) (B : Nat) (w : World) : AV → Value → Prop
  | pu {X : AV} {x : Value} (h : Pu (B ≤ ·) w (okOf ρ) X x) : Rel ρ B w X x
  | box {k o b c n : Nat} (h : ρ k = some (.at b c n)) : Rel ρ B w (.box k o) (.pointer (some ⟨b, o, none⟩))
  | own {k : Nat} {nm : Nm} (h : ρ k = some nm) : Rel ρ B w (.own k) nm.val
  | agg {cs : List AV} {vs : Array Value} (hl : vs.size = cs.length) (h : ∀ j (hj : j < cs.length), Rel ρ B w cs[j] (vs.getD j undef)) : Rel ρ B w (.agg cs) (.agg vs)
  | tup {cs : List AV} {vs : Array Value} (hl : vs.size = cs.length) (h : ∀ j (hj : j < cs.length), Rel ρ B w cs[j] (vs.getD j undef)) : Rel ρ B w (.tup cs) (.tuple vs)

/-- A block that the call owns: a variable of its own; the row of a slice of its own. -/
inductive ABlk where
  | box (T : TypeId) (cs : List AV)
  | row (fr : Bool) (e z n : Nat) (cs : List AV)
def BlkR (ρ : Names) (w : World) (B : Nat) (nm : Nm) : ABlk → Prop
  | .box T cs => ∃ b c n vs, nm = .at b c n ∧ w.heap[b]? = some (.cells vs T (0, 0)) ∧ vs.size = cs.length ∧ ∀ j (hj : j < cs.length), Rel ρ B w cs[j] (vs.getD j undef)
  | .row fr e z n cs => ∃ xs, w.ownsRow B e z nm.val n xs ∧ xs.length = cs.length ∧ ∀ j (hj : j < cs.length), Pu (B ≤ ·) w (okR ρ fr B) cs[j] (xs.getD j undef)

structure WF (ρ : Names) (B : Nat) (w : World) : Prop where
  inj : ∀ j k b c d m n, ρ j = some (.at b c m) → ρ k = some (.at b d n) → j = k
  lo : ∀ k b c n, ρ k = some (.at b c n) → B ≤ b ∧ b < w.heap.size

/-- What becomes of the names: nothing; one more; the block of one is written; the slice of one is appended to. -/
inductive Ef where
  | no
  | new (k : Nat) (X : ABlk)
  | st (k : Nat) (X : ABlk)
  | ap (k : Nat) (X : ABlk)
def Ef.old : Ef → Option Nat
  | .st k _ | .ap k _ => some k
  | _ => none
def Ef.name : Ef → Option Nat
  | .no => none
  | .new k _ | .st k _ | .ap k _ => some k
def Ef.blk : Ef → Option (Nat × ABlk)
  | .no => none
  | .new k X | .st k X | .ap k X => some (k, X)

/-- What an operation leaves. -/
structure Post (ρ : Names) (B : Nat) (w : World) (u : AV) (e : Ef) (ρ' : Names) (w' : World) (v : Value) : Prop where
  os : w'.os = w.os
  tape : w'.tape = w.tape
  output : w'.output = w.output
  size : w.heap.size ≤ w'.heap.size
  fr : ∀ b, b < w.heap.size → (∀ k c n, e.old = some k → ρ k ≠ some (.at b c n)) → w'.heap[b]? = w.heap[b]?
  nm : ∀ j, e.name ≠ some j → ρ' j = ρ j
  st : ∀ k X, e = .st k X → ρ' k = ρ k
  made : ∀ k X, e.blk = some (k, X) → ∃ nm, ρ' k = some nm ∧ (∀ b c n, nm = .at b c n → b < w'.heap.size ∧ B ≤ b ∧ (w.heap.size ≤ b ∨ ∃ c' n', ρ k = some (.at b c' n'))) ∧ BlkR ρ' w' B nm X
  re : Rel ρ' B w' u v

/-- THE FOOTPRINT OF AN OPERATION: what its operands are, which named blocks it looks at; what it yields, what it does. -/
def ASpec (P : Program) (J : World → Prop) (o : Oper) (args : List (Operand × AV)) (rd : List (Nat × ABlk)) (u : AV) (e : Ef) : Prop :=
  ∀ (ρ : Names) (B : Nat) (a : Act) (w : World) (K : Act → World → Prop) (Q : Exit → Act → World → Prop), WF ρ B w → B ≤ w.heap.size → (∀ w', Below w.heap.size w w' → J w') → (∀ p ∈ args, Rel ρ B w p.2 (a.eval p.1)) →
    (∀ p ∈ rd, ∃ nm, ρ p.1 = some nm ∧ BlkR ρ w B nm p.2) → (∀ k X, e = .new k X → ρ k = none) → (∀ ρ' w' v, Post ρ B w u e ρ' w' v → K (a.put o.dst v) w') → o.wp P a w K Q

/-- Nothing in it bears the name k. -/
def AV.free1 (k : Nat) : AV → Bool
  | .box j _ => !(j == k)
  | .own j => !(j == k)
  | .agg _ => false
  | .tup _ => false
  | _ => true
def AV.free2 (k : Nat) : AV → Bool
  | .agg cs => cs.all (AV.free1 k)
  | x => x.free1 k
def AV.free3 (k : Nat) : AV → Bool
  | .tup cs => cs.all (AV.free2 k)
  | x => x.free2 k
def AV.kill (k : Nat) (X : AV) : AV := if X.free3 k then X else .any
def ABlk.kill (k : Nat) : ABlk → ABlk
  | .box T cs => .box T (cs.map (AV.kill k))
  | X => X

section
variable {ρ ρ' : Names} {B : Nat} {w w' : World} {X : AV} {x : Value}
theorem Rel.keep (hp : ∀ X x, Pu (B ≤ ·) w (okOf ρ) X x → Pu (B ≤ ·) w' (okOf ρ') X x) (hn : ∀ j nm, ρ j = some nm → ρ' j = some nm) (h : Rel ρ B w X x) : Rel ρ' B w' X x := by
  induction h with
  | pu h => exact .pu (hp _ _ h)
  | box h => exact .box (hn _ _ h)
  | own h => exact .own (hn _ _ h)
  | agg hl _ ih => exact .agg hl ih
  | tup hl _ ih => exact .tup hl ih
theorem Rel.keep1 {k : Nat} (hp : ∀ X x, Pu (B ≤ ·) w (okOf ρ) X x → Pu (B ≤ ·) w' (okOf ρ') X x) (hn : ∀ j nm, j ≠ k → ρ j = some nm → ρ' j = some nm) (hf : X.free1 k = true) (h : Rel ρ B w X x) : Rel ρ' B w' X x := by
  cases h with
  | pu h => exact .pu (hp _ _ h)
  | box h => exact .box (hn _ _ (by simpa [AV.free1] using hf) h)
  | own h => exact .own (hn _ _ (by simpa [AV.free1] using hf) h)
  | agg hl h => cases hf
  | tup hl h => cases hf
theorem Rel.keep2 {k : Nat} (hp : ∀ X x, Pu (B ≤ ·) w (okOf ρ) X x → Pu (B ≤ ·) w' (okOf ρ') X x) (hn : ∀ j nm, j ≠ k → ρ j = some nm → ρ' j = some nm) (hf : X.free2 k = true) (h : Rel ρ B w X x) : Rel ρ' B w' X x := by
  cases h with
  | pu h => exact .pu (hp _ _ h)
  | box h => exact .box (hn _ _ (by simpa [AV.free1, AV.free2] using hf) h)
  | own h => exact .own (hn _ _ (by simpa [AV.free1, AV.free2] using hf) h)
  | agg hl h => exact .agg hl fun j hj => (h j hj).keep1 hp hn (List.all_eq_true.1 hf _ (List.getElem_mem hj))
  | tup hl h => cases hf
theorem Rel.keep3 {k : Nat} (hp : ∀ X x, Pu (B ≤ ·) w (okOf ρ) X x → Pu (B ≤ ·) w' (okOf ρ') X x) (hn : ∀ j nm, j ≠ k → ρ j = some nm → ρ' j = some nm) (hf : X.free3 k = true) (h : Rel ρ B w X x) : Rel ρ' B w' X x := by
  cases h with
  | pu h => exact .pu (hp _ _ h)
  | box h => exact .box (hn _ _ (by simpa [AV.free1, AV.free2, AV.free3] using hf) h)
  | own h => exact .own (hn _ _ (by simpa [AV.free1, AV.free2, AV.free3] using hf) h)
  | agg hl h => exact (Rel.agg hl h).keep2 hp hn hf
  | tup hl h => exact .tup hl fun j hj => (h j hj).keep2 hp hn (List.all_eq_true.1 hf _ (List.getElem_mem hj))
theorem Rel.anyR : Rel ρ B w .any x := .pu (.any x)
theorem Rel.kill {k : Nat} (hp : ∀ X x, Pu (B ≤ ·) w (okOf ρ) X x → Pu (B ≤ ·) w' (okOf ρ') X x) (hn : ∀ j nm, j ≠ k → ρ j = some nm → ρ' j = some nm) (h : Rel ρ B w X x) : Rel ρ' B w' (X.kill k) x := by
  unfold AV.kill
  split
  · rename_i hf; exact h.keep3 hp hn hf
  · exact .anyR
theorem owns_of_block {e z n : Nat} {v : Value} {xs : List Value} (h : w.ownsRow B e z v n xs) (hb : ∀ g, v.ownBlock = some g → w'.heap[g]? = w.heap[g]?) : w'.ownsRow B e z v n xs := by
  refine ⟨h.1, ?_⟩
  rcases h.2 with h2 | ⟨g, cap, cur, rfl, h3, h4, h5⟩
  · exact .inl h2
  · exact .inr ⟨g, cap, cur, rfl, h3, (hb g rfl).trans h4, h5⟩
theorem Nm.own_block {nm : Nm} {g : Nat} (h : nm.val.ownBlock = some g) : ∃ c n, nm = .at g c n := by
  cases nm with
  | nil => cases h
  | «at» b c n => simp [Nm.val, Value.ownBlock] at h; subst h; exact ⟨_, _, rfl⟩
theorem BlkR.keep (hq : ∀ fr X x, Pu (B ≤ ·) w (okR ρ fr B) X x → Pu (B ≤ ·) w' (okR ρ' fr B) X x) {nm : Nm} {Y : ABlk} (hp : ∀ X x, Pu (B ≤ ·) w (okOf ρ) X x → Pu (B ≤ ·) w' (okOf ρ') X x) (hn : ∀ j nm, ρ j = some nm → ρ' j = some nm) (hb : ∀ b c n, nm = .at b c n → w'.heap[b]? = w.heap[b]?) (h : BlkR ρ w B nm Y) : BlkR ρ' w' B nm Y := by
  cases Y with
  | box T cs =>
    obtain ⟨b, c, n, vs, rfl, h1, h2, h3⟩ := h
    exact ⟨b, c, n, vs, rfl, (hb _ _ _ rfl).trans h1, h2, fun j hj => (h3 j hj).keep hp hn⟩
  | row fr e z n cs =>
    obtain ⟨xs, h1, h2, h3⟩ := h
    refine ⟨xs, owns_of_block h1 fun g hg => ?_, h2, fun j hj => hq _ _ _ (h3 j hj)⟩
    obtain ⟨c, n, rfl⟩ := Nm.own_block hg
    exact hb _ _ _ rfl
theorem BlkR.kill (hq : ∀ fr X x, Pu (B ≤ ·) w (okR ρ fr B) X x → Pu (B ≤ ·) w' (okR ρ' fr B) X x) {k : Nat} {nm : Nm} {Y : ABlk} (hp : ∀ X x, Pu (B ≤ ·) w (okOf ρ) X x → Pu (B ≤ ·) w' (okOf ρ') X x) (hn : ∀ j nm, j ≠ k → ρ j = some nm → ρ' j = some nm) (hb : ∀ b c n, nm = .at b c n → w'.heap[b]? = w.heap[b]?) (h : BlkR ρ w B nm Y) : BlkR ρ' w' B nm (Y.kill k) := by
  cases Y with
  | box T cs =>
    obtain ⟨b, c, n, vs, rfl, h1, h2, h3⟩ := h
    exact ⟨b, c, n, vs, rfl, (hb _ _ _ rfl).trans h1, by simpa using h2, fun j hj => by rw [List.getElem_map]; exact (h3 j (by simpa using hj)).kill hp hn⟩
  | row fr e z n cs =>
    obtain ⟨xs, h1, h2, h3⟩ := h
    refine ⟨xs, owns_of_block h1 fun g hg => ?_, h2, fun j hj => hq _ _ _ (h3 j hj)⟩
    obtain ⟨c, n, rfl⟩ := Nm.own_block hg
    exact hb _ _ _ rfl
end
abbrev AHeap := Nat → Option ABlk
/-- The slots: how many; what each holds. -/
structure ATm where
  n : Nat
  f : Nat → AV
def ATm.get (t : ATm) (i : Nat) : AV := if i < t.n then t.f i else .any
/-- Names and blocks are known; the slots hold what they are said to hold; below the world of the call's beginning nothing has turned. -/
structure Sat (J : World → Prop) (w0 : World) (ρ : Names) (h : AHeap) (t : ATm) (a : Act) (w : World) : Prop where
  wf : WF ρ w0.heap.size w
  bel : Below w0.heap.size w0 w
  inv : ∀ w', Below w0.heap.size w0 w' → J w'
  hp : ∀ k X, h k = some X → ∃ nm, ρ k = some nm ∧ BlkR ρ w w0.heap.size nm X
  dom : ∀ k, h k = none → ρ k = none
  tl : a.tmps.size = t.n
  tm : ∀ i, i < t.n → Rel ρ w0.heap.size w (t.f i) (a.tmps.getD i undef)
  df : a.defers = []
def aev (t : ATm) : Operand → AV
  | .tmp i => t.get i
  | .const x => .v x
  | .global g => .v (.pointer (some ⟨g, 0, none⟩))
  | .func f => .v (.func (.func f) #[] #[])
theorem Sat.ev {w0 : World} {ρ : Names} {h : AHeap} {t : ATm} {a : Act} {w : World} (s : Sat J w0 ρ h t a w) (x : Operand) : Rel ρ w0.heap.size w (aev t x) (a.eval x) := by
  cases x with
  | tmp i =>
    simp only [aev, Act.eval, ATm.get]
    split
    · rename_i hi; exact s.tm i hi
    · exact .anyR
  | const x => exact .pu (.v x)
  | global g => exact .pu (.v _)
  | func f => exact .pu (.v _)
def aput (t : ATm) (d : Option Tmp) (u : AV) : ATm := match d with | some i => ⟨t.n, fun j => if j = i then u else t.f j⟩ | none => t
def Ef.heap (e : Ef) (h : AHeap) : AHeap := match e with
  | .no => h
  | .new k X => fun j => if j = k then some X else h j
  | .st k X => fun j => if j = k then some X else h j
  | .ap k X => fun j => if j = k then some X else (h j).map (ABlk.kill k)
def Ef.slots (e : Ef) (t : ATm) : ATm := match e with
  | .ap k _ => ⟨t.n, fun j => (t.f j).kill k⟩
  | _ => t
def AV.mkFr : AV → AV
  | .v x => .v x
  | .fr X => .fr X
  | X => .fr X
/-- As it is, or without the word that it is new. -/
def Fits (X Y : AV) : Prop := X = Y ∨ X = .fr Y ∨ ∃ cs, X = .fr (.agg cs) ∧ Y = .agg (cs.map AV.mkFr)
theorem Pu.mkFr {F ok : Nat → Prop} {w : World} {X : AV} {x : Value} (h : Pu F w (fun b => ok b ∧ F b) X x) : Pu F w ok X.mkFr x := by
  cases h with
  | v x => exact .v x
  | fr h => exact .fr (h.weak fun _ h => ⟨h.1.1, h.2⟩)
  | any x => exact .fr (.any x)
  | agg hl h => exact .fr (.agg hl h)
  | tup hl h => exact .fr (.tup hl h)
  | sl0 h2 hz => exact .fr (.sl0 h2 hz)
  | sl hc h1 h2 hb hw hf h => exact .fr (.sl hc h1 h2 hb hw hf h)
  | el hb hw hf h => exact .fr (.el hb hw hf h)
theorem Fits.rel {ρ : Names} {B : Nat} {w : World} {X Y : AV} {x : Value} (f : Fits X Y) (h : Rel ρ B w X x) : Rel ρ B w Y x := by
  rcases f with rfl | rfl | ⟨cs, rfl, rfl⟩
  · exact h
  · cases h with | pu h => exact .pu h.strip
  · cases h with | pu h => cases h with | fr h => cases h with | agg hl h => exact .pu (.agg (by simpa using hl) fun j hj => by rw [List.getElem_map]; exact (h j (by simpa using hj)).mkFr)
/-- The step of one operation from a state that is known so. -/
def AStep (P : Program) (J : World → Prop) (h : AHeap) (t : ATm) (o : Oper) (u : AV) (e : Ef) : Prop :=
  ∃ args rd, ASpec P J o args rd u e ∧ (∀ p ∈ args, Fits (aev t p.1) p.2) ∧ (∀ p ∈ rd, h p.1 = some p.2) ∧ (∀ k X, e = .new k X → h k = none) ∧ (∀ k, e.old = some k → (h k).isSome = true)
end Go.Proofs.YtmpbfdfjcfanoaaDoor

/-
  ONE STEP, A REGION, THE PIECES OF CODE: from what is known of a state to what is known behind.
-/
namespace Go.Proofs.YtmpbfdfjcfanoaaDoor
open Go.RowKit Go.Deep
variable {J : World → Prop}
section
variable {P : Program} {w0 : World}
theorem put_size (a : Act) (d : Option Tmp) (v : Value) : (a.put d v).tmps.size = a.tmps.size := by cases d <;> simp [Act.put]
theorem put_defers (a : Act) (d : Option Tmp) (v : Value) : (a.put d v).defers = a.defers := by cases d <;> simp [Act.put]
theorem aput_n (t : ATm) (d : Option Tmp) (u : AV) : (aput t d u).n = t.n := by cases d <;> rfl
theorem slots_n (e : Ef) (t : ATm) : (e.slots t).n = t.n := by cases e <;> rfl
theorem rel_put {ρ : Names} {B : Nat} {w : World} {a : Act} {t : ATm} {u : AV} {v : Value} (d : Option Tmp) (hl : a.tmps.size = t.n) (ht : ∀ i, i < t.n → Rel ρ B w (t.f i) (a.tmps.getD i undef)) (hu : Rel ρ B w u v) :
    ∀ i, i < (aput t d u).n → Rel ρ B w ((aput t d u).f i) ((a.put d v).tmps.getD i undef) := by
  cases d with
  | none => exact ht
  | some d =>
    intro i hi
    simp only [aput, Act.put] at hi ⊢
    by_cases e : i = d
    · subst e
      rw [if_pos rfl, Array.getD_eq_getD_getElem?, Array.getElem?_setIfInBounds]
      simp only [if_true]
      rw [if_pos (by omega)]
      exact hu
    · rw [if_neg e, Array.getD_eq_getD_getElem?, Array.getElem?_setIfInBounds_ne (by omega), ← Array.getD_eq_getD_getElem?]
      exact ht i hi
theorem Sat.step {ρ : Names} {h : AHeap} {t : ATm} {a : Act} {w : World} {o : Oper} {u : AV} {e : Ef} {K : Act → World → Prop} {Q : Exit → Act → World → Prop} (s : Sat J w0 ρ h t a w) (ho : AStep P J h t o u e)
    (hk : ∀ ρ' a' w', Sat J w0 ρ' (e.heap h) (aput (e.slots t) o.dst u) a' w' → K a' w') : o.wp P a w K Q := by
  obtain ⟨args, rd, hs, hargs, hrd, hnew, hold⟩ := ho
  refine hs ρ w0.heap.size a w K Q s.wf s.bel.size (fun w' hb => s.inv w' (s.bel.trans (hb.mono s.bel.size))) (fun p hp => (hargs p hp).rel (s.ev p.1)) (fun p hp => s.hp _ _ (hrd p hp)) (fun k X he => s.dom k (hnew k X he)) fun ρ' w' v p => hk ρ' _ w' ?_
  -- what has no name stands as it stood
  have hok : ∀ b, okOf ρ b → b < w.heap.size → okOf ρ' b ∧ b < w'.heap.size ∧ w'.heap[b]? = w.heap[b]? := fun b hb hw => by
    refine ⟨fun k c n hk => ?_, Nat.lt_of_lt_of_le hw p.size, p.fr b hw fun k c n _ => hb k c n⟩
    by_cases hkn : e.name = some k
    · cases hb' : e.blk with
      | none => cases e <;> simp_all [Ef.name, Ef.blk]
      | some q =>
        obtain ⟨k', X'⟩ := q
        obtain rfl : k' = k := by cases e <;> simp_all [Ef.name, Ef.blk]
        obtain ⟨nm, h1, h2, _⟩ := p.made k' X' hb'
        rw [hk] at h1
        cases h1
        obtain ⟨_, _, h3⟩ := h2 b c n rfl
        rcases h3 with h3 | ⟨c', n', h3⟩
        · omega
        · exact hb _ _ _ h3
    · rw [p.nm k hkn] at hk; exact hb _ _ _ hk
  have hpu : ∀ X x, Pu (w0.heap.size ≤ ·) w (okOf ρ) X x → Pu (w0.heap.size ≤ ·) w' (okOf ρ') X x := fun X x hx => hx.mono hok fun _ _ h => h
  have hpq : ∀ fr X x, Pu (w0.heap.size ≤ ·) w (okR ρ fr w0.heap.size) X x → Pu (w0.heap.size ≤ ·) w' (okR ρ' fr w0.heap.size) X x := fun fr X x hx => hx.mono (fun b hb hw => ⟨⟨(hok b hb.1 hw).1, hb.2⟩, (hok b hb.1 hw).2⟩) fun _ _ h => h
  have hblk : ∀ j nm, e.name ≠ some j → ρ j = some nm → ∀ b c n, nm = .at b c n → w'.heap[b]? = w.heap[b]? := fun j nm hj hr b c n hnm => by
    subst hnm
    refine p.fr b (s.wf.lo _ _ _ _ hr).2 fun k c' n' hk hrk => ?_
    have := s.wf.inj _ _ _ _ _ _ _ hr hrk
    subst this
    exact hj (by cases e <;> simp_all [Ef.old, Ef.name])
  have hwf : WF ρ' w0.heap.size w' := by
    constructor
    · intro j k b c d m n hj hk
      have one : ∀ j k c d m n, e.name = some j → e.name ≠ some k → ρ' j = some (.at b c m) → ρ' k = some (.at b d n) → False := fun j k c d m n hjn hkn hj hk => by
        rw [p.nm k hkn] at hk
        cases hb' : e.blk with
        | none => cases e <;> simp_all [Ef.name, Ef.blk]
        | some q =>
          obtain ⟨k', X'⟩ := q
          obtain rfl : k' = j := by cases e <;> simp_all [Ef.name, Ef.blk]
          obtain ⟨nm, h1, h2, _⟩ := p.made k' X' hb'
          rw [hj] at h1
          cases h1
          obtain ⟨_, _, h3⟩ := h2 b c m rfl
          have := (s.wf.lo _ _ _ _ hk).2
          rcases h3 with h3 | ⟨c', n', h3⟩
          · omega
          · have := s.wf.inj _ _ _ _ _ _ _ h3 hk
            subst this
            exact hkn hjn
      by_cases hjn : e.name = some j
      · by_cases hkn : e.name = some k
        · exact Option.some.inj (hjn.symm.trans hkn)
        · exact (one j k c d m n hjn hkn hj hk).elim
      · by_cases hkn : e.name = some k
        · exact (one k j d c n m hkn hjn hk hj).elim
        · rw [p.nm j hjn] at hj; rw [p.nm k hkn] at hk
          exact s.wf.inj _ _ _ _ _ _ _ hj hk
    · intro k b c n hk
      by_cases hkn : e.name = some k
      · cases hb' : e.blk with
        | none => cases e <;> simp_all [Ef.name, Ef.blk]
        | some q =>
          obtain ⟨k', X'⟩ := q
          obtain rfl : k' = k := by cases e <;> simp_all [Ef.name, Ef.blk]
          obtain ⟨nm, h1, h2, _⟩ := p.made k' X' hb'
          rw [hk] at h1
          cases h1
          exact ⟨(h2 b c n rfl).2.1, (h2 b c n rfl).1⟩
      · rw [p.nm k hkn] at hk
        have := s.wf.lo _ _ _ _ hk
        exact ⟨this.1, Nat.lt_of_lt_of_le this.2 p.size⟩
  have hbel : Below w0.heap.size w0 w' := by
    refine s.bel.trans ⟨p.os, p.tape, p.output, p.size, fun b hb => p.fr b (Nat.lt_of_lt_of_le hb s.bel.size) fun k c n _ hk => ?_⟩
    have := (s.wf.lo _ _ _ _ hk).1
    omega
  cases e with
  | no =>
    have hn : ∀ j nm, ρ j = some nm → ρ' j = some nm := fun j nm hj => by rw [p.nm j (by simp [Ef.name])]; exact hj
    refine ⟨hwf, hbel, s.inv, fun k X hk => ?_, fun k hk => by rw [p.nm k (by simp [Ef.name])]; exact s.dom k hk, by rw [put_size, aput_n]; exact s.tl, rel_put _ s.tl (fun i hi => (s.tm i hi).keep hpu hn) p.re, by rw [put_defers]; exact s.df⟩
    obtain ⟨nm, h1, h2⟩ := s.hp k X hk
    exact ⟨nm, hn _ _ h1, h2.keep hpq hpu hn (hblk k nm (by simp [Ef.name]) h1)⟩
  | new k0 X0 =>
    have hn : ∀ j nm, ρ j = some nm → ρ' j = some nm := fun j nm hj => by
      rw [p.nm j (by simp only [Ef.name, ne_eq, Option.some.injEq]; rintro rfl; rw [s.dom _ (hnew _ _ rfl)] at hj; cases hj)]; exact hj
    refine ⟨hwf, hbel, s.inv, fun k X hk => ?_, fun k hk => ?_, by rw [put_size, aput_n]; exact s.tl, rel_put _ s.tl (fun i hi => (s.tm i hi).keep hpu hn) p.re, by rw [put_defers]; exact s.df⟩
    · simp only [Ef.heap] at hk
      by_cases hne : k = k0
      · rw [if_pos hne] at hk
        obtain rfl := Option.some.inj hk
        obtain ⟨nm, h1, _, h3⟩ := p.made _ _ rfl
        exact ⟨nm, by rw [hne]; exact h1, h3⟩
      · rw [if_neg hne] at hk
        obtain ⟨nm, h1, h2⟩ := s.hp k X hk
        exact ⟨nm, hn _ _ h1, h2.keep hpq hpu hn (hblk k nm (by simp [Ef.name]; exact fun e => hne e.symm) h1)⟩
    · simp only [Ef.heap] at hk
      split at hk
      · cases hk
      · rename_i hne
        rw [p.nm k (by simp [Ef.name]; exact fun e => hne e.symm)]; exact s.dom k hk
  | st k0 X0 =>
    have hn : ∀ j nm, ρ j = some nm → ρ' j = some nm := fun j nm hj => by
      by_cases e : j = k0
      · subst e; rw [p.st _ _ rfl]; exact hj
      · rw [p.nm j (by simp [Ef.name]; exact fun h => e h.symm)]; exact hj
    refine ⟨hwf, hbel, s.inv, fun k X hk => ?_, fun k hk => ?_, by rw [put_size, aput_n]; exact s.tl, rel_put _ s.tl (fun i hi => (s.tm i hi).keep hpu hn) p.re, by rw [put_defers]; exact s.df⟩
    · simp only [Ef.heap] at hk
      by_cases hne : k = k0
      · rw [if_pos hne] at hk
        obtain rfl := Option.some.inj hk
        obtain ⟨nm, h1, _, h3⟩ := p.made _ _ rfl
        exact ⟨nm, by rw [hne]; exact h1, h3⟩
      · rw [if_neg hne] at hk
        obtain ⟨nm, h1, h2⟩ := s.hp k X hk
        exact ⟨nm, hn _ _ h1, h2.keep hpq hpu hn (hblk k nm (by simp [Ef.name]; exact fun e => hne e.symm) h1)⟩
    · simp only [Ef.heap] at hk
      split at hk
      · cases hk
      · rename_i hne
        rw [p.nm k (by simp [Ef.name]; exact fun e => hne e.symm)]; exact s.dom k hk
  | ap k0 X0 =>
    have hn : ∀ j nm, j ≠ k0 → ρ j = some nm → ρ' j = some nm := fun j nm hne hj => by
      rw [p.nm j (by simp [Ef.name]; exact fun h => hne h.symm)]; exact hj
    refine ⟨hwf, hbel, s.inv, fun k X hk => ?_, fun k hk => ?_, by rw [put_size, aput_n]; simpa [Ef.slots] using s.tl, rel_put _ (by simpa [Ef.slots] using s.tl) (fun i hi => ?_) p.re, by rw [put_defers]; exact s.df⟩
    · simp only [Ef.heap] at hk
      by_cases hne : k = k0
      · rw [if_pos hne] at hk
        obtain rfl := Option.some.inj hk
        obtain ⟨nm, h1, _, h3⟩ := p.made _ _ rfl
        exact ⟨nm, by rw [hne]; exact h1, h3⟩
      · rw [if_neg hne] at hk
        obtain ⟨Y, hY, rfl⟩ := Option.map_eq_some_iff.1 hk
        obtain ⟨nm, h1, h2⟩ := s.hp k Y hY
        exact ⟨nm, hn _ _ hne h1, h2.kill hpq hpu hn (hblk k nm (by simp [Ef.name]; exact fun e => hne e.symm) h1)⟩
    · simp only [Ef.heap] at hk
      split at hk
      · cases hk
      · rename_i hne
        rw [p.nm k (by simp [Ef.name]; exact fun e => hne e.symm)]; exact s.dom k (by simpa using hk)
    · exact (s.tm i (by simpa [Ef.slots] using hi)).kill hpu hn

/-- In every state of which this is known, Φ. -/
def ETri (J : World → Prop) (w0 : World) (h : AHeap) (t : ATm) (Φ : Act → World → Prop) : Prop := ∀ ρ a w, Sat J w0 ρ h t a w → Φ a w
theorem tri_imp {h : AHeap} {t : ATm} {Φ Ψ : Act → World → Prop} (H : ETri J w0 h t Φ) (hi : ∀ a w, Φ a w → Ψ a w) : ETri J w0 h t Ψ := fun ρ a w s => hi a w (H ρ a w s)
theorem tri_nil {h : AHeap} {t : ATm} {ops : Array Oper} {Q : Exit → Act → World → Prop} (H : ETri J w0 h t (Q .normal)) : ETri J w0 h t (wpList P ops Q []) := H
theorem tri_op {h : AHeap} {t : ATm} {ops : Array Oper} {o : Oper} {rest : List Oper} {Q : Exit → Act → World → Prop} {u : AV} {e : Ef} (hg : o.guard = none) (ho : AStep P J h t o u e)
    (H : ETri J w0 (e.heap h) (aput (e.slots t) o.dst u) (wpList P ops Q rest)) : ETri J w0 h t (wpList P ops Q (o :: rest)) := fun ρ a w s => by
  refine wpList_plain hg fun K hK => ?_
  exact s.step ho fun ρ' a' w' s' => hK _ _ (H ρ' a' w' s')
end
end Go.Proofs.YtmpbfdfjcfanoaaDoor

/-
  WHAT EACH OPERATION DOES TO WHAT IS KNOWN.
-/
namespace Go.Proofs.YtmpbfdfjcfanoaaDoor
open Go.RowKit Go.Deep
variable {J : World → Prop}
section
variable {ρ : Names} {B : Nat} {w : World} {x : Value}
theorem Rel.v_inv {y : Value} (h : Rel ρ B w (.v x) y) : y = x := by cases h with | pu h => cases h with | v _ => rfl
theorem Rel.box_inv {k o : Nat} (h : Rel ρ B w (.box k o) x) : ∃ b c n, ρ k = some (.at b c n) ∧ x = .pointer (some ⟨b, o, none⟩) := by
  cases h with
  | pu h => cases h
  | box h => exact ⟨_, _, _, h, rfl⟩
theorem Rel.own_inv {k : Nat} (h : Rel ρ B w (.own k) x) : ∃ nm, ρ k = some nm ∧ x = nm.val := by
  cases h with
  | pu h => cases h
  | own h => exact ⟨_, h, rfl⟩
theorem Rel.sl_inv {z n : Nat} {cs : List AV} (h : Rel ρ B w (.sl z n cs) x) : Pu (B ≤ ·) w (okOf ρ) (.sl z n cs) x := by cases h with | pu h => exact h
theorem Rel.el_inv {o : Nat} {cs : List AV} (h : Rel ρ B w (.el cs o) x) : Pu (B ≤ ·) w (okOf ρ) (.el cs o) x := by cases h with | pu h => exact h
theorem Rel.agg_inv {cs : List AV} (h : Rel ρ B w (.agg cs) x) : ∃ vs : Array Value, x = .agg vs ∧ vs.size = cs.length ∧ ∀ j (hj : j < cs.length), Rel ρ B w cs[j] (vs.getD j undef) := by
  cases h with
  | pu h => cases h with | agg hl h => exact ⟨_, rfl, hl, fun j hj => .pu (h j hj)⟩
  | agg hl h => exact ⟨_, rfl, hl, h⟩
theorem Rel.tup_inv {cs : List AV} (h : Rel ρ B w (.tup cs) x) : ∃ vs : Array Value, x = .tuple vs ∧ vs.size = cs.length ∧ ∀ j (hj : j < cs.length), Rel ρ B w cs[j] (vs.getD j undef) := by
  cases h with
  | pu h => cases h with | tup hl h => exact ⟨_, rfl, hl, fun j hj => .pu (h j hj)⟩
  | tup hl h => exact ⟨_, rfl, hl, h⟩
end
def ABlk.cells : ABlk → List AV
  | .box _ cs => cs
  | .row _ _ _ _ cs => cs
/-- A cell of a named block. -/
theorem BlkR.cell {ρ : Names} {w : World} {B : Nat} {nm : Nm} {Y : ABlk} (h : BlkR ρ w B nm Y) {j : Nat} (hj : j < Y.cells.length) : ∃ b c n v, nm = .at b c n ∧ w.cell? ⟨b, j, none⟩ = some v ∧ w.frozen? ⟨b, j, none⟩ = false ∧ Rel ρ B w Y.cells[j] v := by
  cases Y with
  | box T cs =>
    obtain ⟨b, c, n, vs, rfl, h1, h2, h3⟩ := h
    have hj' : j < vs.size := by rw [h2]; exact hj
    refine ⟨b, c, n, vs.getD j undef, rfl, ?_, frozenB h1 j, h3 j hj⟩
    rw [cellB h1 j (v := vs.getD j undef) (by simp [Array.getD, hj'])]
  | row fr e z n cs =>
    obtain ⟨xs, h1, h2, h3⟩ := h
    have hj' : j < xs.length := by rw [h2]; exact hj
    obtain ⟨h4, h5⟩ := h1
    rcases h5 with ⟨_, h0⟩ | ⟨g, cap, cur, hv, hb, hg, hn, hm, hs, ht⟩
    · subst h0; rw [Nat.zero_mul] at h4; omega
    · cases nm with
      | nil => cases hv
      | «at» b c m =>
        simp only [Nm.val, Value.slice.injEq, Option.some.injEq, Addr.mk.injEq, and_true] at hv
        obtain ⟨rfl, rfl, rfl⟩ := hv
        refine ⟨b, c, m, xs.getD j undef, rfl, ?_, frozenB hg j, .pu ((h3 j hj).weak fun _ h => h.1)⟩
        have : cur.toList[j]? = xs[j]? := by rw [← ht, List.getElem?_take, if_pos (by rw [← h4]; exact hj')]
        rw [cellB hg j (v := xs.getD j undef) (by rw [← Array.getElem?_toList, this, List.getD_eq_getElem?_getD, List.getElem?_eq_getElem hj']; rfl)]
section
variable {P : Program} {o : Oper}
/-- An operation that only yields a value. -/
theorem aspec_val {args : List (Operand × AV)} {rd : List (Nat × ABlk)} {u : AV} (H : ∀ (ρ : Names) (B : Nat) (a : Act) (w : World), WF ρ B w → (∀ p ∈ args, Rel ρ B w p.2 (a.eval p.1)) → (∀ p ∈ rd, ∃ nm, ρ p.1 = some nm ∧ BlkR ρ w B nm p.2) →
    ∃ v, (execOp a.eval o).run P w = .ok (.value v) w ∧ Rel ρ B w u v) : ASpec P J o args rd u .no := by
  intro ρ B a w K Q hwf hB _ ha hr _ hk
  obtain ⟨v, h1, h2⟩ := H ρ B a w hwf ha hr
  unfold Oper.wp
  rw [h1]
  exact hk ρ w v ⟨rfl, rfl, rfl, Nat.le_refl _, fun _ _ _ => rfl, fun _ _ => rfl, (fun _ _ h => by cases h), (fun _ _ h => by cases h), h2⟩
theorem run_val {s : Sem Value} {w w' : World} {v : Value} (h : s.run P w = .ok v w') : (do pure (Next.value (← s)) : Sem Next).run P w = .ok (.value v) w' := by
  rw [Sem.run_bind, h]; simp
/-- Out of values that are the same in every world. -/

theorem sp_sc (args : List (Operand × Value)) {x : Value} (H : ∀ (a : Act) (w : World), (∀ p ∈ args, a.eval p.1 = p.2) → (execOp a.eval o).run P w = .ok (.value x) w) : ASpec P J o (args.map fun p => (p.1, .v p.2)) [] (.v x) .no :=
  aspec_val fun ρ B a w _ ha _ => ⟨x, H a w fun p hp => (ha (p.1, .v p.2) (List.mem_map_of_mem hp)).v_inv, .pu (.v x)⟩
theorem sp_move (x : Operand) (X : AV) (ho : o.op = .move x) : ASpec P J o [(x, X)] [] X .no :=
  aspec_val fun ρ B a w _ ha _ => ⟨a.eval x, by simp [execOp, ho], ha (x, X) (by simp)⟩
theorem sp_assign (x : Operand) (X : AV) (ho : o.op = .assign x) : ASpec P J o [(x, X)] [] X .no :=
  aspec_val fun ρ B a w _ ha _ => ⟨a.eval x, by simp [execOp, ho], ha (x, X) (by simp)⟩
theorem sp_pick (c x y : Operand) (b : Bool) (X Y : AV) (ho : o.op = .pick c x y) : ASpec P J o [(c, .v (.bool b)), (x, X), (y, Y)] [] (if b then X else Y) .no :=
  aspec_val fun ρ B a w _ ha _ => by
    have h1 := (ha (c, .v (.bool b)) (by simp)).v_inv
    refine ⟨if b then a.eval x else a.eval y, by simp [execOp, ho, h1, asBool], ?_⟩
    cases b
    · exact ha (y, Y) (by simp)
    · exact ha (x, X) (by simp)
/-- The address of a field. -/
theorem run_field {S : TypeId} {fs : Array Field} {f : Nat} {fl : Field} {z : Nat} (hu : P.underlying S = some (.struct fs)) (hf : fs[f]? = some fl) (hz : (P.info? fl.type).map (·.size) = some z) (h0 : 0 < z) (b off : Nat) (w : World) :
    (Instr.fieldAt S (.pointer (some ⟨b, off, none⟩)) f).run P w = .ok (.pointer (some ⟨b, off + fl.offset, none⟩)) w := by
  obtain ⟨i, hi, hiz⟩ := Option.map_eq_some_iff.1 hz
  have : ¬ i.size = 0 := by omega
  simp [Instr.fieldAt, run_underlying hu, hf, Instr.sureAddr, fieldPlace, sizeOf, typeInfo, hi, this, Addr.add_mid]
theorem sp_fieldBox {S : TypeId} {fs : Array Field} {f k off off' z : Nat} {fl : Field} (x : Operand) (ho : o.op = .fieldAddr S x f) (hu : P.underlying S = some (.struct fs)) (hf : fs[f]? = some fl) (hz : (P.info? fl.type).map (·.size) = some z) (h0 : 0 < z) (e : off + fl.offset = off') :
    ASpec P J o [(x, .box k off)] [] (.box k off') .no :=
  aspec_val fun ρ B a w _ ha _ => by
    obtain ⟨b, c, n, h1, h2⟩ := (ha (x, .box k off) (by simp)).box_inv
    refine ⟨_, ?_, .box (o := off') h1⟩
    simp only [execOp, ho, h2]
    exact run_val (by rw [run_field hu hf hz h0, e])
theorem sp_fieldEl {S : TypeId} {fs : Array Field} {f off off' z : Nat} {cs : List AV} {fl : Field} (x : Operand) (ho : o.op = .fieldAddr S x f) (hu : P.underlying S = some (.struct fs)) (hf : fs[f]? = some fl) (hz : (P.info? fl.type).map (·.size) = some z) (h0 : 0 < z) (e : off + fl.offset = off') :
    ASpec P J o [(x, .el cs off)] [] (.el cs off') .no :=
  aspec_val fun ρ B a w _ ha _ => by
    have h := (ha (x, .el cs off) (by simp)).el_inv
    generalize hx : a.eval x = v at h
    cases h with
    | el hb hw hfc hr =>
      rename_i b o1 fc
      refine ⟨_, ?_, .pu (.el (o := off') hb hw hfc hr)⟩
      simp only [execOp, ho, hx]
      exact run_val (by rw [run_field hu hf hz h0, Nat.add_assoc, e])
/-- The address of an element. -/
theorem run_index {t e : TypeId} {z : Nat} (hu : P.underlying t = some (.slice e)) (hz : (P.info? e).map (·.size) = some z) (b off n c : Nat) (ik : IntKind) (i : Int) (h0 : 0 ≤ i) (h1 : i < n) (w : World) :
    (Instr.indexAt t (.slice (some ⟨b, off, none⟩) n c) (.int ik i)).run P w = .ok (.pointer (some ⟨b, off + i.toNat * z, none⟩)) w := by
  obtain ⟨j, hj, hjz⟩ := Option.map_eq_some_iff.1 hz
  simp [Instr.indexAt, asIntOf, run_underlying hu, h0, h1, sizeOf, typeInfo, hj, hjz, Addr.add_mid]
theorem sp_indexSl {t e : TypeId} {z n off : Nat} {cs : List AV} {ik : IntKind} {i : Int} (x y : Operand) (ho : o.op = .indexAddr t x y) (hu : P.underlying t = some (.slice e)) (hz : (P.info? e).map (·.size) = some z) (h0 : 0 ≤ i) (h1 : i < n) (he : i.toNat * z = off) :
    ASpec P J o [(x, .sl z n cs), (y, .v (.int ik i))] [] (.el cs off) .no :=
  aspec_val fun ρ B a w _ ha _ => by
    have h := (ha (x, .sl z n cs) (by simp)).sl_inv
    have hy := (ha (y, .v (.int ik i)) (by simp)).v_inv
    generalize hx : a.eval x = v at h
    cases h with
    | sl0 h2 hz => omega
    | sl hc h1' h2 hb hw hfc hr =>
      refine ⟨_, ?_, .pu (.el (o := off) hb hw hfc hr)⟩
      simp only [execOp, ho, hx, hy]
      exact run_val (by rw [run_index hu hz _ _ _ _ _ _ h0 h1, he])
theorem BlkR.row_at {ρ : Names} {w : World} {B : Nat} {nm : Nm} {fr : Bool} {e z n : Nat} {cs : List AV} (h : BlkR ρ w B nm (.row fr e z n cs)) : (nm = .nil ∧ n = 0 ∧ cs = []) ∨ ∃ b c, nm = .at b c n := by
  obtain ⟨xs, ⟨h4, h5⟩, h2, h3⟩ := h
  cases nm with
  | nil =>
    left
    rcases h5 with ⟨_, h0⟩ | ⟨g, cap, cur, hv, _⟩
    · subst h0; rw [Nat.zero_mul] at h4; exact ⟨rfl, rfl, List.eq_nil_of_length_eq_zero (by omega)⟩
    · cases hv
  | «at» b c m =>
    right
    rcases h5 with ⟨hv, h0⟩ | ⟨g, cap, cur, hv, _⟩
    · cases hv
    · simp only [Nm.val, Value.slice.injEq] at hv
      exact ⟨b, c, by rw [hv.2.1]⟩
theorem sp_indexOwn {t e e' : TypeId} {fr : Bool} {z n off k : Nat} {cs : List AV} {ik : IntKind} {i : Int} (x y : Operand) (ho : o.op = .indexAddr t x y) (hu : P.underlying t = some (.slice e)) (hz : (P.info? e).map (·.size) = some z) (h0 : 0 ≤ i) (h1 : i < n) (he : i.toNat * z = off) :
    ASpec P J o [(x, .own k), (y, .v (.int ik i))] [(k, .row fr e' z n cs)] (.box k off) .no :=
  aspec_val fun ρ B a w _ ha hr => by
    obtain ⟨nm, h2, h3⟩ := (ha (x, .own k) (by simp)).own_inv
    have hy := (ha (y, .v (.int ik i)) (by simp)).v_inv
    obtain ⟨nm', h2', hb⟩ := hr (k, .row fr e' z n cs) (by simp)
    rw [h2] at h2'
    cases h2'
    rcases hb.row_at with ⟨_, h0', _⟩ | ⟨b, c, rfl⟩
    · omega
    · refine ⟨_, ?_, .box (o := off) h2⟩
      simp only [execOp, ho, h3, hy, Nm.val]
      exact run_val (by rw [run_index hu hz _ _ _ _ _ _ h0 h1, he, Nat.zero_add])
/-- Lengths. -/
theorem run_lenS {t e ty : TypeId} (hu : P.underlying t = some (.slice e)) (ad : Option Addr) (n c : Nat) (w : World) : (Builtin.len_ #[t] ty #[.slice ad n c]).run P w = .ok (.int .i64 n) w := by
  simp [Builtin.len_, run_underlying hu, goInt]
theorem sp_lenV {t e : TypeId} {n c : Nat} {ad : Option Addr} (x : Operand) (ho : o.op = .call { callee := .builtin .len, args := #[x], argTypes := #[t] }) (hu : P.underlying t = some (.slice e)) : ASpec P J o [(x, .v (.slice ad n c))] [] (.v (.int .i64 n)) .no :=
  aspec_val fun ρ B a w _ ha _ => by
    have h := (ha (x, .v (.slice ad n c)) (by simp)).v_inv
    refine ⟨_, ?_, .pu (.v _)⟩
    simp [execOp, ho, resolve, invoke, builtin, h, run_lenS hu]
theorem sp_lenSl {t e : TypeId} {z n : Nat} {cs : List AV} (x : Operand) (ho : o.op = .call { callee := .builtin .len, args := #[x], argTypes := #[t] }) (hu : P.underlying t = some (.slice e)) : ASpec P J o [(x, .sl z n cs)] [] (.v (.int .i64 n)) .no :=
  aspec_val fun ρ B a w _ ha _ => by
    have h := (ha (x, .sl z n cs) (by simp)).sl_inv
    generalize hx : a.eval x = v at h
    refine ⟨.int .i64 n, ?_, .pu (.v _)⟩
    cases h with
    | sl0 h2 hz => simp [execOp, ho, resolve, invoke, builtin, hx, run_lenS hu]
    | sl hc h1' h2 hb hw hfc hr => simp [execOp, ho, resolve, invoke, builtin, hx, run_lenS hu]
theorem sp_lenOwn {t e e' : TypeId} {fr : Bool} {z n k : Nat} {cs : List AV} (x : Operand) (ho : o.op = .call { callee := .builtin .len, args := #[x], argTypes := #[t] }) (hu : P.underlying t = some (.slice e)) : ASpec P J o [(x, .own k)] [(k, .row fr e' z n cs)] (.v (.int .i64 n)) .no :=
  aspec_val fun ρ B a w _ ha hr => by
    obtain ⟨nm, h2, h3⟩ := (ha (x, .own k) (by simp)).own_inv
    obtain ⟨nm', h2', hb⟩ := hr (k, .row fr e' z n cs) (by simp)
    rw [h2] at h2'
    cases h2'
    refine ⟨.int .i64 n, ?_, .pu (.v _)⟩
    rcases hb.row_at with ⟨rfl, rfl, _⟩ | ⟨b, c, rfl⟩ <;> simp [execOp, ho, resolve, invoke, builtin, h3, Nm.val, run_lenS hu]
theorem sp_lenStr {t : TypeId} {s : ByteArray} (x : Operand) (ho : o.op = .call { callee := .builtin .len, args := #[x], argTypes := #[t] }) (hu : P.underlying t = some .string) : ASpec P J o [(x, .v (.string s))] [] (.v (.int .i64 s.size)) .no :=
  aspec_val fun ρ B a w _ ha _ => by
    have h := (ha (x, .v (.string s)) (by simp)).v_inv
    refine ⟨_, ?_, .pu (.v _)⟩
    simp [execOp, ho, resolve, invoke, builtin, h, Builtin.len_, run_underlying hu, goInt]
end
end Go.Proofs.YtmpbfdfjcfanoaaDoor

/-
  LOADS, STORES, NEW BLOCKS.
-/
namespace Go.Proofs.YtmpbfdfjcfanoaaDoor
open Go.RowKit Go.Deep
variable {J : World → Prop}
section
variable {P : Program} {o : Oper}
/-- A variable of one cell is read. -/
theorem run_load1 {T : TypeId} {d : TypeDesc} (hu : P.underlying T = some d) (hd : d.isRow = false) {w : World} {b off : Nat} {v : Value} (hc : w.cell? ⟨b, off, none⟩ = some v) : (Instr.loadAt T (.pointer (some ⟨b, off, none⟩))).run P w = .ok v w := by
  have h1 : (isAgg T).run P w = .ok false w := by
    unfold isAgg
    rw [Sem.run_bind, run_underlying hu w]
    cases d <;> simp_all
  simp [Instr.loadAt, Instr.sureAddr, loadVar, Sem.run_bind, h1, load, Sem.run, hc]
theorem sp_loadBox1 {T : TypeId} {d : TypeDesc} {k off : Nat} {Y : ABlk} {X : AV} (x : Operand) (ho : o.op = .load T x) (hu : P.underlying T = some d) (hd : d.isRow = false) (hX : Y.cells[off]? = some X) : ASpec P J o [(x, .box k off)] [(k, Y)] X .no :=
  aspec_val fun ρ B a w _ ha hr => by
    obtain ⟨b, c, n, h1, h2⟩ := (ha (x, .box k off) (by simp)).box_inv
    obtain ⟨nm, h1', hb⟩ := hr (k, Y) (by simp)
    rw [h1] at h1'; cases h1'
    obtain ⟨hj, hX⟩ := List.getElem?_eq_some_iff.1 hX
    obtain ⟨b', c', n', v, e, h3, _, h4⟩ := hb.cell hj
    cases e
    refine ⟨v, ?_, by rw [← hX]; exact h4⟩
    simp only [execOp, ho, h2]
    exact run_val (run_load1 hu hd h3)
theorem sp_loadEl1 {T : TypeId} {d : TypeDesc} {off : Nat} {cs : List AV} {X : AV} (x : Operand) (ho : o.op = .load T x) (hu : P.underlying T = some d) (hd : d.isRow = false) (hX : cs[off]? = some X) : ASpec P J o [(x, .el cs off)] [] X .no :=
  aspec_val fun ρ B a w _ ha _ => by
    have h := (ha (x, .el cs off) (by simp)).el_inv
    generalize hx : a.eval x = v at h
    obtain ⟨hj, hX⟩ := List.getElem?_eq_some_iff.1 hX
    cases h with
    | el hb hw hfc hr =>
      rename_i b o1 fc
      refine ⟨fc off, ?_, .pu (by rw [← hX]; exact hr off hj)⟩
      simp only [execOp, ho, hx]
      exact run_val (run_load1 hu hd (hfc off hj))
/-- A struct is read. -/
theorem run_loadS {T : TypeId} {d : TypeDesc} {z : Nat} (hu : P.underlying T = some d) (hd : d.isRow = true) (hz : (P.info? T).map (·.size) = some z) {w : World} {b off : Nat} (vs : List Value) (hl : vs.length = z) (hc : ∀ j, j < z → w.cell? ⟨b, off + j, none⟩ = some (vs.getD j undef)) :
    (Instr.loadAt T (.pointer (some ⟨b, off, none⟩))).run P w = .ok (.agg vs.toArray) w :=
  run_loadAt_mid w b off T vs d (fun j v hj => by
    obtain ⟨h1, h2⟩ := List.getElem?_eq_some_iff.1 hj
    rw [hc j (by omega), List.getD_eq_getElem?_getD, hj]; rfl) hu hd (by rw [hl]; exact hz)
theorem take_drop_get {cs ds : List AV} {off z : Nat} (hX : (cs.drop off).take z = ds) (hl : ds.length = z) (j : Nat) (hj : j < ds.length) : ∃ h : off + j < cs.length, cs[off + j] = ds[j] := by
  subst hX
  have h1 : off + j < cs.length := by simp at hl hj; omega
  exact ⟨h1, by simp⟩
theorem sp_loadBoxS {T : TypeId} {d : TypeDesc} {k off z : Nat} {Y : ABlk} {ds : List AV} (x : Operand) (ho : o.op = .load T x) (hu : P.underlying T = some d) (hd : d.isRow = true) (hz : (P.info? T).map (·.size) = some z) (h0 : 0 < z) (hX : (Y.cells.drop off).take z = ds) (hl : ds.length = z) : ASpec P J o [(x, .box k off)] [(k, Y)] (.agg ds) .no :=
  aspec_val fun ρ B a w _ ha hr => by
    obtain ⟨b, c, n, h1, h2⟩ := (ha (x, .box k off) (by simp)).box_inv
    obtain ⟨nm, h1', hb⟩ := hr (k, Y) (by simp)
    rw [h1] at h1'; cases h1'
    have H : ∀ j, j < z → ∃ v, w.cell? ⟨b, off + j, none⟩ = some v ∧ ∃ hj : j < ds.length, Rel ρ B w ds[j] v := fun j hj => by
      obtain ⟨h3, h4⟩ := take_drop_get hX hl j (by omega)
      obtain ⟨b', c', n', v, e, h5, _, h6⟩ := hb.cell h3
      cases e
      exact ⟨v, h5, by omega, by rw [← h4]; exact h6⟩
    obtain ⟨f, hf⟩ := choose_lt H
    refine ⟨.agg ((List.range z).map f).toArray, ?_, .agg (by simp [hl]) fun j hj => ?_⟩
    · simp only [execOp, ho, h2]
      exact run_val (run_loadS hu hd hz _ (by simp) fun j hj => by rw [(hf j hj).1]; simp [hj])
    · obtain ⟨_, h⟩ := (hf j (by omega)).2
      have : j < z := by omega
      simpa [Array.getD, this] using h
theorem sp_loadElS {T : TypeId} {d : TypeDesc} {off z : Nat} {cs ds : List AV} (x : Operand) (ho : o.op = .load T x) (hu : P.underlying T = some d) (hd : d.isRow = true) (hz : (P.info? T).map (·.size) = some z) (hX : (cs.drop off).take z = ds) (hl : ds.length = z) : ASpec P J o [(x, .el cs off)] [] (.agg ds) .no :=
  aspec_val fun ρ B a w _ ha _ => by
    have h := (ha (x, .el cs off) (by simp)).el_inv
    generalize hx : a.eval x = v at h
    cases h with
    | el hb hw hfc hr =>
      rename_i b o1 fc
      refine ⟨.agg ((List.range z).map fun j => fc (off + j)).toArray, ?_, .pu (.agg (by simp [hl]) fun j hj => ?_)⟩
      · simp only [execOp, ho, hx]
        exact run_val (run_loadS hu hd hz _ (by simp) fun j hj => by
          obtain ⟨h3, h4⟩ := take_drop_get hX hl j (by omega)
          rw [Nat.add_assoc, hfc _ h3]; simp [hj])
      · obtain ⟨h3, h4⟩ := take_drop_get hX hl j hj
        have h5 := hr _ h3
        rw [h4] at h5
        have : j < z := by omega
        simpa [Array.getD, this] using h5
/-- What may lie in one cell. -/
def AV.cell : AV → Bool
  | .agg _ => false
  | .tup _ => false
  | .any => false
  | .v x => x.oneCell'
  | .fr X => X.cell
  | _ => true
/-- One cell, of a value that is known so. -/
theorem Pu.one {F ok : Nat → Prop} {w : World} {X : AV} {x : Value} (h : Pu F w ok X x) (hc : X.cell = true) : x.oneCell' = true := by
  cases h with
  | any _ => cases hc
  | v x => exact hc
  | agg hl h => cases hc
  | tup hl h => cases hc
  | fr h => exact h.one hc
  | sl0 h2 hz => rfl
  | sl hc h1 h2 hb hw hfc hr => rfl
  | el hb hw hfc hr => rfl
theorem Nm.one (nm : Nm) : nm.val.oneCell' = true := by cases nm <;> rfl
theorem Rel.one {ρ : Names} {B : Nat} {w : World} {X : AV} {x : Value} (h : Rel ρ B w X x) (hc : X.cell = true) : x.oneCell' = true := by
  cases h with
  | pu h => exact h.one hc
  | box h => rfl
  | own h => exact Nm.one _
  | agg hl h => cases hc
  | tup hl h => cases hc
theorem cells_one {x : Value} (h : x.oneCell' = true) : x.cells = #[x] := by cases x <;> first | rfl | cases h
/-- The cells of a value. -/
def AV.cellsOf : AV → List AV
  | .agg cs => cs
  | X => [X]
theorem Rel.cells {ρ : Names} {B : Nat} {w : World} {X : AV} {x : Value} (h : Rel ρ B w X x) (hc : X.cellsOf.all AV.cell = true) : x.cells.size = X.cellsOf.length ∧ (∀ v ∈ x.cells, v.oneCell' = true) ∧ ∀ j (hj : j < X.cellsOf.length), Rel ρ B w X.cellsOf[j] (x.cells.getD j undef) := by
  have one : X.cell = true → X.cellsOf = [X] → x.cells.size = X.cellsOf.length ∧ (∀ v ∈ x.cells, v.oneCell' = true) ∧ ∀ j (hj : j < X.cellsOf.length), Rel ρ B w X.cellsOf[j] (x.cells.getD j undef) := fun h1 h2 => by
    have h3 := cells_one (h.one h1)
    refine ⟨by rw [h2, h3]; rfl, fun v hv => by rw [h3] at hv; simp at hv; rw [hv]; exact h.one h1, fun j hj => ?_⟩
    have : j = 0 := by rw [h2] at hj; simp at hj; exact hj
    subst this
    simp only [h2, h3]
    exact h
  cases X with
  | agg cs =>
    obtain ⟨vs, rfl, hl, hr⟩ := h.agg_inv
    simp only [AV.cellsOf] at hc ⊢
    refine ⟨hl, fun v hv => ?_, hr⟩
    obtain ⟨j, hj, rfl⟩ := Array.getElem_of_mem (show v ∈ vs from hv)
    have := (hr j (by omega)).one (List.all_eq_true.1 hc _ (List.getElem_mem _))
    simpa [Array.getD, hj] using this
  | tup cs => simp [AV.cellsOf, AV.cell] at hc
  | any => simp [AV.cellsOf, AV.cell] at hc
  | v y => exact one (by simpa [AV.cellsOf] using hc) rfl
  | box k o => exact one rfl rfl
  | own k => exact one rfl rfl
  | fr X => exact one (by simpa [AV.cellsOf] using hc) rfl
  | sl z n cs => exact one rfl rfl
  | el cs o => exact one rfl rfl
/-- One name more. -/
def upd (ρ : Names) (k : Nat) (nm : Nm) : Names := fun j => if j = k then some nm else ρ j
theorem upd_same (ρ : Names) (k : Nat) (nm : Nm) : upd ρ k nm k = some nm := if_pos rfl
theorem upd_other {ρ : Names} {k j : Nat} {nm : Nm} (h : j ≠ k) : upd ρ k nm j = ρ j := if_neg h
/-- A new block: what was known stays known. -/
theorem ok_new {ρ : Names} {w : World} {k c n : Nat} {ob : Obj} {b : Nat} (hb : okOf ρ b) (hw : b < w.heap.size) : okOf (upd ρ k (.at w.heap.size c n)) b ∧ b < (w.alloc ob).heap.size ∧ (w.alloc ob).heap[b]? = w.heap[b]? :=
  ⟨fun j c' n' hj => by
    by_cases e : j = k
    · subst e; rw [upd_same] at hj; cases hj; omega
    · rw [upd_other e] at hj; exact hb _ _ _ hj, by simp; omega, heap_alloc_old w _ hw⟩
theorem rel_new {ρ : Names} {B : Nat} {w : World} {k c n : Nat} {ob : Obj} {X : AV} {x : Value} (hk : ρ k = none) (h : Rel ρ B w X x) : Rel (upd ρ k (.at w.heap.size c n)) B (w.alloc ob) X x :=
  h.keep (fun _ _ h => h.mono (fun _ hb hw => ok_new hb hw) fun _ _ h => h) fun j nm hj => by rw [upd_other (by rintro rfl; rw [hk] at hj; cases hj)]; exact hj
/-- An operation that makes one block. -/
theorem aspec_new {args : List (Operand × AV)} {rd : List (Nat × ABlk)} {u : AV} {k : Nat} {X : ABlk}
    (H : ∀ (ρ : Names) (B : Nat) (a : Act) (w : World), WF ρ B w → B ≤ w.heap.size → (∀ p ∈ args, Rel ρ B w p.2 (a.eval p.1)) → (∀ p ∈ rd, ∃ nm, ρ p.1 = some nm ∧ BlkR ρ w B nm p.2) → ρ k = none →
      ∃ v c n cs T, (execOp a.eval o).run P w = .ok (.value v) (w.alloc (.cells cs T)) ∧ Rel (upd ρ k (.at w.heap.size c n)) B (w.alloc (.cells cs T)) u v ∧ BlkR (upd ρ k (.at w.heap.size c n)) (w.alloc (.cells cs T)) B (.at w.heap.size c n) X) : ASpec P J o args rd u (.new k X) := by
  intro ρ B a w K Q hwf hB _ ha hr hn hk
  obtain ⟨v, c, n, cs, T, h1, h2, h3⟩ := H ρ B a w hwf hB ha hr (hn _ _ rfl)
  unfold Oper.wp
  rw [h1]
  refine hk _ _ v ⟨rfl, rfl, rfl, by simp, fun b hb _ => heap_alloc_old w _ hb, fun j hj => upd_other (by rintro rfl; exact hj rfl), (fun _ _ h => by cases h), fun k' X' he => ?_, h2⟩
  cases he
  exact ⟨_, upd_same _ _ _, fun b c' n' e => by cases e; exact ⟨by simp, hB, .inl (Nat.le_refl _)⟩, h3⟩
theorem sp_alloc {T : TypeId} {z : Value} {k : Nat} (ho : o.op = .alloc T) (hz : (P.info? T).bind (·.zero) = some z) : ASpec P J o [] [] (.box k 0) (.new k (.box T (z.cells.toList.map AV.v))) :=
  aspec_new fun ρ B a w _ _ _ _ hk => by
    obtain ⟨i, hi, hiz⟩ := Option.bind_eq_some_iff.1 hz
    refine ⟨.pointer (some ⟨w.heap.size, 0, none⟩), 0, 0, z.cells, T, ?_, .box (upd_same _ _ _), ⟨_, 0, 0, z.cells, rfl, heap_alloc_new w _, by simp, fun j hj => ?_⟩⟩
    · simp only [execOp, ho]
      exact run_val (by simp [Instr.alloc, zeroValue, typeInfo, hi, hiz, newVar, newRow])
    · simp only [List.getElem_map, Array.getElem_toList]
      have : j < z.cells.size := by simpa using hj
      simp only [Array.getD, this, dif_pos]
      exact .pu (.v _)
theorem sp_box {T : TypeId} {X : AV} {k : Nat} (x : Operand) (ho : o.op = .box T x) (hc : X.cellsOf.all AV.cell = true) : ASpec P J o [(x, X)] [] (.box k 0) (.new k (.box T X.cellsOf)) :=
  aspec_new fun ρ B a w _ _ ha _ hk => by
    have h := ha (x, X) (by simp)
    obtain ⟨h1, h2, h3⟩ := h.cells hc
    refine ⟨.pointer (some ⟨w.heap.size, 0, none⟩), 0, 0, (a.eval x).cells, T, ?_, .box (upd_same _ _ _), ⟨_, 0, 0, _, rfl, heap_alloc_new w _, h1, fun j hj => rel_new hk (h3 j hj)⟩⟩
    simp only [execOp, ho]
    exact run_val (by simp [Instr.box, newVar, newRow])
end
end Go.Proofs.YtmpbfdfjcfanoaaDoor

/-
  STORES, SLICES THAT GROW, CALLS.
-/
namespace Go.Proofs.YtmpbfdfjcfanoaaDoor
open Go.RowKit Go.Deep
variable {J : World → Prop}
/-- Some of the values, from the place off on, turned. -/
def setAll : List AV → Nat → List AV → List AV
  | cs, _, [] => cs
  | cs, off, d :: ds => setAll (cs.set off d) (off + 1) ds
theorem setAll_length (ds : List AV) : ∀ (cs : List AV) (off : Nat), (setAll cs off ds).length = cs.length := by
  induction ds with
  | nil => intro cs off; rfl
  | cons d ds ih => intro cs off; rw [setAll, ih, List.length_set]
theorem setAll_get (ds : List AV) : ∀ (cs : List AV) (off : Nat), off + ds.length ≤ cs.length → ∀ j (hj : j < (setAll cs off ds).length), (off ≤ j ∧ ∃ h : j - off < ds.length, (setAll cs off ds)[j] = ds[j - off]) ∨ ((j < off ∨ off + ds.length ≤ j) ∧ ∃ h : j < cs.length, (setAll cs off ds)[j] = cs[j]) := by
  induction ds with
  | nil => intro cs off _ j hj; exact .inr ⟨by simp; omega, hj, rfl⟩
  | cons d ds ih =>
    intro cs off hl j hj
    simp only [List.length_cons] at hl
    rcases ih (cs.set off d) (off + 1) (by rw [List.length_set]; omega) j hj with ⟨h1, h2, h3⟩ | ⟨h1, h2, h3⟩
    · refine .inl ⟨by omega, by simp; omega, Eq.trans (show (setAll cs off (d :: ds))[j] = _ from h3) ?_⟩
      simp only [show j - off = (j - (off + 1)) + 1 by omega, List.getElem_cons_succ]
    · by_cases e : off = j
      · subst e
        refine .inl ⟨Nat.le_refl _, by simp, Eq.trans (show (setAll cs off (d :: ds))[off] = _ from h3) ?_⟩
        simp
      · refine .inr ⟨by simp; omega, by simpa using h2, Eq.trans (show (setAll cs off (d :: ds))[j] = _ from h3) ?_⟩
        rw [List.getElem_set_ne e]
section
variable {P : Program} {o : Oper}
/-- What a store of some cells leaves. -/
theorem run_storeC {T : TypeId} {z : Nat} (hz : (P.info? T).map (·.size) = some z) {w : World} {b off : Nat} (x : Value) (hl : x.cells.size = z) (h1 : ∀ v ∈ x.cells, v.oneCell' = true) (ht : w.there b off z) :
    (Instr.storeAt T (.pointer (some ⟨b, off, none⟩)) x).run P w = .ok () (w.setCells b off x.cells.toList) := by
  have := run_storeCells_cells (P := P) b off x.cells.toList 0 w (fun j hj => by simpa using (ht j (by rw [← hl]; simpa using hj)).1) (fun j hj => by simpa using (ht j (by rw [← hl]; simpa using hj)).2)
    (fun v hv => h1 v (by simpa using hv))
  cases hq : P.info? T with
  | none => simp [hq] at hz
  | some i =>
    have hs : x.cells.size = i.size := by simp [hq] at hz; omega
    simp only [Nat.add_zero] at this
    simp [Instr.storeAt, Instr.sureAddr, storeVar, sizeOf, typeInfo, hq, hs, this]
theorem okOf_setCells {ρ : Names} {w : World} {k b c n off : Nat} {vs : List Value} (hk : ρ k = some (.at b c n)) {b' : Nat} (hb : okOf ρ b') (hw : b' < w.heap.size) : okOf ρ b' ∧ b' < (w.setCells b off vs).heap.size ∧ (w.setCells b off vs).heap[b']? = w.heap[b']? :=
  ⟨hb, by rw [setCells_size]; exact hw, setCells_other (fun e => by subst e; exact hb _ _ _ hk) _ _ _⟩
theorem setCells_os (b : Nat) : ∀ (vs : List Value) (off : Nat) (w : World), (w.setCells b off vs).os = w.os ∧ (w.setCells b off vs).tape = w.tape ∧ (w.setCells b off vs).output = w.output
  | [], _, _ => ⟨rfl, rfl, rfl⟩
  | _ :: r, off, _ => setCells_os b r (off + 1) _
/-- A store into a variable of the call's own. -/
theorem sp_storeBox {T T0 : TypeId} {z k off : Nat} {X : AV} {cs ds : List AV} (x y : Operand) (ho : o.op = .store T x y) (hz : (P.info? T).map (·.size) = some z) (hX : X.cellsOf.all AV.cell = true) (hl : X.cellsOf.length = z) (hr : off + z ≤ cs.length) (hd : setAll cs off X.cellsOf = ds) :
    ASpec P J o [(x, .box k off), (y, X)] [(k, .box T0 cs)] (.v undef) (.st k (.box T0 ds)) := by
  intro ρ B a w K Q hwf hB _ ha hr' _ hk
  obtain ⟨b, c, n, h1, h2⟩ := (ha (x, .box k off) (by simp)).box_inv
  have hy := ha (y, X) (by simp)
  obtain ⟨h3, h4, h5⟩ := hy.cells hX
  obtain ⟨nm, h1', b', c', n', vs, e, hg, hvs, hrel⟩ := hr' (k, .box T0 cs) (by simp)
  rw [h1] at h1'; cases h1'; cases e
  have hsz : (a.eval y).cells.size = z := h3.trans hl
  have hth : w.there b off z := fun j hj => ⟨by simp only [World.cell?, hg]; simp; omega, frozenB hg _⟩
  obtain ⟨cur', hg', hs', hget⟩ := setCells_block (a.eval y).cells.toList off w vs hg (by simp; omega)
  have hrun := run_storeC (P := P) hz (a.eval y) hsz h4 hth
  unfold Oper.wp
  simp only [execOp, ho, h2, Sem.run_bind, hrun, Result.andThen_ok, Sem.run_pure]
  obtain ⟨q1, q2, q3⟩ := setCells_os b (a.eval y).cells.toList off w
  have hlo := hwf.lo _ _ _ _ h1
  have hkeep : ∀ {X : AV} {x : Value}, Rel ρ B w X x → Rel ρ B (w.setCells b off (a.eval y).cells.toList) X x := fun h => h.keep (fun _ _ h => h.mono (fun _ hb hw => okOf_setCells h1 hb hw) fun _ _ h => h) fun _ _ h => h
  refine hk ρ _ undef ⟨q1, q2, q3, by rw [setCells_size]; exact Nat.le_refl _, fun b' _ hne => setCells_other (fun e => by subst e; exact hne k c n rfl h1) _ _ _, fun _ _ => rfl, fun _ _ _ => rfl, fun k' X' he => ?_, .pu (.v _)⟩
  cases he
  refine ⟨_, h1, fun b' c' n' e => by cases e; exact ⟨by rw [setCells_size]; exact hlo.2, hlo.1, .inr ⟨_, _, h1⟩⟩, b, c, n, cur', rfl, hg', by rw [hs', hvs, ← hd, setAll_length], fun j hj => ?_⟩
  subst hd
  have hcur := hget j
  have hjc : j < cs.length := by rw [setAll_length] at hj; exact hj
  have hjs : j < cur'.size := by omega
  rw [Array.getD_eq_getD_getElem?]
  rcases setAll_get X.cellsOf cs off (by omega) j hj with ⟨e1, e2, e3⟩ | ⟨e1, e2, e3⟩
  · rw [e3, hcur, if_pos ⟨e1, by simp; omega⟩]
    have := hkeep (h5 (j - off) e2)
    rw [Array.getD_eq_getD_getElem?] at this
    simpa using this
  · rw [e3, hcur, if_neg (by simp; omega)]
    have := hkeep (hrel j e2)
    rw [Array.getD_eq_getD_getElem?] at this
    exact this
/-- The parts of several results. -/
theorem sp_extract {cs : List AV} {X : AV} {i : Nat} (x : Operand) (ho : o.op = .extract x i) (hX : cs[i]? = some X) : ASpec P J o [(x, .tup cs)] [] X .no :=
  aspec_val fun ρ B a w _ ha _ => by
    obtain ⟨vs, h1, h2, h3⟩ := (ha (x, .tup cs) (by simp)).tup_inv
    obtain ⟨hj, hX⟩ := List.getElem?_eq_some_iff.1 hX
    have hi : i < vs.size := by omega
    refine ⟨vs.getD i undef, ?_, by rw [← hX]; exact h3 i hj⟩
    simp only [execOp, ho, h1]
    exact run_val (by simp [Instr.extract, Array.getD, hi])
/-- A field of a struct at hand: one cell. -/
theorem sp_field1 {S : TypeId} {fs : Array Field} {f : Nat} {fl : Field} {d : TypeDesc} {cs : List AV} {X : AV} (x : Operand) (ho : o.op = .field S x f) (hu : P.underlying S = some (.struct fs)) (hf : fs[f]? = some fl) (hd : P.underlying fl.type = some d) (hr : d.isRow = false) (hX : cs[fl.offset]? = some X) : ASpec P J o [(x, .agg cs)] [] X .no :=
  aspec_val fun ρ B a w _ ha _ => by
    obtain ⟨vs, h1, h2, h3⟩ := (ha (x, .agg cs) (by simp)).agg_inv
    obtain ⟨hj, hX⟩ := List.getElem?_eq_some_iff.1 hX
    have hi : fl.offset < vs.size := by omega
    refine ⟨vs.getD fl.offset undef, ?_, by rw [← hX]; exact h3 _ hj⟩
    have h4 : (isAgg fl.type).run P w = .ok false w := by
      unfold isAgg
      rw [Sem.run_bind, run_underlying hd w]
      cases d <;> simp_all
    simp only [execOp, ho, h1]
    exact run_val (by simp [Instr.field, run_underlying hu, hf, asAgg, part, h4, Array.getD, hi])
/-- A part of a slice that is read from. -/
theorem take_drop_at (cs : List AV) (l m j : Nat) (hj : j < ((cs.drop l).take m).length) : ∃ h : l + j < cs.length, ((cs.drop l).take m)[j] = cs[l + j] := by
  have h1 : l + j < cs.length := by simp at hj; omega
  exact ⟨h1, by simp⟩
theorem sp_sliceSl {t e : TypeId} {z n l h : Nat} {cs ds : List AV} (x : Operand) (lo hi : Option Operand) (ho : o.op = .slice t x lo hi none) (hu : P.underlying t = some (.slice e)) (hz : (P.info? e).map (·.size) = some z)
    (Lo Hi : List (Operand × AV)) (hlo : (lo = none ∧ l = 0 ∧ Lo = []) ∨ ∃ y ik, lo = some y ∧ Lo = [(y, .v (.int ik (l : Int)))]) (hhi : (hi = none ∧ h = n ∧ Hi = []) ∨ ∃ y ik, hi = some y ∧ Hi = [(y, .v (.int ik (h : Int)))]) (h1 : l ≤ h) (h2 : h ≤ n) (hd : (cs.drop (l * z)).take ((h - l) * z) = ds) :
    ASpec P J o ((x, .sl z n cs) :: (Lo ++ Hi)) [] (.sl z (h - l) ds) .no :=
  aspec_val fun ρ B a w _ ha _ => by
    have hx := (ha (x, .sl z n cs) (by simp)).sl_inv
    have hbd : ∀ (ad : Option Addr) (cap : Nat), n ≤ cap → a.eval x = .slice ad n cap → (execOp a.eval o).run P w = .ok (.value (.slice (if cap = l then ad else ad.map (·.add (l * z))) (h - l) (cap - l))) w := fun ad cap hc e => by
      obtain ⟨i, hi', hiz⟩ := Option.map_eq_some_iff.1 hz
      simp only [execOp, ho, e]
      refine run_val ?_
      have r1 : ∀ (v : Value) (ik : IntKind) (m y : Nat) (code : BoundsCode), m ≤ y → v = .int ik (m : Int) → (Instr.sliceBound v y code).run P w = .ok m w := fun v ik m y code hm hv => by
        subst hv
        simp [Instr.sliceBound, asIntOf, hm]
      have hb : (Instr.sliceBounds true n cap (lo.map a.eval) (hi.map a.eval) none).run P w = .ok (l, h, cap) w := by
        rcases hhi with ⟨rfl, rfl, rfl⟩ | ⟨y, ik, rfl, rfl⟩
        · rcases hlo with ⟨rfl, rfl, rfl⟩ | ⟨y', ik', rfl, rfl⟩
          · simp [Instr.sliceBounds]
          · have e2 := (ha (y', .v (.int ik' (l : Int))) (by simp)).v_inv
            simp [Instr.sliceBounds, r1 _ ik' l h .sliceB h1 e2]
        · have e1 := (ha (y, .v (.int ik (h : Int))) (by simp)).v_inv
          rcases hlo with ⟨rfl, rfl, rfl⟩ | ⟨y', ik', rfl, rfl⟩
          · simp [Instr.sliceBounds, r1 _ ik h cap .sliceAcap (by omega) e1]
          · have e2 := (ha (y', .v (.int ik' (l : Int))) (by simp)).v_inv
            simp [Instr.sliceBounds, r1 _ ik h cap .sliceAcap (by omega) e1, r1 _ ik' l h .sliceB h1 e2]
      simp [Instr.sliceAt, Instr.slice, run_underlying hu, hb, sizeOf, typeInfo, hi', hiz]
    generalize hxe : a.eval x = v at hx hbd
    cases hx with
    | sl0 h3 h4 =>
      rename_i ad cap
      have : l = 0 := by omega
      subst this
      have : h = 0 := by omega
      subst this
      refine ⟨_, hbd ad cap (Nat.zero_le _) rfl, .pu ?_⟩
      have : ds = [] := by subst hd; simp
      subst this
      refine .sl0 (by omega) fun e => ?_
      split at e
      · rename_i hc; rw [h4 e]
      · cases ad with
        | none => rw [h4 rfl]
        | some ad => cases e
    | sl hc h3 h4 hb hw hfc hr =>
      rename_i b off cap f
      refine ⟨_, hbd _ cap h3 rfl, .pu ?_⟩
      have hlen : ds.length = (h - l) * z := by
        subst hd
        rw [List.length_take, List.length_drop, hc, ← Nat.sub_mul]
        exact Nat.min_eq_left (Nat.mul_le_mul_right _ (by omega))
      by_cases hcl : cap = l
      · have : h - l = 0 := by omega
        rw [if_pos hcl, this]
        rw [this, Nat.zero_mul] at hlen
        have := List.eq_nil_of_length_eq_zero hlen
        subst this
        exact .sl0 (by omega) fun e => by cases e
      · rw [if_neg hcl]
        simp only [Option.map_some, Addr.add_mid]
        refine .sl (f := fun j => f (l * z + j)) hlen (by omega) (by omega) hb hw (fun j hj => ?_) fun j hj => ?_
        · subst hd
          obtain ⟨h5, _⟩ := take_drop_at cs (l * z) _ j hj
          rw [Nat.add_assoc]; exact hfc _ h5
        · subst hd
          obtain ⟨h5, h6⟩ := take_drop_at cs (l * z) _ j hj
          rw [h6]; exact hr _ h5
end
end Go.Proofs.YtmpbfdfjcfanoaaDoor

/-
  SLICES THAT ARE BUILT AND GROW.
-/
namespace Go.Proofs.YtmpbfdfjcfanoaaDoor
open Go.RowKit Go.Deep
variable {J : World → Prop}
def AV.unfr : AV → AV
  | .fr X => X
  | X => X
/-- New, or no memory at all. -/
def AV.isNew : AV → Bool
  | .v _ => true
  | .fr _ => true
  | _ => false
/-- What lies in a row all of whose memory is new is not told so cell by cell. -/
def rowCells (fr : Bool) (ds : List AV) : List AV := if fr then ds.map AV.unfr else ds
theorem rowCells_length (fr : Bool) (ds : List AV) : (rowCells fr ds).length = ds.length := by cases fr <;> simp [rowCells]
theorem Pu.row {ρ : Names} {fr : Bool} {B : Nat} {w : World} {ds : List AV} (hn : fr = true → ∀ d ∈ ds, d.isNew = true) {j : Nat} (hj : j < (rowCells fr ds).length) (hj' : j < ds.length) {x : Value} (h : Pu (B ≤ ·) w (okOf ρ) ds[j] x) : Pu (B ≤ ·) w (okR ρ fr B) (rowCells fr ds)[j] x := by
  cases fr with
  | false => exact h.weak fun _ h => ⟨h, by simp⟩
  | true =>
    have hd := hn rfl _ (List.getElem_mem hj')
    simp only [rowCells, if_true, List.getElem_map]
    generalize ds[j] = X at h hd
    cases h with
    | v x => exact .v x
    | fr h => exact h.weak fun b h => ⟨h.1, fun _ => h.2⟩
    | any x => cases hd
    | agg hl h => cases hd
    | tup hl h => cases hd
    | sl0 h2 hz => cases hd
    | sl hc h1 h2 hb hw hf h => cases hd
    | el hb hw hf h => cases hd
/-- What is appended: so many elements, side by side. -/
def Src (ρ : Names) (B : Nat) (w : World) (x : Value) (z m : Nat) (ds : List AV) : Prop :=
  ∃ (ad : Option Addr) (c : Nat) (ys : List Value), x = .slice ad m c ∧ ys.length = m * z ∧ ys.length = ds.length ∧ ((ad = none ∧ m = 0 ∧ c = 0) ∨ ∃ a, ad = some a ∧ ∀ j u, ys[j]? = some u → w.cell? (a.add j) = some u) ∧ ∀ j (hj : j < ds.length), Pu (B ≤ ·) w (okOf ρ) ds[j] (ys.getD j undef)
theorem src_sl {ρ : Names} {B : Nat} {w : World} {x : Value} {z m : Nat} {ds : List AV} (h : Rel ρ B w (.sl z m ds) x) : Src ρ B w x z m ds := by
  have hp := h.sl_inv
  clear h
  cases hp with
  | sl0 h2 hz =>
    rename_i a cap
    refine ⟨a, cap, [], rfl, by simp, rfl, ?_, by simp⟩
    cases a with
    | none => exact .inl ⟨rfl, rfl, hz rfl⟩
    | some a => exact .inr ⟨a, rfl, by simp⟩
  | sl hc h1 h2 hb hw hf h =>
    rename_i b off cap f
    refine ⟨_, cap, (List.range ds.length).map f, rfl, by simp [hc], by simp, .inr ⟨_, rfl, fun j u hu => ?_⟩, fun j hj => by simpa [hj] using h j hj⟩
    have hj : j < ds.length := by have := (List.getElem?_eq_some_iff.1 hu).1; simpa using this
    rw [Addr.add_mid, hf j hj]
    simpa [hj] using hu
theorem src_own {ρ : Names} {B : Nat} {w : World} {nm : Nm} {fr : Bool} {e z m : Nat} {ds : List AV} (h : BlkR ρ w B nm (.row fr e z m ds)) : Src ρ B w nm.val z m ds := by
  obtain ⟨xs, h1, h2, h3⟩ := h
  have h4 := h1
  obtain ⟨h5, h6⟩ := h4
  rcases h6 with ⟨e1, e2⟩ | ⟨g, cap, cur, hv, hr⟩
  · subst e2
    exact ⟨none, 0, xs, e1, h5, h2, .inl ⟨rfl, rfl, rfl⟩, fun j hj => (h3 j hj).weak fun _ h => h.1⟩
  · exact ⟨_, cap, xs, hv, h5, h2, .inr ⟨_, rfl, h1.cells (g := g) (by rw [hv]; rfl)⟩, fun j hj => (h3 j hj).weak fun _ h => h.1⟩
theorem owns_nm {w : World} {B e z n : Nat} {v : Value} {xs : List Value} (h : w.ownsRow B e z v n xs) : ∃ nm : Nm, v = nm.val ∧ ∀ b c n', nm = .at b c n' → B ≤ b ∧ b < w.heap.size := by
  rcases h.2 with ⟨rfl, _⟩ | ⟨g, cap, cur, rfl, h3, h4, _⟩
  · exact ⟨.nil, rfl, by simp⟩
  · exact ⟨.at g cap n, rfl, fun b c n' e => by cases e; exact ⟨h3, (Array.getElem?_eq_some_iff.1 h4).1⟩⟩
section
variable {P : Program} {o : Oper}
/-- The sizes of an element. -/
structure Elt (P : Program) (t e z bytes : Nat) : Prop where
  hu : P.underlying t = some (.slice e)
  hi : (P.info? e).map (fun i => (i.size, i.bytes, i.zero.map (·.cells.size))) = some (z, bytes, some z)
  h0 : 0 < z
theorem run_append_src {t e z bytes : Nat} (E : Elt P t e z bytes) {ty : TypeId} {w : World} {B : Nat} {v : Value} {n m : Nat} {xs : List Value} (hown : w.ownsRow B e z v n xs) (hB : B ≤ w.heap.size) {ρ : Names} {B' : Nat} {x : Value} {ds : List AV} (hx : Src ρ B' w x z m ds)
    (h63 : n + m ≤ maxLen) (hby : (n + m) * bytes ≤ 140737488355328) (hc : ∀ d ∈ ds, d.cell = true) :
    ∃ v' w' ys, (Builtin.append_ #[t, t] ty #[v, x]).run P w = .ok v' w' ∧ w'.ownsRow B e z v' (n + m) (xs ++ ys) ∧ w.grownBy w' v.ownBlock ∧ (v'.ownBlock = v.ownBlock ∨ v'.ownBlock = some w.heap.size) ∧ ys.length = ds.length ∧ ∀ j (hj : j < ds.length), Pu (B' ≤ ·) w (okOf ρ) ds[j] (ys.getD j undef) := by
  obtain ⟨ad, c, ys, rfl, h1, h2, h3, h4⟩ := hx
  obtain ⟨i, hi, hj⟩ := Option.map_eq_some_iff.1 E.hi
  simp only [Prod.mk.injEq] at hj
  obtain ⟨j1, j2, j3⟩ := hj
  obtain ⟨zv, hz1, hz2⟩ := Option.map_eq_some_iff.1 j3
  have hone : ∀ u ∈ ys, u.oneCell' = true := fun u hu => by
    obtain ⟨j, hj, rfl⟩ := List.getElem_of_mem hu
    have := (h4 j (by omega)).one (hc _ (List.getElem_mem _))
    simpa [hj] using this
  rcases h3 with ⟨rfl, rfl, rfl⟩ | ⟨a, rfl, h3⟩
  · have hy : ys = [] := List.eq_nil_of_length_eq_zero (by simpa using h1)
    subst hy
    refine ⟨v, w, [], ?_, by simpa using hown, ⟨rfl, rfl, rfl, Nat.le_refl _, fun _ _ _ => rfl⟩, .inl rfl, h2, h4⟩
    rcases hown.2 with ⟨rfl, rfl⟩ | ⟨g, cap, cur, rfl, _, _, hn, _⟩
    · simp [Builtin.append_, run_underlying E.hu, sizeOf, typeInfo, hi, Builtin.lenOf, Builtin.firstCells]
    · have : n + 0 ≤ cap := hn
      simp [Builtin.append_, run_underlying E.hu, sizeOf, typeInfo, hi, Builtin.lenOf, Builtin.firstCells, hn, Builtin, storeCells]
  · obtain ⟨v', w', r1, r2, r3, _, r5⟩ := run_append_own_at (P := P) w B t ty e i zv z bytes E.hu hi hz1 j1 j2 hz2 E.h0 v n xs hown a m c ys h1 h3 hone h63 hby hB
    exact ⟨v', w', ys, r1, r2, r3, r5, h2, h4⟩
theorem getD_append (xs ys : List Value) (j : Nat) : (xs ++ ys).getD j undef = if j < xs.length then xs.getD j undef else ys.getD (j - xs.length) undef := by
  simp only [List.getD_eq_getElem?_getD]
  split
  · rw [List.getElem?_append_left (by assumption)]
  · rw [List.getElem?_append_right (by omega)]
/-- What an append leaves, for a slice that the call owns, or none yet. -/
theorem append_post {t e z bytes : Nat} (E : Elt P t e z bytes) {ty : TypeId} {ρ : Names} {B : Nat} {w : World} (hwf : WF ρ B w) (hB : B ≤ w.heap.size) {v x : Value} {fr : Bool} {n m k : Nat} {cs ds : List AV} {nm : Nm} (hv : v = nm.val) (hk : ρ k = some nm ∨ (ρ k = none ∧ nm = .nil)) (hb : BlkR ρ w B nm (.row fr e z n cs)) (hx : Src ρ B w x z m ds)
    (hn : fr = true → ∀ d ∈ ds, d.isNew = true) (h63 : n + m ≤ maxLen) (hby : (n + m) * bytes ≤ 140737488355328) (hc : ∀ d ∈ ds, d.cell = true) {ef : Ef} (hef : ef = .ap k (.row fr e z (n + m) (cs ++ rowCells fr ds)) ∨ (ef = .new k (.row fr e z (n + m) (cs ++ rowCells fr ds)) ∧ nm = .nil)) :
    ∃ v' w' ρ', (Builtin.append_ #[t, t] ty #[v, x]).run P w = .ok v' w' ∧ Post ρ B w (.own k) ef ρ' w' v' := by
  subst hv
  obtain ⟨xs, h1, h2, h3⟩ := hb
  obtain ⟨v', w', ys, r1, r2, r3, r4, r5, r6⟩ := run_append_src E (ty := ty) h1 hB hx h63 hby hc
  obtain ⟨nm', rfl, hnm⟩ := owns_nm r2
  refine ⟨_, w', upd ρ k nm', r1, ?_⟩
  have hname : ef.name = some k := by rcases hef with rfl | ⟨rfl, _⟩ <;> rfl
  have hblk : ef.blk = some (k, .row fr e z (n + m) (cs ++ rowCells fr ds)) := by rcases hef with rfl | ⟨rfl, _⟩ <;> rfl
  have hold : ∀ b c n', nm' = .at b c n' → w.heap.size ≤ b ∨ ∃ c' n', nm = .at b c' n' := fun b c n' e => by
    subst e
    rcases r4 with r4 | r4
    · obtain ⟨c', n'', e⟩ := Nm.own_block (nm := nm) (g := b) (by rw [← r4]; rfl)
      exact .inr ⟨_, _, e⟩
    · simp [Nm.val, Value.ownBlock] at r4
      left; omega
  have hold' : ∀ b c n', nm' = .at b c n' → w.heap.size ≤ b ∨ ∃ c' n', ρ k = some (.at b c' n') := fun b c n' e => by
    rcases hold b c n' e with h | ⟨c', n'', h⟩
    · exact .inl h
    · rcases hk with hk | ⟨_, rfl⟩
      · exact .inr ⟨c', n'', by rw [hk, h]⟩
      · cases h
  have hok : ∀ b, okOf ρ b → b < w.heap.size → okOf (upd ρ k nm') b ∧ b < w'.heap.size ∧ w'.heap[b]? = w.heap[b]? := fun b hb hw => by
    refine ⟨fun j c n' hj => ?_, Nat.lt_of_lt_of_le hw r3.size, r3.block b hw fun e => ?_⟩
    · by_cases e : j = k
      · subst e
        rw [upd_same] at hj
        rcases hold' _ _ _ (Option.some.inj hj) with h | ⟨_, _, h⟩
        · omega
        · exact hb _ _ _ h
      · rw [upd_other e] at hj; exact hb _ _ _ hj
    · obtain ⟨c', n', e'⟩ := Nm.own_block e.symm
      rcases hk with hk | ⟨_, h⟩
      · exact hb _ _ _ (hk.trans (by rw [e']))
      · rw [h] at e'; cases e'
  have hpr : ∀ X y, Pu (B ≤ ·) w (okR ρ fr B) X y → Pu (B ≤ ·) w' (okR (upd ρ k nm') fr B) X y := fun X y h => h.mono (fun b hb hw => ⟨⟨(hok b hb.1 hw).1, hb.2⟩, (hok b hb.1 hw).2⟩) fun _ _ h => h
  refine ⟨r3.os, r3.tape, r3.output, r3.size, fun b hb hne => r3.block b hb fun e' => ?_, fun j hj => upd_other fun e => hj (by rw [hname, e]), (fun k' X he => by rcases hef with rfl | ⟨rfl, _⟩ <;> cases he), fun k' X he => ?_, .own (upd_same _ _ _)⟩
  · obtain ⟨c', n', e''⟩ := Nm.own_block e'.symm
    rcases hef with rfl | ⟨rfl, h⟩
    · rcases hk with hk | ⟨_, h⟩
      · exact hne k c' n' rfl (hk.trans (by rw [e'']))
      · rw [h] at e''; cases e''
    · rw [h] at e''; cases e''
  · rw [hblk] at he
    cases he
    refine ⟨nm', upd_same _ _ _, fun b c n' e => ⟨(hnm b c n' e).2, (hnm b c n' e).1, hold' b c n' e⟩, xs ++ ys, r2, by simp [rowCells_length, h2, r5], fun j hj => ?_⟩
    rw [getD_append]
    by_cases hjc : j < cs.length
    · rw [if_pos (by omega), List.getElem_append_left hjc]
      exact hpr _ _ (h3 j hjc)
    · have hj2 : j - cs.length < ds.length := by simp [rowCells_length] at hj; omega
      rw [if_neg (by omega), List.getElem_append_right (by omega), h2]
      exact hpr _ _ (Pu.row hn (by rw [rowCells_length]; exact hj2) hj2 (r6 _ hj2))
theorem upon_append {a : Act} {w w' : World} {K : Act → World → Prop} {Q : Exit → Act → World → Prop} {t : TypeId} {s x : Operand} (ho : o.op = .call { callee := .builtin .append, args := #[s, x], argTypes := #[t, t] }) {v : Value}
    (hr : (Builtin.append_ #[t, t] o.type #[a.eval s, a.eval x]).run P w = .ok v w') (h : K (a.put o.dst v) w') : o.wp P a w K Q := by
  unfold Oper.wp execOp
  simp only [ho, resolve, invoke, builtin, Sem.run_bind, Sem.run_pure, Result.andThen_ok, List.map_toArray, List.map_cons, List.map_nil, hr]
  exact h
theorem sp_append {t e z bytes : Nat} (E : Elt P t e z bytes) {fr : Bool} {n m k : Nat} {cs ds : List AV} (s x : Operand) (ho : o.op = .call { callee := .builtin .append, args := #[s, x], argTypes := #[t, t] })
    (hn : fr = true → ∀ d ∈ ds, d.isNew = true) (h63 : n + m ≤ maxLen) (hby : (n + m) * bytes ≤ 140737488355328) (hc : ∀ d ∈ ds, d.cell = true) {es : List AV} (hes : cs ++ rowCells fr ds = es) :
    ASpec P J o [(s, .own k), (x, .sl z m ds)] [(k, .row fr e z n cs)] (.own k) (.ap k (.row fr e z (n + m) es)) := by
  subst hes
  intro ρ B a w K Q hwf hB _ ha hr _ hk
  obtain ⟨nm, h1, h2⟩ := (ha (s, .own k) (by simp)).own_inv
  obtain ⟨nm', h1', hb⟩ := hr (k, .row fr e z n cs) (by simp)
  rw [h1] at h1'; cases h1'
  obtain ⟨v', w', ρ', q1, q2⟩ := append_post E (ty := o.type) hwf hB h2 (.inl h1) hb (src_sl (ha (x, .sl z m ds) (by simp))) hn h63 hby hc (.inl rfl)
  exact upon_append ho q1 (hk _ _ _ q2)
theorem sp_appendOwn {t e z bytes : Nat} (E : Elt P t e z bytes) {fr fr' : Bool} {n m k k' : Nat} {e' : TypeId} {cs ds : List AV} (s x : Operand) (ho : o.op = .call { callee := .builtin .append, args := #[s, x], argTypes := #[t, t] })
    (hn : fr = true → ∀ d ∈ ds, d.isNew = true) (h63 : n + m ≤ maxLen) (hby : (n + m) * bytes ≤ 140737488355328) (hc : ∀ d ∈ ds, d.cell = true) {es : List AV} (hes : cs ++ rowCells fr ds = es) :
    ASpec P J o [(s, .own k), (x, .own k')] [(k, .row fr e z n cs), (k', .row fr' e' z m ds)] (.own k) (.ap k (.row fr e z (n + m) es)) := by
  subst hes
  intro ρ B a w K Q hwf hB _ ha hr _ hk
  obtain ⟨nm, h1, h2⟩ := (ha (s, .own k) (by simp)).own_inv
  obtain ⟨nm', h1', hb⟩ := hr (k, .row fr e z n cs) (by simp)
  rw [h1] at h1'; cases h1'
  obtain ⟨nn, g1, g2⟩ := (ha (x, .own k') (by simp)).own_inv
  obtain ⟨nn', g1', gb⟩ := hr (k', .row fr' e' z m ds) (by simp)
  rw [g1] at g1'; cases g1'
  obtain ⟨v', w', ρ', q1, q2⟩ := append_post E (ty := o.type) hwf hB h2 (.inl h1) hb (show Src ρ B w (a.eval x) z m ds by rw [g2]; exact src_own gb) hn h63 hby hc (.inl rfl)
  exact upon_append ho q1 (hk _ _ _ q2)
theorem blk_nil (ρ : Names) (w : World) (B : Nat) (fr : Bool) (e z : Nat) : BlkR ρ w B .nil (.row fr e z 0 []) := ⟨[], World.ownsRow_nil _ _ _ _, rfl, by simp⟩
theorem sp_appendNil {t e z bytes : Nat} (E : Elt P t e z bytes) (fr : Bool) {m k : Nat} {ds : List AV} (s x : Operand) (ho : o.op = .call { callee := .builtin .append, args := #[s, x], argTypes := #[t, t] })
    (hn : fr = true → ∀ d ∈ ds, d.isNew = true) (h63 : m ≤ maxLen) (hby : m * bytes ≤ 140737488355328) (hc : ∀ d ∈ ds, d.cell = true) {es : List AV} (hes : rowCells fr ds = es) :
    ASpec P J o [(s, .v (.slice none 0 0)), (x, .sl z m ds)] [] (.own k) (.new k (.row fr e z m es)) := by
  subst hes
  intro ρ B a w K Q hwf hB _ ha hr hnew hk
  have h2 := (ha (s, .v (.slice none 0 0)) (by simp)).v_inv
  obtain ⟨v', w', ρ', q1, q2⟩ := append_post E (ty := o.type) (k := k) hwf hB (h2.trans (show _ = Nm.nil.val from rfl)) (.inr ⟨hnew _ _ rfl, rfl⟩) (blk_nil ρ w B fr e z) (src_sl (ha (x, .sl z m ds) (by simp))) hn (by omega) (by simpa using hby) hc (.inr ⟨rfl, rfl⟩)
  have q3 : Post ρ B w (.own k) (.new k (.row fr e z m (rowCells fr ds))) ρ' w' v' := by simpa using q2
  exact upon_append ho q1 (hk _ _ _ q3)
theorem sp_appendNilOwn {t e z bytes : Nat} (E : Elt P t e z bytes) (fr : Bool) {fr' : Bool} {e' : TypeId} {m k k' : Nat} {ds : List AV} (s x : Operand) (ho : o.op = .call { callee := .builtin .append, args := #[s, x], argTypes := #[t, t] })
    (hn : fr = true → ∀ d ∈ ds, d.isNew = true) (h63 : m ≤ maxLen) (hby : m * bytes ≤ 140737488355328) (hc : ∀ d ∈ ds, d.cell = true) {es : List AV} (hes : rowCells fr ds = es) :
    ASpec P J o [(s, .v (.slice none 0 0)), (x, .own k')] [(k', .row fr' e' z m ds)] (.own k) (.new k (.row fr e z m es)) := by
  subst hes
  intro ρ B a w K Q hwf hB _ ha hr hnew hk
  have h2 := (ha (s, .v (.slice none 0 0)) (by simp)).v_inv
  obtain ⟨nn, g1, g2⟩ := (ha (x, .own k') (by simp)).own_inv
  obtain ⟨nn', g1', gb⟩ := hr (k', .row fr' e' z m ds) (by simp)
  rw [g1] at g1'; cases g1'
  obtain ⟨v', w', ρ', q1, q2⟩ := append_post E (ty := o.type) (k := k) hwf hB (h2.trans (show _ = Nm.nil.val from rfl)) (.inr ⟨hnew _ _ rfl, rfl⟩) (blk_nil ρ w B fr e z) (show Src ρ B w (a.eval x) z m ds by rw [g2]; exact src_own gb) hn (by omega) (by simpa using hby) hc (.inr ⟨rfl, rfl⟩)
  have q3 : Post ρ B w (.own k) (.new k (.row fr e z m (rowCells fr ds))) ρ' w' v' := by simpa using q2
  exact upon_append ho q1 (hk _ _ _ q3)
end
end Go.Proofs.YtmpbfdfjcfanoaaDoor

/-
  CONTRACTS, CALLS, THE PIECES OF CODE.
-/
namespace Go.Proofs.YtmpbfdfjcfanoaaDoor
open Go.RowKit Go.Deep
variable {J : World → Prop}
/-- THE CONTRACT OF A FUNCTION: of arguments that can be read so it makes a result that can be read so, all of whose memory is new; what was there stays. -/
def Ctr (P : Program) (J : World → Prop) (f : FuncId) (args : List AV) (u : AV) : Prop :=
  ∀ (w : World) (vs : Array Value), (∀ w', Below w.heap.size w w' → J w') → vs.size = args.length → (∀ j (hj : j < args.length), Pu (fun _ => True) w (fun b => b < w.heap.size) args[j] (vs.getD j undef)) →
    Calls P f vs w fun e w' => ∃ v, e = .returned v ∧ Pu (w.heap.size ≤ ·) w' (w.heap.size ≤ ·) u v ∧ Below w.heap.size w w'
/-- What a callee sees of a value: what the call owns, by what can be read. -/
def AV.view1 (rd : List (Nat × ABlk)) : AV → AV
  | .own k => match rd.find? (fun p => p.1 == k) with | some (_, .row _ _ z n cs) => .sl z n cs | _ => .any
  | .box _ _ => .any
  | .fr X => X
  | X => X
/-- Not a struct, no results. -/
def AV.flat1 : AV → Bool
  | .agg _ => false
  | .tup _ => false
  | _ => true
def AV.flat2 : AV → Bool
  | .agg cs => cs.all AV.flat1
  | .tup _ => false
  | _ => true
def AV.view (rd : List (Nat × ABlk)) : AV → AV
  | .agg cs => .agg (cs.map (AV.view1 rd))
  | X => X.view1 rd
theorem erow_sl {ρ : Names} {B : Nat} {w : World} {nm : Nm} {fr : Bool} {e z n : Nat} {cs : List AV} (hb : BlkR ρ w B nm (.row fr e z n cs)) {F ok : Nat → Prop} (hn : ∀ b c m, nm = .at b c m → ok b) (hok : ∀ b, okR ρ fr B b → b < w.heap.size → ok b) (hF : ∀ b, b < w.heap.size → B ≤ b → F b) : Pu F w ok (.sl z n cs) nm.val := by
  obtain ⟨xs, h1, h2, h3⟩ := hb
  have h4 := h1
  obtain ⟨h5, h6⟩ := h4
  have hp : ∀ j (hj : j < cs.length), Pu F w ok cs[j] (xs.getD j undef) := fun j hj => (h3 j hj).mono (fun b hb hw => ⟨hok b hb hw, hw, rfl⟩) fun b hw h => hF b hw h
  cases nm with
  | nil =>
    rcases h6 with ⟨_, rfl⟩ | ⟨g, cap, cur, hv, _⟩
    · have : cs = [] := List.eq_nil_of_length_eq_zero (by rw [← h2, h5, Nat.zero_mul])
      subst this
      exact .sl0 (by simp [maxLen]) (by simp)
    · cases hv
  | «at» b c m =>
    rcases h6 with ⟨hv, _⟩ | ⟨g, cap, cur, hv, hB, hg, hn1, hm, hs, ht⟩
    · cases hv
    · simp only [Nm.val, Value.slice.injEq, Option.some.injEq, Addr.mk.injEq, and_true] at hv
      obtain ⟨rfl, rfl, rfl⟩ := hv
      refine .sl (b := b) (off := 0) (f := fun j => xs.getD j undef) (by omega) hn1 hm (hn _ _ _ rfl) (Array.getElem?_eq_some_iff.1 hg).1 (fun j hj => ?_) hp
      have hj' : j < xs.length := by omega
      have : cur.toList[j]? = xs[j]? := by rw [← ht, List.getElem?_take, if_pos (by rw [← h5]; exact hj')]
      rw [Nat.zero_add, cellB hg j (v := xs.getD j undef) (by rw [← Array.getElem?_toList, this, List.getD_eq_getElem?_getD, List.getElem?_eq_getElem hj']; rfl)]
theorem Pu.lift {F ok : Nat → Prop} {w : World} {X : AV} {x : Value} (h : Pu F w ok X x) : Pu (fun _ => True) w (fun b => b < w.heap.size) X x := h.mono (fun _ _ hw => ⟨hw, hw, rfl⟩) fun _ _ _ => trivial
theorem Rel.view1 {ρ : Names} {B : Nat} {w : World} {rd : List (Nat × ABlk)} (hwf : WF ρ B w) (hr : ∀ p ∈ rd, ∃ nm, ρ p.1 = some nm ∧ BlkR ρ w B nm p.2) {X : AV} {x : Value} (h : Rel ρ B w X x) (hf : X.flat1 = true) : Pu (fun _ => True) w (fun b => b < w.heap.size) (X.view1 rd) x := by
  cases h with
  | pu h =>
    cases h with
    | fr h => exact h.lift
    | any x => exact .any x
    | v x => exact .v x
    | agg hl h => exact (Pu.agg hl h).lift
    | tup hl h => exact (Pu.tup hl h).lift
    | sl0 h2 hz => exact .sl0 h2 hz
    | sl hc h1 h2 hb hw hq h => exact (Pu.sl hc h1 h2 hb hw hq h).lift
    | el hb hw hq h => exact (Pu.el hb hw hq h).lift
  | box h => exact .any _
  | own h =>
    rename_i k nm
    simp only [AV.view1]
    split
    · rename_i q fr e z n cs hq
      obtain ⟨nm', h1, h2⟩ := hr _ (List.mem_of_find?_eq_some hq)
      have hqk : q = k := by have := List.find?_some hq; simpa using this
      rw [hqk, h] at h1
      cases h1
      exact erow_sl h2 (fun b c m e => by subst e; exact (hwf.lo _ _ _ _ h).2) (fun b _ hw => hw) fun _ _ _ => trivial
    · exact .any _
  | agg hl h => cases hf
  | tup hl h => cases hf
theorem Rel.view {ρ : Names} {B : Nat} {w : World} {rd : List (Nat × ABlk)} (hwf : WF ρ B w) (hr : ∀ p ∈ rd, ∃ nm, ρ p.1 = some nm ∧ BlkR ρ w B nm p.2) {X : AV} {x : Value} (h : Rel ρ B w X x) (hf : X.flat2 = true) : Pu (fun _ => True) w (fun b => b < w.heap.size) (X.view rd) x := by
  cases X with
  | agg cs =>
    obtain ⟨vs, rfl, hl, hc⟩ := h.agg_inv
    exact .agg (by simpa using hl) fun j hj => by
      rw [List.getElem_map]
      exact (hc j (by simpa using hj)).view1 hwf hr (List.all_eq_true.1 hf _ (List.getElem_mem _))
  | tup cs => cases hf
  | v y => exact h.view1 hwf hr rfl
  | box k o => exact h.view1 hwf hr rfl
  | own k => exact h.view1 hwf hr rfl
  | sl z n cs => exact h.view1 hwf hr rfl
  | el cs o => exact h.view1 hwf hr rfl
  | fr X => exact h.view1 hwf hr rfl
  | any => exact h.view1 hwf hr rfl
/-- A result whose memory is new. -/
def AV.res : AV → AV
  | .tup cs => .tup (cs.map AV.mkFr)
  | X => X.mkFr
theorem Pu.res {F ok : Nat → Prop} {w : World} {X : AV} {x : Value} (h : Pu F w (fun b => ok b ∧ F b) X x) : Pu F w ok X.res x := by
  cases X with
  | tup cs => cases h with | tup hl h => exact .tup (by simpa using hl) fun j hj => by rw [List.getElem_map]; exact (h j (by simpa using hj)).mkFr
  | v y => exact h.mkFr
  | agg cs => exact h.mkFr
  | box k o => exact h.mkFr
  | own k => exact h.mkFr
  | sl z n cs => exact h.mkFr
  | el cs o => exact h.mkFr
  | fr X => exact h.mkFr
  | any => exact h.mkFr
section
variable {P : Program} {o : Oper}
theorem upon_call {a : Act} {w : World} {K : Act → World → Prop} {Q : Exit → Act → World → Prop} {c : Operand} {xs : Array Operand} {ats : Array TypeId} {f : FuncId} (ho : o.op = .call { callee := .value c, args := xs, argTypes := ats }) (hc : a.eval c = .func (.func f) #[] #[])
    (hf : (P.funcs[f]?).map (fun fn => (fn.name == "runtime.NumGoroutine") || fn.body.isNone) = some false) (h : Calls P f (xs.map a.eval) w fun e w' => ∃ v, e = .returned v ∧ K (a.put o.dst v) w') : o.wp P a w K Q := by
  obtain ⟨fn, h1, h2⟩ := Option.map_eq_some_iff.1 hf
  simp only [Bool.or_eq_false_iff] at h2
  obtain ⟨h2, h3⟩ := h2
  unfold Oper.wp execOp
  simp only [ho, resolve, hc, Deferred.ofValue, Sem.run_bind, Sem.run_pure, Result.andThen_ok, invoke]
  have : (callFunc f (#[] ++ xs.map a.eval ++ #[])).run P w = .ok (.enter f (xs.map a.eval)) w := by
    unfold callFunc
    rw [Sem.run_bind, show (program : Sem Program).run P w = .ok P w from rfl, Result.andThen_ok]
    simp only [h1, h2, h3, Bool.false_eq_true, if_false, Sem.run_pure]
    simp
  rw [this]
  refine h.mono fun e w' ⟨v, he, hv⟩ => ?_
  subst he
  exact hv
theorem sp_call {c : Operand} {xs : Array Operand} {ats : Array TypeId} {f : FuncId} {Xs Ys : List AV} {u U : AV} (rd : List (Nat × ABlk)) (hC : Ctr P J f Ys u) (ho : o.op = .call { callee := .value c, args := xs, argTypes := ats })
    (hf : (P.funcs[f]?).map (fun fn => (fn.name == "runtime.NumGoroutine") || fn.body.isNone) = some false) (hl : xs.size = Xs.length) (hv : Xs.map (AV.view rd) = Ys) (hfl : Xs.all AV.flat2 = true) (hU : u.res = U) :
    ASpec P J o ((c, .v (.func (.func f) #[] #[])) :: xs.toList.zip Xs) rd U .no := by
  subst hv hU
  intro ρ B a w K Q hwf hB hJ ha hr _ hk
  refine upon_call ho (ha (c, .v (.func (.func f) #[] #[])) (by simp)).v_inv hf ?_
  refine (hC w (xs.map a.eval) hJ (by simpa using hl) fun j hj => ?_).mono fun e w' ⟨v, he, hp, hb⟩ => ⟨v, he, hk ρ w' v ⟨hb.os, hb.tape, hb.output, hb.size, fun b hb' _ => hb.block b hb', fun _ _ => rfl, (fun _ _ h => by cases h), (fun _ _ h => by cases h), .pu (hp.mono (fun b hb' hw => ⟨⟨fun k c n hk => ?_, Nat.le_trans hB hb'⟩, hw, rfl⟩) fun b _ h => Nat.le_trans hB h).res⟩⟩
  · have hj1 : j < Xs.length := by simpa using hj
    have hj2 : j < xs.size := by omega
    rw [List.getElem_map]
    have hm : (xs[j], Xs[j]) ∈ (c, AV.v (.func (.func f) #[] #[])) :: xs.toList.zip Xs := by
      refine List.mem_cons_of_mem _ ?_
      rw [List.mem_iff_getElem]
      exact ⟨j, by simp; omega, by simp⟩
    have := (ha _ hm).view hwf hr (List.all_eq_true.1 hfl _ (List.getElem_mem hj1))
    simpa [Array.getD, hj2] using this
  · have := (hwf.lo _ _ _ _ hk).2; omega
end
section
variable {P : Program} {w0 : World} {h : AHeap} {t : ATm} {Q : Exit → Act → World → Prop}
theorem tri_seq {x y : Code} (H : ETri J w0 h t (x.wp P (Exit.then (y.wp P Q) Q))) : ETri J w0 h t ((Code.seq x y).wp P Q) := fun ρ a w s => wp_seq (H ρ a w s)
theorem tri_skip (H : ETri J w0 h t (Q .normal)) : ETri J w0 h t (Code.skip.wp P Q) := fun ρ a w s => wp_skip (H ρ a w s)
theorem tri_cond {c : Operand} {x y : Code} {b : Bool} (hc : aev t c = .v (.bool b)) (H : ETri J w0 h t ((if b then x else y).wp P Q)) : ETri J w0 h t ((Code.cond c x y).wp P Q) := fun ρ a w s => by
  have := s.ev c
  rw [hc] at this
  exact wp_cond this.v_inv (H ρ a w s)
theorem tri_block {id : Nat} {c : Code} (H : ETri J w0 h t (c.wp P (Exit.inBlock id Q))) : ETri J w0 h t ((Code.block id c).wp P Q) := fun ρ a w s => wp_block (H ρ a w s)
theorem tri_exit {id : Nat} (H : ETri J w0 h t (Q (.exit id))) : ETri J w0 h t ((Code.exit id).wp P Q) := fun ρ a w s => wp_exit (H ρ a w s)
theorem tri_ret (H : ETri J w0 h t (Q .ret)) : ETri J w0 h t (Code.ret.wp P Q) := fun ρ a w s => wp_ret (H ρ a w s)
theorem tri_region {id : Nat} {l : List Oper} (H : ETri J w0 h t (wpList P l.toArray Q l)) : ETri J w0 h t ((Code.region id l.toArray false).wp P Q) := fun ρ a w s => wp_region_lit (H ρ a w s)
/-- From one thing known to another. -/
def Wk (h : AHeap) (t : ATm) (h' : AHeap) (t' : ATm) : Prop := ∀ J w0 ρ a w, Sat J w0 ρ h t a w → ∃ ρ', Sat J w0 ρ' h' t' a w
theorem tri_wk {h' : AHeap} {t' : ATm} {Φ : Act → World → Prop} (k : Wk h t h' t') (H : ETri J w0 h' t' Φ) : ETri J w0 h t Φ := fun ρ a w s => by
  obtain ⟨ρ', s'⟩ := k J w0 ρ a w s
  exact H ρ' a w s'
/-- Where a round of a loop has come to its end. -/
def Again {σ : Type} (J : World → Prop) (w0 : World) (I : σ → AHeap × ATm) (m : σ → Nat) (s : σ) (a : Act) (w : World) : Prop := ∃ s', m s' < m s ∧ ∃ ρ, Sat J w0 ρ (I s').1 (I s').2 a w
theorem tri_loop {σ : Type} (I : σ → AHeap × ATm) (m : σ → Nat) (s0 : σ) {c : Code} (k : Wk h t (I s0).1 (I s0).2)
    (H : ∀ s, ETri J w0 (I s).1 (I s).2 (c.wp P (Exit.then (Again J w0 I m s) Q))) : ETri J w0 h t ((Code.loop c).wp P Q) := fun ρ a w s => by
  obtain ⟨ρ', s'⟩ := k J w0 ρ a w s
  refine wp_loop_ghost (fun n a w => ∃ s, m s = n ∧ ∃ ρ, Sat J w0 ρ (I s).1 (I s).2 a w) (m s0) ⟨s0, rfl, ρ', s'⟩ ?_
  rintro n a w ⟨s, rfl, ρ, hs⟩
  refine wp_mono (H s ρ a w hs) fun e a w hq => ?_
  cases e with
  | normal =>
    obtain ⟨s', h1, h2⟩ := hq
    exact ⟨m s', h1, s', rfl, h2⟩
  | exit id => exact hq
  | goto l => exact hq
  | ret => exact hq
  | panic ch => exact hq
  | outgrown => exact hq
theorem tri_again {σ : Type} {I : σ → AHeap × ATm} {m : σ → Nat} {s : σ} (s' : σ) (hm : m s' < m s) (k : Wk h t (I s').1 (I s').2) : ETri J w0 h t (Again J w0 I m s) := fun ρ a w hs => by
  obtain ⟨ρ', hs'⟩ := k J w0 ρ a w hs
  exact ⟨s', hm, ρ', hs'⟩
end
end Go.Proofs.YtmpbfdfjcfanoaaDoor

/-
  WHAT IS LEFT OUT OF A STATE; A FUNCTION'S BEGINNING AND END.
-/
namespace Go.Proofs.YtmpbfdfjcfanoaaDoor
open Go.RowKit Go.Deep
variable {J : World → Prop}
/-- Nothing in it is said to be new. -/
inductive Plain : AV → Prop
  | any : Plain .any
  | v (x : Value) : Plain (.v x)
  | agg {cs : List AV} (h : ∀ j (hj : j < cs.length), Plain cs[j]) : Plain (.agg cs)
  | tup {cs : List AV} (h : ∀ j (hj : j < cs.length), Plain cs[j]) : Plain (.tup cs)
  | sl {z n : Nat} {cs : List AV} (h : ∀ j (hj : j < cs.length), Plain cs[j]) : Plain (.sl z n cs)
  | el {o : Nat} {cs : List AV} (h : ∀ j (hj : j < cs.length), Plain cs[j]) : Plain (.el cs o)
theorem Pu.plain {F F' ok : Nat → Prop} {w : World} {X : AV} {x : Value} (h : Pu F w ok X x) (hp : Plain X) : Pu F' w ok X x := by
  induction h with
  | any x => exact .any x
  | v x => exact .v x
  | agg hl _ ih => cases hp with | agg hp => exact .agg hl fun j hj => ih j hj (hp j hj)
  | tup hl _ ih => cases hp with | tup hp => exact .tup hl fun j hj => ih j hj (hp j hj)
  | fr _ _ => cases hp
  | sl0 h2 hz => exact .sl0 h2 hz
  | sl hc h1 h2 hb hw hf _ ih => cases hp with | sl hp => exact .sl hc h1 h2 hb hw hf fun j hj => ih j hj (hp j hj)
  | el hb hw hf _ ih => cases hp with | el hp => exact .el hb hw hf fun j hj => ih j hj (hp j hj)
theorem plain_all {cs : List AV} (h : ∀ X ∈ cs, Plain X) : ∀ j (hj : j < cs.length), Plain cs[j] := fun j _ => h _ (List.getElem_mem _)

/-- What stays of a value when only some names are kept. -/
def AV.wk1 (keep : Nat → Bool) (h : AHeap) : AV → AV
  | .box k o => if keep k then .box k o else .any
  | .own k => if keep k then .own k else match h k with | some (.row nw _ z n cs) => (if nw then .fr (.sl z n cs) else .sl z n cs) | _ => .any
  | .agg _ => .any
  | .tup _ => .any
  | X => X
def AV.wk2 (keep : Nat → Bool) (h : AHeap) : AV → AV
  | .agg cs => .agg (cs.map (AV.wk1 keep h))
  | X => X.wk1 keep h
def AV.wk3 (keep : Nat → Bool) (h : AHeap) : AV → AV
  | .tup cs => .tup (cs.map (AV.wk2 keep h))
  | X => X.wk2 keep h
def ABlk.wk (keep : Nat → Bool) (h : AHeap) : ABlk → ABlk
  | .box T cs => .box T (cs.map (AV.wk1 keep h))
  | X => X
/-- Slots by a list; the others hold whatever they hold. -/
def ofT (n : Nat) (T : List (Nat × AV)) : ATm := ⟨n, fun i => ((T.find? fun p => p.1 == i).map (·.2)).getD .any⟩
/-- The blocks of a list. -/
def ofL (L : List (Nat × ABlk)) : AHeap := fun k => (L.find? fun p => p.1 == k).map (·.2)
def keepL (L : List (Nat × ABlk)) (k : Nat) : Bool := L.any fun p => p.1 == k
section
variable {ρ : Names} {h : AHeap} {w : World} {w0 : World} {keep : Nat → Bool}
theorem rel_wk1 (hwf : WF ρ w0.heap.size w) (hp : ∀ k X, h k = some X → ∃ nm, ρ k = some nm ∧ BlkR ρ w w0.heap.size nm X) {X : AV} {x : Value} (hr : Rel ρ w0.heap.size w X x) : Rel (fun k => if keep k then ρ k else none) w0.heap.size w (X.wk1 keep h) x := by
  have hok : ∀ b, okOf ρ b → okOf (fun k => if keep k then ρ k else none) b := fun b hb k c n hk => by
    dsimp only at hk
    split at hk
    · exact hb _ _ _ hk
    · cases hk
  cases hr with
  | pu hr =>
    have hr' := hr.weak hok
    cases hr with
    | agg hl h => exact .anyR
    | tup hl h => exact .anyR
    | any x => exact .pu hr'
    | v x => exact .pu hr'
    | fr h => exact .pu hr'
    | sl0 h2 hz => exact .pu hr'
    | sl hc h1 h2 hb hw hf h => exact .pu hr'
    | el hb hw hf h => exact .pu hr'
  | box hk =>
    rename_i k o b c n
    simp only [AV.wk1]
    split
    · rename_i hkk; exact .box (by rw [if_pos hkk]; exact hk)
    · exact .anyR
  | own hk =>
    rename_i k nm
    simp only [AV.wk1]
    split
    · rename_i hkk; exact .own (by rw [if_pos hkk]; exact hk)
    · rename_i hkk
      split
      · rename_i fr e z n cs hh
        obtain ⟨nm', h1, h2⟩ := hp k _ hh
        rw [hk] at h1; cases h1
        have hb : ∀ b c m, nm = .at b c m → okOf (fun k => if keep k then ρ k else none) b ∧ w0.heap.size ≤ b := fun b c m e => by
          subst e
          refine ⟨fun j c' n' hj => ?_, (hwf.lo _ _ _ _ hk).1⟩
          dsimp only at hj
          split at hj
          · rename_i hj2
            have := hwf.inj _ _ _ _ _ _ _ hj hk
            subst this
            exact hkk hj2
          · cases hj
        cases fr with
        | true => exact .pu (.fr (erow_sl h2 hb (fun b hb _ => ⟨hok _ hb.1, hb.2 rfl⟩) fun _ _ h => h))
        | false => exact .pu (erow_sl h2 (fun b c m e => (hb b c m e).1) (fun b hb _ => hok _ hb.1) fun _ _ h => h)
      · exact .anyR
  | agg hl hr => exact .anyR
  | tup hl hr => exact .anyR
theorem rel_wk2 (hwf : WF ρ w0.heap.size w) (hp : ∀ k X, h k = some X → ∃ nm, ρ k = some nm ∧ BlkR ρ w w0.heap.size nm X) {X : AV} {x : Value} (hr : Rel ρ w0.heap.size w X x) : Rel (fun k => if keep k then ρ k else none) w0.heap.size w (X.wk2 keep h) x := by
  cases X with
  | agg cs =>
    obtain ⟨vs, rfl, hl, hc⟩ := hr.agg_inv
    exact .agg (by simpa using hl) fun j hj => by rw [List.getElem_map]; exact rel_wk1 hwf hp (hc j (by simpa using hj))
  | tup cs => exact .anyR
  | v y => exact rel_wk1 hwf hp hr
  | box k o => exact rel_wk1 hwf hp hr
  | own k => exact rel_wk1 hwf hp hr
  | sl z n cs => exact rel_wk1 hwf hp hr
  | el cs o => exact rel_wk1 hwf hp hr
  | fr X => exact rel_wk1 hwf hp hr
  | any => exact rel_wk1 hwf hp hr
theorem rel_wk3 (hwf : WF ρ w0.heap.size w) (hp : ∀ k X, h k = some X → ∃ nm, ρ k = some nm ∧ BlkR ρ w w0.heap.size nm X) {X : AV} {x : Value} (hr : Rel ρ w0.heap.size w X x) : Rel (fun k => if keep k then ρ k else none) w0.heap.size w (X.wk3 keep h) x := by
  cases X with
  | tup cs =>
    obtain ⟨vs, rfl, hl, hc⟩ := hr.tup_inv
    exact .tup (by simpa using hl) fun j hj => by rw [List.getElem_map]; exact rel_wk2 hwf hp (hc j (by simpa using hj))
  | agg cs => exact rel_wk2 hwf hp hr
  | v y => exact rel_wk2 hwf hp hr
  | box k o => exact rel_wk2 hwf hp hr
  | own k => exact rel_wk2 hwf hp hr
  | sl z n cs => exact rel_wk2 hwf hp hr
  | el cs o => exact rel_wk2 hwf hp hr
  | fr X => exact rel_wk2 hwf hp hr
  | any => exact rel_wk2 hwf hp hr
end
theorem wk_keep {h : AHeap} {t : ATm} (L : List (Nat × ABlk)) (T : List (Nat × AV)) {n : Nat} (hn : t.n = n) (hL : L.map (fun p => (h p.1).map (ABlk.wk (keepL L) h)) = L.map (fun p => some p.2)) (hT : T.map (fun p => (t.f p.1).wk3 (keepL L) h) = T.map (·.2)) : Wk h t (ofL L) (ofT n T) := by
  subst hn
  intro J w0 ρ a w s
  refine ⟨fun k => if keepL L k then ρ k else none, ?_⟩
  have H : ∀ X x, Rel ρ w0.heap.size w X x → Rel (fun k => if keepL L k then ρ k else none) w0.heap.size w (X.wk3 (keepL L) h) x := fun X x hx => rel_wk3 s.wf s.hp hx
  have H1 : ∀ X x, Rel ρ w0.heap.size w X x → Rel (fun k => if keepL L k then ρ k else none) w0.heap.size w (X.wk1 (keepL L) h) x := fun X x hx => rel_wk1 s.wf s.hp hx
  have hsub : ∀ k nm, (if keepL L k then ρ k else none) = some nm → ρ k = some nm := fun k nm e => by
    split at e
    · exact e
    · cases e
  refine ⟨⟨fun j k b c d m n hj hk => s.wf.inj _ _ _ _ _ _ _ (hsub _ _ hj) (hsub _ _ hk), fun k b c n hk => s.wf.lo _ _ _ _ (hsub _ _ hk)⟩, s.bel, s.inv, fun k X hk => ?_, fun k hk => ?_, s.tl, fun i hi => ?_, s.df⟩
  · obtain ⟨p, hp1, rfl⟩ := Option.map_eq_some_iff.1 hk
    have hm := List.mem_of_find?_eq_some hp1
    have hk' : p.1 = k := by have := List.find?_some hp1; simpa using this
    obtain ⟨i, hi, e⟩ := List.getElem_of_mem hm
    have h1 : (L.map (fun p => (h p.1).map (ABlk.wk (keepL L) h)))[i]? = (L.map (fun p => some p.2))[i]? := by rw [hL]
    simp only [List.getElem?_map, List.getElem?_eq_getElem hi, Option.map_some, e, Option.some.injEq] at h1
    obtain ⟨Y, hY, hYX⟩ := Option.map_eq_some_iff.1 h1
    rw [hk'] at hY
    obtain ⟨nm, g1, g2⟩ := s.hp k Y hY
    have hkeep : keepL L k = true := by
      unfold keepL; rw [List.any_eq_true]; exact ⟨p, hm, by simpa using hk'⟩
    refine ⟨nm, by rw [if_pos hkeep]; exact g1, ?_⟩
    rw [← hYX]
    cases Y with
    | box T cs =>
      obtain ⟨b, c, n, vs, rfl, q1, q2, q3⟩ := g2
      exact ⟨b, c, n, vs, rfl, q1, by simpa using q2, fun j hj => by rw [List.getElem_map]; exact H1 _ _ (q3 j (by simpa using hj))⟩
    | row fr e z n cs =>
      obtain ⟨xs, q1, q2, q3⟩ := g2
      exact ⟨xs, q1, q2, fun j hj => (q3 j hj).weak fun b hb => ⟨fun k c n hk => hb.1 _ _ _ (hsub _ _ hk), hb.2⟩⟩
  · have : keepL L k = false := by
      cases e : keepL L k with
      | false => rfl
      | true =>
        unfold keepL at e
        rw [List.any_eq_true] at e
        obtain ⟨p, hp, hpk⟩ := e
        simp only [ofL, Option.map_eq_none_iff, List.find?_eq_none] at hk
        exact absurd hpk (hk p hp)
    simp [this]
  · simp only [ofT]
    cases hf : T.find? fun p => p.1 == i with
    | none => exact .anyR
    | some p =>
      have hm := List.mem_of_find?_eq_some hf
      have hk' : p.1 = i := by have := List.find?_some hf; simpa using this
      obtain ⟨j, hj, e⟩ := List.getElem_of_mem hm
      have h1 : (T.map (fun p => (t.f p.1).wk3 (keepL L) h))[j]? = (T.map (·.2))[j]? := by rw [hT]
      simp only [List.getElem?_map, List.getElem?_eq_getElem hj, Option.map_some, e, Option.some.injEq] at h1
      simp only [Option.map_some, Option.getD_some]
      rw [← h1, hk']
      exact H _ _ (s.tm i hi)
theorem Wk.trans {h h' h'' : AHeap} {t t' t'' : ATm} (k : Wk h t h' t') (k' : Wk h' t' h'' t'') : Wk h t h'' t'' := fun J w0 ρ a w s => by
  obtain ⟨ρ', s'⟩ := k J w0 ρ a w s
  exact k' J w0 ρ' a w s'
/-- A nil slice in a slot is taken for one that the call owns. -/
theorem wk_adopt {h : AHeap} {t : ATm} (i k : Nat) (fr : Bool) (e z : Nat) {t' : ATm} (hk : h k = none) (hi : t.f i = .v (.slice none 0 0)) (ht : aput t (some i) (.own k) = t') : Wk h t (fun j => if j = k then some (.row fr e z 0 []) else h j) t' := by
  subst ht
  intro J w0 ρ a w s
  have hρ := s.dom k hk
  refine ⟨upd ρ k .nil, ?_⟩
  have hok : ∀ b, okOf ρ b → okOf (upd ρ k .nil) b := fun b hb j c n hj => by
    by_cases e : j = k
    · subst e; rw [upd_same] at hj; cases hj
    · rw [upd_other e] at hj; exact hb _ _ _ hj
  have hn : ∀ j nm, ρ j = some nm → upd ρ k .nil j = some nm := fun j nm hj => by rw [upd_other (by rintro rfl; rw [hρ] at hj; cases hj)]; exact hj
  have hp : ∀ X x, Pu (w0.heap.size ≤ ·) w (okOf ρ) X x → Pu (w0.heap.size ≤ ·) w (okOf (upd ρ k .nil)) X x := fun X x hx => hx.weak hok
  have hat : ∀ j b c n, upd ρ k .nil j = some (.at b c n) → ρ j = some (.at b c n) := fun j b c n hj => by
    by_cases e : j = k
    · subst e; rw [upd_same] at hj; cases hj
    · rw [upd_other e] at hj; exact hj
  refine ⟨⟨fun j k b c d m n hj hk => s.wf.inj _ _ _ _ _ _ _ (hat _ _ _ _ hj) (hat _ _ _ _ hk), fun k b c n hk => s.wf.lo _ _ _ _ (hat _ _ _ _ hk)⟩, s.bel, s.inv, fun j X hj => ?_, fun j hj => ?_, s.tl, fun j hj => ?_, s.df⟩
  · by_cases e : j = k
    · subst e
      rw [if_pos rfl] at hj
      cases hj
      exact ⟨.nil, upd_same _ _ _, blk_nil _ _ _ _ _ _⟩
    · rw [if_neg e] at hj
      obtain ⟨nm, g1, g2⟩ := s.hp j X hj
      exact ⟨nm, hn _ _ g1, g2.keep (fun fr X x hx => hx.weak fun b hb => ⟨hok _ hb.1, hb.2⟩) hp hn fun _ _ _ _ => rfl⟩
  · by_cases e : j = k
    · rw [if_pos e] at hj; cases hj
    · rw [if_neg e] at hj; rw [upd_other e]; exact s.dom j hj
  · simp only [aput]
    by_cases e : j = i
    · subst e
      rw [if_pos rfl]
      have := s.tm j hj
      rw [hi] at this
      rw [this.v_inv]
      exact .own (nm := .nil) (upd_same _ _ _)
    · rw [if_neg e]
      exact (s.tm j hj).keep hp hn
/-- What a result is, as the caller sees it. -/
def AV.out1 (h : AHeap) : AV → AV
  | .v x => .v x
  | .fr X => X
  | .own k => match h k with | some (.row true _ z n cs) => .sl z n cs | _ => .any
  | _ => .any
def AV.out2 (h : AHeap) : AV → AV
  | .agg cs => .agg (cs.map (AV.out1 h))
  | X => X.out1 h
def AV.out3 (h : AHeap) : AV → AV
  | .tup cs => .tup (cs.map (AV.out2 h))
  | X => X.out2 h
section
variable {w0 : World} {ρ : Names} {h : AHeap} {t : ATm} {a : Act} {w : World}
theorem Sat.out1 (s : Sat J w0 ρ h t a w) {X : AV} {x : Value} (hr : Rel ρ w0.heap.size w X x) : Pu (w0.heap.size ≤ ·) w (w0.heap.size ≤ ·) (X.out1 h) x := by
  cases hr with
  | pu hr =>
    cases hr with
    | v x => exact .v x
    | fr hr => exact hr.weak fun _ h => h.2
    | any x => exact .any x
    | agg hl h => exact .any _
    | tup hl h => exact .any _
    | sl0 h2 hz => exact .any _
    | sl hc h1 h2 hb hw hf h => exact .any _
    | el hb hw hf h => exact .any _
  | box hk => exact .any _
  | own hk =>
    rename_i k nm
    simp only [AV.out1]
    split
    · rename_i e z n cs hh
      obtain ⟨nm', h1, h2⟩ := s.hp k _ hh
      rw [hk] at h1; cases h1
      exact erow_sl h2 (fun b c m e => by subst e; exact (s.wf.lo _ _ _ _ hk).1) (fun b hb _ => hb.2 rfl) fun _ _ h => h
    · exact .any _
  | agg hl hr => exact .any _
  | tup hl hr => exact .any _
theorem Sat.out2 (s : Sat J w0 ρ h t a w) {X : AV} {x : Value} (hr : Rel ρ w0.heap.size w X x) : Pu (w0.heap.size ≤ ·) w (w0.heap.size ≤ ·) (X.out2 h) x := by
  cases X with
  | agg cs =>
    obtain ⟨vs, rfl, hl, hc⟩ := hr.agg_inv
    exact .agg (by simpa using hl) fun j hj => by rw [List.getElem_map]; exact s.out1 (hc j (by simpa using hj))
  | tup cs => exact .any _
  | v y => exact s.out1 hr
  | box k o => exact s.out1 hr
  | own k => exact s.out1 hr
  | sl z n cs => exact s.out1 hr
  | el cs o => exact s.out1 hr
  | fr X => exact s.out1 hr
  | any => exact s.out1 hr
theorem Sat.out3 (s : Sat J w0 ρ h t a w) {X : AV} {x : Value} (hr : Rel ρ w0.heap.size w X x) : Pu (w0.heap.size ≤ ·) w (w0.heap.size ≤ ·) (X.out3 h) x := by
  cases X with
  | tup cs =>
    obtain ⟨vs, rfl, hl, hc⟩ := hr.tup_inv
    exact .tup (by simpa using hl) fun j hj => by rw [List.getElem_map]; exact s.out2 (hc j (by simpa using hj))
  | agg cs => exact s.out2 hr
  | v y => exact s.out2 hr
  | box k o => exact s.out2 hr
  | own k => exact s.out2 hr
  | sl z n cs => exact s.out2 hr
  | el cs o => exact s.out2 hr
  | fr X => exact s.out2 hr
  | any => exact s.out2 hr
end
/-- Where a result stands. -/
inductive ResV (P : Program) (h : AHeap) (t : ATm) : ResultVar → AV → Prop
  | tmp {i : Nat} {X : AV} (hX : t.get i = X) : ResV P h t (.tmp i) X
  | cellS {i k z : Nat} {T T0 : TypeId} {d : TypeDesc} {cs : List AV} (hX : t.get i = .box k 0) (hk : h k = some (.box T0 cs)) (hu : P.underlying T = some d) (hd : d.isRow = true) (hz : (P.info? T).map (·.size) = some z) (hl : cs.length = z) (h0 : 0 < z) : ResV P h t (.cell i T) (.agg cs)
  | cell1 {i k : Nat} {T T0 : TypeId} {d : TypeDesc} {cs : List AV} {X : AV} (hX : t.get i = .box k 0) (hk : h k = some (.box T0 cs)) (hu : P.underlying T = some d) (hd : d.isRow = false) (h0 : cs[0]? = some X) : ResV P h t (.cell i T) X
def RetP (w0 : World) (u : AV) (e : Ending) (w' : World) : Prop := ∃ v, e = .returned v ∧ Pu (w0.heap.size ≤ ·) w' (w0.heap.size ≤ ·) u v ∧ Below w0.heap.size w0 w'
section
variable {P : Program} {w0 : World} {h : AHeap} {t : ATm}
theorem res_one {ρ : Names} {a : Act} {w : World} (s : Sat J w0 ρ h t a w) {r : ResultVar} {X : AV} (hr : ResV P h t r X) :
    ∃ v, (match r with | .tmp t => pure (a.tmps.getD t undef) | .cell b t => do loadVar t (← asAddr (a.tmps.getD b undef)) : Sem Value).run P w = .ok v w ∧ Rel ρ w0.heap.size w X v := by
  cases hr with
  | tmp hX =>
    rename_i i
    have := s.ev (.tmp i)
    simp only [aev, hX] at this
    exact ⟨_, rfl, this⟩
  | cellS hX hk hu hd hz hl h0 =>
    rename_i i k z T T0 d cs
    have := s.ev (.tmp i)
    simp only [aev, hX] at this
    obtain ⟨b, c, n, h1, h2⟩ := this.box_inv
    simp only [Act.eval] at h2
    obtain ⟨nm, h1', b', c', n', vs, e, hg, hvs, hrel⟩ := s.hp k _ hk
    rw [h1] at h1'; cases h1'; cases e
    refine ⟨.agg vs, ?_, .agg hvs hrel⟩
    have := run_loadVar_mid (P := P) w b 0 T vs.toList d (rangeBlock (fr := (0, 0)) (by simpa using hg)) hu hd (by rw [hz]; simp [hvs, hl])
    simp only [h2, asAddr, Sem.run_bind, Sem.run_pure, Result.andThen_ok, this]
  | cell1 hX hk hu hd h0 =>
    rename_i i k T T0 d cs
    have := s.ev (.tmp i)
    simp only [aev, hX] at this
    obtain ⟨b, c, n, h1, h2⟩ := this.box_inv
    simp only [Act.eval] at h2
    obtain ⟨hj, hX0⟩ := List.getElem?_eq_some_iff.1 h0
    obtain ⟨nm, h1', hb⟩ := s.hp k _ hk
    rw [h1] at h1'; cases h1'
    obtain ⟨b', c', n', v, e, h3, _, h4⟩ := hb.cell hj
    cases e
    refine ⟨v, ?_, by rw [← hX0]; exact h4⟩
    have := run_load1 (P := P) hu hd h3
    simp only [Instr.loadAt, Instr.sureAddr, Sem.run_bind, Sem.run_pure, Result.andThen_ok] at this
    simp only [h2, asAddr, Sem.run_bind, Sem.run_pure, Result.andThen_ok, this]
theorem mapM_one {f : ResultVar → Sem Value} {r : ResultVar} {w : World} {v : Value} (h : (f r).run P w = .ok v w) : (#[r].mapM f).run P w = .ok #[v] w := by
  rw [Array.mapM_eq_mapM_toList]; simp [List.mapM_cons, h]
theorem mapM_two {f : ResultVar → Sem Value} {r r' : ResultVar} {w : World} {v v' : Value} (h : (f r).run P w = .ok v w) (h' : (f r').run P w = .ok v' w) : (#[r, r'].mapM f).run P w = .ok #[v, v'] w := by
  rw [Array.mapM_eq_mapM_toList]; simp [List.mapM_cons, h, h']
theorem tri_end1 {fn : Func} {r : ResultVar} {X u : AV} (hr : fn.results = #[r]) (h1 : ResV P h t r X) (hu : X.out3 h = u) : ETri J w0 h t (bodyPost P fn (RetP w0 u) .ret) := fun ρ a w s => by
  subst hu
  obtain ⟨v, g1, g2⟩ := res_one s h1
  refine ⟨s.df, v, ?_, v, rfl, s.out3 g2, s.bel⟩
  unfold results
  rw [hr, Sem.run_bind, mapM_one (v := v) (by cases r <;> exact g1)]
  rfl
theorem tri_end2 {fn : Func} {r r' : ResultVar} {X X' u : AV} (hr : fn.results = #[r, r']) (h1 : ResV P h t r X) (h2 : ResV P h t r' X') (hu : (AV.tup [X, X']).out3 h = u) : ETri J w0 h t (bodyPost P fn (RetP w0 u) .ret) := fun ρ a w s => by
  subst hu
  obtain ⟨v, g1, g2⟩ := res_one s h1
  obtain ⟨v', g1', g2'⟩ := res_one s h2
  refine ⟨s.df, .tuple #[v, v'], ?_, _, rfl, s.out3 (.tup rfl fun j hj => ?_), s.bel⟩
  · unfold results
    rw [hr, Sem.run_bind, mapM_two (v := v) (v' := v') (by cases r <;> exact g1) (by cases r' <;> exact g1')]
    rfl
  · simp only [List.length_cons, List.length_nil] at hj
    match j, hj with
    | 0, _ => exact g2
    | 1, _ => exact g2'
theorem ctr_of_tri {f : FuncId} {fn : Func} {c : Code} {args : List AV} {u : AV} (hf : P.funcs[f]? = some fn) (hb : fn.body = some c) (hpl : ∀ X ∈ args, Plain X) {n : Nat} (hnt : fn.ntmps = n) (hna : args.length ≤ n)
    (H : ∀ w0, ETri J w0 (ofL []) (ofT n ((List.range args.length).zip args)) (c.wp P (bodyPost P fn (RetP w0 u)))) : Ctr P J f args u := fun w vs hJ hl hv => by
  refine calls_of_wp hf hb (H w (fun _ => none) _ w ⟨⟨(fun _ _ _ _ _ _ _ h => by cases h), (fun _ _ _ _ h => by cases h)⟩, Below.refl _ _, hJ, (fun _ _ h => by cases h), fun _ _ => rfl, by simp [hl, hnt, ofT]; omega, fun i hi => ?_, rfl⟩)
  simp only [ofT]
  cases hf : ((List.range args.length).zip args).find? fun p => p.1 == i with
  | none => exact .anyR
  | some p =>
    have hm := List.mem_of_find?_eq_some hf
    have hk' : p.1 = i := by have := List.find?_some hf; simpa using this
    obtain ⟨j, hj, e⟩ := List.getElem_of_mem hm
    simp only [List.getElem_zip, List.getElem_range] at e
    subst e
    dsimp only at hk'
    subst hk'
    have hj1 : j < args.length := by simp at hj; omega
    simp only [Option.map_some, Option.getD_some]
    have := (hv j hj1).plain (F' := (w.heap.size ≤ ·)) (hpl _ (List.getElem_mem hj1))
    have hj2 : j < vs.size := by omega
    have e : (vs ++ Array.replicate (fn.ntmps - vs.size) undef).getD j undef = vs.getD j undef := by simp [Array.getD, hj2, Array.getElem_append_left hj2]; omega
    rw [e]
    exact .pu (this.weak fun b _ k c n hk => by cases hk)
end
end Go.Proofs.YtmpbfdfjcfanoaaDoor

/-
  A REGION THAT DRAWS ITS ORDER: one walk of the text's order serves all, where the others do not touch each other.
-/
namespace Go.Proofs.YtmpbfdfjcfanoaaDoor
open Go.RowKit Go.Deep
variable {J : World → Prop}
/-- What is claimed of an operation. -/
structure Cl where
  args : List (Operand × AV)
  rd : List (Nat × ABlk)
  u : AV
  e : Ef
/-- What the guard of an operation says, where that is known. -/
def awanted (ops : Array Oper) (o : Oper) (t : ATm) : Option Bool :=
  match o.guard with
  | none => some true
  | some (g, want) => match (ops[g]?).bind (·.dst) with
    | none => none
    | some d => match t.get d with
      | .v (.bool b) => some (b == want)
      | .v (.tuple _) => some false
      | _ => none
/-- The claim holds of the operation in this state. -/
def App (P : Program) (J : World → Prop) (ops : Array Oper) (o : Oper) (c : Cl) (h : AHeap) (t : ATm) : Prop :=
  (awanted ops o t = some true ∧ ASpec P J o c.args c.rd c.u c.e ∧ (∀ p ∈ c.args, Fits (aev t p.1) p.2) ∧ (∀ p ∈ c.rd, h p.1 = some p.2) ∧ (∀ k X, c.e = .new k X → h k = none) ∧ (∀ k, c.e.old = some k → (h k).isSome = true)) ∨
  (awanted ops o t = some false ∧ c = ⟨[], [], .v undef, .no⟩)
def Cl.t (c : Cl) (o : Oper) (t : ATm) : ATm := aput (c.e.slots t) o.dst c.u
section
variable {P : Program} {ops : Array Oper}
theorem awanted_sat {w0 : World} {ρ : Names} {h : AHeap} {t : ATm} {a : Act} {w : World} (s : Sat J w0 ρ h t a w) {o : Oper} {b : Bool} (hb : awanted ops o t = some b) : Region.wanted o (yielded ops a.tmps) = b := by
  unfold awanted at hb
  unfold Region.wanted
  cases hg : o.guard with
  | none => rw [hg] at hb; simpa using hb
  | some gw =>
    obtain ⟨g, want⟩ := gw
    rw [hg] at hb
    dsimp only at hb ⊢
    unfold yielded
    cases hd : (ops[g]?).bind (·.dst) with
    | none => rw [hd] at hb; cases hb
    | some d =>
      rw [hd] at hb
      dsimp only [Option.bind_some] at hb ⊢
      have hr := s.ev (.tmp d)
      simp only [aev, Act.eval] at hr
      have hin : t.get d ≠ .any → a.tmps[d]? = some (a.tmps.getD d undef) := fun hne => by
        by_cases hl : d < t.n
        · have : d < a.tmps.size := by rw [s.tl]; exact hl
          simp [Array.getD, this]
        · rw [ATm.get, if_neg hl] at hne
          exact absurd rfl hne
      split at hb
      · rename_i b' hv
        rw [hv] at hr
        rw [hin (by rw [hv]; simp), hr.v_inv]
        simp only [Option.some.injEq] at hb
        subst hb
        cases b' <;> cases want <;> rfl
      · rename_i vs hv
        rw [hv] at hr
        rw [hin (by rw [hv]; simp), hr.v_inv]
        simp only [Option.some.injEq] at hb
        subst hb
        cases want <;> rfl
      · cases hb
theorem App.op {w0 : World} {ρ : Names} {h : AHeap} {t : ATm} {a : Act} {w : World} {o : Oper} {c : Cl} {K : Act → World → Prop} {Q : Exit → Act → World → Prop} (s : Sat J w0 ρ h t a w) (ha : App P J ops o c h t) (hk : ∀ ρ' a' w', Sat J w0 ρ' (c.e.heap h) (c.t o t) a' w' → K a' w') :
    if Region.wanted o (yielded ops a.tmps) then o.wp P a w K Q ∨ (o.asks P a w ∧ LetsOut Q) else K (a.put o.dst undef) w := by
  rcases ha with ⟨hw, h1, h2, h3, h4, h5⟩ | ⟨hw, rfl⟩
  · rw [awanted_sat s hw, if_pos rfl]
    exact .inl (s.step ⟨c.args, c.rd, h1, h2, h3, h4, h5⟩ hk)
  · rw [awanted_sat s hw, if_neg (by simp)]
    exact hk ρ _ w ⟨s.wf, s.bel, s.inv, s.hp, s.dom, by rw [put_size]; simp only [Cl.t, aput_n]; exact s.tl, rel_put _ s.tl s.tm (.pu (.v _)), by rw [put_defers]; exact s.df⟩
/-- Whatever order is picked from here on. -/
def anyC (P : Program) (J : World → Prop) (ops : Array Oper) (cl : List Cl) (Q : AHeap → ATm → Prop) : Nat → Array Bool → AHeap → ATm → Prop
  | 0, listed, h, t => Region.ready .any ops listed = [] ∧ Q h t
  | f + 1, listed, h, t => (Region.ready .any ops listed = [] → Q h t) ∧ ∀ i ∈ Region.ready .any ops listed, ∃ o c, ops[i]? = some o ∧ cl[i]? = some c ∧ App P J ops o c h t ∧ anyC P J ops cl Q f (listed.setIfInBounds i true) (c.e.heap h) (c.t o t)
theorem any_of_C {w0 : World} {cl : List Cl} {Φ : Exit → Act → World → Prop} {Q : AHeap → ATm → Prop} (hQ : ∀ h t, Q h t → ETri J w0 h t (Φ .normal)) : ∀ (f : Nat) (listed : Array Bool) (h : AHeap) (t : ATm), anyC P J ops cl Q f listed h t → ETri J w0 h t (wpAny P .any ops Φ f listed)
  | 0, _, h, t, hc => fun ρ a w s => ⟨hc.1, hQ h t hc.2 ρ a w s⟩
  | f + 1, _, h, t, hc => fun ρ a w s => ⟨fun h0 => hQ h t (hc.1 h0) ρ a w s, fun i hi => by
      obtain ⟨o, c, h1, h2, h3, h4⟩ := hc.2 i hi
      unfold wpOp
      rw [h1]
      exact h3.op s fun ρ' a' w' s' => any_of_C hQ f _ _ _ h4 ρ' a' w' s'⟩
/-- Two operations that do not touch each other. -/
def Ef.isNo : Ef → Bool
  | .no => true
  | _ => false
def Ef.isAp : Ef → Option Nat
  | .ap k _ => some k
  | _ => none
def hasTmp (d : Option Tmp) (args : List (Operand × AV)) : Bool := args.any fun p => match p.1, d with | .tmp x, some y => x == y | _, _ => false
def AV.isAny : AV → Bool
  | .any => true
  | _ => false
def ABlk.calm (k : Nat) : ABlk → Bool
  | .box _ cs => cs.all fun c => c.free3 k && !c.isAny
  | .row _ _ _ _ _ => true
def quietFor (k : Nat) (c : Cl) : Bool := c.e.isNo && (c.args.all fun p => p.2.free3 k && !p.2.isAny) && c.u.free3 k && c.rd.all fun p => p.2.calm k
def guardTmp (ops : Array Oper) (o : Oper) : Option Tmp := o.guard.bind fun g => (ops[g.1]?).bind (·.dst)
def half (ops : Array Oper) (oi : Oper) (ci : Cl) (oj : Oper) (cj : Cl) : Bool :=
  !hasTmp oi.dst cj.args && (match oi.dst, guardTmp ops oj with | some x, some y => !(x == y) | _, _ => true) &&
  (match ci.e.name with | some k => !(cj.rd.any fun p => p.1 == k) && !(cj.e.name == some k) | none => true) &&
  (match ci.e.isAp with | some k => quietFor k cj | none => true)
def indep (ops : Array Oper) (oi : Oper) (ci : Cl) (oj : Oper) (cj : Cl) : Bool :=
  half ops oi ci oj cj && half ops oj cj oi ci && (match oi.dst, oj.dst with | some x, some y => !(x == y) | _, _ => true)
theorem aev_put {t : ATm} {d : Option Tmp} {u : AV} {x : Operand} (h : ∀ y, d = some y → x ≠ .tmp y) : aev (aput t d u) x = aev t x := by
  cases d with
  | none => rfl
  | some d =>
    cases x with
    | tmp i =>
      have : ¬ i = d := fun e => h d rfl (by rw [e])
      simp [aev, aput, ATm.get, this]
    | const x => rfl
    | global g => rfl
    | func f => rfl
theorem kill_free {k : Nat} {X : AV} (h : X.free3 k = true) : X.kill k = X := if_pos h
theorem aev_kill {k : Nat} {t : ATm} {x : Operand} : aev ⟨t.n, fun j => (t.f j).kill k⟩ x = (aev t x).kill k := by
  cases x with
  | tmp i =>
    simp only [aev, ATm.get]
    split <;> rfl
  | const x => rfl
  | global g => rfl
  | func f => rfl
theorem fits_kill {k : Nat} {X Y : AV} (hf : Fits X Y) (h : Y.free3 k = true) : Fits (X.kill k) Y := by
  rcases hf with rfl | rfl | ⟨cs, rfl, rfl⟩
  · rw [kill_free h]; exact .inl rfl
  · rw [kill_free rfl]; exact .inr (.inl rfl)
  · rw [kill_free rfl]; exact .inr (.inr ⟨cs, rfl, rfl⟩)
theorem awanted_t {o : Oper} {t t' : ATm} {b : Bool} (hb : awanted ops o t = some b) (h : ∀ d, guardTmp ops o = some d → ∀ x, t.get d = .v x → t'.get d = .v x) : awanted ops o t' = some b := by
  unfold awanted at *
  cases hg : o.guard with
  | none => rw [hg] at hb; exact hb
  | some gw =>
    obtain ⟨g, want⟩ := gw
    rw [hg] at hb
    dsimp only at hb ⊢
    cases hd : (ops[g]?).bind (·.dst) with
    | none => rw [hd] at hb; cases hb
    | some d =>
      rw [hd] at hb
      dsimp only at hb ⊢
      have hh := h d (by simp [guardTmp, hg, hd])
      split at hb
      · rename_i b' hv; rw [hh _ hv]; exact hb
      · rename_i vs hv; rw [hh _ hv]; exact hb
      · cases hb
theorem getD_put {t : ATm} {d : Option Tmp} {u : AV} {i : Nat} (h : d ≠ some i) : (aput t d u).get i = t.get i := by
  cases d with
  | none => rfl
  | some d =>
    have : ¬ i = d := fun e => h (by rw [e])
    simp [aput, ATm.get, this]
theorem slots_getD_v {e : Ef} {t : ATm} {i : Nat} {x : Value} (h : t.get i = .v x) : (e.slots t).get i = .v x := by
  cases e with
  | ap k X =>
    have := aev_kill (k := k) (t := t) (x := .tmp i)
    simp only [aev, h] at this
    exact this
  | no => exact h
  | new k X => exact h
  | st k X => exact h
theorem slots_getD_v' {e : Ef} {t : ATm} {i : Nat} {x : Value} (h : (e.slots t).get i = .v x) : t.get i = .v x := by
  cases e with
  | ap k X =>
    have := aev_kill (k := k) (t := t) (x := .tmp i)
    simp only [aev] at this
    simp only [Ef.slots] at h
    rw [this] at h
    unfold AV.kill at h
    split at h
    · exact h
    · cases h
  | no => exact h
  | new k X => exact h
  | st k X => exact h
theorem fits_back {k : Nat} {X Y : AV} (hf : Fits (X.kill k) Y) (h : Y.isAny = false) : Fits X Y := by
  unfold AV.kill at hf
  split at hf
  · exact hf
  · rcases hf with hf | hf | ⟨cs, hf, _⟩
    · subst hf; cases h
    · cases hf
    · cases hf
theorem isAp_eq {e : Ef} {k : Nat} (h : e.isAp = some k) : ∃ X, e = .ap k X := by
  cases e with
  | ap k' X => simp only [Ef.isAp, Option.some.injEq] at h; subst h; exact ⟨X, rfl⟩
  | no => cases h
  | new k' X => cases h
  | st k' X => cases h
theorem isNo_eq {e : Ef} (h : e.isNo = true) : e = .no := by cases e <;> first | rfl | cases h
theorem slots_noap {e : Ef} (h : e.isAp = none) (t : ATm) : e.slots t = t := by cases e <;> first | rfl | cases h
structure Half (ops : Array Oper) (oi : Oper) (ci : Cl) (oj : Oper) (cj : Cl) : Prop where
  tm : ∀ p ∈ cj.args, ∀ y, oi.dst = some y → p.1 ≠ .tmp y
  gd : ∀ d, guardTmp ops oj = some d → oi.dst ≠ some d
  rd : ∀ k, ci.e.name = some k → ∀ p ∈ cj.rd, p.1 ≠ k
  nm : ∀ k, ci.e.name = some k → cj.e.name ≠ some k
  ap : ∀ k, ci.e.isAp = some k → cj.e = .no ∧ (∀ p ∈ cj.args, p.2.free3 k = true ∧ p.2.isAny = false) ∧ cj.u.free3 k = true ∧ ∀ p ∈ cj.rd, p.2.calm k = true
theorem half_spec {oi oj : Oper} {ci cj : Cl} (hi : half ops oi ci oj cj = true) : Half ops oi ci oj cj := by
  unfold half at hi
  simp only [Bool.and_eq_true] at hi
  obtain ⟨⟨⟨i1, i2⟩, i3⟩, i4⟩ := hi
  refine ⟨fun p hp y hy e => ?_, fun d hd e => ?_, fun k hk p hp => ?_, fun k hk => ?_, fun k hk => ?_⟩
  · have : hasTmp oi.dst cj.args = true := by
      unfold hasTmp; rw [List.any_eq_true]; exact ⟨p, hp, by rw [e, hy]; simp⟩
    rw [this] at i1; cases i1
  · rw [e, hd] at i2; simp at i2
  · rw [hk] at i3
    simp only [Bool.and_eq_true, Bool.not_eq_true', List.any_eq_false, beq_iff_eq] at i3
    exact i3.1 p hp
  · rw [hk] at i3
    simp only [Bool.and_eq_true, Bool.not_eq_true', List.any_eq_false, beq_iff_eq] at i3
    simpa using i3.2
  · rw [hk] at i4
    unfold quietFor at i4
    simp only [Bool.and_eq_true, List.all_eq_true, Bool.not_eq_true'] at i4
    exact ⟨isNo_eq i4.1.1.1, i4.1.1.2, i4.1.2, i4.2⟩
theorem kill_calm {k : Nat} {X : ABlk} (h : X.calm k = true) : X.kill k = X := by
  cases X with
  | row _ _ _ _ _ => rfl
  | box T cs =>
    simp only [ABlk.calm, List.all_eq_true, Bool.and_eq_true] at h
    exact congrArg (ABlk.box T) ((List.map_congr_left fun c hc => if_pos (h c hc).1).trans (List.map_id _))
theorem calm_back {k : Nat} {X Y : ABlk} (h : X.calm k = true) (e : Y.kill k = X) : Y = X := by
  cases Y with
  | row _ _ _ _ _ => exact e
  | box T cs =>
    cases X with
    | row _ _ _ _ _ => cases e
    | box T' ds =>
      simp only [ABlk.kill, ABlk.box.injEq] at e
      obtain ⟨rfl, rfl⟩ := e
      simp only [ABlk.calm, List.all_eq_true, Bool.and_eq_true, Bool.not_eq_true'] at h
      refine congrArg (ABlk.box T) ((List.map_id cs).symm.trans (List.map_congr_left fun c hc => ?_))
      have h2 := (h _ (List.mem_map_of_mem hc)).2
      show c = c.kill k
      unfold AV.kill at h2 ⊢
      split
      · rfl
      · rename_i h3; rw [if_neg h3] at h2; cases h2
theorem ap_heap {k j : Nat} {X Y : ABlk} {h : AHeap} (hj : k ≠ j) (hc : Y.calm k = true) : (Ef.ap k X).heap h j = some Y ↔ h j = some Y := by
  have e : (Ef.ap k X).heap h j = (h j).map (ABlk.kill k) := if_neg fun e => hj e.symm
  rw [e]
  constructor
  · intro h1
    obtain ⟨Z, h2, h3⟩ := Option.map_eq_some_iff.1 h1
    rw [h2, calm_back hc h3]
  · intro h1; rw [h1]; exact congrArg some (kill_calm hc)
theorem heap_other {e : Ef} {h : AHeap} {k : Nat} (hk : e.name ≠ some k) : (e.isAp = none → e.heap h k = h k) ∧ (e.heap h k = none ↔ h k = none) := by
  cases e with
  | no => exact ⟨fun _ => rfl, Iff.rfl⟩
  | new k0 X0 =>
    have e : (if k = k0 then some X0 else h k) = h k := if_neg (by simp only [Ef.name, ne_eq, Option.some.injEq] at hk; exact fun e => hk e.symm)
    exact ⟨fun _ => e, by show (if k = k0 then some X0 else h k) = none ↔ _; rw [e]⟩
  | st k0 X0 =>
    have e : (if k = k0 then some X0 else h k) = h k := if_neg (by simp only [Ef.name, ne_eq, Option.some.injEq] at hk; exact fun e => hk e.symm)
    exact ⟨fun _ => e, by show (if k = k0 then some X0 else h k) = none ↔ _; rw [e]⟩
  | ap k0 X0 =>
    have e : (if k = k0 then some X0 else (h k).map (ABlk.kill k0)) = (h k).map (ABlk.kill k0) := if_neg (by simp only [Ef.name, ne_eq, Option.some.injEq] at hk; exact fun e => hk e.symm)
    exact ⟨(fun h => by cases h), by show (if k = k0 then some X0 else (h k).map (ABlk.kill k0)) = none ↔ _; rw [e]; simp⟩
theorem some_iff {α : Type} {x y : Option α} (h : x = none ↔ y = none) (hx : x.isSome = true) : y.isSome = true := by
  cases y with
  | some _ => rfl
  | none => rw [h.2 rfl] at hx; cases hx
theorem old_name {e : Ef} {k : Nat} (h : e.old = some k) : e.name = some k := by cases e <;> simp_all [Ef.old, Ef.name]
/-- What is claimed of j behind i holds ahead of i, too. -/
theorem App.back {oi oj : Oper} {ci cj : Cl} {h : AHeap} {t : ATm} (H : Half ops oi ci oj cj) (hj : App P J ops oj cj (ci.e.heap h) (ci.t oi t)) : App P J ops oj cj h t := by
  have hw : ∀ b, awanted ops oj (ci.t oi t) = some b → awanted ops oj t = some b := fun b hb => awanted_t hb fun d hd x hx => by
    unfold Cl.t at hx
    rw [getD_put (H.gd d hd)] at hx
    exact slots_getD_v' hx
  rcases hj with ⟨w1, h1, h2, h3, h4, h5⟩ | ⟨w1, rfl⟩
  · refine .inl ⟨hw _ w1, h1, fun p hp => ?_, fun p hp => ?_, fun k X he => ?_, fun k hk => ?_⟩
    · have h6 := h2 p hp
      unfold Cl.t at h6
      rw [aev_put (H.tm p hp)] at h6
      cases hap : ci.e.isAp with
      | none => rw [slots_noap hap] at h6; exact h6
      | some k =>
        obtain ⟨X, he⟩ := isAp_eq hap
        rw [he] at h6
        simp only [Ef.slots, aev_kill] at h6
        exact fits_back h6 ((H.ap k hap).2.1 p hp).2
    · have hk : ci.e.name ≠ some p.1 := fun e => H.rd _ e p hp rfl
      cases hap : ci.e.isAp with
      | none => rw [← (heap_other (h := h) hk).1 hap]; exact h3 p hp
      | some k =>
        have h6 := h3 p hp
        obtain ⟨X, he⟩ := isAp_eq hap
        rw [he] at h6 hk
        exact (ap_heap (fun e => hk (congrArg some e)) ((H.ap k hap).2.2.2 p hp)).1 h6
    · have hk : ci.e.name ≠ some k := fun e => H.nm _ e (by rw [he]; rfl)
      exact (heap_other hk).2.1 (h4 k X he)
    · have hk' : ci.e.name ≠ some k := fun e => H.nm _ e (old_name hk)
      exact some_iff (heap_other hk').2 (h5 k hk)
  · exact .inr ⟨hw _ w1, rfl⟩
/-- What is claimed of i holds behind j. -/
theorem App.fwd {oi oj : Oper} {ci cj : Cl} {h : AHeap} {t : ATm} (H : Half ops oj cj oi ci) (hi : App P J ops oi ci h t) : App P J ops oi ci (cj.e.heap h) (cj.t oj t) := by
  have hw : ∀ b, awanted ops oi t = some b → awanted ops oi (cj.t oj t) = some b := fun b hb => awanted_t hb fun d hd x hx => by
    unfold Cl.t
    rw [getD_put (H.gd d hd)]
    exact slots_getD_v hx
  rcases hi with ⟨w1, h1, h2, h3, h4, h5⟩ | ⟨w1, rfl⟩
  · refine .inl ⟨hw _ w1, h1, fun p hp => ?_, fun p hp => ?_, fun k X he => ?_, fun k hk => ?_⟩
    · have h6 := h2 p hp
      unfold Cl.t
      rw [aev_put (H.tm p hp)]
      cases hap : cj.e.isAp with
      | none => rw [slots_noap hap]; exact h6
      | some k =>
        obtain ⟨X, he⟩ := isAp_eq hap
        rw [he]
        simp only [Ef.slots, aev_kill]
        exact fits_kill h6 ((H.ap k hap).2.1 p hp).1
    · have hk : cj.e.name ≠ some p.1 := fun e => H.rd _ e p hp rfl
      cases hap : cj.e.isAp with
      | none => rw [(heap_other (h := h) hk).1 hap]; exact h3 p hp
      | some k =>
        obtain ⟨X, he⟩ := isAp_eq hap
        rw [he] at hk ⊢
        exact (ap_heap (fun e => hk (congrArg some e)) ((H.ap k hap).2.2.2 p hp)).2 (h3 p hp)
    · have hk : cj.e.name ≠ some k := fun e => H.nm _ e (by rw [he]; rfl)
      exact (heap_other hk).2.2 (h4 k X he)
    · have hk' : cj.e.name ≠ some k := fun e => H.nm _ e (old_name hk)
      exact some_iff (heap_other hk').2.symm (h5 k hk)
  · exact .inr ⟨hw _ w1, rfl⟩
theorem upd_comm {ei ej : Ef} {h : AHeap} (hij : ∀ k, ei.name = some k → ej.name ≠ some k) (ai : ei.isAp = none) (aj : ej.isAp = none) : ej.heap (ei.heap h) = ei.heap (ej.heap h) := by
  have key : ∀ (k l : Nat) (X Y : ABlk), k ≠ l → (fun j => if j = l then some Y else (fun j => if j = k then some X else h j) j) = (fun j => if j = k then some X else (fun j => if j = l then some Y else h j) j) := fun k l X Y hkl => by
    funext j
    by_cases e1 : j = k
    · subst e1; simp [hkl]
    · simp [e1]
  cases ei with
  | no => rfl
  | ap k X => cases ai
  | new k X =>
    cases ej with
    | no => rfl
    | ap l Y => cases aj
    | new l Y => exact key k l X Y fun e => hij k rfl (by rw [e]; rfl)
    | st l Y => exact key k l X Y fun e => hij k rfl (by rw [e]; rfl)
  | st k X =>
    cases ej with
    | no => rfl
    | ap l Y => cases aj
    | new l Y => exact key k l X Y fun e => hij k rfl (by rw [e]; rfl)
    | st l Y => exact key k l X Y fun e => hij k rfl (by rw [e]; rfl)
theorem aput_comm {t : ATm} {d d' : Option Tmp} {u u' : AV} (h : ∀ y, d = some y → d' ≠ some y) : aput (aput t d u) d' u' = aput (aput t d' u') d u := by
  cases d with
  | none => rfl
  | some x =>
    cases d' with
    | none => rfl
    | some y =>
      have hxy : ¬ x = y := fun e => h x rfl (by rw [e])
      simp only [aput, ATm.mk.injEq, true_and]
      funext j
      by_cases e1 : j = x
      · subst e1; simp [hxy]
      · simp [e1]
theorem map_put {t : ATm} {d : Option Tmp} {u : AV} {k : Nat} : (⟨(aput t d u).n, fun j => ((aput t d u).f j).kill k⟩ : ATm) = aput ⟨t.n, fun j => (t.f j).kill k⟩ d (u.kill k) := by
  cases d with
  | none => rfl
  | some x =>
    simp only [aput, ATm.mk.injEq, true_and]
    funext j
    split <;> rfl
theorem next_comm {oi oj : Oper} {ci cj : Cl} {h : AHeap} {t : ATm} (H : Half ops oi ci oj cj) (H' : Half ops oj cj oi ci) (hd : ∀ y, oi.dst = some y → oj.dst ≠ some y) :
    cj.e.heap (ci.e.heap h) = ci.e.heap (cj.e.heap h) ∧ cj.t oj (ci.t oi t) = ci.t oi (cj.t oj t) := by
  unfold Cl.t
  cases ai : ci.e.isAp with
  | some k =>
    obtain ⟨X, he⟩ := isAp_eq ai
    obtain ⟨h1, _, h3, _⟩ := H.ap k ai
    rw [h1, he]
    refine ⟨rfl, ?_⟩
    simp only [Ef.slots]
    rw [map_put, kill_free h3, aput_comm hd]
  | none =>
    cases aj : cj.e.isAp with
    | some k =>
      obtain ⟨X, he⟩ := isAp_eq aj
      obtain ⟨h1, _, h3, _⟩ := H'.ap k aj
      rw [h1, he]
      refine ⟨rfl, ?_⟩
      simp only [Ef.slots]
      rw [map_put, kill_free h3, aput_comm hd]
    | none =>
      refine ⟨upd_comm H.nm ai aj, ?_⟩
      rw [slots_noap ai, slots_noap aj, slots_noap ai, slots_noap aj, aput_comm hd]
/-- j comes only behind i. -/
def reach (ops : Array Oper) : Nat → Nat → Nat → Bool
  | 0, _, _ => false
  | f + 1, j, i => match ops[j]? with
    | none => false
    | some o => o.after.any fun e => Region.binds .any e && (e.on == i || reach ops f e.on i)
def Closed (ops : Array Oper) (listed : Array Bool) : Prop := ∀ j o, listed.getD j false = true → ops[j]? = some o → ∀ e ∈ o.after, Region.binds .any e = true → listed.getD e.on false = true
theorem not_reach {listed : Array Bool} {i : Nat} (hc : Closed ops listed) (hi : listed.getD i false = false) : ∀ (f j : Nat), (∀ o, ops[j]? = some o → ∀ e ∈ o.after, Region.binds .any e = true → listed.getD e.on false = true) → reach ops f j i = false
  | 0, _, _ => rfl
  | f + 1, j, hj => by
    unfold reach
    cases ho : ops[j]? with
    | none => rfl
    | some o =>
      rw [Bool.eq_false_iff]
      intro hany
      obtain ⟨n, hn, hp⟩ := Array.any_eq_true.1 hany
      have h1 := hj o ho _ (Array.getElem_mem hn)
      generalize o.after[n] = e at h1 hp
      revert hp
      rw [imp_false, Bool.not_eq_true]
      cases hb : Region.binds .any e with
      | false => simp
      | true =>
        have h2 := h1 hb
        have h3 : (e.on == i) = false := by
          rw [beq_eq_false_iff_ne]; intro e'; rw [e', hi] at h2; cases h2
        rw [h3, not_reach hc hi f e.on (fun o ho => hc e.on o h2 ho)]
        simp
theorem both_getD {listed : Array Bool} {i : Nat} (h : listed.getD i true = false) : listed.getD i false = false := by
  simp only [Array.getD] at h ⊢
  split at h
  · rename_i hi; rw [dif_pos hi]; exact h
  · cases h
theorem anyC_first {cl : List Cl} {Q : AHeap → ATm → Prop} {i : Nat} {oi : Oper} {ci : Cl} (hi : ops[i]? = some oi) (hci : cl[i]? = some ci) :
    ∀ (f : Nat) (listed : Array Bool) (h : AHeap) (t : ATm), Closed ops listed →
      (∀ j oj cj, ops[j]? = some oj → cl[j]? = some cj → j ≠ i → listed.getD j true = false → reach ops ops.size j i = false → indep ops oi ci oj cj = true) →
      i ∈ Region.ready .any ops listed → App P J ops oi ci h t → anyC P J ops cl Q f (listed.setIfInBounds i true) (ci.e.heap h) (ci.t oi t) → anyC P J ops cl Q (f + 1) listed h t := by
  intro f
  induction f with
  | zero =>
    intro listed h t _ _ hr ha H
    refine ⟨fun h0 => (by rw [h0] at hr; cases hr), fun j hj => ?_⟩
    by_cases hji : j = i
    · subst hji; exact ⟨oi, ci, hi, hci, ha, H⟩
    · have := ready_mono hj hji
      rw [H.1] at this
      cases this
  | succ f ih =>
    intro listed h t hcl hfree hr ha H
    refine ⟨fun h0 => (by rw [h0] at hr; cases hr), fun j hj => ?_⟩
    by_cases hji : j = i
    · subst hji; exact ⟨oi, ci, hi, hci, ha, H⟩
    · obtain ⟨oj, cj, h1, h2, h3, h4⟩ := H.2 j (ready_mono hj hji)
      obtain ⟨hjun, oj', hoj, hall⟩ := mem_ready.1 hj
      rw [h1] at hoj
      cases hoj
      have hiun := both_getD (mem_ready.1 hr).1
      have hnr : reach ops ops.size j i = false := not_reach hcl hiun _ _ fun o ho => by rw [h1] at ho; cases ho; exact hall
      have hind := hfree j oj cj h1 h2 hji hjun hnr
      unfold indep at hind
      simp only [Bool.and_eq_true] at hind
      have Hi := half_spec hind.1.1
      have Hj := half_spec hind.1.2
      have hd : ∀ y, oi.dst = some y → oj.dst ≠ some y := fun y e1 e2 => by
        have := hind.2
        rw [e1, e2] at this
        simp at this
      have hcomm := next_comm (h := h) (t := t) Hi Hj hd
      refine ⟨oj, cj, h1, h2, h3.back Hi, ih _ _ _ ?_ ?_ (ready_mono hr (Ne.symm hji)) (ha.fwd Hj) ?_⟩
      · intro k o hk hko e he hb
        by_cases hkj : j = k
        · subst hkj
          rw [h1] at hko; cases hko
          exact getD_set_true (hall e he hb)
        · rw [getD_set_ne false hkj] at hk
          exact getD_set_true (hcl k o hk hko e he hb)
      · intro k ok ck hk1 hk2 hki hun hre
        refine hfree k ok ck hk1 hk2 hki ?_ hre
        by_cases hjk : j = k
        · subst hjk; exact hjun
        · rw [getD_set_ne true hjk] at hun; exact hun
      · rw [Array.setIfInBounds_comm _ _ hji, ← hcomm.1, ← hcomm.2]
        exact h4
/-- The order of the text, with the claims. -/
def chainC (P : Program) (J : World → Prop) (ops : Array Oper) (Q : AHeap → ATm → Prop) : List Oper → List Cl → AHeap → ATm → Prop
  | o :: l, c :: cs, h, t => App P J ops o c h t ∧ chainC P J ops Q l cs (c.e.heap h) (c.t o t)
  | [], [], h, t => Q h t
  | _, _, _, _ => False
/-- Each operation may come first when its turn comes, and touches none that might have come before it. -/
def lexC (ops : Array Oper) (cl : List Cl) : Nat → Nat → Array Bool → Bool
  | 0, _, listed => (Region.ready .any ops listed).isEmpty
  | f + 1, k, listed => (Region.ready .any ops listed).contains k && ((List.range ops.size).all fun j => j == k || listed.getD j true || reach ops ops.size j k || (match ops[k]?, cl[k]?, ops[j]?, cl[j]? with | some a, some b, some c, some d => indep ops a b c d | _, _, _, _ => true)) && lexC ops cl f (k + 1) (listed.setIfInBounds k true)
theorem anyC_lex {cl : List Cl} {Q : AHeap → ATm → Prop} : ∀ (l : List Oper) (cs : List Cl) (k : Nat) (listed : Array Bool) (h : AHeap) (t : ATm), (∀ j, l[j]? = ops[k + j]?) → (∀ j, cs[j]? = cl[k + j]?) → Closed ops listed → lexC ops cl l.length k listed = true → chainC P J ops Q l cs h t → anyC P J ops cl Q l.length listed h t
  | [], [], _, _, _, _, _, _, _, hB, hc => ⟨by simpa [lexC] using hB, hc⟩
  | [], _ :: _, _, _, _, _, _, _, _, _, hc => hc.elim
  | _ :: _, [], _, _, _, _, _, _, _, _, hc => hc.elim
  | o :: l, c :: cs, k, listed, h, t, hl, hcs, hcl, hB, hc => by
    have h0 : ops[k]? = some o := by simpa using (hl 0).symm
    have c0 : cl[k]? = some c := by simpa using (hcs 0).symm
    simp only [List.length_cons, lexC, Bool.and_eq_true] at hB
    obtain ⟨⟨hr, hf⟩, hB'⟩ := hB
    have hr' : k ∈ Region.ready .any ops listed := by simpa using hr
    refine anyC_first h0 c0 l.length listed h t hcl (fun j oj cj hj hcj hne hun hre => ?_) hr' hc.1 (anyC_lex l cs (k + 1) _ _ _ (fun j => by have := hl (j + 1); simpa [Nat.add_assoc, Nat.add_comm 1 j] using this) (fun j => by have := hcs (j + 1); simpa [Nat.add_assoc, Nat.add_comm 1 j] using this) ?_ hB' hc.2)
    · have hjs : j < ops.size := (Array.getElem?_eq_some_iff.1 hj).1
      have := List.all_eq_true.1 hf j (List.mem_range.2 hjs)
      rw [h0, c0, hj, hcj, hun, hre] at this
      simpa [hne] using this
    · obtain ⟨_, o', ho', hall⟩ := mem_ready.1 hr'
      intro j oj hj hoj e he hb
      by_cases hkj : k = j
      · subst hkj
        rw [hoj] at ho'; cases ho'
        exact getD_set_true (hall e he hb)
      · rw [getD_set_ne false hkj] at hj
        exact getD_set_true (hcl j oj hj hoj e he hb)
theorem Sat.drew {w0 : World} {ρ : Names} {h : AHeap} {t : ATm} {a : Act} {w : World} (s : Sat J w0 ρ h t a w) : Sat J w0 ρ h t a { w with drawn := w.drawn + 1 } := by
  have hp : ∀ X x, Pu (w0.heap.size ≤ ·) w (okOf ρ) X x → Pu (w0.heap.size ≤ ·) { w with drawn := w.drawn + 1 } (okOf ρ) X x := fun X x hx => hx.mono (fun b hb hw => ⟨hb, hw, rfl⟩) fun _ _ h => h
  refine ⟨⟨s.wf.inj, s.wf.lo⟩, ⟨s.bel.os, s.bel.tape, s.bel.output, s.bel.size, s.bel.block⟩, s.inv, fun k X hk => ?_, s.dom, s.tl, fun i hi => (s.tm i hi).keep hp fun _ _ h => h, s.df⟩
  obtain ⟨nm, h1, h2⟩ := s.hp k X hk
  exact ⟨nm, h1, BlkR.keep (w := w) (w' := { w with drawn := w.drawn + 1 }) (ρ := ρ) (ρ' := ρ) (fun fr X x hx => hx.mono (fun b hb hw => ⟨hb, hw, rfl⟩) fun _ _ h => h) hp (fun _ _ h => h) (fun _ _ _ _ => rfl) h2⟩
theorem tri_draw {w0 : World} {h : AHeap} {t : ATm} {Q : Exit → Act → World → Prop} {id : Nat} {l : List Oper} (cl : List Cl) (hm : P.follows .mixedOrders = true) (hB : lexC l.toArray cl l.length 0 (Array.replicate l.toArray.size false) = true)
    (H : chainC P J l.toArray (fun h t => ETri J w0 h t (Q .normal)) l cl h t) : ETri J w0 h t ((Code.region id l.toArray true).wp P Q) := fun ρ a w s => by
  refine wp_region_any hm ?_
  have hc : Closed l.toArray (Array.replicate l.toArray.size false) := fun j o hj => by
    rw [Array.getD_eq_getD_getElem?, Array.getElem?_replicate] at hj
    split at hj <;> cases hj
  have := anyC_lex (P := P) (cl := cl) l cl 0 (Array.replicate l.toArray.size false) h t (by simp) (by simp) hc hB H
  have h2 := any_of_C (w0 := w0) (Φ := Q) (Q := fun h t => ETri J w0 h t (Q .normal)) (fun _ _ h => h) l.length _ h t this ρ a _ s.drew
  simpa using h2
end
end Go.Proofs.YtmpbfdfjcfanoaaDoor

/-
  NUMBERS, TEXTS, TRUTH VALUES; slices that are written out.
-/
namespace Go.Proofs.YtmpbfdfjcfanoaaDoor
open Go.RowKit Go.Deep
variable {J : World → Prop}
section
variable {P : Program} {o : Oper}
theorem sp_bin {op : BinOp} {t ty : TypeId} {x y : Operand} {p q r : Value} (ho : o.op = .binOp op t x y ty) (hr : ∀ w, (do eqGuard op t x y p q; Go.binOp op t p q : Sem Value).run P w = .ok r w) : ASpec P J o [(x, .v p), (y, .v q)] [] (.v r) .no :=
  aspec_val fun ρ B a w _ ha _ => by
    have h1 := (ha (x, .v p) (by simp)).v_inv
    have h2 := (ha (y, .v q) (by simp)).v_inv
    refine ⟨r, ?_, .pu (.v r)⟩
    simp only [execOp, ho, h1, h2]
    exact run_val (hr w)
variable {t ty : TypeId} {x y : Operand} {k : IntKind} {a b c : Int} {r : Bool}
theorem sp_add (ho : o.op = .binOp .add t x y ty) (hc : k.wrap (a + b) = c) : ASpec P J o [(x, .v (.int k a)), (y, .v (.int k b))] [] (.v (.int k c)) .no :=
  sp_bin ho fun w => by subst hc; simp [eqGuard, Go.binOp, Op.intArith]
theorem sp_sub (ho : o.op = .binOp .sub t x y ty) (hc : k.wrap (a - b) = c) : ASpec P J o [(x, .v (.int k a)), (y, .v (.int k b))] [] (.v (.int k c)) .no :=
  sp_bin ho fun w => by subst hc; simp [eqGuard, Go.binOp, Op.intArith]
theorem sp_mul (ho : o.op = .binOp .mul t x y ty) (hc : k.wrap (a * b) = c) : ASpec P J o [(x, .v (.int k a)), (y, .v (.int k b))] [] (.v (.int k c)) .no :=
  sp_bin ho fun w => by subst hc; simp [eqGuard, Go.binOp, Op.intArith]
theorem sp_quo (ho : o.op = .binOp .quo t x y ty) (h0 : b ≠ 0) (hc : k.wrap (a.tdiv b) = c) : ASpec P J o [(x, .v (.int k a)), (y, .v (.int k b))] [] (.v (.int k c)) .no :=
  sp_bin ho fun w => by subst hc; simp [eqGuard, Go.binOp, Op.intDiv, h0]
theorem sp_rem (ho : o.op = .binOp .rem t x y ty) (h0 : b ≠ 0) (hc : a.tmod b = c) : ASpec P J o [(x, .v (.int k a)), (y, .v (.int k b))] [] (.v (.int k c)) .no :=
  sp_bin ho fun w => by subst hc; simp [eqGuard, Go.binOp, Op.intDiv, h0]
theorem sp_lss (ho : o.op = .binOp .lss t x y ty) (hr : decide (a < b) = r) : ASpec P J o [(x, .v (.int k a)), (y, .v (.int k b))] [] (.v (.bool r)) .no :=
  sp_bin ho fun w => by subst hr; simp [eqGuard, Go.binOp, Op.intCmp]
theorem sp_leq (ho : o.op = .binOp .leq t x y ty) (hr : decide (a ≤ b) = r) : ASpec P J o [(x, .v (.int k a)), (y, .v (.int k b))] [] (.v (.bool r)) .no :=
  sp_bin ho fun w => by subst hr; simp [eqGuard, Go.binOp, Op.intCmp]
theorem sp_gtr (ho : o.op = .binOp .gtr t x y ty) (hr : decide (b < a) = r) : ASpec P J o [(x, .v (.int k a)), (y, .v (.int k b))] [] (.v (.bool r)) .no :=
  sp_bin ho fun w => by subst hr; simp [eqGuard, Go.binOp, Op.intCmp]
theorem sp_geq (ho : o.op = .binOp .geq t x y ty) (hr : decide (b ≤ a) = r) : ASpec P J o [(x, .v (.int k a)), (y, .v (.int k b))] [] (.v (.bool r)) .no :=
  sp_bin ho fun w => by subst hr; simp [eqGuard, Go.binOp, Op.intCmp]
theorem sp_eql (ho : o.op = .binOp .eql t x y ty) (hr : decide (a = b) = r) : ASpec P J o [(x, .v (.int k a)), (y, .v (.int k b))] [] (.v (.bool r)) .no :=
  sp_bin ho fun w => by subst hr; simp [eqGuard, Go.binOp, Op.intCmp]; rfl
theorem sp_neq (ho : o.op = .binOp .neq t x y ty) (hr : decide (a = b) = !r) : ASpec P J o [(x, .v (.int k a)), (y, .v (.int k b))] [] (.v (.bool r)) .no :=
  sp_bin ho fun w => by
    have : r = !decide (a = b) := by rw [hr]; simp
    subst this; simp [eqGuard, Go.binOp, Op.intCmp, bne]; rfl
theorem sp_seql {s s' : ByteArray} (ho : o.op = .binOp .eql t x y ty) (hr : (s.toList == s'.toList) = r) : ASpec P J o [(x, .v (.string s)), (y, .v (.string s'))] [] (.v (.bool r)) .no :=
  sp_bin ho fun w => by subst hr; simp [eqGuard, Go.binOp, Op.stringOp]
theorem sp_sneq {s s' : ByteArray} (ho : o.op = .binOp .neq t x y ty) (hr : (s.toList == s'.toList) = !r) : ASpec P J o [(x, .v (.string s)), (y, .v (.string s'))] [] (.v (.bool r)) .no :=
  sp_bin ho fun w => by
    have : r = !(s.toList == s'.toList) := by rw [hr]; simp
    subst this; simp [eqGuard, Go.binOp, Op.stringOp, bne]
theorem sp_sadd {s s' s'' : ByteArray} (ho : o.op = .binOp .add t x y ty) (hl : s.size + s'.size ≤ 9223372036854775807) (hr : s ++ s' = s'') : ASpec P J o [(x, .v (.string s)), (y, .v (.string s'))] [] (.v (.string s'')) .no :=
  sp_bin ho fun w => by subst hr; simp [eqGuard, Go.binOp, Op.stringOp]; try omega
theorem sp_not {b' : Bool} (ho : o.op = .unOp .not t x) (hr : (!r) = b') : ASpec P J o [(x, .v (.bool r))] [] (.v (.bool b')) .no :=
  aspec_val fun ρ B a w _ ha _ => by
    have h1 := (ha (x, .v (.bool r)) (by simp)).v_inv
    subst hr
    refine ⟨_, ?_, .pu (.v _)⟩
    simp only [execOp, ho, h1]
    exact run_val (by simp [Op.unary])
theorem sp_neg (ho : o.op = .unOp .neg t x) (hc : k.wrap (-a) = c) : ASpec P J o [(x, .v (.int k a))] [] (.v (.int k c)) .no :=
  aspec_val fun ρ B ac w _ ha _ => by
    have h1 := (ha (x, .v (.int k a)) (by simp)).v_inv
    subst hc
    refine ⟨_, ?_, .pu (.v _)⟩
    simp only [execOp, ho, h1]
    exact run_val (by simp [Op.unary, Op.intArith])
/-- A byte of a text. -/
theorem sp_byte {s : ByteArray} {ik : IntKind} {i : Int} {n : Nat} (ho : o.op = .index t x y) (hu : P.underlying t = some .string) (hi : i = (n : Int)) (hn : n < s.size) : ASpec P J o [(x, .v (.string s)), (y, .v (.int ik i))] [] (.v (.int .u8 (s[n].toNat : Int))) .no :=
  aspec_val fun ρ B a w _ ha _ => by
    have h1 := (ha (x, .v (.string s)) (by simp)).v_inv
    have h2 := (ha (y, .v (.int ik i)) (by simp)).v_inv
    subst hi
    refine ⟨_, ?_, .pu (.v _)⟩
    simp only [execOp, ho, h1, h2]
    refine run_val ?_
    have : s[(n : Int).toNat]? = some s[n] := by simp [hn]
    simp [Instr.index, asIntOf, run_underlying hu, this, hn]
end
theorem w64 {a c : Int} (h : a = c) (h1 : -9223372036854775808 ≤ c) (h2 : c ≤ 9223372036854775807) : IntKind.i64.wrap a = c := by subst h; exact IntWalk.i64_in _ ⟨h1, h2⟩
end Go.Proofs.YtmpbfdfjcfanoaaDoor

/-
  A FAMILY AS IT LIES IN MEMORY: its texts, expressions, guards and rules.
-/
namespace Go.Proofs.YtmpbfdfjcfanoaaDoor
open Go.RowKit Go.Deep

/-- A text, an expression, a guard, a rule, a family: by their fields. -/
def StrEl (_ : Nat) (_ : World) (cs : List Value) (s : ByteArray) : Prop := cs = [.string s] ∧ s.size ≤ maxLen
structure Ln where
  c : Int
  n : Int
  t : Int
  f : Int
  deriving DecidableEq, Inhabited
def LnEl (_ : Nat) (_ : World) (cs : List Value) (l : Ln) : Prop := cs = [.int .i64 l.c, .int .i64 l.n, .int .i64 l.t, .int .i64 l.f] ∧ I64 l.c ∧ I64 l.n ∧ I64 l.t ∧ I64 l.f
structure Th where
  msg : Int
  coef : Int
  bd : Ln
  deriving DecidableEq, Inhabited
def ThEl (_ : Nat) (_ : World) (cs : List Value) (g : Th) : Prop := cs = [.int .i64 g.msg, .int .i64 g.coef, .int .i64 g.bd.c, .int .i64 g.bd.n, .int .i64 g.bd.t, .int .i64 g.bd.f] ∧ I64 g.msg ∧ I64 g.coef ∧ I64 g.bd.c ∧ I64 g.bd.n ∧ I64 g.bd.t ∧ I64 g.bd.f
structure Ru where
  nm : ByteArray
  kind : Int
  frm : Int
  to : Int
  pf : Int
  pt : Int
  resp : List Int
  guards : List Th
  ex : List Int
  fa : List Int
  rd : Int
  wr : Int
  send : List Int
  pos : Int
  left : List Int
  right : List Int
  parent : List Int
  dir : Int
  deriving Inhabited
def RuEl (lo : Nat) (w : World) (cs : List Value) (r : Ru) : Prop :=
  ∃ v6 v7 v8 v9 v12 v14 v15 v16, cs = [.string r.nm, .int .i64 r.kind, .int .i64 r.frm, .int .i64 r.to, .int .i64 r.pf, .int .i64 r.pt, v6, v7, v8, v9, .int .i64 r.rd, .int .i64 r.wr, v12, .int .i64 r.pos, v14, v15, v16, .int .i64 r.dir] ∧ r.nm.size ≤ maxLen ∧ I64 r.kind ∧ I64 r.frm ∧ I64 r.to ∧ I64 r.pf ∧ I64 r.pt ∧ IsInts lo w v6 r.resp ∧ IsSl 6 ThEl lo w v7 r.guards ∧ IsInts lo w v8 r.ex ∧ IsInts lo w v9 r.fa ∧ I64 r.rd ∧ I64 r.wr ∧ IsInts lo w v12 r.send ∧ I64 r.pos ∧ IsInts lo w v14 r.left ∧ IsInts lo w v15 r.right ∧ IsInts lo w v16 r.parent ∧ I64 r.dir
theorem StrEl.stays : Stays StrEl := fun _ _ _ _ _ h _ => h
theorem StrEl.mono : Mono StrEl := fun _ _ _ _ _ h _ => h
theorem LnEl.stays : Stays LnEl := fun _ _ _ _ _ h _ => h
theorem LnEl.mono : Mono LnEl := fun _ _ _ _ _ h _ => h
theorem ThEl.stays : Stays ThEl := fun _ _ _ _ _ h _ => h
theorem ThEl.mono : Mono ThEl := fun _ _ _ _ _ h _ => h
theorem RuEl.stays : Stays RuEl := fun _ _ _ _ _ h hb => by
  obtain ⟨v6, v7, v8, v9, v12, v14, v15, v16, e, h0, h1, h2, h3, h4, h5, h6, h7, h8, h9, h10, h11, h12, h13, h14, h15, h16, h17⟩ := h
  exact ⟨v6, v7, v8, v9, v12, v14, v15, v16, e, h0, h1, h2, h3, h4, h5, h6.below hb, h7.below ThEl.stays hb, h8.below hb, h9.below hb, h10, h11, h12.below hb, h13, h14.below hb, h15.below hb, h16.below hb, h17⟩
theorem RuEl.mono : Mono RuEl := fun _ _ _ _ _ h hl => by
  obtain ⟨v6, v7, v8, v9, v12, v14, v15, v16, e, h0, h1, h2, h3, h4, h5, h6, h7, h8, h9, h10, h11, h12, h13, h14, h15, h16, h17⟩ := h
  exact ⟨v6, v7, v8, v9, v12, v14, v15, v16, e, h0, h1, h2, h3, h4, h5, h6.mono hl, h7.mono ThEl.mono hl, h8.mono hl, h9.mono hl, h10, h11, h12.mono hl, h13, h14.mono hl, h15.mono hl, h16.mono hl, h17⟩
structure Fm where
  nm : ByteArray
  top : Int
  states : List ByteArray
  msgs : List ByteArray
  vals : List ByteArray
  fault : Int
  res : List Ln
  init : List Int
  leader : List Int
  rules : List Ru
/-- The value v is a family that reads as q. -/
def IsFam (lo : Nat) (w : World) (v : Value) (q : Fm) : Prop :=
  ∃ v2 v3 v4 v6 v7 v8 v9, v = .agg #[.string q.nm, .int .i64 q.top, v2, v3, v4, .int .i64 q.fault, v6, v7, v8, v9] ∧ q.nm.size ≤ maxLen ∧ I64 q.top ∧ IsSl 1 StrEl lo w v2 q.states ∧ IsSl 1 StrEl lo w v3 q.msgs ∧ IsSl 1 StrEl lo w v4 q.vals ∧ I64 q.fault ∧ IsSl 4 LnEl lo w v6 q.res ∧ IsInts lo w v7 q.init ∧ IsInts lo w v8 q.leader ∧ IsSl 18 RuEl lo w v9 q.rules
theorem IsFam.below {lo : Nat} {w w' : World} {v : Value} {q : Fm} (h : IsFam lo w v q) (hb : Below w.heap.size w w') : IsFam lo w' v q := by
  obtain ⟨v2, v3, v4, v6, v7, v8, v9, e, h0, h1, h2, h3, h4, h5, h6, h7, h8, h9⟩ := h
  exact ⟨v2, v3, v4, v6, v7, v8, v9, e, h0, h1, h2.below StrEl.stays hb, h3.below StrEl.stays hb, h4.below StrEl.stays hb, h5, h6.below LnEl.stays hb, h7.below hb, h8.below hb, h9.below RuEl.stays hb⟩
theorem IsFam.mono {lo lo' : Nat} {w : World} {v : Value} {q : Fm} (h : IsFam lo w v q) (hl : lo' ≤ lo) : IsFam lo' w v q := by
  obtain ⟨v2, v3, v4, v6, v7, v8, v9, e, h0, h1, h2, h3, h4, h5, h6, h7, h8, h9⟩ := h
  exact ⟨v2, v3, v4, v6, v7, v8, v9, e, h0, h1, h2.mono StrEl.mono hl, h3.mono StrEl.mono hl, h4.mono StrEl.mono hl, h5, h6.mono LnEl.mono hl, h7.mono hl, h8.mono hl, h9.mono RuEl.mono hl⟩
end Go.Proofs.YtmpbfdfjcfanoaaDoor

/-
  WHAT THE PROGRAM'S DATA LOOK LIKE, and how the elder contracts' readings follow.
-/
namespace Go.Proofs.YtmpbfdfjcfanoaaDoor
open Go.RowKit Go.Deep
variable {J : World → Prop}
abbrev iv (x : Int) : AV := .v (.int .i64 x)
abbrev sv (s : ByteArray) : AV := .v (.string s)
abbrev bv (b : Bool) : AV := .v (.bool b)
def intsA (xs : List Int) : AV := .sl 1 xs.length (xs.map iv)
def strsA (xs : List ByteArray) : AV := .sl 1 xs.length (xs.map sv)
/-- A list of structs, each by its cells. -/
def slA {α : Type} (z : Nat) (f : α → List AV) (xs : List α) : AV := .sl z xs.length (xs.flatMap f)
def cLn (l : Ln) : List AV := [iv l.c, iv l.n, iv l.t, iv l.f]
def cTh (g : Th) : List AV := [iv g.msg, iv g.coef, iv g.bd.c, iv g.bd.n, iv g.bd.t, iv g.bd.f]
def cRu (r : Ru) : List AV := [sv r.nm, iv r.kind, iv r.frm, iv r.to, iv r.pf, iv r.pt, intsA r.resp, slA 6 cTh r.guards, intsA r.ex, intsA r.fa, iv r.rd, iv r.wr, intsA r.send, iv r.pos, intsA r.left, intsA r.right, intsA r.parent, iv r.dir]
def cFm (q : Fm) : List AV := [sv q.nm, iv q.top, strsA q.states, strsA q.msgs, strsA q.vals, iv q.fault, slA 4 cLn q.res, intsA q.init, intsA q.leader, slA 18 cRu q.rules]
theorem plain_ints (xs : List Int) : Plain (intsA xs) := .sl (plain_all fun X hX => by obtain ⟨x, _, rfl⟩ := List.mem_map.1 hX; exact .v _)
theorem plain_strs (xs : List ByteArray) : Plain (strsA xs) := .sl (plain_all fun X hX => by obtain ⟨x, _, rfl⟩ := List.mem_map.1 hX; exact .v _)
theorem plain_sl {α : Type} {z : Nat} {f : α → List AV} (h : ∀ x, ∀ X ∈ f x, Plain X) (xs : List α) : Plain (slA z f xs) := .sl (plain_all fun X hX => by obtain ⟨x, _, hx⟩ := List.mem_flatMap.1 hX; exact h x X hx)
theorem plain_ln (l : Ln) : ∀ X ∈ cLn l, Plain X := by intro X hX; simp only [cLn, List.mem_cons, List.not_mem_nil, or_false] at hX; rcases hX with rfl | rfl | rfl | rfl <;> exact .v _
theorem plain_th (l : Th) : ∀ X ∈ cTh l, Plain X := by intro X hX; simp only [cTh, List.mem_cons, List.not_mem_nil, or_false] at hX; rcases hX with rfl | rfl | rfl | rfl | rfl | rfl <;> exact .v _
theorem plain_ru (r : Ru) : ∀ X ∈ cRu r, Plain X := by
  intro X hX
  simp only [cRu, List.mem_cons, List.not_mem_nil, or_false] at hX
  rcases hX with rfl | rfl | rfl | rfl | rfl | rfl | rfl | rfl | rfl | rfl | rfl | rfl | rfl | rfl | rfl | rfl | rfl | rfl <;> first | exact .v _ | exact plain_ints _ | exact plain_sl plain_th _
theorem plain_fm (q : Fm) : ∀ X ∈ cFm q, Plain X := by
  intro X hX
  simp only [cFm, List.mem_cons, List.not_mem_nil, or_false] at hX
  rcases hX with rfl | rfl | rfl | rfl | rfl | rfl | rfl | rfl | rfl | rfl <;> first | exact .v _ | exact plain_ints _ | exact plain_strs _ | exact plain_sl plain_ln _ | exact plain_sl plain_ru _
theorem plain_agg {cs : List AV} (h : ∀ X ∈ cs, Plain X) : Plain (.agg cs) := .agg (plain_all h)
/-- The cells of the element i. -/
theorem eflat_get {α : Type} {z : Nat} {f : α → List AV} (hz : ∀ x, (f x).length = z) : ∀ (xs : List α) (i j : Nat) (hi : i < xs.length), j < z → (xs.flatMap f)[i * z + j]? = (f xs[i])[j]?
  | x :: xs, 0, j, _, hj => by
    simp only [List.flatMap_cons, Nat.zero_mul, Nat.zero_add, List.getElem_cons_zero]
    rw [List.getElem?_append_left (by rw [hz]; exact hj)]
  | x :: xs, i + 1, j, hi, hj => by
    simp only [List.flatMap_cons, List.getElem_cons_succ]
    rw [List.getElem?_append_right (by rw [hz, Nat.add_mul]; omega), hz, ← eflat_get hz xs i j (by simpa using hi) hj]
    congr 1
    rw [Nat.add_mul]; omega
theorem flat_length {α : Type} {z : Nat} {f : α → List AV} (hz : ∀ x, (f x).length = z) : ∀ xs : List α, (xs.flatMap f).length = xs.length * z
  | [] => by simp
  | x :: xs => by simp only [List.flatMap_cons, List.length_append, hz, flat_length hz xs, List.length_cons, Nat.add_mul]; omega
theorem flat_take {α : Type} {z : Nat} {f : α → List AV} (hz : ∀ x, (f x).length = z) (xs : List α) (i : Nat) (hi : i < xs.length) : ((xs.flatMap f).drop (i * z)).take z = f xs[i] := by
  apply List.ext_getElem?
  intro j
  rw [List.getElem?_take]
  split
  · rw [List.getElem?_drop, eflat_get hz xs i j hi (by assumption)]
  · rw [List.getElem?_eq_none (by rw [hz]; omega)]
/-- The first elements. -/
theorem flat_pre {α : Type} {z : Nat} {f : α → List AV} (hz : ∀ x, (f x).length = z) : ∀ (xs : List α) (i : Nat), i ≤ xs.length → (xs.flatMap f).take (i * z) = (xs.take i).flatMap f
  | _, 0, _ => by simp
  | [], i + 1, h => by simp at h
  | x :: xs, i + 1, h => by
    simp only [List.flatMap_cons, List.take_succ_cons]
    rw [← flat_pre hz xs i (by simpa using h), List.take_append, hz, List.take_of_length_le (by rw [hz, Nat.add_mul]; omega), show (i + 1) * z - z = i * z by rw [Nat.add_mul]; omega]
/-- A list of structs by its readings. -/
theorem pu_sl {F ok : Nat → Prop} {w : World} {v : Value} {α : Type} {z : Nat} {f : α → List AV} {xs : List α} (hz : ∀ x, (f x).length = z) {Q : Nat → World → List Value → α → Prop} {lo : Nat} (hlo : ∀ b, ok b → lo ≤ b)
    (hQ : ∀ (x : α) (vs : List Value), vs.length = z → (∀ j (hj : j < (f x).length), Pu F w ok (f x)[j] (vs.getD j undef)) → Q lo w vs x) (h : Pu F w ok (slA z f xs) v) : IsSl z Q lo w v xs := by
  unfold slA at h
  generalize hcs : xs.flatMap f = cs at h
  generalize hn : xs.length = n at h
  cases h with
  | sl0 h2 hz0 =>
    rename_i a cap
    have : xs = [] := List.eq_nil_of_length_eq_zero hn
    subst this
    exact ⟨a, cap, rfl, by simp, h2, hz0, .inl rfl⟩
  | sl hc h1 h2 hb hw hf h =>
    rename_i b off cap g
    subst hn
    refine ⟨_, cap, rfl, h1, h2, (fun e => by cases e), .inr ⟨b, off, rfl, hlo _ hb, hw, fun i hi => ⟨(List.range z).map fun j => g (i * z + j), by simp, fun j hj => ?_, ?_⟩⟩⟩
    · have hlt : i * z + j < cs.length := by
        rw [hc]
        have : (i + 1) * z ≤ xs.length * z := Nat.mul_le_mul_right _ hi
        rw [Nat.add_mul] at this; omega
      rw [Nat.add_assoc, hf _ hlt]; simp [hj]
    · refine hQ _ _ (by simp) fun j hj => ?_
      have hj' : j < z := by rw [← hz xs[i]]; exact hj
      have hlt : i * z + j < cs.length := by
        rw [hc]
        have : (i + 1) * z ≤ xs.length * z := Nat.mul_le_mul_right _ hi
        rw [Nat.add_mul] at this; omega
      have e : cs[i * z + j] = (f xs[i])[j] := by
        have := eflat_get hz xs i j hi hj'
        rw [hcs, List.getElem?_eq_getElem hlt, List.getElem?_eq_getElem hj] at this
        exact Option.some.inj this
      have := h _ hlt
      rw [e] at this
      simpa [hj'] using this
theorem Pu.v_inv {F ok : Nat → Prop} {w : World} {x y : Value} (h : Pu F w ok (.v x) y) : y = x := by cases h; rfl
theorem pu_ints {F ok : Nat → Prop} {w : World} {v : Value} {xs : List Int} {lo : Nat} (hI : ∀ x ∈ xs, I64 x) (hlo : ∀ b, ok b → lo ≤ b) (h : Pu F w ok (intsA xs) v) : IsInts lo w v xs := by
  unfold intsA at h
  generalize hcs : xs.map iv = cs at h
  generalize hn : xs.length = n at h
  cases h with
  | sl0 h2 hz0 =>
    rename_i a cap
    have : xs = [] := List.eq_nil_of_length_eq_zero hn
    subst this
    exact ⟨a, cap, rfl, by simp, h2, ⟨hI, hz0⟩, .inl rfl⟩
  | sl hc h1 h2 hb hw hf h =>
    rename_i b off cap g
    subst hn hcs
    refine ⟨_, cap, rfl, h1, h2, ⟨hI, fun e => by cases e⟩, .inr ⟨b, off, rfl, hlo _ hb, hw, fun i hi => ?_⟩⟩
    have hi' : i < (xs.map iv).length := by simpa using hi
    have h3 := h i hi'
    rw [hf i hi']
    simp only [List.getElem_map] at h3
    rw [h3.v_inv]
    simp [hi]
/-- The other way: what reads so by the elder words. -/
theorem ints_pu {lo : Nat} {w : World} {v : Value} {xs : List Int} {F ok : Nat → Prop} (hok : ∀ b, lo ≤ b → b < w.heap.size → ok b) (h : IsInts lo w v xs) : Pu F w ok (intsA xs) v := by
  obtain ⟨a, cap, rfl, h1, h2, ⟨_, h3⟩, h4⟩ := h
  rcases h4 with rfl | ⟨b, off, rfl, hb, hw, hc⟩
  · exact .sl0 h2 h3
  · exact .sl (f := fun i => .int .i64 (xs.getD i 0)) (by simp) h1 h2 (hok _ hb hw) hw (fun j hj => hc j (by simpa using hj)) fun j hj => by
      have : j < xs.length := by simpa using hj
      simp only [List.getElem_map]
      have e : xs.getD j 0 = xs[j] := by simp [this]
      rw [e]; exact .v _
theorem sl_pu {lo : Nat} {w : World} {v : Value} {α : Type} {z : Nat} {f : α → List AV} {xs : List α} (hz : ∀ x, (f x).length = z) {Q : Nat → World → List Value → α → Prop} {F ok : Nat → Prop} (hok : ∀ b, lo ≤ b → b < w.heap.size → ok b)
    (hQ : ∀ (x : α) (vs : List Value), Q lo w vs x → ∀ j (hj : j < (f x).length), Pu F w ok (f x)[j] (vs.getD j undef)) (h : IsSl z Q lo w v xs) : Pu F w ok (slA z f xs) v := by
  obtain ⟨a, cap, rfl, h1, h2, h3, h4⟩ := h
  rcases h4 with rfl | ⟨b, off, rfl, hb, hw, hc⟩
  · exact .sl0 h2 h3
  · have hz0 : ∀ j, j < (xs.flatMap f).length → 0 < z ∧ j / z < xs.length ∧ j % z < z := fun j hj => by
      rw [flat_length hz] at hj
      have h0 : 0 < z := by
        rcases Nat.eq_zero_or_pos z with h | h
        · subst h; simp at hj
        · exact h
      exact ⟨h0, (Nat.div_lt_iff_lt_mul h0).2 hj, Nat.mod_lt _ h0⟩
    have hc' : ∀ i, i < xs.length → ∃ cs : List Value, cs.length = z ∧ (∀ j, j < z → w.cell? ⟨b, off + i * z + j, none⟩ = cs[j]?) ∧ ∃ hi : i < xs.length, Q lo w cs xs[i] := fun i hi => by
      obtain ⟨cs, q1, q2, q3⟩ := hc i hi
      exact ⟨cs, q1, q2, hi, q3⟩
    obtain ⟨g, hg⟩ := choose_lt hc'
    refine .sl (f := fun j => (g (j / z)).getD (j % z) undef) (flat_length hz xs) h1 h2 (hok _ hb hw) hw (fun j hj => ?_) fun j hj => ?_
    · obtain ⟨h0, e1, e2⟩ := hz0 j hj
      obtain ⟨q1, q2, q3, q4⟩ := hg _ e1
      have := q2 _ e2
      rw [Nat.add_assoc, Nat.div_add_mod'] at this
      rw [this, List.getD_eq_getElem?_getD, List.getElem?_eq_getElem (by omega)]
      rfl
    · obtain ⟨h0, e1, e2⟩ := hz0 j hj
      obtain ⟨q1, q2, q3, q4⟩ := hg _ e1
      have e3 : j % z < (f xs[j / z]).length := by rw [hz]; exact e2
      have := eflat_get hz xs (j / z) (j % z) e1 e2
      rw [Nat.div_add_mod', List.getElem?_eq_getElem hj, List.getElem?_eq_getElem e3] at this
      rw [Option.some.inj this]
      exact hQ _ _ q4 _ e3
end Go.Proofs.YtmpbfdfjcfanoaaDoor

/-
  THE RULES AS A PROGRAM WRITES THEM.
-/
namespace Go.Proofs.YtmpbfdfjcfanoaaDoor
open Go.RowKit Go.Deep
variable {J : World → Prop}
def FitsL (t : ATm) : List (Operand × AV) → Prop
  | [] => True
  | p :: ps => Fits (aev t p.1) p.2 ∧ FitsL t ps
theorem FitsL.all {t : ATm} : ∀ {l : List (Operand × AV)}, FitsL t l → ∀ p ∈ l, Fits (aev t p.1) p.2
  | [], _, p, hp => by cases hp
  | q :: l, h, p, hp => by
    rcases List.mem_cons.1 hp with rfl | hp
    · exact h.1
    · exact FitsL.all h.2 p hp
def RdL (h : AHeap) : List (Nat × ABlk) → Prop
  | [] => True
  | p :: ps => h p.1 = some p.2 ∧ RdL h ps
theorem RdL.all {h : AHeap} : ∀ {l : List (Nat × ABlk)}, RdL h l → ∀ p ∈ l, h p.1 = some p.2
  | [], _, p, hp => by cases hp
  | q :: l, hh, p, hp => by
    rcases List.mem_cons.1 hp with rfl | hp
    · exact hh.1
    · exact RdL.all hh.2 p hp
def EfOk (h : AHeap) : Ef → Prop
  | .no => True
  | .new k _ => h k = none
  | .st k _ => (h k).isSome = true
  | .ap k _ => (h k).isSome = true
theorem EfOk.fresh {h : AHeap} {e : Ef} (H : EfOk h e) : ∀ k X, e = .new k X → h k = none := by rintro k X rfl; exact H
theorem EfOk.there {h : AHeap} {e : Ef} (H : EfOk h e) : ∀ k, e.old = some k → (h k).isSome = true := by
  intro k hk
  cases e with
  | no => cases hk
  | new _ _ => cases hk
  | st j X => cases hk; exact H
  | ap j X => cases hk; exact H
section
variable {P : Program} {w0 : World} {h : AHeap} {t : ATm} {Q : Exit → Act → World → Prop} {ops : Array Oper} {o : Oper} {rest : List Oper}
theorem t_op {args : List (Operand × AV)} {rd : List (Nat × ABlk)} {u : AV} {e : Ef} (hg : o.guard = none) (hs : ASpec P J o args rd u e) (hf : FitsL t args) (hr : RdL h rd) (he : EfOk h e)
    (H : ETri J w0 (e.heap h) (aput (e.slots t) o.dst u) (wpList P ops Q rest)) : ETri J w0 h t (wpList P ops Q (o :: rest)) :=
  tri_op hg ⟨args, rd, hs, hf.all, hr.all, he.fresh, he.there⟩ H
theorem t_opG {args : List (Operand × AV)} {rd : List (Nat × ABlk)} {u : AV} {e : Ef} (hg : awanted ops o t = some true) (hs : ASpec P J o args rd u e) (hf : FitsL t args) (hr : RdL h rd) (he : EfOk h e)
    (H : ETri J w0 (e.heap h) (aput (e.slots t) o.dst u) (wpList P ops Q rest)) : ETri J w0 h t (wpList P ops Q (o :: rest)) := fun ρ a w s => by
  unfold wpList
  rw [awanted_sat s hg, if_pos rfl]
  exact .inl (s.step ⟨args, rd, hs, hf.all, hr.all, he.fresh, he.there⟩ fun ρ' a' w' s' => H ρ' a' w' s')
theorem t_skip (hg : awanted ops o t = some false) (H : ETri J w0 h (aput t o.dst (.v undef)) (wpList P ops Q rest)) : ETri J w0 h t (wpList P ops Q (o :: rest)) := fun ρ a w s => by
  unfold wpList
  rw [awanted_sat s hg, if_neg (by simp)]
  exact H ρ _ w ⟨s.wf, s.bel, s.inv, s.hp, s.dom, by rw [put_size, aput_n]; exact s.tl, rel_put _ s.tl s.tm (.pu (.v _)), by rw [put_defers]; exact s.df⟩
/-- An operation of a region that draws its order. -/
theorem app_yes {c : Cl} (hg : awanted ops o t = some true) (hs : ASpec P J o c.args c.rd c.u c.e) (hf : FitsL t c.args) (hr : RdL h c.rd) (he : EfOk h c.e) : App P J ops o c h t := .inl ⟨hg, hs, hf.all, hr.all, he.fresh, he.there⟩
theorem app_no (hg : awanted ops o t = some false) : App P J ops o ⟨[], [], .v undef, .no⟩ h t := .inr ⟨hg, rfl⟩
theorem t_then {K : Act → World → Prop} (H : ETri J w0 h t K) : ETri J w0 h t (Exit.then K Q .normal) := H
theorem t_then_exit {K : Act → World → Prop} {id : Nat} (H : ETri J w0 h t (Q (.exit id))) : ETri J w0 h t (Exit.then K Q (.exit id)) := H
theorem t_then_ret {K : Act → World → Prop} (H : ETri J w0 h t (Q .ret)) : ETri J w0 h t (Exit.then K Q .ret) := H
theorem t_block {id : Nat} (H : ETri J w0 h t (Q .normal)) : ETri J w0 h t (Exit.inBlock id Q .normal) := H
theorem t_block_ret {id : Nat} (H : ETri J w0 h t (Q .ret)) : ETri J w0 h t (Exit.inBlock id Q .ret) := H
theorem t_hit {id : Nat} (H : ETri J w0 h t (Q .normal)) : ETri J w0 h t (Exit.inBlock id Q (.exit id)) := fun ρ a w s => by
  simp only [Exit.inBlock, if_true]; exact H ρ a w s
theorem t_miss {id id' : Nat} (hne : id' ≠ id) (H : ETri J w0 h t (Q (.exit id'))) : ETri J w0 h t (Exit.inBlock id Q (.exit id')) := fun ρ a w s => by
  simp only [Exit.inBlock, if_neg hne]; exact H ρ a w s
theorem t_end_normal {fn : Func} {u : AV} (H : ETri J w0 h t (bodyPost P fn (RetP w0 u) .ret)) : ETri J w0 h t (bodyPost P fn (RetP w0 u) .normal) := H
theorem t_condT {c : Operand} {x y : Code} (hc : aev t c = .v (.bool true)) (H : ETri J w0 h t (x.wp P Q)) : ETri J w0 h t ((Code.cond c x y).wp P Q) := tri_cond hc H
theorem t_condF {c : Operand} {x y : Code} (hc : aev t c = .v (.bool false)) (H : ETri J w0 h t (y.wp P Q)) : ETri J w0 h t ((Code.cond c x y).wp P Q) := tri_cond hc H
end
/-- Where ways meet again. -/
def CutQ (J : World → Prop) (w0 : World) (p : Prop) (h : AHeap) (t : ATm) (Q : Exit → Act → World → Prop) : Exit → Act → World → Prop
  | .normal, a, w => p ∧ ∃ ρ, Sat J w0 ρ h t a w
  | e, a, w => Q e a w
section
variable {P : Program} {w0 : World} {h h' : AHeap} {t t' : ATm} {Q : Exit → Act → World → Prop} {p : Prop}
theorem t_cut {x : Code} (p : Prop) (h' : AHeap) (t' : ATm) (H1 : ETri J w0 h t (x.wp P (CutQ J w0 p h' t' Q))) (H2 : p → ETri J w0 h' t' (Q .normal)) : ETri J w0 h t (x.wp P Q) := fun ρ a w s =>
  wp_mono (H1 ρ a w s) fun e a w hq => by
    cases e with
    | normal => obtain ⟨hp, ρ', s'⟩ := hq; exact H2 hp ρ' a w s'
    | exit id => exact hq
    | goto l => exact hq
    | ret => exact hq
    | panic ch => exact hq
    | outgrown => exact hq
theorem t_meet (hp : p) (k : Wk h t h' t') : ETri J w0 h t (CutQ J w0 p h' t' Q .normal) := fun ρ a w s => ⟨hp, k J w0 ρ a w s⟩
theorem t_cut_ret (H : ETri J w0 h t (Q .ret)) : ETri J w0 h t (CutQ J w0 p h' t' Q .ret) := H
theorem t_cut_exit {id : Nat} (H : ETri J w0 h t (Q (.exit id))) : ETri J w0 h t (CutQ J w0 p h' t' Q (.exit id)) := H
end
theorem dT {p : Prop} [Decidable p] (h : p) : decide p = true := decide_eq_true h
theorem dF {p : Prop} [Decidable p] (h : ¬ p) : decide p = false := decide_eq_false h
theorem dF' {p : Prop} [Decidable p] (h : ¬ p) : decide p = !true := decide_eq_false h
theorem dT' {p : Prop} [Decidable p] (h : p) : decide p = !false := decide_eq_true h
end Go.Proofs.YtmpbfdfjcfanoaaDoor

/-
  A SLICE LITERAL; a store into a row of the call's own; a new row of zeros.
-/
namespace Go.Proofs.YtmpbfdfjcfanoaaDoor
open Go.RowKit Go.Deep
variable {J : World → Prop}
def AV.pu1 : AV → Bool
  | .box _ _ => false
  | .own _ => false
  | .agg _ => false
  | .tup _ => false
  | _ => true
theorem Rel.pu1 {ρ : Names} {B : Nat} {w : World} {X : AV} {x : Value} (h : Rel ρ B w X x) (hp : X.pu1 = true) : Pu (B ≤ ·) w (okOf ρ) X x := by
  cases h with
  | pu h => exact h
  | box h => cases hp
  | own h => cases hp
  | agg hl h => cases hp
  | tup hl h => cases hp
theorem flatC_get {z : Nat} : ∀ (Xs : List AV), (∀ X ∈ Xs, X.cellsOf.length = z) → ∀ k, (Xs.flatMap AV.cellsOf)[k]? = if k < Xs.length * z then (Xs[k / z]?).bind fun X => X.cellsOf[k % z]? else none
  | [], _, k => by simp
  | X :: Xs, h, k => by
    have hX := h X (by simp)
    simp only [List.flatMap_cons, List.length_cons, Nat.add_mul, Nat.one_mul]
    by_cases hk : k < z
    · rw [List.getElem?_append_left (by omega), if_pos (by omega), Nat.div_eq_of_lt hk, Nat.mod_eq_of_lt hk]; rfl
    · rw [List.getElem?_append_right (by omega), flatC_get Xs (fun X hX => h X (by simp [hX])), hX]
      by_cases hz : z = 0
      · subst hz; simp
      · have e1 : k / z = (k - z) / z + 1 := by rw [← Nat.sub_add_cancel (show z ≤ k by omega), Nat.add_div_right _ (by omega)]; simp
        have e2 : k % z = (k - z) % z := by rw [← Nat.mod_eq_sub_mod (by omega)]
        rw [e1, e2, List.getElem?_cons_succ]
        by_cases hlt : k < Xs.length * z + z
        · rw [if_pos (by omega), if_pos hlt]
        · rw [if_neg (by omega), if_neg hlt]
section
variable {P : Program} {o : Oper}
theorem sp_build0 {t e z k : Nat} (fr : Bool) (ho : o.op = .buildSlice t 0 #[]) (hu : P.underlying t = some (.slice e)) (hi : (P.info? e).map (·.size) = some z) : ASpec P J o [] [] (.own k) (.new k (.row fr e z 0 [])) :=
  aspec_new fun ρ B a w _ hB _ _ hk => by
    obtain ⟨i, hi, hiz⟩ := Option.map_eq_some_iff.1 hi
    refine ⟨_, 0, 0, #[], e, ?_, .own (nm := .at w.heap.size 0 0) (upd_same _ _ _), [], ⟨by simp, .inr ⟨w.heap.size, 0, #[], rfl, hB, heap_alloc_new w _, Nat.le_refl _, by simp [maxLen], by simp, by simp⟩⟩, rfl, by simp⟩
    have h0 : Array.map (fun (_ : Nat) => (default : Value)) (Array.range 0) = #[] := by apply Array.eq_empty_of_size_eq_zero; simp
    simp only [execOp, ho]
    exact run_val (by simp [Instr.buildSlice, run_underlying hu, sizeOf, typeInfo, hi, Instr.fill, newRow, Nm.val, h0])
theorem sp_build {t e z n k : Nat} {fr : Bool} {parts : Array (Nat × Operand)} (xs : List Operand) (Xs : List AV) (ho : o.op = .buildSlice t n parts) (hu : P.underlying t = some (.slice e)) (hi : (P.info? e).map (fun i => (i.size, i.zero.map (·.cells.size))) = some (z, some z)) (h0 : 0 < z) (hn0 : 0 < n)
    (hp : parts.toList = xs.zipIdx.map fun p => (p.2, p.1)) (hl : xs.length = n) (hX : Xs.length = n) (hz : Xs.all (fun X => X.cellsOf.length == z && X.cellsOf.all (fun c => c.cell && c.pu1)) = true) (hs : n * z ≤ 16777216)
    (hnew : fr = true → ∀ d ∈ Xs.flatMap AV.cellsOf, d.isNew = true) {cs : List AV} (hcs : rowCells fr (Xs.flatMap AV.cellsOf) = cs) :
    ASpec P J o (xs.zip Xs) [] (.own k) (.new k (.row fr e z n cs)) :=
  aspec_new fun ρ B a w hwf hB ha _ hk => by
    subst hcs
    obtain ⟨i, hi, hj⟩ := Option.map_eq_some_iff.1 hi
    simp only [Prod.mk.injEq] at hj
    obtain ⟨j1, j2⟩ := hj
    obtain ⟨zv, hz1, hz2⟩ := Option.map_eq_some_iff.1 j2
    have hzz : ∀ X ∈ Xs, X.cellsOf.length = z ∧ (∀ c ∈ X.cellsOf, c.cell = true ∧ c.pu1 = true) := fun X hX => by
      have := List.all_eq_true.1 hz X hX
      simp only [Bool.and_eq_true, beq_iff_eq, List.all_eq_true] at this
      exact this
    have hrel : ∀ j (h1 : j < xs.length) (h2 : j < Xs.length), Rel ρ B w Xs[j] (a.eval xs[j]) := fun j h1 h2 => ha (xs[j], Xs[j]) (by rw [List.mem_iff_getElem]; exact ⟨j, by simp; omega, by simp⟩)
    have hcell : ∀ j (h1 : j < xs.length) (h2 : j < Xs.length), (a.eval xs[j]).cells.size = z ∧ ∀ l (hl : l < Xs[j].cellsOf.length), Pu (B ≤ ·) w (okOf ρ) Xs[j].cellsOf[l] ((a.eval xs[j]).cells.getD l undef) := fun j h1 h2 => by
      obtain ⟨q1, q2⟩ := hzz _ (List.getElem_mem h2)
      obtain ⟨r1, r2, r3⟩ := (hrel j h1 h2).cells (List.all_eq_true.2 fun c hc => (q2 c hc).1)
      exact ⟨by omega, fun l hl => (r3 l hl).pu1 (q2 _ (List.getElem_mem hl)).2⟩
    obtain ⟨r, f1, f2, f3⟩ := Great.fill_dense h0 (xs.map a.eval) 0 ((Array.range (n * i.size)).map (zv.cells[· % zv.cells.size]!)) (fun v hv => by
      obtain ⟨x, hx, rfl⟩ := List.mem_map.1 hv
      obtain ⟨j, hj, rfl⟩ := List.getElem_of_mem hx
      exact (hcell j hj (by omega)).1) (by simp [hl, j1])
    have hrun := run_buildSlice (P := P) w t e n (parts.map fun (i, x) => (i, a.eval x)) r i zv hu hi hz1 (by rw [j1]; omega) (by rw [j1]; have := Nat.mul_pos hn0 h0; omega) (by
      rw [← f1, j1]
      congr 1
      rw [Array.toList_map, hp, List.map_map, List.zipIdx_map, List.map_map]
      rfl)
    have hrs : r.size = n * z := by rw [f2]; simp [j1]
    have hfl : (Xs.flatMap AV.cellsOf).length = n * z := by
      have : ∀ (Xs : List AV), (∀ X ∈ Xs, X.cellsOf.length = z) → (Xs.flatMap AV.cellsOf).length = Xs.length * z := by
        intro Xs
        induction Xs with
        | nil => intro _; simp
        | cons X Xs ih => intro h; simp only [List.flatMap_cons, List.length_append, ih fun X hX => h X (by simp [hX]), h X (by simp), List.length_cons, Nat.add_mul]; omega
      rw [this Xs fun X hX => (hzz X hX).1, hX]
    refine ⟨.slice (some ⟨w.heap.size, 0, none⟩) n n, n, n, r, e, ?_, .own (nm := .at w.heap.size n n) (upd_same _ _ _), r.toList, ⟨by simpa using hrs, .inr ⟨w.heap.size, n, r, rfl, hB, heap_alloc_new w _, Nat.le_refl _, ?_, hrs, by rw [List.take_of_length_le (by simp [hrs])]⟩⟩, by rw [rowCells_length, hfl]; simpa using hrs, fun j hj => ?_⟩
    · simp only [execOp, ho]
      exact run_val hrun
    · have : n * 1 ≤ n * z := Nat.mul_le_mul_left n h0
      simp only [maxLen]; omega
    · have hj' : j < n * z := by rw [rowCells_length, hfl] at hj; exact hj
      have hd : j / z < n := (Nat.div_lt_iff_lt_mul h0).2 hj'
      have hm : j % z < z := Nat.mod_lt _ h0
      have hx1 : j / z < xs.length := by omega
      have hX1 : j / z < Xs.length := by omega
      obtain ⟨c1, c2⟩ := hcell _ hx1 hX1
      have hcl := (hzz _ (List.getElem_mem hX1)).1
      have hjf : j < (Xs.flatMap AV.cellsOf).length := by omega
      have e1 : (Xs.flatMap AV.cellsOf)[j] = Xs[j / z].cellsOf[j % z]'(by omega) := by
        have := flatC_get Xs (fun X hX => (hzz X hX).1) j
        rw [List.getElem?_eq_getElem hjf, if_pos (by rw [hX]; exact hj'), List.getElem?_eq_getElem hX1, Option.bind_some, List.getElem?_eq_getElem (by omega)] at this
        exact Option.some.inj this
      have e2 : r.toList.getD j undef = (a.eval xs[j / z]).cells.getD (j % z) undef := by
        have := f3 j
        rw [if_pos ⟨by simp, by simp [hl]; exact hj'⟩, Nat.sub_zero, List.getElem?_map, List.getElem?_eq_getElem hx1] at this
        simp only [Option.map_some, Option.bind_some] at this
        rw [List.getD_eq_getElem?_getD, Array.getElem?_toList, this, Array.getD_eq_getD_getElem?]
      have hp := c2 (j % z) (by omega)
      rw [← e1, ← e2] at hp
      have hrow := Pu.row (fr := fr) hnew hj hjf hp
      rw [e2] at hrow ⊢
      have hok : ∀ b, okOf ρ b → b < w.heap.size → okOf (upd ρ k (.at w.heap.size n n)) b ∧ b < (w.alloc (.cells r e)).heap.size ∧ (w.alloc (.cells r e)).heap[b]? = w.heap[b]? := fun b hb hw => ok_new hb hw
      exact hrow.mono (fun b hb hw => ⟨⟨(hok b hb.1 hw).1, hb.2⟩, (hok b hb.1 hw).2⟩) fun _ _ h => h
end
section
variable {P : Program} {o : Oper} {t ty : TypeId} {x y : Operand}
theorem sp_beql {b c r : Bool} (ho : o.op = .binOp .eql t x y ty) (ht : P.underlying t = some .bool) (hr : (b == c) = r) : ASpec P J o [(x, .v (.bool b)), (y, .v (.bool c))] [] (.v (.bool r)) .no :=
  sp_bin ho fun w => by subst hr; rw [Sem.run_bind, show (eqGuard .eql t x y (.bool b) (.bool c)).run P w = .ok () w from rfl, Result.andThen_ok, run_eql_bool w t b c ht]
theorem sp_bneq {b c r : Bool} (ho : o.op = .binOp .neq t x y ty) (ht : P.underlying t = some .bool) (hr : (b != c) = r) : ASpec P J o [(x, .v (.bool b)), (y, .v (.bool c))] [] (.v (.bool r)) .no :=
  sp_bin ho fun w => by subst hr; rw [Sem.run_bind, show (eqGuard .neq t x y (.bool b) (.bool c)).run P w = .ok () w from rfl, Result.andThen_ok, run_neq_bool w t b c ht]; rfl
end
theorem map_at1 {α : Type} {g : α → AV} (xs : List α) {k : Nat} (h : k < xs.length) : (xs.map g)[k * 1]? = some (g xs[k]) := by rw [Nat.mul_one]; simp [h]
theorem unfr_ints (xs : List Int) (fr : Bool) : rowCells fr (xs.map iv) = xs.map iv := by cases fr <;> simp [rowCells, AV.unfr]
theorem unfr_strs (xs : List ByteArray) (fr : Bool) : rowCells fr (xs.map sv) = xs.map sv := by cases fr <;> simp [rowCells, AV.unfr]
theorem flat_part {cs ds es : List AV} {a b z : Nat} (h : (cs.drop a).take z = ds) {k n : Nat} (he : (ds.drop k).take n = es) (hz : k + n ≤ z := by decide) (hb : a + k = b := by rfl) : (cs.drop b).take n = es := by
  subst h he hb
  rw [List.drop_take, List.take_take, List.drop_drop, Nat.min_eq_left (by omega)]
theorem mem_cTh {gs : List Th} {d : AV} (h : d ∈ gs.flatMap cTh) : ∃ x : Int, d = iv x := by
  obtain ⟨g, _, hg⟩ := List.mem_flatMap.1 h
  simp only [cTh, List.mem_cons, List.not_mem_nil, or_false] at hg
  rcases hg with rfl | rfl | rfl | rfl | rfl | rfl <;> exact ⟨_, rfl⟩
theorem mem_cLn {gs : List Ln} {d : AV} (h : d ∈ gs.flatMap cLn) : ∃ x : Int, d = iv x := by
  obtain ⟨g, _, hg⟩ := List.mem_flatMap.1 h
  simp only [cLn, List.mem_cons, List.not_mem_nil, or_false] at hg
  rcases hg with rfl | rfl | rfl | rfl <;> exact ⟨_, rfl⟩
theorem new_cTh (gs : List Th) : ∀ d ∈ gs.flatMap cTh, d.isNew = true := fun d h => by obtain ⟨x, rfl⟩ := mem_cTh h; rfl
theorem cell_cTh (gs : List Th) : ∀ d ∈ gs.flatMap cTh, d.cell = true := fun d h => by obtain ⟨x, rfl⟩ := mem_cTh h; rfl
theorem new_cLn (gs : List Ln) : ∀ d ∈ gs.flatMap cLn, d.isNew = true := fun d h => by obtain ⟨x, rfl⟩ := mem_cLn h; rfl
theorem cell_cLn (gs : List Ln) : ∀ d ∈ gs.flatMap cLn, d.cell = true := fun d h => by obtain ⟨x, rfl⟩ := mem_cLn h; rfl
theorem unfr_all {cs : List AV} (h : ∀ d ∈ cs, ∃ x : Int, d = iv x) (fr : Bool) : rowCells fr cs = cs := by
  cases fr with
  | false => rfl
  | true => exact (List.map_congr_left fun d hd => by obtain ⟨x, rfl⟩ := h d hd; rfl).trans (List.map_id _)
theorem unfr_cTh (gs : List Th) (fr : Bool) : rowCells fr (gs.flatMap cTh) = gs.flatMap cTh := unfr_all (fun _ h => mem_cTh h) fr
theorem unfr_cLn (gs : List Ln) (fr : Bool) : rowCells fr (gs.flatMap cLn) = gs.flatMap cLn := unfr_all (fun _ h => mem_cLn h) fr
theorem ctr_b {P : Program} {f : FuncId} {args : List AV} {b r : Bool} (h : Ctr P J f args (bv b)) (e : b = r) : Ctr P J f args (bv r) := e ▸ h
end Go.Proofs.YtmpbfdfjcfanoaaDoor

/-
  FAMILIES: from the one reading to the other; the elder contracts in the new form.
-/
namespace Go.Proofs.YtmpbfdfjcfanoaaDoor
open Go.RowKit Go.Deep
variable {J : World → Prop}
def LnOk (l : Ln) : Prop := I64 l.c ∧ I64 l.n ∧ I64 l.t ∧ I64 l.f
def ThOk (g : Th) : Prop := I64 g.msg ∧ I64 g.coef ∧ I64 g.bd.c ∧ I64 g.bd.n ∧ I64 g.bd.t ∧ I64 g.bd.f
def InOk (xs : List Int) : Prop := ∀ x ∈ xs, I64 x
structure RuOk (r : Ru) : Prop where
  nm : r.nm.size ≤ maxLen
  kind : I64 r.kind
  frm : I64 r.frm
  to : I64 r.to
  pf : I64 r.pf
  pt : I64 r.pt
  resp : InOk r.resp
  guards : ∀ g ∈ r.guards, ThOk g
  ex : InOk r.ex
  fa : InOk r.fa
  rd : I64 r.rd
  wr : I64 r.wr
  send : InOk r.send
  pos : I64 r.pos
  left : InOk r.left
  right : InOk r.right
  parent : InOk r.parent
  dir : I64 r.dir
  lresp : r.resp.length ≤ 9223372036854775807
  lguards : r.guards.length ≤ 9223372036854775807
structure FmOk (q : Fm) : Prop where
  nm : q.nm.size ≤ maxLen
  top : I64 q.top
  states : ∀ s ∈ q.states, s.size ≤ maxLen
  msgs : ∀ s ∈ q.msgs, s.size ≤ maxLen
  vals : ∀ s ∈ q.vals, s.size ≤ maxLen
  fault : I64 q.fault
  res : ∀ l ∈ q.res, LnOk l
  init : InOk q.init
  leader : InOk q.leader
  rules : ∀ r ∈ q.rules, RuOk r
  lstates : q.states.length ≤ 9223372036854775807
  lmsgs : q.msgs.length ≤ 9223372036854775807
  lvals : q.vals.length ≤ 9223372036854775807
  lres : q.res.length ≤ 9223372036854775807
  linit : q.init.length ≤ 9223372036854775807
  lleader : q.leader.length ≤ 9223372036854775807
  lrules : q.rules.length ≤ 9223372036854775807
theorem IsSl.all {α : Type} {z : Nat} {Q : Nat → World → List Value → α → Prop} {lo : Nat} {w : World} {v : Value} {xs : List α} (h : IsSl z Q lo w v xs) {R : α → Prop} (hR : ∀ cs x, Q lo w cs x → R x) : ∀ x ∈ xs, R x := by
  intro x hx
  obtain ⟨i, hi, rfl⟩ := List.getElem_of_mem hx
  obtain ⟨a, cap, rfl⟩ := h.shape
  obtain ⟨_, _, cs, _, _, _, _, _, hq⟩ := h.at i hi
  exact hR _ _ hq
theorem IsInts.ok {lo : Nat} {w : World} {v : Value} {xs : List Int} (h : IsInts lo w v xs) : InOk xs := by
  obtain ⟨_, _, _, _, _, ⟨h1, _⟩, _⟩ := h; exact h1
theorem IsInts.len {lo : Nat} {w : World} {v : Value} {xs : List Int} (h : IsInts lo w v xs) : xs.length ≤ 9223372036854775807 := by
  obtain ⟨_, _, _, h1, h2, _⟩ := h; unfold maxLen at h2; omega
theorem RuEl.ok {lo : Nat} {w : World} {cs : List Value} {r : Ru} (h : RuEl lo w cs r) : RuOk r := by
  obtain ⟨v6, v7, v8, v9, v12, v14, v15, v16, rfl, h0, h1, h2, h3, h4, h5, h6, h7, h8, h9, h10, h11, h12, h13, h14, h15, h16, h17⟩ := h
  exact ⟨h0, h1, h2, h3, h4, h5, h6.ok, h7.all fun cs g hg => hg.2, h8.ok, h9.ok, h10, h11, h12.ok, h13, h14.ok, h15.ok, h16.ok, h17, h6.len, h7.bound⟩
theorem IsFam.ok {lo : Nat} {w : World} {v : Value} {q : Fm} (h : IsFam lo w v q) : FmOk q := by
  obtain ⟨v2, v3, v4, v6, v7, v8, v9, e, h0, h1, h2, h3, h4, h5, h6, h7, h8, h9⟩ := h
  exact ⟨h0, h1, h2.all fun _ _ h => h.2, h3.all fun _ _ h => h.2, h4.all fun _ _ h => h.2, h5, h6.all fun _ _ h => h.2, h7.ok, h8.ok, h9.all fun _ _ h => h.ok, h2.bound, h3.bound, h4.bound, h6.bound, h7.len, h8.len, h9.bound⟩
/-- Cells, one by one. -/
theorem agg_cells {F ok : Nat → Prop} {w : World} {cs : List AV} {v : Value} (h : Pu F w ok (.agg cs) v) : ∃ vs : List Value, v = .agg vs.toArray ∧ vs.length = cs.length ∧ ∀ j (hj : j < cs.length), Pu F w ok cs[j] (vs.getD j undef) := by
  cases h with
  | agg hl h =>
    rename_i vs
    exact ⟨vs.toList, rfl, by simpa using hl, fun j hj => by have := h j hj; simpa [Array.getD_eq_getD_getElem?, List.getD_eq_getElem?_getD] using this⟩
section
variable {F ok : Nat → Prop} {w : World} {lo : Nat}
theorem cells18 {vs : List Value} (h : vs.length = 18) : vs = [vs.getD 0 undef, vs.getD 1 undef, vs.getD 2 undef, vs.getD 3 undef, vs.getD 4 undef, vs.getD 5 undef, vs.getD 6 undef, vs.getD 7 undef, vs.getD 8 undef, vs.getD 9 undef, vs.getD 10 undef, vs.getD 11 undef, vs.getD 12 undef, vs.getD 13 undef, vs.getD 14 undef, vs.getD 15 undef, vs.getD 16 undef, vs.getD 17 undef] := by
  match vs, h with
  | [_, _, _, _, _, _, _, _, _, _, _, _, _, _, _, _, _, _], _ => rfl
theorem cells10 {vs : List Value} (h : vs.length = 10) : vs = [vs.getD 0 undef, vs.getD 1 undef, vs.getD 2 undef, vs.getD 3 undef, vs.getD 4 undef, vs.getD 5 undef, vs.getD 6 undef, vs.getD 7 undef, vs.getD 8 undef, vs.getD 9 undef] := by
  match vs, h with
  | [_, _, _, _, _, _, _, _, _, _], _ => rfl
theorem cells6 {vs : List Value} (h : vs.length = 6) : vs = [vs.getD 0 undef, vs.getD 1 undef, vs.getD 2 undef, vs.getD 3 undef, vs.getD 4 undef, vs.getD 5 undef] := by
  match vs, h with
  | [_, _, _, _, _, _], _ => rfl
theorem cells4 {vs : List Value} (h : vs.length = 4) : vs = [vs.getD 0 undef, vs.getD 1 undef, vs.getD 2 undef, vs.getD 3 undef] := by
  match vs, h with
  | [_, _, _, _], _ => rfl
theorem cells1 {vs : List Value} (h : vs.length = 1) : vs = [vs.getD 0 undef] := by
  match vs, h with
  | [_], _ => rfl
theorem th_of {g : Th} {vs : List Value} (hg : ThOk g) (hl : vs.length = 6) (h : ∀ j (hj : j < (cTh g).length), Pu F w ok (cTh g)[j] (vs.getD j undef)) : ThEl lo w vs g := by
  refine ⟨?_, hg⟩
  rw [cells6 hl, (h 0 (by simp [cTh])).v_inv, (h 1 (by simp [cTh])).v_inv, (h 2 (by simp [cTh])).v_inv, (h 3 (by simp [cTh])).v_inv, (h 4 (by simp [cTh])).v_inv, (h 5 (by simp [cTh])).v_inv]
theorem ln_of {g : Ln} {vs : List Value} (hg : LnOk g) (hl : vs.length = 4) (h : ∀ j (hj : j < (cLn g).length), Pu F w ok (cLn g)[j] (vs.getD j undef)) : LnEl lo w vs g := by
  refine ⟨?_, hg⟩
  rw [cells4 hl, (h 0 (by simp [cLn])).v_inv, (h 1 (by simp [cLn])).v_inv, (h 2 (by simp [cLn])).v_inv, (h 3 (by simp [cLn])).v_inv]
/-- As 'pu_sl', the elements' own conditions at hand. -/
theorem pu_slm {v : Value} {α : Type} {z : Nat} {f : α → List AV} {xs : List α} (hz : ∀ x, (f x).length = z) {Q : Nat → World → List Value → α → Prop} (hlo : ∀ b, ok b → lo ≤ b) (R : α → Prop) (hR : ∀ x ∈ xs, R x)
    (hQ : ∀ (x : α) (vs : List Value), R x → vs.length = z → (∀ j (hj : j < (f x).length), Pu F w ok (f x)[j] (vs.getD j undef)) → Q lo w vs x) (h : Pu F w ok (slA z f xs) v) : IsSl z Q lo w v xs := by
  have h1 := pu_sl hz (Q := fun lo w vs x => R x → Q lo w vs x) hlo (fun x vs hl hp hr => hQ x vs hr hl hp) h
  obtain ⟨a, cap, hv, a1, a2, a3, a4⟩ := h1
  refine ⟨a, cap, hv, a1, a2, a3, ?_⟩
  rcases a4 with a4 | ⟨b, off, b1, b2, b3, b4⟩
  · exact .inl a4
  · exact .inr ⟨b, off, b1, b2, b3, fun i hi => by obtain ⟨cs, c1, c2, c3⟩ := b4 i hi; exact ⟨cs, c1, c2, c3 (hR _ (List.getElem_mem hi))⟩⟩
theorem lenTh (g : Th) : (cTh g).length = 6 := rfl
theorem lenLn (g : Ln) : (cLn g).length = 4 := rfl
theorem lenRu (g : Ru) : (cRu g).length = 18 := rfl
theorem lenStr (s : ByteArray) : [sv s].length = 1 := rfl
theorem pu_strs {v : Value} {xs : List ByteArray} (hs : ∀ s ∈ xs, s.size ≤ maxLen) (hlo : ∀ b, ok b → lo ≤ b) (h : Pu F w ok (strsA xs) v) : IsSl 1 StrEl lo w v xs := by
  have e0 : ∀ xs : List ByteArray, xs.map sv = xs.flatMap fun s => [sv s] := fun xs => by
    induction xs with
    | nil => rfl
    | cons x xs ih => simp only [List.map_cons, List.flatMap_cons, ih]; rfl
  have e : strsA xs = slA 1 (fun s => [sv s]) xs := by unfold strsA slA; rw [e0]
  rw [e] at h
  exact pu_slm (f := fun s => [sv s]) lenStr hlo (fun s : ByteArray => s.size ≤ maxLen) hs (fun s vs hs hl hp => ⟨by rw [cells1 hl, (hp 0 (by simp)).v_inv], hs⟩) h
theorem ru_of {r : Ru} {vs : List Value} (hr : RuOk r) (hlo : ∀ b, ok b → lo ≤ b) (hl : vs.length = 18) (h : ∀ j (hj : j < (cRu r).length), Pu F w ok (cRu r)[j] (vs.getD j undef)) : RuEl lo w vs r := by
  have hz : (cRu r).length = 18 := rfl
  refine ⟨vs.getD 6 undef, vs.getD 7 undef, vs.getD 8 undef, vs.getD 9 undef, vs.getD 12 undef, vs.getD 14 undef, vs.getD 15 undef, vs.getD 16 undef, ?_, hr.nm, hr.kind, hr.frm, hr.to, hr.pf, hr.pt, pu_ints hr.resp hlo (h 6 (by omega)), pu_slm lenTh hlo ThOk hr.guards (fun g vs hg hl hp => th_of hg hl hp) (h 7 (by omega)), pu_ints hr.ex hlo (h 8 (by omega)), pu_ints hr.fa hlo (h 9 (by omega)), hr.rd, hr.wr, pu_ints hr.send hlo (h 12 (by omega)), hr.pos, pu_ints hr.left hlo (h 14 (by omega)), pu_ints hr.right hlo (h 15 (by omega)), pu_ints hr.parent hlo (h 16 (by omega)), hr.dir⟩
  have e := cells18 hl
  rw [show vs.getD 0 undef = .string r.nm from (h 0 (by omega)).v_inv, show vs.getD 1 undef = .int .i64 r.kind from (h 1 (by omega)).v_inv, show vs.getD 2 undef = .int .i64 r.frm from (h 2 (by omega)).v_inv, show vs.getD 3 undef = .int .i64 r.to from (h 3 (by omega)).v_inv, show vs.getD 4 undef = .int .i64 r.pf from (h 4 (by omega)).v_inv, show vs.getD 5 undef = .int .i64 r.pt from (h 5 (by omega)).v_inv, show vs.getD 10 undef = .int .i64 r.rd from (h 10 (by omega)).v_inv, show vs.getD 11 undef = .int .i64 r.wr from (h 11 (by omega)).v_inv, show vs.getD 13 undef = .int .i64 r.pos from (h 13 (by omega)).v_inv, show vs.getD 17 undef = .int .i64 r.dir from (h 17 (by omega)).v_inv] at e
  exact e
theorem fam_of {q : Fm} {v : Value} (hq : FmOk q) (hlo : ∀ b, ok b → lo ≤ b) (h : Pu F w ok (.agg (cFm q)) v) : IsFam lo w v q := by
  obtain ⟨vs, rfl, hl, h⟩ := agg_cells h
  have hz : (cFm q).length = 10 := rfl
  refine ⟨vs.getD 2 undef, vs.getD 3 undef, vs.getD 4 undef, vs.getD 6 undef, vs.getD 7 undef, vs.getD 8 undef, vs.getD 9 undef, ?_, hq.nm, hq.top, pu_strs hq.states hlo (h 2 (by omega)), pu_strs hq.msgs hlo (h 3 (by omega)), pu_strs hq.vals hlo (h 4 (by omega)), hq.fault, pu_slm lenLn hlo LnOk hq.res (fun g vs hg hl hp => ln_of hg hl hp) (h 6 (by omega)), pu_ints hq.init hlo (h 7 (by omega)), pu_ints hq.leader hlo (h 8 (by omega)), pu_slm lenRu hlo RuOk hq.rules (fun r vs hr hl hp => ru_of hr hlo hl hp) (h 9 (by omega))⟩
  have e := cells10 (hl.trans hz)
  rw [show vs.getD 0 undef = .string q.nm from (h 0 (by omega)).v_inv, show vs.getD 1 undef = .int .i64 q.top from (h 1 (by omega)).v_inv, show vs.getD 5 undef = .int .i64 q.fault from (h 5 (by omega)).v_inv] at e
  exact congrArg (fun l : List Value => Value.agg l.toArray) e
end
section
variable {P : Program} {f : FuncId}
/-- From an elder contract to one of the new form. -/
theorem ctr1 {A u : AV} (H : ∀ (w : World) (v : Value), (∀ w', Below w.heap.size w w' → J w') → Pu (fun _ => True) w (fun b => b < w.heap.size) A v → Calls P f #[v] w fun e w' => ∃ v, e = .returned v ∧ Pu (w.heap.size ≤ ·) w' (w.heap.size ≤ ·) u v ∧ Below w.heap.size w w') : Ctr P J f [A] u := fun w vs hJ hl hv => by
  obtain ⟨v, rfl⟩ : ∃ v, vs = #[v] := by
    match vs, hl with
    | ⟨[v]⟩, _ => exact ⟨v, rfl⟩
  exact H w v hJ (hv 0 (by simp))
theorem ctr2 {A B u : AV} (H : ∀ (w : World) (v v' : Value), (∀ w', Below w.heap.size w w' → J w') → Pu (fun _ => True) w (fun b => b < w.heap.size) A v → Pu (fun _ => True) w (fun b => b < w.heap.size) B v' → Calls P f #[v, v'] w fun e w' => ∃ v, e = .returned v ∧ Pu (w.heap.size ≤ ·) w' (w.heap.size ≤ ·) u v ∧ Below w.heap.size w w') : Ctr P J f [A, B] u := fun w vs hJ hl hv => by
  obtain ⟨v, v', rfl⟩ : ∃ v v', vs = #[v, v'] := by
    match vs, hl with
    | ⟨[v, v']⟩, _ => exact ⟨v, v', rfl⟩
  exact H w v v' hJ (hv 0 (by simp)) (hv 1 (by simp))
theorem ctr3 {A B C u : AV} (H : ∀ (w : World) (v v' v'' : Value), (∀ w', Below w.heap.size w w' → J w') → Pu (fun _ => True) w (fun b => b < w.heap.size) A v → Pu (fun _ => True) w (fun b => b < w.heap.size) B v' → Pu (fun _ => True) w (fun b => b < w.heap.size) C v'' → Calls P f #[v, v', v''] w fun e w' => ∃ v, e = .returned v ∧ Pu (w.heap.size ≤ ·) w' (w.heap.size ≤ ·) u v ∧ Below w.heap.size w w') : Ctr P J f [A, B, C] u := fun w vs hJ hl hv => by
  obtain ⟨v, v', v'', rfl⟩ : ∃ v v' v'', vs = #[v, v', v''] := by
    match vs, hl with
    | ⟨[v, v', v'']⟩, _ => exact ⟨v, v', v'', rfl⟩
  exact H w v v' v'' hJ (hv 0 (by simp)) (hv 1 (by simp)) (hv 2 (by simp))
theorem ret_sc {w : World} {r : Value} {e : Ending} {w' : World} (h : e = .returned r ∧ Below w.heap.size w w') : ∃ v, e = .returned v ∧ Pu (w.heap.size ≤ ·) w' (w.heap.size ≤ ·) (.v r) v ∧ Below w.heap.size w w' := ⟨r, h.1, .v r, h.2⟩
theorem ret_eq {w : World} {r : Value} {e : Ending} {w' : World} (h : e = .returned r ∧ w = w') : ∃ v, e = .returned v ∧ Pu (w.heap.size ≤ ·) w' (w.heap.size ≤ ·) (.v r) v ∧ Below w.heap.size w w' := ⟨r, h.1, .v r, by rw [← h.2]; exact Below.refl _ _⟩
end
end Go.Proofs.YtmpbfdfjcfanoaaDoor

/-
  NUMBERS AND SIZES: what between, isFactor, isLarge, isParameter, valueAt and Evaluate return, of the program and of the reference.
-/
namespace Go.Proofs.YtmpbfdfjcfanoaaDoor
open Go.RowKit Go.Deep

/-- n lies from lo to hi. -/
def inB (lo hi n : Int) : Bool := decide (lo ≤ n) && decide (n ≤ hi)
theorem between_any (n lo hi : Int) (w : World) :
    Calls Tryd.prog 44 #[.int .i64 n, .int .i64 lo, .int .i64 hi] w fun e w' => e = .returned (.bool (inB lo hi n)) ∧ w = w' := by
  have e : Hid (inB lo hi n = (decide (lo ≤ n) && decide (n ≤ hi))) := (rfl : inB lo hi n = _)
  by_cases h1 : lo ≤ n
  · by_cases h2 : n ≤ hi
    · go_enter Tryd.func44, Tryd.ntmps44
      go_wp2
      go_ret
      exact ⟨ret_bool (by rw [e.out]; simp; omega), rfl⟩
    · go_enter Tryd.func44, Tryd.ntmps44
      go_wp2
      go_ret
      exact ⟨ret_bool (by rw [e.out]; simp; omega), rfl⟩
  · go_enter Tryd.func44, Tryd.ntmps44
    go_wp2
    go_ret
    exact ⟨ret_bool (by rw [e.out]; simp; omega), rfl⟩
theorem swithin_any (n lo hi : Int) (w : World) :
    Calls Tryd.prog 56 #[.int .i64 n, .int .i64 lo, .int .i64 hi] w fun e w' => e = .returned (.bool (inB lo hi n)) ∧ w = w' := by
  have e : Hid (inB lo hi n = (decide (lo ≤ n) && decide (n ≤ hi))) := (rfl : inB lo hi n = _)
  by_cases h1 : lo ≤ n
  · by_cases h2 : n ≤ hi
    · go_enter Tryd.func56, Tryd.ntmps56
      go_wp2
      go_ret
      exact ⟨ret_bool (by rw [e.out]; simp; omega), rfl⟩
    · go_enter Tryd.func56, Tryd.ntmps56
      go_wp2
      go_ret
      exact ⟨ret_bool (by rw [e.out]; simp; omega), rfl⟩
  · go_enter Tryd.func56, Tryd.ntmps56
    go_wp2
    go_ret
    exact ⟨ret_bool (by rw [e.out]; simp; omega), rfl⟩

/-- A factor, a parameter. -/
def faB (n : Int) : Bool := inB (-100) 100 n
def paB (n : Int) : Bool := inB 0 1048576 n
theorem isFactor_any (n : Int) (w : World) : Calls Tryd.prog 92 #[.int .i64 n] w fun e w' => e = .returned (.bool (faB n)) ∧ w = w' := by
  go_enter Tryd.func92, Tryd.ntmps92
  go_wp2_with (go_at_call 44; refine (between_any _ _ _ _).mono ?_; rintro e w' ⟨rfl, rfl⟩)
  go_ret
  exact ⟨rfl, rfl⟩
theorem within_fa (n : Int) (w : World) : Calls Tryd.prog 56 #[.int .i64 n, .int .i64 (-100), .int .i64 100] w fun e w' => e = .returned (.bool (faB n)) ∧ w = w' := swithin_any _ _ _ _
theorem within_pa (n : Int) (w : World) : Calls Tryd.prog 56 #[.int .i64 n, .int .i64 0, .int .i64 1048576] w fun e w' => e = .returned (.bool (paB n)) ∧ w = w' := swithin_any _ _ _ _

/-- The numbers of an expression are factors. -/
def smL (c n t f : Int) : Bool := faB c && faB n && faB t && faB f
theorem isLarge_any (c n t f : Int) (w : World) :
    Calls Tryd.prog 49 #[.agg #[.int .i64 c, .int .i64 n, .int .i64 t, .int .i64 f]] w fun e w' => e = .returned (.bool (!smL c n t f)) ∧ Below w.heap.size w w' := by
  have e : Hid (smL c n t f = (faB c && faB n && faB t && faB f)) := (rfl : smL c n t f = _)
  cases h1 : faB c with
  | false =>
    go_enter Tryd.func49, Tryd.ntmps49
    go_wp2_with (go_at_call 92; refine (isFactor_any _ _).mono ?_; rintro e w' ⟨rfl, rfl⟩)
    go_ret
    exact ⟨ret_bool (by rw [e.out, h1]; rfl), allocBelow _ _⟩
  | true =>
    cases h2 : faB n with
    | false =>
      go_enter Tryd.func49, Tryd.ntmps49
      go_wp2_with (go_at_call 92; refine (isFactor_any _ _).mono ?_; rintro e w' ⟨rfl, rfl⟩)
      go_ret
      exact ⟨ret_bool (by rw [e.out, h1, h2]; rfl), allocBelow _ _⟩
    | true =>
      cases h3 : faB t with
      | false =>
        go_enter Tryd.func49, Tryd.ntmps49
        go_wp2_with (go_at_call 92; refine (isFactor_any _ _).mono ?_; rintro e w' ⟨rfl, rfl⟩)
        go_ret
        exact ⟨ret_bool (by rw [e.out, h1, h2, h3]; rfl), allocBelow _ _⟩
      | true =>
        go_enter Tryd.func49, Tryd.ntmps49
        go_wp2_with (go_at_call 92; refine (isFactor_any _ _).mono ?_; rintro e w' ⟨rfl, rfl⟩)
        go_ret
        exact ⟨ret_bool (by rw [e.out, h1, h2, h3]; rfl), allocBelow _ _⟩
theorem few_any (c n t f : Int) (w : World) :
    Calls Tryd.prog 58 #[.agg #[.int .i64 c, .int .i64 n, .int .i64 t, .int .i64 f]] w fun e w' => e = .returned (.bool (smL c n t f)) ∧ Below w.heap.size w w' := by
  have e : Hid (smL c n t f = (faB c && faB n && faB t && faB f)) := (rfl : smL c n t f = _)
  cases h1 : faB c with
  | false =>
    go_enter Tryd.func58, Tryd.ntmps58
    go_wp2_with (go_at_call 56; refine (within_fa _ _).mono ?_; rintro e w' ⟨rfl, rfl⟩)
    go_ret
    exact ⟨ret_bool (by rw [e.out, h1]; rfl), allocBelow _ _⟩
  | true =>
    cases h2 : faB n with
    | false =>
      go_enter Tryd.func58, Tryd.ntmps58
      go_wp2_with (go_at_call 56; refine (within_fa _ _).mono ?_; rintro e w' ⟨rfl, rfl⟩)
      go_ret
      exact ⟨ret_bool (by rw [e.out, h1, h2]; rfl), allocBelow _ _⟩
    | true =>
      cases h3 : faB t with
      | false =>
        go_enter Tryd.func58, Tryd.ntmps58
        go_wp2_with (go_at_call 56; refine (within_fa _ _).mono ?_; rintro e w' ⟨rfl, rfl⟩)
        go_ret
        exact ⟨ret_bool (by rw [e.out, h1, h2, h3]; rfl), allocBelow _ _⟩
      | true =>
        go_enter Tryd.func58, Tryd.ntmps58
        go_wp2_with (go_at_call 56; refine (within_fa _ _).mono ?_; rintro e w' ⟨rfl, rfl⟩)
        go_ret
        exact ⟨ret_bool (by rw [e.out, h1, h2, h3]; rfl), allocBelow _ _⟩
end Go.Proofs.YtmpbfdfjcfanoaaDoor

/-
  THE SMALL FUNCTIONS OF Validate: isIndex, setError, someSetError of the program; Set of the reference.
-/
namespace Go.Proofs.YtmpbfdfjcfanoaaDoor
open Go.RowKit Go.Deep

/-- x is an index below n. -/
def ixB (n : Nat) (x : Int) : Bool := inB 0 ((n : Int) - 1) x
theorem isIndex_any (x : Int) (n : Nat) (hn : n ≤ 9223372036854775807) (w : World) :
    Calls Tryd.prog 93 #[.int .i64 x, .int .i64 n] w fun e w' => e = .returned (.bool (ixB n x)) ∧ w = w' := by
  have hw : IntKind.i64.wrap ((n : Int) - 1) = (n : Int) - 1 := IntWalk.i64_in _ (by omega)
  go_enter Tryd.func93, Tryd.ntmps93
  go_wp2_with (go_at_call 44; refine (between_any _ _ _ _).mono ?_; rintro e w' ⟨rfl, rfl⟩)
  go_ret
  exact ⟨rfl, rfl⟩

def allK (n : Nat) (xs : List Int) (k : Nat) : Bool := (xs.take k).all (ixB n)
theorem allK_succ {n : Nat} {xs : List Int} {k : Nat} (h : k < xs.length) (hk : allK n xs k = true) (hp : ixB n xs[k] = true) : allK n xs (k + 1) = true := by
  unfold allK at *; rw [List.take_succ_eq_append_getElem h, List.all_append, hk]; simp [hp]
theorem allK_no {n : Nat} {xs : List Int} {k : Nat} (h : k < xs.length) (hp : ixB n xs[k] = false) : allK n xs xs.length = false := by
  unfold allK; rw [List.take_length, List.all_eq_false]; exact ⟨xs[k], List.getElem_mem h, by simp [hp]⟩
/-- The elements up to k ascend. -/
def ascK (xs : List Int) (k : Nat) : Bool := (List.range k).all fun j => decide (j = 0) || decide (xs.getD (j - 1) 0 < xs.getD j 0)
theorem ascK_one (xs : List Int) : ascK xs 1 = true := rfl
theorem ascK_succ {xs : List Int} {k : Nat} (hk : ascK xs k = true) (hp : xs.getD (k - 1) 0 < xs.getD k 0) : ascK xs (k + 1) = true := by
  unfold ascK at *; rw [List.range_succ, List.all_append, hk]; simp only [List.all_cons, List.all_nil, Bool.and_true, decide_eq_true hp, Bool.or_true]
theorem ascK_no {xs : List Int} {k n : Nat} (h : k < n) (h0 : 0 < k) (hp : ¬ xs.getD (k - 1) 0 < xs.getD k 0) : ascK xs n = false := by
  unfold ascK; rw [List.all_eq_false]; exact ⟨k, List.mem_range.2 h, by rw [decide_eq_false (by omega : ¬ k = 0), decide_eq_false hp]; simp⟩
/-- Which error a slice that is to be a set of indexes below n has. -/
def setE (n : Nat) (xs : List Int) : Int := if allK n xs xs.length = false then 5 else if ascK xs xs.length = false then 1 else 0
end Go.Proofs.YtmpbfdfjcfanoaaDoor

/-
  THE SMALL FUNCTIONS OF Validate: what each returns, of the program.
-/
namespace Go.Proofs.YtmpbfdfjcfanoaaDoor
open Go.RowKit Go.Deep
def tooB (q : Fm) : Bool := decide (6 < q.states.length) || decide (3 < q.msgs.length) || decide (3 < q.vals.length) || decide (4 < q.res.length) || decide (8 < q.rules.length)
set_option maxHeartbeats 1600000 in
theorem hasTooMany_any {lo : Nat} {w : World} {v : Value} {q : Fm} (h : IsFam lo w v q) :
    Calls Tryd.prog 45 #[v] w fun e w' => e = .returned (.bool (tooB q)) ∧ Below w.heap.size w w' := by
  obtain ⟨v2, v3, v4, v6, v7, v8, v9, rfl, h0, h1, h2, h3, h4, h5, h6, h7, h8, h9⟩ := h
  have E : Hid (tooB q = (decide (6 < q.states.length) || decide (3 < q.msgs.length) || decide (3 < q.vals.length) || decide (4 < q.res.length) || decide (8 < q.rules.length))) := (rfl : tooB q = _)
  have b2 : q.states.length ≤ 9223372036854775807 := by exact h2.bound
  have b3 : q.msgs.length ≤ 9223372036854775807 := by exact h3.bound
  have b4 : q.vals.length ≤ 9223372036854775807 := by exact h4.bound
  have b6 : q.res.length ≤ 9223372036854775807 := by exact h6.bound
  have b7 : q.init.length ≤ 9223372036854775807 := by obtain ⟨_, _, _, hh, hm, _⟩ := h7; unfold maxLen at hm; omega
  have b8 : q.leader.length ≤ 9223372036854775807 := by obtain ⟨_, _, _, hh, hm, _⟩ := h8; unfold maxLen at hm; omega
  have b9 : q.rules.length ≤ 9223372036854775807 := by exact h9.bound
  obtain ⟨a2, c2, rfl⟩ := h2.shape
  obtain ⟨a3, c3, rfl⟩ := h3.shape
  obtain ⟨a4, c4, rfl⟩ := h4.shape
  obtain ⟨a6, c6, rfl⟩ := h6.shape
  obtain ⟨a7, c7, rfl⟩ := h7.shape
  obtain ⟨a8, c8, rfl⟩ := h8.shape
  obtain ⟨a9, c9, rfl⟩ := h9.shape
  clear h0 h1 h2 h3 h4 h5 h6 h7 h8 h9
  by_cases t0 : 6 < q.states.length
  · have i0 : (6 : Int) < ((q.states.length : Nat) : Int) := by omega
    go_enter Tryd.func45, Tryd.ntmps45
    go_wp2_with fail
    go_ret
    exact ⟨ret_bool (by rw [E.out, decide_eq_true t0]; simp), allocBelow _ _⟩
  · have i0 : ¬ (6 : Int) < ((q.states.length : Nat) : Int) := by omega
    by_cases t1 : 3 < q.msgs.length
    · have i1 : (3 : Int) < ((q.msgs.length : Nat) : Int) := by omega
      go_enter Tryd.func45, Tryd.ntmps45
      go_wp2_with fail
      go_ret
      exact ⟨ret_bool (by rw [E.out, decide_eq_true t1]; simp), allocBelow _ _⟩
    · have i1 : ¬ (3 : Int) < ((q.msgs.length : Nat) : Int) := by omega
      by_cases t2 : 3 < q.vals.length
      · have i2 : (3 : Int) < ((q.vals.length : Nat) : Int) := by omega
        go_enter Tryd.func45, Tryd.ntmps45
        go_wp2_with fail
        go_ret
        exact ⟨ret_bool (by rw [E.out, decide_eq_true t2]; simp), allocBelow _ _⟩
      · have i2 : ¬ (3 : Int) < ((q.vals.length : Nat) : Int) := by omega
        by_cases t3 : 4 < q.res.length
        · have i3 : (4 : Int) < ((q.res.length : Nat) : Int) := by omega
          go_enter Tryd.func45, Tryd.ntmps45
          go_wp2_with fail
          go_ret
          exact ⟨ret_bool (by rw [E.out, decide_eq_true t3]; simp), allocBelow _ _⟩
        · have i3 : ¬ (4 : Int) < ((q.res.length : Nat) : Int) := by omega
          by_cases t4 : 8 < q.rules.length
          · have i4 : (8 : Int) < ((q.rules.length : Nat) : Int) := by omega
            go_enter Tryd.func45, Tryd.ntmps45
            go_wp2_with fail
            go_ret
            exact ⟨ret_bool (by rw [E.out, decide_eq_true t4]; simp), allocBelow _ _⟩
          · have i4 : ¬ (8 : Int) < ((q.rules.length : Nat) : Int) := by omega
            go_enter Tryd.func45, Tryd.ntmps45
            go_wp2_with fail
            go_ret
            exact ⟨ret_bool (by rw [E.out, decide_eq_false t0, decide_eq_false t1, decide_eq_false t2, decide_eq_false t3, decide_eq_false t4]; rfl), allocBelow _ _⟩

/-- A kind fits the topology. -/
def fitB (kind top : Int) : Bool := if kind = 1 ∨ kind = 2 ∨ kind = 3 then top == 1 else if kind = 4 ∨ kind = 5 then !(top == 1) else false
theorem kindFits_any (kind top : Int) (w : World) : Calls Tryd.prog 95 #[.int .i64 kind, .int .i64 top] w fun e w' => e = .returned (.bool (fitB kind top)) ∧ w = w' := by
  by_cases k1 : kind = 1
  · subst k1
    go_enter Tryd.func95, Tryd.ntmps95
    go_wp2_with fail
    go_ret
    exact ⟨rfl, rfl⟩
  · have j1 : (kind == 1) = false := by rw [beq_eq_false_iff_ne]; exact k1
    by_cases k2 : kind = 2
    · subst k2
      go_enter Tryd.func95, Tryd.ntmps95
      go_wp2_with fail
      go_ret
      exact ⟨rfl, rfl⟩
    · have j2 : (kind == 2) = false := by rw [beq_eq_false_iff_ne]; exact k2
      by_cases k3 : kind = 3
      · subst k3
        go_enter Tryd.func95, Tryd.ntmps95
        go_wp2_with fail
        go_ret
        exact ⟨rfl, rfl⟩
      · have j3 : (kind == 3) = false := by rw [beq_eq_false_iff_ne]; exact k3
        by_cases k4 : kind = 4
        · subst k4
          go_enter Tryd.func95, Tryd.ntmps95
          go_wp2_with fail
          go_ret
          exact ⟨rfl, rfl⟩
        · have j4 : (kind == 4) = false := by rw [beq_eq_false_iff_ne]; exact k4
          by_cases k5 : kind = 5
          · subst k5
            go_enter Tryd.func95, Tryd.ntmps95
            go_wp2_with fail
            go_ret
            exact ⟨rfl, rfl⟩
          · have j5 : (kind == 5) = false := by rw [beq_eq_false_iff_ne]; exact k5
            have E := Lib.hid (show fitB kind top = false by unfold fitB; rw [if_neg (by omega), if_neg (by omega)])
            clear k1 k2 k3 k4 k5
            go_enter Tryd.func95, Tryd.ntmps95
            go_wp2_with fail
            go_ret
            exact ⟨ret_bool (by rw [E.out]), rfl⟩
end Go.Proofs.YtmpbfdfjcfanoaaDoor

/-
  WHICH TEXTS ARE NAMES, as plain facts on lists of bytes.
-/
namespace Go.Proofs.YtmpbfdfjcfanoaaDoor
/-- The reserved words, by their bytes. -/
def resW : List (List UInt8) := [[112, 114, 111, 116, 111, 99, 111, 108], [116, 111, 112, 111, 108, 111, 103, 121], [115, 116, 97, 116, 101, 115], [109, 101, 115, 115, 97, 103, 101, 115], [118, 97, 108, 117, 101, 115], [102, 97, 117, 108, 116, 115], [114, 101, 115, 105, 108, 105, 101, 110, 99, 101], [105, 110, 105, 116, 105, 97, 108], [108, 101, 97, 100, 101, 114], [114, 117, 108, 101], [108, 111, 99, 97, 108], [112, 97, 105, 114], [98, 114, 111, 97, 100, 99, 97, 115, 116], [110, 101, 105, 103, 104, 98, 111, 114], [112, 97, 115, 115], [119, 104, 101, 110], [101, 120, 105, 115, 116, 115], [102, 111, 114, 97, 108, 108], [114, 101, 97, 100], [119, 114, 105, 116, 101], [115, 101, 110, 100], [97, 108, 108], [97, 116], [102, 105, 114, 115, 116], [108, 97, 115, 116], [108, 101, 102, 116], [114, 105, 103, 104, 116], [112, 97, 114, 101, 110, 116], [99, 104, 105, 108, 100], [112, 114, 111, 112, 101, 114, 116, 121], [110, 101, 118, 101, 114], [101, 118, 101, 110, 116, 117, 97, 108, 108, 121], [115, 116, 97, 114, 116], [99, 111, 117, 110, 116], [97, 100, 106, 97, 99, 101, 110, 116], [103, 111, 97, 108], [99, 108, 105, 113, 117, 101], [108, 105, 110, 101], [114, 105, 110, 103], [116, 114, 101, 101], [99, 114, 97, 115, 104], [111, 109, 105, 115, 115, 105, 111, 110], [97, 114, 98, 105, 116, 114, 97, 114, 121]]
def resB (l : List UInt8) : Bool := resW.any (fun w => l == w)
/-- A letter; a digit or the sign '_'. -/
def leB (c : UInt8) : Bool := decide (97 ≤ (c.toNat : Int)) && decide ((c.toNat : Int) ≤ 122)
def diB (c : UInt8) : Bool := decide (48 ≤ (c.toNat : Int)) && decide ((c.toNat : Int) ≤ 57) || ((c.toNat : Int) == 95)
/-- The byte at i may stand there. -/
def atB (l : List UInt8) (i : Nat) : Bool := leB (l.getD i 0) || (decide (i ≠ 0) && diB (l.getD i 0))
def upB (l : List UInt8) (n : Nat) : Bool := (List.range n).all (atB l)
theorem upB_zero (l : List UInt8) : upB l 0 = true := rfl
theorem upB_succ {l : List UInt8} {n : Nat} (h : upB l n = true) (h' : atB l n = true) : upB l (n + 1) = true := by
  unfold upB at *; rw [List.range_succ, List.all_append, h]; simp [h']
theorem upB_no {l : List UInt8} {n k : Nat} (hk : k < n) (h' : atB l k = false) : upB l n = false := by
  unfold upB; rw [List.all_eq_false]; exact ⟨k, List.mem_range.2 hk, by simp [h']⟩
def nameB (l : List UInt8) : Bool := decide (1 ≤ l.length) && decide (l.length ≤ 12) && !resB l && upB l l.length
/-- The reference's order: the first byte, then each, then the words. -/
def reB (l : List UInt8) (n : Nat) : Bool := (l.take n).all fun c => leB c || diB c
theorem reB_succ {l : List UInt8} {n : Nat} (hn : n < l.length) (h : reB l n = true) (h' : (leB l[n] || diB l[n]) = true) : reB l (n + 1) = true := by
  unfold reB at *; rw [List.take_succ_eq_append_getElem hn, List.all_append, h]; simpa using h'
theorem reB_no {l : List UInt8} {k : Nat} (hk : k < l.length) (h' : (leB l[k] || diB l[k]) = false) : reB l l.length = false := by
  unfold reB; rw [List.all_eq_false]; exact ⟨l[k], by rw [List.take_length]; exact List.getElem_mem hk, by simp [h']⟩
theorem upB_reB {l : List UInt8} (h0 : 0 < l.length) : upB l l.length = (leB l[0] && reB l l.length) := by
  rw [Bool.eq_iff_iff]
  unfold upB reB
  rw [List.take_length, List.all_eq_true, Bool.and_eq_true, List.all_eq_true]
  constructor
  · intro h
    refine ⟨?_, fun c hc => ?_⟩
    · have := h 0 (List.mem_range.2 h0); simpa [atB, h0] using this
    · obtain ⟨i, hi, rfl⟩ := List.getElem_of_mem hc
      have := h i (List.mem_range.2 hi)
      unfold atB at this
      simp only [List.getD_eq_getElem?_getD, List.getElem?_eq_getElem hi, Option.getD_some] at this
      revert this
      cases leB l[i] <;> cases diB l[i] <;> simp
  · rintro ⟨h1, h2⟩ i hi
    have hi' := List.mem_range.1 hi
    have h3 := h2 l[i] (List.getElem_mem hi')
    unfold atB
    simp only [List.getD_eq_getElem?_getD, List.getElem?_eq_getElem hi', Option.getD_some]
    by_cases e : i = 0
    · subst e; simp [h1]
    · simp only [ne_eq, e, not_false_eq_true, decide_true, Bool.true_and]; exact h3
theorem upB_first {l : List UInt8} (h0 : 0 < l.length) (h : leB l[0] = false) : upB l l.length = false := by rw [upB_reB h0, h]; rfl
end Go.Proofs.YtmpbfdfjcfanoaaDoor

/-
  WHICH ERROR A FAMILY HAS: as a plain function, by the order of the program and by that of the reference; both are the same.
-/
namespace Go.Proofs.YtmpbfdfjcfanoaaDoor
open Go.RowKit Go.Deep

/-- The first of two numbers that is not 0. -/
def orE (a b : Int) : Int := if a = 0 then b else a
theorem orE_zero (b : Int) : orE 0 b = b := if_pos rfl
theorem orE_right (a : Int) : orE a 0 = a := by unfold orE; split <;> omega
theorem orE_ne {a : Int} (b : Int) (h : a ≠ 0) : orE a b = a := if_neg h

theorem setE_nil (n : Nat) : setE n [] = 0 := by unfold setE allK ascK; simp

/-- A name is among the names. -/
def hasN (xs : List ByteArray) (s : ByteArray) : Bool := xs.any fun x => x.toList == s.toList
/-- The names up to k are valid, each once. -/
def nmOk (xs : List ByteArray) (k : Nat) : Bool := (List.range k).all fun i => nameB (xs.getD i default).toList && !hasN (xs.take i) (xs.getD i default)
theorem nmOk_zero (xs : List ByteArray) : nmOk xs 0 = true := rfl
theorem nmOk_succ {xs : List ByteArray} {k : Nat} (hk : k < xs.length) (h : nmOk xs k = true) (h1 : nameB (xs[k].toList) = true) (h2 : hasN (xs.take k) xs[k] = false) : nmOk xs (k + 1) = true := by
  have e : xs.getD k default = xs[k] := by simp [List.getD, List.getElem?_eq_getElem hk]
  unfold nmOk at *; rw [List.range_succ, List.all_append, h]; simp only [List.all_cons, List.all_nil, Bool.and_true, e, h1, h2, Bool.not_false]
theorem nmOk_no {xs : List ByteArray} {k n : Nat} (hk : k < xs.length) (hn : k < n) (h : nameB (xs[k].toList) = false ∨ hasN (xs.take k) xs[k] = true) : nmOk xs n = false := by
  have e : xs.getD k default = xs[k] := by simp [List.getD, List.getElem?_eq_getElem hk]
  unfold nmOk; rw [List.all_eq_false]
  refine ⟨k, List.mem_range.2 hn, ?_⟩
  rw [e]
  rcases h with h | h <;> rw [h] <;> simp

/-- The error of a list of guards. -/
def guE (msgs : Nat) (g : Th) : Int := if ixB msgs g.msg = false then 5 else if inB 1 100 g.coef = false then 1 else if smL g.bd.c g.bd.n g.bd.t g.bd.f = false then 4 else 0
def gusE (msgs : Nat) : List Th → Int
  | [] => 0
  | g :: gs => if guE msgs g = 0 then gusE msgs gs else guE msgs g
def guardE (msgs : Nat) (gs : List Th) : Int := if gusE msgs gs = 0 then (if 2 < gs.length then 4 else 0) else gusE msgs gs
theorem guardE_nil (m : Nat) : guardE m [] = 0 := rfl
/-- The error of Read and Write. -/
def shE (vals : Nat) (rd wr : Int) : Int := if (rd ≠ -1 ∧ ixB vals rd = false) ∨ (wr ≠ -1 ∧ ixB vals wr = false) then 5 else 0
theorem shE_none (v : Nat) : shE v (-1) (-1) = 0 := by unfold shE; simp
def reE (n : Nat) (xs : List Int) : Int := if xs.length ≠ n then 1 else if allK n xs xs.length = false then 5 else 0
def posE (pos top : Int) : Int := if inB 0 2 pos = false ∨ (pos ≠ 0 ∧ top = 3) then 1 else 0
def dirE (dir top : Int) : Int := if top = 4 then (if dir = 3 ∨ dir = 4 then 0 else 1) else (if dir = 1 ∨ dir = 2 then 0 else 1)

/-- The parts that the kind of a rule uses are taken out. -/
def bare (r : Ru) (top : Int) : Ru :=
  let r := { r with frm := 0, to := 0 }
  if r.kind = 1 then { r with guards := [], ex := [], fa := [], send := [], rd := -1, wr := -1 }
  else if r.kind = 2 then { r with pf := 0, pt := 0, rd := -1, wr := -1 }
  else if r.kind = 3 then { r with resp := [], rd := -1, wr := -1 }
  else if r.kind = 4 then (if top = 4 then { r with pos := 0, left := [], right := [], parent := [] } else { r with pos := 0, left := [], right := [] })
  else if r.kind = 5 then { r with pf := 0, pt := 0, dir := 0 }
  else r
/-- Two rules are the same but for their names. -/
def samP (a b : Ru) : Bool :=
  decide (a.kind = b.kind) && decide (a.frm = b.frm) && decide (a.to = b.to) && decide (a.pf = b.pf) && decide (a.pt = b.pt) && decide (a.resp = b.resp) && decide (a.guards = b.guards) && decide (a.ex = b.ex) && decide (a.fa = b.fa) &&
  decide (a.rd = b.rd) && decide (a.wr = b.wr) && decide (a.send = b.send) && decide (a.pos = b.pos) && decide (a.left = b.left) && decide (a.right = b.right) && decide (a.parent = b.parent) && decide (a.dir = b.dir)
/-- A rule of a kind with nothing in it. -/
def plainR (kind : Int) : Ru := ⟨⟨#[]⟩, kind, 0, 0, 0, 0, [], [], [], [], -1, -1, [], 0, [], [], [], 0⟩
def othB (r : Ru) (top : Int) : Bool := samP (bare r top) (plainR r.kind)
def stB (r : Ru) (n : Nat) : Bool := ixB n r.frm && ixB n r.to && ixB n r.pf && ixB n r.pt

/-- The error of the parts of a rule, as the program looks for it. -/
def partE (q : Fm) (r : Ru) : Int :=
  if r.kind = 3 then orE (reE q.states.length r.resp) (shE q.vals.length r.rd r.wr)
  else if r.kind = 2 then shE q.vals.length r.rd r.wr
  else if r.kind = 1 then orE (guardE q.msgs.length r.guards) (orE (setE q.states.length r.ex) (orE (setE q.states.length r.fa) (orE (shE q.vals.length r.rd r.wr) (setE q.msgs.length r.send))))
  else if r.kind = 4 then orE (setE q.states.length r.left) (orE (setE q.states.length r.right) (orE (setE q.states.length r.parent) (posE r.pos q.top)))
  else dirE r.dir q.top
def hasR (rs : List Ru) (s : ByteArray) : Bool := rs.any fun r => r.nm.toList == s.toList
def ruleE (q : Fm) (i : Nat) (r : Ru) : Int :=
  if nameB r.nm.toList = false ∨ hasR (q.rules.take i) r.nm = true then 2
  else if fitB r.kind q.top = false ∨ othB r q.top = false then 6
  else if stB r q.states.length = false then 5
  else partE q r

/-- The error of a rule, as the reference looks for it. -/
def unusedB (r : Ru) (top : Int) : Bool :=
  if r.kind ≠ 1 ∧ (r.guards ≠ [] ∨ r.ex ≠ [] ∨ r.fa ≠ [] ∨ r.send ≠ []) then true
  else if r.kind ≠ 1 ∧ r.kind ≠ 2 ∧ r.kind ≠ 3 ∧ (r.rd ≠ -1 ∨ r.wr ≠ -1) then true
  else if r.kind ≠ 2 ∧ r.kind ≠ 5 ∧ (r.pf ≠ 0 ∨ r.pt ≠ 0) then true
  else if (r.kind ≠ 3 ∧ r.resp ≠ []) ∨ (r.kind ≠ 5 ∧ r.dir ≠ 0) then true
  else if r.kind ≠ 4 ∧ (r.pos ≠ 0 ∨ r.left ≠ [] ∨ r.right ≠ []) then true
  else decide (r.parent ≠ [] ∧ ¬ (r.kind = 4 ∧ top = 4))
def rkindB (r : Ru) (top : Int) : Bool := inB 1 5 r.kind && (decide (r.kind ≤ 3) == decide (top = 1)) && !unusedB r top
def rstB (r : Ru) (n : Nat) : Bool := ixB n r.frm && ixB n r.to && (!(decide (r.kind = 2) || decide (r.kind = 5)) || (ixB n r.pf && ixB n r.pt))
def rpartE (q : Fm) (r : Ru) : Int :=
  orE (if r.kind = 3 then reE q.states.length r.resp else 0) <| orE (guardE q.msgs.length r.guards) <| orE (setE q.states.length r.ex) <| orE (setE q.states.length r.fa) <| orE (shE q.vals.length r.rd r.wr) <| orE (setE q.msgs.length r.send) <|
  orE (setE q.states.length r.left) <| orE (setE q.states.length r.right) <| orE (setE q.states.length r.parent) <| orE (if r.kind = 4 then posE r.pos q.top else 0) (if r.kind = 5 then dirE r.dir q.top else 0)
def rruleE (q : Fm) (i : Nat) (r : Ru) : Int :=
  if nameB r.nm.toList = false ∨ hasR (q.rules.take i) r.nm = true then 2
  else if rkindB r q.top = false then 6
  else if rstB r q.states.length = false then 5
  else rpartE q r

theorem samP_iff (a b : Ru) : samP a b = true ↔ a.kind = b.kind ∧ a.frm = b.frm ∧ a.to = b.to ∧ a.pf = b.pf ∧ a.pt = b.pt ∧ a.resp = b.resp ∧ a.guards = b.guards ∧ a.ex = b.ex ∧ a.fa = b.fa ∧ a.rd = b.rd ∧ a.wr = b.wr ∧ a.send = b.send ∧ a.pos = b.pos ∧ a.left = b.left ∧ a.right = b.right ∧ a.parent = b.parent ∧ a.dir = b.dir := by
  unfold samP; simp only [Bool.and_eq_true, decide_eq_true_iff, and_assoc]

/-- Which parts are empty, by the kind. -/
structure Emp (r : Ru) (top : Int) : Prop where
  g : r.kind ≠ 1 → r.guards = [] ∧ r.ex = [] ∧ r.fa = [] ∧ r.send = []
  s : r.kind ≠ 1 → r.kind ≠ 2 → r.kind ≠ 3 → r.rd = -1 ∧ r.wr = -1
  p : r.kind ≠ 2 → r.kind ≠ 5 → r.pf = 0 ∧ r.pt = 0
  b : r.kind ≠ 3 → r.resp = []
  d : r.kind ≠ 5 → r.dir = 0
  n : r.kind ≠ 4 → r.pos = 0 ∧ r.left = [] ∧ r.right = []
  t : ¬ (r.kind = 4 ∧ top = 4) → r.parent = []
theorem unused_emp (r : Ru) (top : Int) : unusedB r top = false ↔ Emp r top := by
  unfold unusedB
  constructor
  · intro h
    split at h
    · cases h
    rename_i h1
    split at h
    · cases h
    rename_i h2
    split at h
    · cases h
    rename_i h3
    split at h
    · cases h
    rename_i h4
    split at h
    · cases h
    rename_i h5
    rw [decide_eq_false_iff_not] at h
    simp only [not_and, not_or, Decidable.not_not] at h1 h2 h3 h4 h5 h
    exact ⟨h1, h2, h3, h4.1, h4.2, h5, fun hk => Decidable.byContradiction fun hn => by simp_all⟩
  · rintro ⟨g, s, p, b, d, n, t⟩
    rw [if_neg (by rintro ⟨hk, h⟩; have := g hk; simp_all), if_neg (by rintro ⟨h1, h2, h3, h⟩; have := s h1 h2 h3; simp_all), if_neg (by rintro ⟨h1, h2, h⟩; have := p h1 h2; simp_all),
      if_neg (by rintro (⟨h1, h⟩ | ⟨h1, h⟩) <;> simp_all), if_neg (by rintro ⟨h1, h⟩; have := n h1; simp_all), decide_eq_false_iff_not]
    rintro ⟨h1, h2⟩
    exact h1 (t h2)
theorem oth_emp (r : Ru) (top : Int) (hk : r.kind = 1 ∨ r.kind = 2 ∨ r.kind = 3 ∨ r.kind = 4 ∨ r.kind = 5) : othB r top = true ↔ Emp r top := by
  unfold othB
  rw [samP_iff]
  obtain ⟨nm, kind, frm, tt, pf, pt, resp, guards, ex, fa, rd, wr, send, pos, left, right, parent, dir⟩ := r
  unfold bare plainR
  dsimp only at hk ⊢
  rcases hk with rfl | rfl | rfl | rfl | rfl
  · simp only [if_pos]
    constructor
    · rintro ⟨-, -, -, h1, h2, h3, -, -, -, -, -, -, h4, h5, h6, h7, h8⟩
      exact ⟨by simp, by simp, fun _ _ => ⟨h1, h2⟩, fun _ => h3, fun _ => h8, fun _ => ⟨h4, h5, h6⟩, fun _ => h7⟩
    · rintro ⟨g, s, p, b, d, n, t⟩
      have := p (by simp) (by simp); have := n (by simp); have := b (by simp); have := d (by simp); have := t (by simp)
      simp_all
  · simp only [show ¬ ((2 : Int) = 1) by omega, if_pos, if_neg, not_false_eq_true]
    constructor
    · rintro ⟨-, -, -, -, -, h3, h9, h10, h11, -, -, h12, h4, h5, h6, h7, h8⟩
      exact ⟨fun _ => ⟨h9, h10, h11, h12⟩, by simp, by simp, fun _ => h3, fun _ => h8, fun _ => ⟨h4, h5, h6⟩, fun _ => h7⟩
    · rintro ⟨g, s, p, b, d, n, t⟩
      have := g (by simp); have := n (by simp); have := b (by simp); have := d (by simp); have := t (by simp)
      simp_all
  · simp only [show ¬ ((3 : Int) = 1) by omega, show ¬ ((3 : Int) = 2) by omega, if_pos, if_neg, not_false_eq_true]
    constructor
    · rintro ⟨-, -, -, h1, h2, -, h9, h10, h11, -, -, h12, h4, h5, h6, h7, h8⟩
      exact ⟨fun _ => ⟨h9, h10, h11, h12⟩, by simp, fun _ _ => ⟨h1, h2⟩, by simp, fun _ => h8, fun _ => ⟨h4, h5, h6⟩, fun _ => h7⟩
    · rintro ⟨g, s, p, b, d, n, t⟩
      have := g (by simp); have := n (by simp); have := p (by simp) (by simp); have := d (by simp); have := t (by simp)
      simp_all
  · simp only [show ¬ ((4 : Int) = 1) by omega, show ¬ ((4 : Int) = 2) by omega, show ¬ ((4 : Int) = 3) by omega, if_pos, if_neg, not_false_eq_true]
    by_cases ht : top = 4
    · simp only [if_pos ht]
      constructor
      · rintro ⟨-, -, -, h1, h2, h3, h9, h10, h11, h13, h14, h12, -, -, -, -, h8⟩
        exact ⟨fun _ => ⟨h9, h10, h11, h12⟩, fun _ _ _ => ⟨h13, h14⟩, fun _ _ => ⟨h1, h2⟩, fun _ => h3, fun _ => h8, by simp, by simp [ht]⟩
      · rintro ⟨g, s, p, b, d, n, t⟩
        have := g (by simp); have := s (by simp) (by simp) (by simp); have := p (by simp) (by simp); have := b (by simp); have := d (by simp)
        simp_all
    · simp only [if_neg ht]
      constructor
      · rintro ⟨-, -, -, h1, h2, h3, h9, h10, h11, h13, h14, h12, -, -, -, h7, h8⟩
        exact ⟨fun _ => ⟨h9, h10, h11, h12⟩, fun _ _ _ => ⟨h13, h14⟩, fun _ _ => ⟨h1, h2⟩, fun _ => h3, fun _ => h8, by simp, fun _ => h7⟩
      · rintro ⟨g, s, p, b, d, n, t⟩
        have := g (by simp); have := s (by simp) (by simp) (by simp); have := p (by simp) (by simp); have := b (by simp); have := d (by simp); have := t (by simp [ht])
        simp_all
  · simp only [show ¬ ((5 : Int) = 1) by omega, show ¬ ((5 : Int) = 2) by omega, show ¬ ((5 : Int) = 3) by omega, show ¬ ((5 : Int) = 4) by omega, if_pos, if_neg, not_false_eq_true]
    constructor
    · rintro ⟨-, -, -, -, -, h3, h9, h10, h11, h13, h14, h12, h4, h5, h6, h7, -⟩
      exact ⟨fun _ => ⟨h9, h10, h11, h12⟩, fun _ _ _ => ⟨h13, h14⟩, by simp, fun _ => h3, by simp, fun _ => ⟨h4, h5, h6⟩, fun _ => h7⟩
    · rintro ⟨g, s, p, b, d, n, t⟩
      have := g (by simp); have := s (by simp) (by simp) (by simp); have := b (by simp); have := n (by simp); have := t (by simp)
      simp_all

theorem kind_of_fit {kind top : Int} (h : fitB kind top = true) : kind = 1 ∨ kind = 2 ∨ kind = 3 ∨ kind = 4 ∨ kind = 5 := by
  unfold fitB at h; split at h
  · omega
  · split at h
    · omega
    · cases h
theorem fit_eq (r : Ru) (top : Int) : (fitB r.kind top && othB r top) = rkindB r top := by
  unfold rkindB
  by_cases hk : r.kind = 1 ∨ r.kind = 2 ∨ r.kind = 3 ∨ r.kind = 4 ∨ r.kind = 5
  · have e : othB r top = !unusedB r top := by
      rw [Bool.eq_iff_iff, oth_emp r top hk, ← unused_emp]; simp
    have e2 : inB 1 5 r.kind = true := by unfold inB; simp; omega
    rw [e, e2, Bool.true_and]
    congr 1
    unfold fitB
    by_cases h3 : r.kind ≤ 3
    · rw [if_pos (by omega), decide_eq_true h3]; by_cases ht : top = 1 <;> simp [ht]
    · rw [if_neg (by omega), if_pos (by omega), decide_eq_false h3]; by_cases ht : top = 1 <;> simp [ht]
  · have e2 : inB 1 5 r.kind = false := by unfold inB; simp; omega
    have e3 : fitB r.kind top = false := by unfold fitB; rw [if_neg (by omega), if_neg (by omega)]
    rw [e2, e3]; simp

/-- Both ways to look for the error of a rule find the same. -/
theorem rule_eq (q : Fm) (i : Nat) (r : Ru) (hs : q.states ≠ []) : ruleE q i r = rruleE q i r := by
  unfold ruleE rruleE
  have hn : 0 < q.states.length := List.length_pos_iff.2 hs
  by_cases h1 : nameB r.nm.toList = false ∨ hasR (q.rules.take i) r.nm = true
  · rw [if_pos h1, if_pos h1]
  · rw [if_neg h1, if_neg h1]
    have hf := fit_eq r q.top
    cases hr : rkindB r q.top with
    | false =>
      rw [hr] at hf
      rw [if_pos (by cases hA : fitB r.kind q.top <;> cases hB : othB r q.top <;> simp_all), if_pos rfl]
    | true =>
      rw [hr, Bool.and_eq_true] at hf
      obtain ⟨hf, ho⟩ := hf
      have hk := kind_of_fit hf
      have he := (oth_emp r q.top hk).1 ho
      rw [if_neg (by rw [hf, ho]; simp), if_neg (by simp : ¬ (true = false))]
      obtain ⟨g, s, p, b, d, n, t⟩ := he
      have z0 : ixB q.states.length 0 = true := by unfold ixB inB; simp; omega
      have hst : stB r q.states.length = rstB r q.states.length := by
        unfold stB rstB
        by_cases hk2 : r.kind = 2 ∨ r.kind = 5
        · have : (decide (r.kind = 2) || decide (r.kind = 5)) = true := by simpa using hk2
          rw [this]; simp [Bool.and_assoc]
        · have e := p (by omega) (by omega)
          have : (decide (r.kind = 2) || decide (r.kind = 5)) = false := by simpa using hk2
          rw [this, e.1, e.2, z0]; simp
      rw [hst]
      by_cases hb : rstB r q.states.length = false
      · rw [if_pos hb, if_pos hb]
      · rw [if_neg hb, if_neg hb]
        unfold partE rpartE
        rcases hk with hk | hk | hk | hk | hk
        · have e1 := n (by omega); have e2 := t (by omega)
          rw [hk, e1.2.1, e1.2.2, e2]
          simp [setE_nil, orE_zero, orE_right]
        · have e0 := g (by omega); have e1 := n (by omega); have e2 := t (by omega)
          rw [hk, e0.1, e0.2.1, e0.2.2.1, e0.2.2.2, e1.2.1, e1.2.2, e2]
          simp [setE_nil, orE_zero, orE_right, guardE_nil]
        · have e0 := g (by omega); have e1 := n (by omega); have e2 := t (by omega)
          rw [hk, e0.1, e0.2.1, e0.2.2.1, e0.2.2.2, e1.2.1, e1.2.2, e2]
          simp [setE_nil, orE_zero, orE_right, guardE_nil]
        · have e0 := g (by omega); have e1 := s (by omega) (by omega) (by omega)
          rw [hk, e0.1, e0.2.1, e0.2.2.1, e0.2.2.2, e1.1, e1.2]
          simp [setE_nil, orE_zero, orE_right, guardE_nil, shE_none]
        · have e0 := g (by omega); have e1 := s (by omega) (by omega) (by omega); have e2 := n (by omega); have e3 := t (by omega)
          rw [hk, e0.1, e0.2.1, e0.2.2.1, e0.2.2.2, e1.1, e1.2, e2.2.1, e2.2.2, e3]
          simp [setE_nil, orE_zero, guardE_nil, shE_none]

/-- The different guards in the order of their first appearance. -/
def addT (l : List Th) (g : Th) : List Th := if g ∈ l then l else l ++ [g]
def diffG (rs : List Ru) : List Th := rs.foldl (fun l r => r.guards.foldl addT l) []
/-- The first error of the rules from i on. -/
def rulesE (q : Fm) : Nat → Nat → Int
  | _, 0 => 0
  | i, f + 1 => if ruleE q i (q.rules.getD i default) = 0 then rulesE q (i + 1) f else ruleE q i (q.rules.getD i default)
def cliB (q : Fm) : Bool := decide (0 < q.msgs.length) || decide (0 < q.vals.length) || decide (0 < q.res.length) || decide (q.fault ≠ 0)
/-- The first error of a family. -/
def valE (q : Fm) : Int :=
  if nameB q.nm.toList = false then 2
  else if inB 1 4 q.top = false ∨ inB 0 3 q.fault = false then 1
  else if q.states.length = 0 then 1
  else if tooB q = true then 4
  else if nmOk (q.states ++ (q.msgs ++ q.vals)) (q.states ++ (q.msgs ++ q.vals)).length = false then 2
  else if (q.top ≠ 1 ∧ cliB q = true) ∨ (q.top = 1 ∧ 0 < q.leader.length) then 1
  else if (q.res.any fun l => !smL l.c l.n l.t l.f) = true then 4
  else orE (if q.init.length = 0 then 1 else setE q.states.length q.init) (orE (setE q.states.length q.leader) (orE (rulesE q 0 q.rules.length) (if 3 < (diffG q.rules).length then 4 else 0)))
end Go.Proofs.YtmpbfdfjcfanoaaDoor

/-
  setError AND someSetError OF THE PROGRAM; Set OF THE REFERENCE.
-/
namespace Go.Proofs.YtmpbfdfjcfanoaaDoor
open Go.RowKit Go.Deep
theorem setE_bad {n : Nat} {xs : List Int} {k : Nat} (h : k < xs.length) (hp : ixB n xs[k] = false) : setE n xs = 5 := by unfold setE; rw [if_pos (allK_no h hp)]
theorem setE_asc {n : Nat} {xs : List Int} {k : Nat} (ha : allK n xs xs.length = true) (h : k < xs.length) (h0 : 0 < k) (hp : ¬ xs.getD (k - 1) 0 < xs.getD k 0) : setE n xs = 1 := by
  unfold setE; rw [if_neg (by rw [ha]; simp), if_pos (ascK_no h h0 hp)]
theorem setE_ok {n : Nat} {xs : List Int} (ha : allK n xs xs.length = true) (hb : ascK xs xs.length = true) : setE n xs = 0 := by
  unfold setE; rw [if_neg (by rw [ha]; simp), if_neg (by rw [hb]; simp)]
theorem ascK_le {xs : List Int} {k n : Nat} (h : ascK xs k = true) (hn : n ≤ k) : ascK xs n = true := by
  unfold ascK at *
  rw [List.all_eq_true] at *
  exact fun j hj => h j (List.mem_range.2 (by have := List.mem_range.1 hj; omega))
set_option maxHeartbeats 1600000 in
theorem setError_full (b off m cap n : Nat) (w : World) (xs : List Int) (hx : xs.length = m) (hm : m ≤ 9223372036854775807) (hn : n ≤ 9223372036854775807)
    (hc : ∀ i, i < m → w.cell? ⟨b, off + i, none⟩ = some (.int .i64 (xs.getD i 0))) :
    Calls Tryd.prog 52 #[.slice (some ⟨b, off, none⟩) m cap, .int .i64 n] w fun e w' => e = .returned (.int .i64 (setE n xs)) ∧ ∃ q, w' = w.drewN q := by
  have HC := Lib.hid hc
  have HX := Lib.hid hx
  clear hc hx
  go_enter Tryd.func52, Tryd.ntmps52
  go_wp2_with fail
  go_loop [10] (fun u => ∃ k : Nat, k ≤ m ∧ u = .int .i64 k ∧ allK n xs k = true) (fun u => m - (intOf u).toNat)
  case atStart => exact ⟨0, Nat.zero_le _, rfl, rfl⟩
  case round =>
    obtain ⟨k, hk, rfl, hs⟩ := hrel
    have HS := Lib.hid hs
    clear hs
    by_cases hlt : k < m
    · have g1 := HC.out k hlt
      have hkx : k < xs.length := by rw [HX.out]; exact hlt
      have ex : xs.getD k 0 = xs[k] := by simp [List.getD, List.getElem?_eq_getElem hkx]
      have HE := Lib.hid ex
      generalize hX : xs.getD k 0 = x at g1 HE
      clear ex hX
      cases hp : ixB n x with
      | true =>
        have HP := Lib.hid hp
        clear hp
        go_wp2_with (go_at_call 93; refine (isIndex_any x n hn _).mono ?_; rintro e w1 ⟨rfl, rfl⟩; rw [HP.out])
        go_round
        case rel => exact ⟨k + 1, by omega, by go_num, allK_succ hkx HS.out (by rw [← HE.out]; exact HP.out)⟩
        case measure => simp [intOf]; omega
      | false =>
        have HP := Lib.hid hp
        clear hp
        go_wp2_with (go_at_call 93; refine (isIndex_any x n hn _).mono ?_; rintro e w1 ⟨rfl, rfl⟩; rw [HP.out])
        go_ret
        exact ⟨ret_int (by rw [setE_bad hkx (by rw [← HE.out]; exact HP.out)]), 0, rfl⟩
    · have HA : Hid (allK n xs xs.length = true) := by show _ = _; rw [HX.out]; have : k = m := by omega
                                                       rw [← this]; exact HS.out
      go_wp2_with fail
      go_loopw [7] (fun u wr => ∃ (k q : Nat), 1 ≤ k ∧ u = .int .i64 k ∧ (k ≤ m ∨ k = 1) ∧ ascK xs k = true ∧ wr = w.drewN q) (fun u _ => m - (intOf u).toNat)
      case atStart => exact ⟨1, 0, Nat.le_refl _, rfl, .inr rfl, ascK_one xs, rfl⟩
      case round =>
        obtain ⟨k, q, hk1, rfl, hk2, hs, rfl⟩ := hrel
        have HS := Lib.hid hs
        have HK := Lib.hid hk2
        clear hs hk2
        by_cases hlt : k < m
        · have g1 := HC.out k hlt
          have g2 := HC.out (k - 1) (by omega)
          have e1 : off + (k - 1) = off + k - 1 := by omega
          have ei : ((k : Int) - 1).toNat = k - 1 := by omega
          have p1 : (0 : Int) ≤ (k : Int) - 1 := by omega
          have p2 : (k : Int) - 1 < (m : Int) := by omega
          have p3 : (k : Int) < (m : Int) := by omega
          have wn : IntKind.i64.wrap ((k : Int) - 1) = (k : Int) - 1 := IntWalk.i64_in _ (by omega)
          generalize hX : xs.getD k 0 = x at g1
          generalize hY : xs.getD (k - 1) 0 = y at g2
          have HX' := Lib.hid hX
          have HY' := Lib.hid hY
          clear hX hY e1
          by_cases hp : y < x
          · have b1 : decide (x ≤ y) = false := by simpa using hp
            have HP := Lib.hid hp
            clear hp
            go_wp2_with fail
            go_quiet (fail)
            go_wp2_with fail
            go_roundw
            case rel => exact ⟨k + 1, q + nq, by omega, by go_num, .inl (by omega), ascK_succ HS.out (by rw [HX'.out, HY'.out]; exact HP.out), by first | rfl | rw [World.drewN_drewN]⟩
            case measure => simp [intOf]; omega
          · have b1 : decide (x ≤ y) = true := by simp; omega
            have HP := Lib.hid hp
            clear hp
            go_wp2_with fail
            go_quiet (fail)
            go_wp2_with fail
            go_ret
            exact ⟨ret_int (by rw [setE_asc HA.out (k := k) (by rw [HX.out]; exact hlt) hk1 (by rw [HX'.out, HY'.out]; have := HP.out; omega)]), q + nq, by first | rfl | rw [World.drewN_drewN]⟩
        · have HE := Lib.hid (setE_ok HA.out (ascK_le HS.out (by rw [HX.out]; have := HK.out; omega)))
          go_wp2_with fail
          go_ret
          exact ⟨ret_int (by rw [HE.out]), q, rfl⟩
set_option maxHeartbeats 800000 in
theorem setError_empty (a : Option Addr) (cap n : Nat) (w : World) :
    Calls Tryd.prog 52 #[.slice a 0 cap, .int .i64 n] w fun e w' => e = .returned (.int .i64 (setE n [])) ∧ ∃ q, w' = w.drewN q := by
  rw [setE_nil]
  go_enter Tryd.func52, Tryd.ntmps52
  go_wp2_with fail
  refine wp_loop_rounds 1 ?_
  rw [rounds_succ]
  go_wp2_with fail
  refine wp_loop_rounds 1 ?_
  rw [rounds_succ]
  go_wp2_with fail
  go_ret
  exact ⟨rfl, 0, rfl⟩
/-- It only reads. -/
theorem setError_q {lo : Nat} {w : World} {v : Value} {xs : List Int} (n : Nat) (hn : n ≤ 9223372036854775807) (h : IsInts lo w v xs) :
    Calls Tryd.prog 52 #[v, .int .i64 n] w fun e w' => e = .returned (.int .i64 (setE n xs)) ∧ ∃ q, w' = w.drewN q := by
  obtain ⟨a, cap, rfl, hl, hm, hi, hc⟩ := h
  unfold maxLen at hm
  rcases hc with rfl | ⟨b, off, rfl, _, _, hc⟩
  · exact setError_empty _ _ _ _
  · exact setError_full _ _ _ _ _ _ _ rfl (by omega) hn hc
theorem setError_any {lo : Nat} {w : World} {v : Value} {xs : List Int} (n : Nat) (hn : n ≤ 9223372036854775807) (h : IsInts lo w v xs) :
    Calls Tryd.prog 52 #[v, .int .i64 n] w fun e w' => e = .returned (.int .i64 (setE n xs)) ∧ Below w.heap.size w w' :=
  (setError_q n hn h).mono fun _ _ ⟨h1, q, h2⟩ => ⟨h1, by rw [h2]; exact quietBelow (Below.refl _ _) q⟩
def someE (n : Nat) (xs : List Int) : Int := if xs.length = 0 then 1 else setE n xs
set_option maxHeartbeats 800000 in
theorem someSetError_any {lo : Nat} {w : World} {v : Value} {xs : List Int} (n : Nat) (hn : n ≤ 9223372036854775807) (h : IsInts lo w v xs) :
    Calls Tryd.prog 51 #[v, .int .i64 n] w fun e w' => e = .returned (.int .i64 (someE n xs)) ∧ Below w.heap.size w w' := by
  have H := Lib.hid h
  have hbd : xs.length ≤ 9223372036854775807 := by obtain ⟨_, _, _, hh, hm, _⟩ := h; unfold maxLen at hm; omega
  obtain ⟨a, cap, rfl⟩ := h.shape
  clear h
  by_cases h0 : xs.length = 0
  · have E := Lib.hid (show someE n xs = 1 from if_pos h0)
    have b0 : ((xs.length : Int) == 0) = true := by rw [h0]; rfl
    clear h0
    go_enter Tryd.func51, Tryd.ntmps51
    go_wp2_with fail
    go_ret
    exact ⟨ret_int (by rw [E.out]), Below.refl _ _⟩
  · have E := Lib.hid (show someE n xs = setE n xs from if_neg h0)
    have b0 : ((xs.length : Int) == 0) = false := by rw [beq_eq_false_iff_ne]; omega
    clear h0
    go_enter Tryd.func51, Tryd.ntmps51
    go_wp2_with (go_at_call 52; refine (setError_any n hn H.out).mono ?_; rintro e w1 ⟨rfl, hb1⟩)
    go_ret
    exact ⟨ret_int (by rw [E.out]), hb1⟩
end Go.Proofs.YtmpbfdfjcfanoaaDoor

/-
  Set OF THE REFERENCE: its error for a list of indexes.
-/
namespace Go.Proofs.YtmpbfdfjcfanoaaDoor
open Go.RowKit Go.Deep
set_option maxHeartbeats 1600000 in
theorem rSet_full (b off m cap n : Nat) (w : World) (xs : List Int) (hx : xs.length = m) (hm : m ≤ 9223372036854775807) (hn : n ≤ 9223372036854775807)
    (hc : ∀ i, i < m → w.cell? ⟨b, off + i, none⟩ = some (.int .i64 (xs.getD i 0))) :
    Calls Tryd.prog 59 #[.slice (some ⟨b, off, none⟩) m cap, .int .i64 n] w fun e w' => e = .returned (.int .i64 (setE n xs)) ∧ ∃ q, w' = w.drewN q := by
  have HC := Lib.hid hc
  have HX := Lib.hid hx
  clear hc hx
  go_enter Tryd.func59, Tryd.ntmps59
  go_wp2_with fail
  go_loop [5] (fun u => ∃ k : Nat, k ≤ m ∧ u = .int .i64 k ∧ allK n xs k = true) (fun u => m - (intOf u).toNat)
  case atStart => exact ⟨0, Nat.zero_le _, rfl, rfl⟩
  case round =>
    obtain ⟨k, hk, rfl, hs⟩ := hrel
    have HS := Lib.hid hs
    clear hs
    by_cases hlt : k < m
    · have g1 := HC.out k hlt
      have hkx : k < xs.length := by rw [HX.out]; exact hlt
      have ex : xs.getD k 0 = xs[k] := by simp [List.getD, List.getElem?_eq_getElem hkx]
      have HE := Lib.hid ex
      generalize hX : xs.getD k 0 = x at g1 HE
      clear ex hX
      cases hp : ixB n x with
      | true =>
        have HP := Lib.hid hp
        clear hp
        go_wp2_with (go_at_call 56; refine (swithin_any x 0 ((n : Int) - 1) _).mono ?_; rintro e w1 ⟨rfl, rfl⟩; rw [show inB 0 ((n : Int) - 1) x = _ from HP.out])
        go_round
        case rel => exact ⟨k + 1, by omega, by go_num, allK_succ hkx HS.out (by rw [← HE.out]; exact HP.out)⟩
        case measure => simp [intOf]; omega
      | false =>
        have HP := Lib.hid hp
        clear hp
        go_wp2_with (go_at_call 56; refine (swithin_any x 0 ((n : Int) - 1) _).mono ?_; rintro e w1 ⟨rfl, rfl⟩; rw [show inB 0 ((n : Int) - 1) x = _ from HP.out])
        go_ret
        exact ⟨ret_int (by rw [setE_bad hkx (by rw [← HE.out]; exact HP.out)]), 0, rfl⟩
    · have HA : Hid (allK n xs xs.length = true) := by show _ = _; rw [HX.out]; have : k = m := by omega
                                                       rw [← this]; exact HS.out
      go_wp2_with fail
      go_loopw [6] (fun u wr => ∃ (k q : Nat), 1 ≤ k ∧ u = .int .i64 k ∧ (k ≤ m ∨ k = 1) ∧ ascK xs k = true ∧ wr = w.drewN q) (fun u _ => m - (intOf u).toNat)
      case atStart => exact ⟨1, 0, Nat.le_refl _, rfl, .inr rfl, ascK_one xs, rfl⟩
      case round =>
        obtain ⟨k, q, hk1, rfl, hk2, hs, rfl⟩ := hrel
        have HS := Lib.hid hs
        have HK := Lib.hid hk2
        clear hs hk2
        by_cases hlt : k < m
        · have g1 := HC.out k hlt
          have g2 := HC.out (k - 1) (by omega)
          have e1 : off + (k - 1) = off + k - 1 := by omega
          have ei : ((k : Int) - 1).toNat = k - 1 := by omega
          have p1 : (0 : Int) ≤ (k : Int) - 1 := by omega
          have p2 : (k : Int) - 1 < (m : Int) := by omega
          have p3 : (k : Int) < (m : Int) := by omega
          have wn : IntKind.i64.wrap ((k : Int) - 1) = (k : Int) - 1 := IntWalk.i64_in _ (by omega)
          generalize hX : xs.getD k 0 = x at g1
          generalize hY : xs.getD (k - 1) 0 = y at g2
          have HX' := Lib.hid hX
          have HY' := Lib.hid hY
          clear hX hY e1
          by_cases hp : y < x
          · have b1 : decide (x ≤ y) = false := by simpa using hp
            have HP := Lib.hid hp
            clear hp
            go_wp2_with fail
            go_quiet (fail)
            go_wp2_with fail
            go_roundw
            case rel => exact ⟨k + 1, q + nq, by omega, by go_num, .inl (by omega), ascK_succ HS.out (by rw [HX'.out, HY'.out]; exact HP.out), by first | rfl | rw [World.drewN_drewN]⟩
            case measure => simp [intOf]; omega
          · have b1 : decide (x ≤ y) = true := by simp; omega
            have HP := Lib.hid hp
            clear hp
            go_wp2_with fail
            go_quiet (fail)
            go_wp2_with fail
            go_ret
            exact ⟨ret_int (by rw [setE_asc HA.out (k := k) (by rw [HX.out]; exact hlt) hk1 (by rw [HX'.out, HY'.out]; have := HP.out; omega)]), q + nq, by first | rfl | rw [World.drewN_drewN]⟩
        · have HE := Lib.hid (setE_ok HA.out (ascK_le HS.out (by rw [HX.out]; have := HK.out; omega)))
          go_wp2_with fail
          go_ret
          exact ⟨ret_int (by rw [HE.out]), q, rfl⟩
set_option maxHeartbeats 800000 in
theorem rSet_empty (a : Option Addr) (cap n : Nat) (w : World) :
    Calls Tryd.prog 59 #[.slice a 0 cap, .int .i64 n] w fun e w' => e = .returned (.int .i64 (setE n [])) ∧ ∃ q, w' = w.drewN q := by
  rw [setE_nil]
  go_enter Tryd.func59, Tryd.ntmps59
  go_wp2_with fail
  refine wp_loop_rounds 1 ?_
  rw [rounds_succ]
  go_wp2_with fail
  refine wp_loop_rounds 1 ?_
  rw [rounds_succ]
  go_wp2_with fail
  go_ret
  exact ⟨rfl, 0, rfl⟩
/-- It only reads. -/
theorem rSet_q {lo : Nat} {w : World} {v : Value} {xs : List Int} (n : Nat) (hn : n ≤ 9223372036854775807) (h : IsInts lo w v xs) :
    Calls Tryd.prog 59 #[v, .int .i64 n] w fun e w' => e = .returned (.int .i64 (setE n xs)) ∧ ∃ q, w' = w.drewN q := by
  obtain ⟨a, cap, rfl, hl, hm, hi, hc⟩ := h
  unfold maxLen at hm
  rcases hc with rfl | ⟨b, off, rfl, _, _, hc⟩
  · exact rSet_empty _ _ _ _
  · exact rSet_full _ _ _ _ _ _ _ rfl (by omega) hn hc
theorem rSet_any {lo : Nat} {w : World} {v : Value} {xs : List Int} (n : Nat) (hn : n ≤ 9223372036854775807) (h : IsInts lo w v xs) :
    Calls Tryd.prog 59 #[v, .int .i64 n] w fun e w' => e = .returned (.int .i64 (setE n xs)) ∧ Below w.heap.size w w' :=
  (rSet_q n hn h).mono fun _ _ ⟨h1, q, h2⟩ => ⟨h1, by rw [h2]; exact quietBelow (Below.refl _ _) q⟩
end Go.Proofs.YtmpbfdfjcfanoaaDoor

/-
  THE LAWS' ARGUMENTS THAT ARE STRUCTS OF INTEGERS, by their cells.
-/
namespace Go.Proofs.YtmpbfdfjcfanoaaDoor
open Go.RowKit Go.Deep Go.ChangeShapes Go.WideShapes Go.ChangeAt Go.Joins
theorem cells_int : Tryd.prog.cellsOf 3 = 1 := by kernel_rfl
theorem int_of_trod {H : Type} {enc : TypeId × Value → H} {w : World} {base : Nat} {sp : Nat → Bool} {held : Bool} {n : Nat} {v : Value} {x : DataW H × List MemPlace} (h : DataW.trod enc Tryd.prog w base sp held n 3 [v] = some x) : ∃ c, v = .int .i64 c ∧ I64 c := by
  obtain ⟨c, e1, _, e3⟩ := DataW.trod_int Tryd.underlying3 h
  simp at e1
  exact ⟨c, e1, I64.of_wf e3⟩
theorem cells_size : Tryd.prog.cellsOf 44 = 3 := by kernel_rfl
set_option maxRecDepth 100000 in
theorem size_of_trod {H : Type} {enc : TypeId × Value → H} {w : World} {base : Nat} {sp : Nat → Bool} {held : Bool} {n : Nat} {cs : List Value} {x : DataW H × List MemPlace} (h : DataW.trod enc Tryd.prog w base sp held n 44 cs = some x) :
    ∃ c0 c1 c2, cs = [.int .i64 c0, .int .i64 c1, .int .i64 c2] ∧ I64 c0 ∧ I64 c1 ∧ I64 c2 := by
  obtain ⟨ys, m, _, _, hlen, _, hf⟩ := DataW.trod_struct Tryd.underlying44 h
  rw [cells_size] at hlen
  match cs, hlen with
  | [v0, v1, v2], _ =>
    have h0 : DataW.trod enc Tryd.prog w base sp held m 3 (([v0, v1, v2].drop 0).take (Tryd.prog.cellsOf 3)) = ys[0]? := hf 0 _ rfl
    have h1 : DataW.trod enc Tryd.prog w base sp held m 3 (([v0, v1, v2].drop 1).take (Tryd.prog.cellsOf 3)) = ys[1]? := hf 1 _ rfl
    have h2 : DataW.trod enc Tryd.prog w base sp held m 3 (([v0, v1, v2].drop 2).take (Tryd.prog.cellsOf 3)) = ys[2]? := hf 2 _ rfl
    rw [cells_int] at h0 h1 h2
    simp only [List.drop_zero, List.take_succ_cons, List.take_zero] at h0
    simp only [List.drop_succ_cons, List.drop_zero, List.take_succ_cons, List.take_zero] at h1 h2
    have hx : ∀ i, i < 3 → ∃ y, ys[i]? = some y := fun i hi => ⟨ys[i]'(by simp at *; omega), List.getElem?_eq_getElem _⟩
    obtain ⟨y0, e0⟩ := hx 0 (by omega)
    rw [e0] at h0
    obtain ⟨c0, rfl, q0⟩ := int_of_trod h0
    obtain ⟨y1, e1⟩ := hx 1 (by omega)
    rw [e1] at h1
    obtain ⟨c1, rfl, q1⟩ := int_of_trod h1
    obtain ⟨y2, e2⟩ := hx 2 (by omega)
    rw [e2] at h2
    obtain ⟨c2, rfl, q2⟩ := int_of_trod h2
    exact ⟨c0, c1, c2, rfl, q0, q1, q2⟩
set_option maxRecDepth 100000 in
theorem arg_size {H : Type} {enc : TypeId × Value → H} {w : World} {r : Reach} {b0 : Nat} {v : Value} {d : DataW H} {p : List MemPlace} (hv : Value.okWide Tryd.prog w r b0 44 v) (h : DataW.Trod enc Tryd.prog w 0 (fun _ => true) true 44 v d p) :
    ∃ c0 c1 c2, v = .agg #[.int .i64 c0, .int .i64 c1, .int .i64 c2] ∧ I64 c0 ∧ I64 c1 ∧ I64 c2 := by
  obtain ⟨cs, rfl, _⟩ := okWide_struct Tryd.underlying44 hv
  obtain ⟨fuel, hf⟩ := h
  obtain ⟨c0, c1, c2, e, q⟩ := size_of_trod hf
  have e2 : cs = #[.int .i64 c0, .int .i64 c1, .int .i64 c2] := by obtain ⟨l⟩ := cs; simp [Value.cells] at e; simpa using e
  exact ⟨c0, c1, c2, by rw [e2], q⟩
theorem cells_lin : Tryd.prog.cellsOf 53 = 4 := by kernel_rfl
set_option maxRecDepth 100000 in
theorem lin_of_trod {H : Type} {enc : TypeId × Value → H} {w : World} {base : Nat} {sp : Nat → Bool} {held : Bool} {n : Nat} {cs : List Value} {x : DataW H × List MemPlace} (h : DataW.trod enc Tryd.prog w base sp held n 53 cs = some x) :
    ∃ c0 c1 c2 c3, cs = [.int .i64 c0, .int .i64 c1, .int .i64 c2, .int .i64 c3] ∧ I64 c0 ∧ I64 c1 ∧ I64 c2 ∧ I64 c3 := by
  obtain ⟨ys, m, _, _, hlen, _, hf⟩ := DataW.trod_struct Tryd.underlying53 h
  rw [cells_lin] at hlen
  match cs, hlen with
  | [v0, v1, v2, v3], _ =>
    have h0 : DataW.trod enc Tryd.prog w base sp held m 3 (([v0, v1, v2, v3].drop 0).take (Tryd.prog.cellsOf 3)) = ys[0]? := hf 0 _ rfl
    have h1 : DataW.trod enc Tryd.prog w base sp held m 3 (([v0, v1, v2, v3].drop 1).take (Tryd.prog.cellsOf 3)) = ys[1]? := hf 1 _ rfl
    have h2 : DataW.trod enc Tryd.prog w base sp held m 3 (([v0, v1, v2, v3].drop 2).take (Tryd.prog.cellsOf 3)) = ys[2]? := hf 2 _ rfl
    have h3 : DataW.trod enc Tryd.prog w base sp held m 3 (([v0, v1, v2, v3].drop 3).take (Tryd.prog.cellsOf 3)) = ys[3]? := hf 3 _ rfl
    rw [cells_int] at h0 h1 h2 h3
    simp only [List.drop_zero, List.take_succ_cons, List.take_zero] at h0
    simp only [List.drop_succ_cons, List.drop_zero, List.take_succ_cons, List.take_zero] at h1 h2 h3
    have hx : ∀ i, i < 4 → ∃ y, ys[i]? = some y := fun i hi => ⟨ys[i]'(by simp at *; omega), List.getElem?_eq_getElem _⟩
    obtain ⟨y0, e0⟩ := hx 0 (by omega)
    rw [e0] at h0
    obtain ⟨c0, rfl, q0⟩ := int_of_trod h0
    obtain ⟨y1, e1⟩ := hx 1 (by omega)
    rw [e1] at h1
    obtain ⟨c1, rfl, q1⟩ := int_of_trod h1
    obtain ⟨y2, e2⟩ := hx 2 (by omega)
    rw [e2] at h2
    obtain ⟨c2, rfl, q2⟩ := int_of_trod h2
    obtain ⟨y3, e3⟩ := hx 3 (by omega)
    rw [e3] at h3
    obtain ⟨c3, rfl, q3⟩ := int_of_trod h3
    exact ⟨c0, c1, c2, c3, rfl, q0, q1, q2, q3⟩
set_option maxRecDepth 100000 in
theorem arg_lin {H : Type} {enc : TypeId × Value → H} {w : World} {r : Reach} {b0 : Nat} {v : Value} {d : DataW H} {p : List MemPlace} (hv : Value.okWide Tryd.prog w r b0 53 v) (h : DataW.Trod enc Tryd.prog w 0 (fun _ => true) true 53 v d p) :
    ∃ c0 c1 c2 c3, v = .agg #[.int .i64 c0, .int .i64 c1, .int .i64 c2, .int .i64 c3] ∧ I64 c0 ∧ I64 c1 ∧ I64 c2 ∧ I64 c3 := by
  obtain ⟨cs, rfl, _⟩ := okWide_struct Tryd.underlying53 hv
  obtain ⟨fuel, hf⟩ := h
  obtain ⟨c0, c1, c2, c3, e, q⟩ := lin_of_trod hf
  have e2 : cs = #[.int .i64 c0, .int .i64 c1, .int .i64 c2, .int .i64 c3] := by obtain ⟨l⟩ := cs; simp [Value.cells] at e; simpa using e
  exact ⟨c0, c1, c2, c3, by rw [e2], q⟩
end Go.Proofs.YtmpbfdfjcfanoaaDoor
