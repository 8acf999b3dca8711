/-
  A SLICE OF COUNTS (a slice of integers and a number each) THAT THE CALL HAS MADE, appended to one by one.
-/
import Derived.Test.YtbdnihjokndhaabDoorCopyInts
import Derived.Test.YtbdnihjokndhaabDoorRowList
import Derived.Deep.AppendLies
import Derived.Deep.RegionLaw
namespace Go.Proofs.YtbdnihjokndhaabDoor
open Go.RowKit Go.Deep

/-- The cells of rows that stand one behind the other. -/
def flatR (ps : List (Value × Rw)) : List Value := ps.flatMap fun p => [p.1, .int .i64 p.2.2]
theorem flatR_snoc (ps : List (Value × Rw)) (p : Value × Rw) : flatR (ps ++ [p]) = flatR ps ++ [p.1, .int .i64 p.2.2] := by simp [flatR]
theorem flatR_get : ∀ (ps : List (Value × Rw)) (i : Nat) (h : i < ps.length), (flatR ps)[i * 2]? = some ps[i].1 ∧ (flatR ps)[i * 2 + 1]? = some (.int .i64 ps[i].2.2)
  | p :: ps, 0, _ => by simp [flatR]
  | p :: ps, i + 1, h => by
    have ih := flatR_get ps i (by simpa using h)
    have e1 : (i + 1) * 2 = i * 2 + 1 + 1 := by omega
    have hf : flatR (p :: ps) = p.1 :: .int .i64 p.2.2 :: flatR ps := by simp [flatR]
    rw [hf, e1, List.getElem?_cons_succ, List.getElem?_cons_succ, List.getElem?_cons_succ, List.getElem?_cons_succ]
    simpa using ih
/-- A slice of rows that the call has made, with rows of its own. -/
def OwnRows (lo : Nat) (w : World) (u : Value) (ps : List (Value × Rw)) : Prop :=
  w.ownsRow lo 39 2 u ps.length (flatR ps) ∧ ∀ p ∈ ps, OwnV lo w p.1 p.2.1 ∧ (∀ g, u.ownBlock = some g → p.1.ownBlock ≠ some g) ∧ I64 p.2.2

theorem OwnV.block {lo : Nat} {w : World} {v : Value} {xs : List Int} (h : OwnV lo w v xs) {g : Nat} (hg : v.ownBlock = some g) : lo ≤ g ∧ g < w.heap.size := by
  rcases h with ⟨rfl, _⟩ | ⟨g', cap, rfl, _, _, h⟩
  · cases hg
  · have : g' = g := by simpa [Value.ownBlock] using hg
    subst this
    exact ⟨h.1, h.lt⟩
theorem OwnV.grown {lo : Nat} {w w' : World} {v : Value} {xs : List Int} {r : Option Nat} (h : OwnV lo w v xs) (hg : w.grownBy w' r) (hr : ∀ g, r = some g → v.ownBlock ≠ some g) : OwnV lo w' v xs := by
  rcases h with h | ⟨g', cap, rfl, h1, h2, h⟩
  · exact .inl h
  · exact .inr ⟨g', cap, rfl, h1, h2, h.but (hg.block g' h.lt (fun e => hr g' e.symm rfl))⟩
theorem OwnV.setOther {lo : Nat} {w : World} {v : Value} {xs : List Int} (h : OwnV lo w v xs) (a : Addr) (ha : a.block < lo) (u : Value) : OwnV lo (w.setCell a u) v xs := by
  rcases h with h | ⟨g', cap, rfl, h1, h2, h⟩
  · exact .inl h
  · exact .inr ⟨g', cap, rfl, h1, h2, h.setOther _ _ (by have := h.1; omega)⟩
theorem OwnRows.nil (lo : Nat) (w : World) : OwnRows lo w (.slice none 0 0) [] := ⟨World.ownsRow_nil _ _ _ _, by simp⟩
theorem OwnRows.setOther {lo : Nat} {w : World} {u : Value} {ps : List (Value × Rw)} (h : OwnRows lo w u ps) (a : Addr) (ha : a.block < lo) (x : Value) : OwnRows lo (w.setCell a x) u ps :=
  ⟨ownsRow_setCell_below h.1 ha _, fun p hp => ⟨(h.2 p hp).1.setOther a ha _, (h.2 p hp).2⟩⟩
theorem row_mono {w : World} {base base' : Nat} {e : TypeId} {size : Nat} {v : Value} {n : Nat} {xs : List Value} (h : w.ownsRow base e size v n xs) (hb : base' ≤ base) : w.ownsRow base' e size v n xs := by
  obtain ⟨h1, h2⟩ := h
  refine ⟨h1, ?_⟩
  rcases h2 with h2 | ⟨g, cap, cur, hv, hg, r⟩
  · exact .inl h2
  · exact .inr ⟨g, cap, cur, hv, Nat.le_trans hb hg, r⟩
theorem OwnRows.mono {lo lo' : Nat} {w : World} {u : Value} {ps : List (Value × Rw)} (h : OwnRows lo w u ps) (hl : lo' ≤ lo) : OwnRows lo' w u ps :=
  ⟨row_mono h.1 hl, fun p hp => ⟨(h.2 p hp).1.mono hl, (h.2 p hp).2⟩⟩
theorem row_below {w w' : World} {B e size n : Nat} {v : Value} {xs : List Value} (h : w.ownsRow B e size v n xs) (hb : Below w.heap.size w w') : w'.ownsRow B e size v n xs := by
  obtain ⟨h1, h2⟩ := h
  refine ⟨h1, ?_⟩
  rcases h2 with h2 | ⟨g, cap, cur, hv, hg, hh, r⟩
  · exact .inl h2
  · exact .inr ⟨g, cap, cur, hv, hg, by rw [hb.block g (Array.getElem?_eq_some_iff.1 hh).1]; exact hh, r⟩
theorem OwnRows.below {lo : Nat} {w w' : World} {u : Value} {ps : List (Value × Rw)} (h : OwnRows lo w u ps) (hb : Below w.heap.size w w') : OwnRows lo w' u ps :=
  ⟨row_below h.1 hb, fun p hp => ⟨(h.2 p hp).1.below hb, (h.2 p hp).2⟩⟩
/-- A row is appended. -/
theorem OwnRows.snoc {lo : Nat} {wr w1 w2 w3 : World} {u v' : Value} {ps : List (Value × Rw)} {r : Rw} {g cap : Nat} (h : OwnRows lo wr u ps) (hv : OwnV wr.heap.size w1 v' r.1) (hi : I64 r.2) (hlo : lo ≤ wr.heap.size)
    (hb1 : Below wr.heap.size wr w1) (hb2 : Below w1.heap.size w1 w2)
    (hown : w3.ownsRow lo 39 2 (.slice (some ⟨g, 0, none⟩) (ps.length + 1) cap) (ps.length + 1) (flatR ps ++ [v', .int .i64 r.2])) (hgrow : w2.grownBy w3 u.ownBlock) (hat : u.ownBlock = some g ∨ g = w2.heap.size) :
    OwnRows lo w3 (.slice (some ⟨g, 0, none⟩) (ps.length + 1) cap) (ps ++ [(v', r)]) := by
  refine ⟨by simpa [flatR_snoc] using hown, fun p hp => ?_⟩
  have hu : ∀ g, u.ownBlock = some g → g < wr.heap.size := fun g hg => (h.1.lt _ hg).2
  have hlt : ∀ g', p.1.ownBlock = some g' → g' < w2.heap.size ∧ (u.ownBlock = some g → g' ≠ g) := by
    intro g' hg'
    rcases List.mem_append.1 hp with hp | hp
    · have := ((h.2 p hp).1.block hg').2
      exact ⟨by have := hb1.size; have := hb2.size; omega, fun e e' => (h.2 p hp).2.1 g e (by rw [← e']; exact hg')⟩
    · obtain rfl : p = (v', r) := by simpa using hp
      have := hv.block hg'
      exact ⟨by have := hb2.size; omega, fun e e' => by have := hu g e; omega⟩
  have hO : OwnV lo w2 p.1 p.2.1 ∧ I64 p.2.2 ∧ ∀ g, u.ownBlock = some g → p.1.ownBlock ≠ some g := by
    rcases List.mem_append.1 hp with hp | hp
    · exact ⟨((h.2 p hp).1.below hb1).below hb2, (h.2 p hp).2.2, (h.2 p hp).2.1⟩
    · obtain rfl : p = (v', r) := by simpa using hp
      exact ⟨(hv.below hb2).mono hlo, hi, fun g hg e => by have := hu g hg; have := hv.block e; omega⟩
  refine ⟨hO.1.grown hgrow hO.2.2, fun g' hg' e => ?_, hO.2.1⟩
  have : g = g' := by simpa [Value.ownBlock] using hg'
  subst this
  have h1 := hlt _ e
  rcases hat with hat | hat
  · exact h1.2 hat rfl
  · omega
theorem OwnRows.rows {lo : Nat} {w : World} {u : Value} {ps : List (Value × Rw)} (h : OwnRows lo w u ps) : IsRows lo w u (ps.map (·.2)) := by
  obtain ⟨⟨hl, h1⟩, h2⟩ := h
  rcases h1 with ⟨rfl, h0⟩ | ⟨g, cap, cur, rfl, hb, hg, hnc, hcm, hcs, htake⟩
  · have : ps = [] := List.eq_nil_of_length_eq_zero h0
    subst this
    exact ⟨none, 0, rfl, by simp, by simp [maxLen], .inl rfl⟩
  · refine ⟨some ⟨g, 0, none⟩, cap, by simp, by simpa using hnc, hcm, .inr ⟨g, 0, rfl, hb, (Array.getElem?_eq_some_iff.1 hg).1, fun i hi => ?_⟩⟩
    have hi' : i < ps.length := by simpa using hi
    have hf := flatR_get ps i hi'
    have hp := h2 ps[i] (List.getElem_mem _)
    have hc : ∀ j v, j < ps.length * 2 → (flatR ps)[j]? = some v → w.cell? ⟨g, j, none⟩ = some v := fun j v hj hv => by
      rw [← htake, List.getElem?_take_of_lt hj] at hv
      simp only [World.cell?, hg]
      simpa using hv
    refine ⟨ps[i].1, by simpa using hc (i * 2) _ (by omega) hf.1, by simpa using hc (i * 2 + 1) _ (by omega) hf.2, by simpa using hp.1.ints, by simpa using hp.2.2⟩

theorem new_frozen (w : World) (cs : Array Value) (t : TypeId) (o : Nat) {n : Nat} (h : n = w.heap.size) : (w.alloc (.cells cs t)).frozen? ⟨n, o, none⟩ = false := by subst h; simp
theorem info_row : (Tryd.prog.info? 39).map (fun i => (i.zero, i.size, i.bytes)) = some (some (.agg #[.slice none 0 0, .int .i64 0]), 2, 32) := by kernel_rfl
theorem info_row4 : ∃ i, Tryd.prog.info? 39 = some i ∧ i.zero = some (.agg #[.slice none 0 0, .int .i64 0]) ∧ i.size = 2 ∧ i.bytes = 32 := by
  obtain ⟨i, hi, h⟩ := Option.map_eq_some_iff.1 info_row
  simp only [Prod.mk.injEq] at h
  exact ⟨i, hi, h.1, h.2.1, h.2.2⟩
theorem rows_shape {w : World} {base : Nat} {e : TypeId} {size : Nat} {v : Value} {n : Nat} {xs : List Value} (h : w.ownsRow base e size v n xs) : ∃ a c, v = .slice a n c := by
  rcases h.2 with ⟨rfl, rfl⟩ | ⟨g, cap, _, rfl, _⟩
  · exact ⟨_, _, rfl⟩
  · exact ⟨_, _, rfl⟩

end Go.Proofs.YtbdnihjokndhaabDoor
