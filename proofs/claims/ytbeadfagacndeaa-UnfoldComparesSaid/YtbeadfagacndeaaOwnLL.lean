/-
  A SLICE OF SLICES OF INTEGERS that the call has made, with rows of its own; how it reads.
-/
import Derived.Test.YtbeadfagacndeaaApp1
import Derived.Test.YtbeadfagacndeaaCopyInts
import Derived.Test.YtbeadfagacndeaaSlices
namespace Go.Proofs.Ytbeadfagacndeaa
open Go.RowKit Go.Deep
theorem OwnV.blk {lo : Nat} {w : World} {v : Value} {xs : List Int} (h : OwnV lo w v xs) {g : Nat} (hg : v.ownBlock = some g) : lo ≤ g ∧ g < w.heap.size := by
  rcases h with ⟨rfl, _⟩ | ⟨g', cap, rfl, _, _, h⟩
  · cases hg
  · have : g' = g := by simpa [Value.ownBlock] using hg
    subst this
    exact ⟨h.1, h.lt⟩
theorem OwnV.grw {lo : Nat} {w w' : World} {v : Value} {xs : List Int} {r : Option Nat} (h : OwnV lo w v xs) (hg : w.grownBy w' r) (hr : ∀ g, r = some g → v.ownBlock ≠ some g) : OwnV lo w' v xs := by
  rcases h with h | ⟨g', cap, rfl, h1, h2, h⟩
  · exact .inl h
  · exact .inr ⟨g', cap, rfl, h1, h2, h.but (hg.block g' h.lt (fun e => hr g' e.symm rfl))⟩
theorem OwnV.setOut {lo : Nat} {w : World} {v : Value} {xs : List Int} (h : OwnV lo w v xs) (a : Addr) (ha : a.block < lo) (u : Value) : OwnV lo (w.setCell a u) v xs := by
  rcases h with h | ⟨g', cap, rfl, h1, h2, h⟩
  · exact .inl h
  · exact .inr ⟨g', cap, rfl, h1, h2, h.setOther _ _ (by have := h.1; omega)⟩
theorem row_under {w w' : World} {B e size n : Nat} {v : Value} {xs : List Value} (h : w.ownsRow B e size v n xs) (hb : Below w.heap.size w w') : w'.ownsRow B e size v n xs := by
  obtain ⟨h1, h2⟩ := h
  refine ⟨h1, ?_⟩
  rcases h2 with h2 | ⟨g, cap, cur, hv, hg, hh, r⟩
  · exact .inl h2
  · exact .inr ⟨g, cap, cur, hv, hg, by rw [hb.block g (Array.getElem?_eq_some_iff.1 hh).1]; exact hh, r⟩

def OwnLL (lo : Nat) (w : World) (u : Value) (ps : List (Value × List Int)) : Prop :=
  w.ownsRow lo 22 1 u ps.length (ps.map (·.1)) ∧ ∀ p ∈ ps, OwnV lo w p.1 p.2 ∧ ∀ g, u.ownBlock = some g → p.1.ownBlock ≠ some g
theorem OwnLL.nil (lo : Nat) (w : World) : OwnLL lo w (.slice none 0 0) [] := ⟨World.ownsRow_nil _ _ _ _, by simp⟩
theorem OwnLL.setOut {lo : Nat} {w : World} {u : Value} {ps : List (Value × List Int)} (h : OwnLL lo w u ps) (a : Addr) (ha : a.block < lo) (x : Value) : OwnLL lo (w.setCell a x) u ps :=
  ⟨ownsRow_setCell_below h.1 ha _, fun p hp => ⟨(h.2 p hp).1.setOut a ha _, (h.2 p hp).2⟩⟩
theorem OwnLL.below {lo : Nat} {w w' : World} {u : Value} {ps : List (Value × List Int)} (h : OwnLL lo w u ps) (hb : Below w.heap.size w w') : OwnLL lo w' u ps :=
  ⟨row_under h.1 hb, fun p hp => ⟨(h.2 p hp).1.below hb, (h.2 p hp).2⟩⟩
theorem OwnLL.shape {lo : Nat} {w : World} {u : Value} {ps : List (Value × List Int)} (h : OwnLL lo w u ps) : ∃ a c, u = .slice a ps.length c := rows_shape h.1
/-- One more row: the world W has the row, w3 is W behind the append. -/
theorem OwnLL.snoc {lo : Nat} {wr W w3 : World} {u v' : Value} {ps : List (Value × List Int)} {xs : List Int} {g cap : Nat} (h : OwnLL lo wr u ps) (hb : Below wr.heap.size wr W) (hv : OwnV wr.heap.size W v' xs) (hlo : lo ≤ wr.heap.size)
    (hown : w3.ownsRow lo 22 1 (.slice (some ⟨g, 0, none⟩) (ps.length + 1) cap) (ps.length + 1) (ps.map (·.1) ++ [v'])) (hgrow : W.grownBy w3 u.ownBlock) (hat : u.ownBlock = some g ∨ W.heap.size < g) :
    OwnLL lo w3 (.slice (some ⟨g, 0, none⟩) (ps.length + 1) cap) (ps ++ [(v', xs)]) := by
  refine ⟨by simpa using hown, fun p hp => ?_⟩
  have hu : ∀ g, u.ownBlock = some g → g < wr.heap.size := fun g hg => (h.1.lt _ hg).2
  have hO : OwnV lo W p.1 p.2 ∧ ∀ g, u.ownBlock = some g → p.1.ownBlock ≠ some g := by
    rcases List.mem_append.1 hp with hp | hp
    · exact ⟨(h.2 p hp).1.below hb, (h.2 p hp).2⟩
    · obtain rfl : p = (v', xs) := by simpa using hp
      exact ⟨hv.mono hlo, fun g hg e => by have := hu g hg; have := hv.blk e; omega⟩
  refine ⟨hO.1.grw hgrow hO.2, fun g' hg' e => ?_⟩
  have : g = g' := by simpa [Value.ownBlock] using hg'
  subst this
  rcases hat with hat | hat
  · exact hO.2 _ hat e
  · have := (hO.1.blk e).2; omega
/-- A slice of slices of integers, by its elements. -/
def IntsEl (lo : Nat) (w : World) (cs : List Value) (xs : List Int) : Prop := ∃ v, cs = [v] ∧ IsInts lo w v xs
theorem IntsEl.stays : Stays IntsEl := fun _ _ _ _ _ ⟨v, e, h⟩ hb => ⟨v, e, h.below hb⟩
theorem IntsEl.mono : Mono IntsEl := fun _ _ _ _ _ ⟨v, e, h⟩ hl => ⟨v, e, h.mono hl⟩
theorem OwnLL.reads {lo : Nat} {w : World} {u : Value} {ps : List (Value × List Int)} (h : OwnLL lo w u ps) : IsSl 1 IntsEl lo w u (ps.map (·.2)) := by
  obtain ⟨⟨hl, h1⟩, h2⟩ := h
  rcases h1 with ⟨rfl, h0⟩ | ⟨g, cap, cur, rfl, hb, hg, hnc, hcm, hcs, htake⟩
  · have : ps = [] := List.eq_nil_of_length_eq_zero h0
    subst this
    exact ⟨none, 0, rfl, by simp, by simp [maxLen], by simp, .inl rfl⟩
  · refine ⟨some ⟨g, 0, none⟩, cap, by simp, by simpa using hnc, hcm, (fun e => by cases e), .inr ⟨g, 0, rfl, hb, (Array.getElem?_eq_some_iff.1 hg).1, fun i hi => ?_⟩⟩
    have hi' : i < ps.length := by simpa using hi
    refine ⟨[(ps[i]'hi').1], rfl, fun j hj => ?_, (ps[i]'hi').1, rfl, by simpa using (h2 _ (List.getElem_mem hi')).1.ints⟩
    obtain rfl : j = 0 := by omega
    have : (ps.map (·.1))[i]? = some (ps[i]'hi').1 := by simp [hi']
    rw [← htake, List.getElem?_take_of_lt (by omega)] at this
    simp only [World.cell?, hg]
    simpa using this
end Go.Proofs.Ytbeadfagacndeaa
