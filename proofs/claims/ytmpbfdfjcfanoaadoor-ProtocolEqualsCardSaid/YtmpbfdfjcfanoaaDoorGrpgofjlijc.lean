import Derived.Laws.MakeOwn
import Derived.Deep.AppendLies
import Derived.Test.YtmpbfdfjcfanoaaDoorGrpneebdajk
import Derived.Test.YtmpbfdfjcfanoaaDoorGrpgefecapg
import Derived.Test.YtmpbfdfjcfanoaaDoorGrpghkcfdaa
set_option linter.all false
namespace Go.Proofs.YtmpbfdfjcfanoaaDoor
open Go.RowKit Go.Deep
def up (f : Nat → Int) (i : Nat) (v : Int) : Nat → Int := fun j => if j = i then v else f j
theorem up_same (f : Nat → Int) (i : Nat) (v : Int) : up f i v i = v := by simp [up]
theorem up_ne (f : Nat → Int) {i j : Nat} (v : Int) (h : j ≠ i) : up f i v j = f j := by simp [up, h]
/-- A block of the call's own whose first m cells hold the numbers f. -/
def OwnF (lo : Nat) (w : World) (g m : Nat) (f : Nat → Int) : Prop :=
  lo ≤ g ∧ ∃ cur t, w.heap[g]? = some (.cells cur t (0, 0)) ∧ ∀ j, j < m → cur[j]? = some (.int .i64 (f j))
theorem OwnF.lt {lo : Nat} {w : World} {g m : Nat} {f : Nat → Int} (h : OwnF lo w g m f) : g < w.heap.size := by
  obtain ⟨_, cur, t, hg, _⟩ := h; exact (Array.getElem?_eq_some_iff.1 hg).1
theorem OwnF.cell {lo : Nat} {w : World} {g m : Nat} {f : Nat → Int} (h : OwnF lo w g m f) (j : Nat) (hj : j < m) : w.cell? ⟨g, j, none⟩ = some (.int .i64 (f j)) := by
  obtain ⟨_, cur, t, hg, hc⟩ := h
  have := hc j hj
  simp only [World.cell?, hg]
  simpa using this
theorem OwnF.frozen {lo : Nat} {w : World} {g m : Nat} {f : Nat → Int} (h : OwnF lo w g m f) (j : Nat) : w.frozen? ⟨g, j, none⟩ = false := by
  obtain ⟨_, cur, t, hg, hc⟩ := h
  simp [World.frozen?, hg]
theorem OwnF.but {lo : Nat} {w w' : World} {g m : Nat} {f : Nat → Int} (h : OwnF lo w g m f) (hb : w'.heap[g]? = w.heap[g]?) : OwnF lo w' g m f := by
  obtain ⟨h1, cur, t, hg, hc⟩ := h; exact ⟨h1, cur, t, by rw [hb]; exact hg, hc⟩
theorem OwnF.below {lo : Nat} {w w' : World} {g m : Nat} {f : Nat → Int} (h : OwnF lo w g m f) (hb : Below w.heap.size w w') : OwnF lo w' g m f := h.but (hb.block g h.lt)
theorem OwnF.set {lo : Nat} {w : World} {g m : Nat} {f : Nat → Int} (h : OwnF lo w g m f) (i : Nat) (v : Int) : OwnF lo (w.setCell ⟨g, i, none⟩ (.int .i64 v)) g m (up f i v) := by
  obtain ⟨h1, cur, t, hg, hc⟩ := h
  refine ⟨h1, cur.setIfInBounds i (.int .i64 v), t, heap_setCell_same w g i cur t _ hg, fun j hj => ?_⟩
  have hcj := hc j hj
  have hjc : j < cur.size := (Array.getElem?_eq_some_iff.1 hcj).1
  by_cases e : i = j
  · subst e
    rw [up_same]
    simp [hjc]
  · rw [Array.getElem?_setIfInBounds_ne e, hcj, up_ne _ _ (Ne.symm e)]
end Go.Proofs.YtmpbfdfjcfanoaaDoor

namespace Go.Proofs.YtmpbfdfjcfanoaaDoor
open Go.RowKit Go.Deep
end Go.Proofs.YtmpbfdfjcfanoaaDoor

namespace Go.Proofs.YtmpbfdfjcfanoaaDoor
open Go.RowKit Go.Deep
def thC (g : Th) : List Value := [.int .i64 g.msg, .int .i64 g.coef, .int .i64 g.bd.c, .int .i64 g.bd.n, .int .i64 g.bd.t, .int .i64 g.bd.f]
def thI (g : Th) : Prop := I64 g.msg ∧ I64 g.coef ∧ I64 g.bd.c ∧ I64 g.bd.n ∧ I64 g.bd.t ∧ I64 g.bd.f
theorem flat_get : ∀ (l : List Th) (i : Nat) (hi : i < l.length) (j : Nat), j < 6 → (l.flatMap thC)[i * 6 + j]? = (thC l[i])[j]?
  | [], i, hi, _, _ => absurd hi (by simp)
  | x :: xs, 0, _, j, hj => by
    rw [List.flatMap_cons, List.getElem?_append_left (by simp [thC]; omega)]
    simp
  | x :: xs, i + 1, hi, j, hj => by
    rw [List.flatMap_cons, List.getElem?_append_right (by simp [thC]; omega), show (i + 1) * 6 + j - (thC x).length = i * 6 + j by simp [thC]; omega]
    exact flat_get xs i (by simpa using hi) j hj
/-- A list of guards that the call has made. -/
def OwnTh (lo : Nat) (w : World) (v : Value) (l : List Th) : Prop := w.ownsRow lo 55 6 v l.length (l.flatMap thC) ∧ ∀ g ∈ l, thI g
theorem OwnTh.nil (lo : Nat) (w : World) : OwnTh lo w (.slice none 0 0) [] := ⟨World.ownsRow_nil _ _ _ _, by simp⟩
theorem OwnTh.sl {lo : Nat} {w : World} {v : Value} {l : List Th} (h : OwnTh lo w v l) : IsSl 6 ThEl lo w v l := by
  obtain ⟨⟨hl, h2⟩, hI⟩ := h
  rcases h2 with ⟨rfl, h0⟩ | ⟨g, cap, cur, rfl, hb, hg, hn, hm, hc, ht⟩
  · exact ⟨none, 0, by rw [h0], by omega, by simp [maxLen], fun _ => rfl, .inl (List.eq_nil_of_length_eq_zero h0)⟩
  · refine ⟨_, _, rfl, hn, hm, by simp, .inr ⟨g, 0, rfl, hb, (Array.getElem?_eq_some_iff.1 hg).1, fun i hi => ⟨thC l[i], rfl, fun j hj => ?_, rfl, hI _ (List.getElem_mem hi)⟩⟩⟩
    have hcell : w.cell? ⟨g, 0 + i * 6 + j, none⟩ = cur[i * 6 + j]? := by
      simp only [World.cell?, hg]; simp
    rw [hcell, ← Array.getElem?_toList, show cur.toList[i * 6 + j]? = (cur.toList.take (l.length * 6))[i * 6 + j]? by rw [List.getElem?_take_of_lt (by omega)], ht]
    exact flat_get l i hi j hj
end Go.Proofs.YtmpbfdfjcfanoaaDoor
