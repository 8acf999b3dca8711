/-
  make WITH A SIZE THAT THE WALK HAS COMPUTED, elements of any number of cells; a block of the call's own as a function of its places.
-/
import Derived.Test.YtenahfmmijpelaaDoorBase
import Derived.Laws.MakeOwn
namespace Go.Proofs.YtenahfmmijpelaaDoor
open Go.RowKit Go.Deep
theorem make_n {P : Program} (t e : TypeId) (z : Value) (s bytes : Nat) (ht : P.underlying t = some (.slice e)) (hinfo : (P.info? e).map (fun i => (i.zero, i.size, i.bytes)) = some (some z, s, bytes))
    (n : Nat) (hbytes : bytes * n ≤ 281474976710656) (h63 : n ≤ 9223372036854775807) (w : World) :
    (Instr.makeSlice t (.int .i64 (n : Int)) (.int .i64 (n : Int))).run P w = .ok (.slice (some ⟨w.heap.size, 0, none⟩) n n) (w.alloc (.cells (madeCells z.cells (n * s)) e)) := by
  obtain ⟨i, hi, hzz⟩ := Option.map_eq_some_iff.1 hinfo
  simp only [Prod.mk.injEq] at hzz
  obtain ⟨hz, rfl, rfl⟩ := hzz
  have hb' : (i.bytes : Int) * (n : Int) ≤ 281474976710656 := by
    have h : ((i.bytes * n : Nat) : Int) ≤ 281474976710656 := by omega
    rwa [Int.natCast_mul] at h
  have hr := run_make (P := P) w t e i z ht hi hz .i64 .i64 n n (by omega) (Int.le_refl _) hb' (by omega)
  simp only [Int.toNat_natCast] at hr
  exact hr
theorem made_get (z : Array Value) (m j : Nat) (v : Value) (hj : j < m) (hz : z[j % z.size]! = v) : (madeCells z m)[j]? = some v := by
  subst hz; simp [madeCells, hj]
def up (f : Nat → Int) (i : Nat) (v : Int) : Nat → Int := fun j => if j = i then v else f j
theorem up_same (f : Nat → Int) (i : Nat) (v : Int) : up f i v i = v := by simp [up]
theorem up_ne (f : Nat → Int) {i j : Nat} (v : Int) (h : j ≠ i) : up f i v j = f j := by simp [up, h]
/-- A block of the call's own whose first m cells hold the numbers f. -/
def OwnF (lo : Nat) (w : World) (g m : Nat) (f : Nat → Int) : Prop :=
  lo ≤ g ∧ ∃ cur t, w.heap[g]? = some (.cells cur t (0, 0)) ∧ ∀ j, j < m → cur[j]? = some (.int .i64 (f j))
theorem OwnF.lt {lo : Nat} {w : World} {g m : Nat} {f : Nat → Int} (h : OwnF lo w g m f) : g < w.heap.size := by
  obtain ⟨_, cur, t, hg, _⟩ := h; exact (Array.getElem?_eq_some_iff.1 hg).1
theorem OwnF.cell {lo : Nat} {w : World} {g m : Nat} {f : Nat → Int} (h : OwnF lo w g m f) (j : Nat) (hj : j < m) : w.cell? ⟨g, j, none⟩ = some (.int .i64 (f j)) := by
  obtain ⟨_, cur, t, hg, hc⟩ := h
  have := hc j hj
  simp only [World.cell?, hg]
  simpa using this
theorem OwnF.frozen {lo : Nat} {w : World} {g m : Nat} {f : Nat → Int} (h : OwnF lo w g m f) (j : Nat) : w.frozen? ⟨g, j, none⟩ = false := by
  obtain ⟨_, cur, t, hg, hc⟩ := h
  simp [World.frozen?, hg]
theorem OwnF.but {lo : Nat} {w w' : World} {g m : Nat} {f : Nat → Int} (h : OwnF lo w g m f) (hb : w'.heap[g]? = w.heap[g]?) : OwnF lo w' g m f := by
  obtain ⟨h1, cur, t, hg, hc⟩ := h; exact ⟨h1, cur, t, by rw [hb]; exact hg, hc⟩
theorem OwnF.below {lo : Nat} {w w' : World} {g m : Nat} {f : Nat → Int} (h : OwnF lo w g m f) (hb : Below w.heap.size w w') : OwnF lo w' g m f := h.but (hb.block g h.lt)
theorem OwnF.set {lo : Nat} {w : World} {g m : Nat} {f : Nat → Int} (h : OwnF lo w g m f) (i : Nat) (v : Int) : OwnF lo (w.setCell ⟨g, i, none⟩ (.int .i64 v)) g m (up f i v) := by
  obtain ⟨h1, cur, t, hg, hc⟩ := h
  refine ⟨h1, cur.setIfInBounds i (.int .i64 v), t, heap_setCell_same w g i cur t _ hg, fun j hj => ?_⟩
  have hcj := hc j hj
  have hjc : j < cur.size := (Array.getElem?_eq_some_iff.1 hcj).1
  by_cases e : i = j
  · subst e
    rw [up_same]
    simp [hjc]
  · rw [Array.getElem?_setIfInBounds_ne e, hcj, up_ne _ _ (Ne.symm e)]
theorem OwnF.setOther {lo : Nat} {w : World} {g m : Nat} {f : Nat → Int} (h : OwnF lo w g m f) (a : Addr) (u : Value) (hne : a.block ≠ g) : OwnF lo (w.setCell a u) g m f :=
  h.but (Below.heap_setCell _ _ _ _ (fun e => hne e.symm))
theorem OwnF.grown {lo : Nat} {w w' : World} {g m : Nat} {f : Nat → Int} {r : Option Nat} (h : OwnF lo w g m f) (hg : w.grownBy w' r) (hr : r ≠ some g) : OwnF lo w' g m f :=
  h.but (hg.block g h.lt (Ne.symm hr))
end Go.Proofs.YtenahfmmijpelaaDoor
