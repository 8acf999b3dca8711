/-
  A CONFIGURATION AS IT LIES IN MEMORY; Compare OF THE PROGRAM.
-/
import Derived.Test.YtbeadfagacndeaaOrL
import Derived.Test.YtbeadfagacndeaaSCmp
import Derived.Test.YtbeadfagacndeaaHold
import Derived.StillTailTactics
import Derived.Outline
namespace Go.Proofs.Ytbeadfagacndeaa
open Go.RowKit Go.Deep
structure Cf where
  sh : List Int
  st : List Int
  cor : Int
  se : List Int
  fa : List Int
  val : Int
/-- The value v is a configuration that reads as q. -/
def IsCf (lo : Nat) (w : World) (v : Value) (q : Cf) : Prop :=
  ∃ u0 u1 u3 u4, v = .agg #[u0, u1, .int .i64 q.cor, u3, u4, .int .i64 q.val] ∧ IsInts lo w u0 q.sh ∧ IsInts lo w u1 q.st ∧ I64 q.cor ∧ IsInts lo w u3 q.se ∧ IsInts lo w u4 q.fa ∧ I64 q.val
theorem IsCf.below {lo : Nat} {w w' : World} {v : Value} {q : Cf} (h : IsCf lo w v q) (hb : Below w.heap.size w w') : IsCf lo w' v q := by
  obtain ⟨u0, u1, u3, u4, e, h0, h1, h2, h3, h4, h5⟩ := h
  exact ⟨u0, u1, u3, u4, e, h0.below hb, h1.below hb, h2, h3.below hb, h4.below hb, h5⟩
/-- The order of configurations. -/
def cmpCf (a b : Cf) : Int := orL [cmpI a.sh b.sh, cmpI a.st b.st, cmpI a.se b.se, cmpI a.fa b.fa, cmpN a.cor b.cor, cmpN a.val b.val]
set_option maxHeartbeats 1600000 in
theorem cfCompare_any {lo lo' : Nat} {w : World} {v v' : Value} {p q : Cf} (h : IsCf lo w v p) (h' : IsCf lo' w v' q) :
    Calls Try.prog 15 #[v, v'] w fun e w' => e = .returned (.int .i64 (cmpCf p q)) ∧ Below w.heap.size w w' := by
  obtain ⟨u0, u1, u3, u4, rfl, h0, h1, _, h3, h4, _⟩ := h
  obtain ⟨v0, v1, v3, v4, rfl, k0, k1, _, k3, k4, _⟩ := h'
  obtain ⟨a0, c0, rfl⟩ := h0.shape
  obtain ⟨a1, c1, rfl⟩ := h1.shape
  obtain ⟨a3, c3, rfl⟩ := h3.shape
  obtain ⟨a4, c4, rfl⟩ := h4.shape
  obtain ⟨b0, d0, rfl⟩ := k0.shape
  obtain ⟨b1, d1, rfl⟩ := k1.shape
  obtain ⟨b3, d3, rfl⟩ := k3.shape
  obtain ⟨b4, d4, rfl⟩ := k4.shape
  have H0 := Lib.hid h0
  have H1 := Lib.hid h1
  have H3 := Lib.hid h3
  have H4 := Lib.hid h4
  have K0 := Lib.hid k0
  have K1 := Lib.hid k1
  have K3 := Lib.hid k3
  have K4 := Lib.hid k4
  clear h0 h1 h3 h4 k0 k1 k3 k4
  go_enter Try.func15, Try.ntmps15
  go_wp2_with fail
  obtain ⟨W, hW⟩ : ∃ W, W = (w.alloc (.cells #[.slice a0 p.sh.length c0, .slice a1 p.st.length c1, .int .i64 p.cor, .slice a3 p.se.length c3, .slice a4 p.fa.length c4, .int .i64 p.val] 38)).alloc (.cells #[.slice b0 q.sh.length d0, .slice b1 q.st.length d1, .int .i64 q.cor, .slice b3 q.se.length d3, .slice b4 q.fa.length d4, .int .i64 q.val] 38) := ⟨_, rfl⟩
  rw [← hW]
  have HB := Lib.hid (show Below w.heap.size w W by rw [hW]; show Below _ _ _; go_grown)
  have x0 : W.drew.cell? ⟨w.heap.size, 0, none⟩ = some (.slice a0 p.sh.length c0) := by rw [hW]; show World.cell? (World.alloc _ _) _ = _; exact keep1 ((new_cell w _ _ 0 rfl).trans rfl) (allocBelow _ _)
  have x1 : W.drew.cell? ⟨w.heap.size, 1, none⟩ = some (.slice a1 p.st.length c1) := by rw [hW]; show World.cell? (World.alloc _ _) _ = _; exact keep1 ((new_cell w _ _ 1 rfl).trans rfl) (allocBelow _ _)
  have x2 : W.drew.cell? ⟨w.heap.size, 2, none⟩ = some (.int .i64 p.cor) := by rw [hW]; show World.cell? (World.alloc _ _) _ = _; exact keep1 ((new_cell w _ _ 2 rfl).trans rfl) (allocBelow _ _)
  have x3 : W.drew.cell? ⟨w.heap.size, 3, none⟩ = some (.slice a3 p.se.length c3) := by rw [hW]; show World.cell? (World.alloc _ _) _ = _; exact keep1 ((new_cell w _ _ 3 rfl).trans rfl) (allocBelow _ _)
  have x4 : W.drew.cell? ⟨w.heap.size, 4, none⟩ = some (.slice a4 p.fa.length c4) := by rw [hW]; show World.cell? (World.alloc _ _) _ = _; exact keep1 ((new_cell w _ _ 4 rfl).trans rfl) (allocBelow _ _)
  have x5 : W.drew.cell? ⟨w.heap.size, 5, none⟩ = some (.int .i64 p.val) := by rw [hW]; show World.cell? (World.alloc _ _) _ = _; exact keep1 ((new_cell w _ _ 5 rfl).trans rfl) (allocBelow _ _)
  have y0 : W.drew.cell? ⟨w.heap.size + 1, 0, none⟩ = some (.slice b0 q.sh.length d0) := by rw [hW]; exact (new_cell _ _ _ 0 (by simp)).trans rfl
  have y1 : W.drew.cell? ⟨w.heap.size + 1, 1, none⟩ = some (.slice b1 q.st.length d1) := by rw [hW]; exact (new_cell _ _ _ 1 (by simp)).trans rfl
  have y2 : W.drew.cell? ⟨w.heap.size + 1, 2, none⟩ = some (.int .i64 q.cor) := by rw [hW]; exact (new_cell _ _ _ 2 (by simp)).trans rfl
  have y3 : W.drew.cell? ⟨w.heap.size + 1, 3, none⟩ = some (.slice b3 q.se.length d3) := by rw [hW]; exact (new_cell _ _ _ 3 (by simp)).trans rfl
  have y4 : W.drew.cell? ⟨w.heap.size + 1, 4, none⟩ = some (.slice b4 q.fa.length d4) := by rw [hW]; exact (new_cell _ _ _ 4 (by simp)).trans rfl
  have y5 : W.drew.cell? ⟨w.heap.size + 1, 5, none⟩ = some (.int .i64 q.val) := by rw [hW]; exact (new_cell _ _ _ 5 (by simp)).trans rfl
  have HD := Lib.hid (show Below w.heap.size w W.drew from HB.out.trans ((drewBelow W).mono HB.out.size))
  clear hW
  refine wp_region_still_tail 30 (by kernel_rfl) (by kernel_rfl) ?_
  simp only [List.take_succ_cons, List.take_zero, List.drop_succ_cons, List.drop_zero]
  change wpStill _ _ W.drew _ _ _
  iterate 4 still_step
  still_call ((sCompare_any (H0.out.below HD.out) (K0.out.below HD.out)).mono fun _ _ hh => ⟨hh.1, hh.2.symm⟩)
  iterate 4 still_step
  still_call ((sCompare_any (H1.out.below HD.out) (K1.out.below HD.out)).mono fun _ _ hh => ⟨hh.1, hh.2.symm⟩)
  iterate 4 still_step
  still_call ((sCompare_any (H3.out.below HD.out) (K3.out.below HD.out)).mono fun _ _ hh => ⟨hh.1, hh.2.symm⟩)
  iterate 4 still_step
  still_call ((sCompare_any (H4.out.below HD.out) (K4.out.below HD.out)).mono fun _ _ hh => ⟨hh.1, hh.2.symm⟩)
  iterate 4 still_step
  still_call ((cmpCompare_any _ _ _).mono fun _ _ hh => ⟨hh.1, hh.2.symm⟩)
  iterate 4 still_step
  still_call ((cmpCompare_any _ _ _).mono fun _ _ hh => ⟨hh.1, hh.2.symm⟩)
  refine wpStill_nil ?_
  go_wp2_with (go_at_call 25; refine (Or_block [cmpI p.sh q.sh, cmpI p.st q.st, cmpI p.se q.se, cmpI p.fa q.fa, cmpN p.cor q.cor, cmpN p.val q.val] (by exact heap_new W _ rfl) (by rfl) (by rfl) (by simp)).mono ?_; rintro e w1 ⟨rfl, rfl⟩)
  go_ret
  exact ⟨rfl, thenBelow HB.out (allocBelow W _).drew⟩
end Go.Proofs.Ytbeadfagacndeaa
