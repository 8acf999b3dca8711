/-
  Compare OF THE REFERENCE, ON CONFIGURATIONS.
-/
import Derived.Test.YtbeadfagacndeaaCfgCmp
import Derived.Test.YtbeadfagacndeaaCmpInts
namespace Go.Proofs.Ytbeadfagacndeaa
open Go.RowKit Go.Deep
theorem cmpI_two (a d b x : Int) : cmpI [a, d] [b, x] = orL [cmpN a b, cmpN d x] := by
  unfold cmpN
  simp only [cmpI, orL]
  repeat' split
  all_goals first | rfl | omega | simp_all
theorem two_ints {w : World} {b : Nat} {t : TypeId} {x y : Int} (hg : w.heap[b]? = some (.cells #[.int .i64 x, .int .i64 y] t (0, 0))) (h : I64 x ∧ I64 y) :
    IsInts 0 w (.slice (some ⟨b, 0, none⟩) 2 2) [x, y] :=
  ints_of_block (xs := [x, y]) hg (Nat.zero_le _) rfl (Nat.le_refl _) (by unfold maxLen; omega) (fun u hu => by simp at hu; exact hu.elim (fun e => e ▸ h.1) fun e => e ▸ h.2) fun i hi => by
    match i, hi with
    | 0, _ => rfl
    | 1, _ => rfl
set_option maxHeartbeats 3200000 in
theorem rcfCompare_any {lo lo' : Nat} {w : World} {v v' : Value} {p q : Cf} (h : IsCf lo w v p) (h' : IsCf lo' w v' q) :
    Calls Try.prog 16 #[v, v'] w fun e w' => e = .returned (.int .i64 (cmpCf p q)) ∧ Below w.heap.size w w' := by
  obtain ⟨u0, u1, u3, u4, rfl, h0, h1, g2, h3, h4, g5⟩ := h
  obtain ⟨v0, v1, v3, v4, rfl, k0, k1, l2, k3, k4, l5⟩ := h'
  obtain ⟨a0, c0, rfl⟩ := h0.shape
  obtain ⟨b0, d0, rfl⟩ := k0.shape
  have H0 := Lib.hid h0
  have K0 := Lib.hid k0
  obtain ⟨a1, c1, rfl⟩ := h1.shape
  obtain ⟨b1, d1, rfl⟩ := k1.shape
  have H1 := Lib.hid h1
  have K1 := Lib.hid k1
  obtain ⟨a3, c3, rfl⟩ := h3.shape
  obtain ⟨b3, d3, rfl⟩ := k3.shape
  have H3 := Lib.hid h3
  have K3 := Lib.hid k3
  obtain ⟨a4, c4, rfl⟩ := h4.shape
  obtain ⟨b4, d4, rfl⟩ := k4.shape
  have H4 := Lib.hid h4
  have K4 := Lib.hid k4
  have G := Lib.hid (And.intro g2 g5)
  have G' := Lib.hid (And.intro l2 l5)
  clear h0 h1 h3 h4 k0 k1 k3 k4 g2 g5 l2 l5
  have E : Hid (cmpCf p q = orL [cmpI p.sh q.sh, cmpI p.st q.st, cmpI p.se q.se, cmpI p.fa q.fa, cmpN p.cor q.cor, cmpN p.val q.val]) := (rfl : cmpCf p q = _)
  obtain ⟨e0, j0⟩ : ∃ e, e = cmpI p.sh q.sh := ⟨_, rfl⟩
  rw [← j0] at E
  have J0 := Lib.hid j0
  obtain ⟨e1, j1⟩ : ∃ e, e = cmpI p.st q.st := ⟨_, rfl⟩
  rw [← j1] at E
  have J1 := Lib.hid j1
  obtain ⟨e2, j2⟩ : ∃ e, e = cmpI p.se q.se := ⟨_, rfl⟩
  rw [← j2] at E
  have J2 := Lib.hid j2
  obtain ⟨e3, j3⟩ : ∃ e, e = cmpI p.fa q.fa := ⟨_, rfl⟩
  rw [← j3] at E
  have J3 := Lib.hid j3
  clear j0 j1 j2 j3
  have C0 : Hid (∀ w' : World, Below w.heap.size w w' → Calls Try.prog 21 #[.slice a0 p.sh.length c0, .slice b0 q.sh.length d0] w' fun e w'' => e = .returned (.int .i64 e0) ∧ Below w'.heap.size w' w'') := fun w' hb => by
    have h := cmpInts_any (H0.out.below hb) (K0.out.below hb)
    rw [← J0.out] at h
    exact h
  have C1 : Hid (∀ w' : World, Below w.heap.size w w' → Calls Try.prog 21 #[.slice a1 p.st.length c1, .slice b1 q.st.length d1] w' fun e w'' => e = .returned (.int .i64 e1) ∧ Below w'.heap.size w' w'') := fun w' hb => by
    have h := cmpInts_any (H1.out.below hb) (K1.out.below hb)
    rw [← J1.out] at h
    exact h
  have C2 : Hid (∀ w' : World, Below w.heap.size w w' → Calls Try.prog 21 #[.slice a3 p.se.length c3, .slice b3 q.se.length d3] w' fun e w'' => e = .returned (.int .i64 e2) ∧ Below w'.heap.size w' w'') := fun w' hb => by
    have h := cmpInts_any (H3.out.below hb) (K3.out.below hb)
    rw [← J2.out] at h
    exact h
  have C3 : Hid (∀ w' : World, Below w.heap.size w w' → Calls Try.prog 21 #[.slice a4 p.fa.length c4, .slice b4 q.fa.length d4] w' fun e w'' => e = .returned (.int .i64 e3) ∧ Below w'.heap.size w' w'') := fun w' hb => by
    have h := cmpInts_any (H4.out.below hb) (K4.out.below hb)
    rw [← J3.out] at h
    exact h
  by_cases z0 : e0 = 0
  · subst z0
    by_cases z1 : e1 = 0
    · subst z1
      by_cases z2 : e2 = 0
      · subst z2
        by_cases z3 : e3 = 0
        · subst z3
          go_enter Try.func16, Try.ntmps16
          go_wp2_with fail
          obtain ⟨W, hW⟩ : ∃ W, W = (w.alloc (.cells #[.slice a0 p.sh.length c0, .slice a1 p.st.length c1, .int .i64 p.cor, .slice a3 p.se.length c3, .slice a4 p.fa.length c4, .int .i64 p.val] 38)).alloc (.cells #[.slice b0 q.sh.length d0, .slice b1 q.st.length d1, .int .i64 q.cor, .slice b3 q.se.length d3, .slice b4 q.fa.length d4, .int .i64 q.val] 38) := ⟨_, rfl⟩
          rw [← hW]
          have HB := Lib.hid (show Below w.heap.size w W by rw [hW]; show Below _ _ _; go_grown)
          have x0 : W.cell? ⟨w.heap.size, 0, none⟩ = some (.slice a0 p.sh.length c0) := by rw [hW]; exact keep1 ((new_cell w _ _ 0 rfl).trans rfl) (allocBelow _ _)
          have y0 : W.cell? ⟨w.heap.size + 1, 0, none⟩ = some (.slice b0 q.sh.length d0) := by rw [hW]; exact (new_cell _ _ _ 0 (by simp)).trans rfl
          have x1 : W.cell? ⟨w.heap.size, 1, none⟩ = some (.slice a1 p.st.length c1) := by rw [hW]; exact keep1 ((new_cell w _ _ 1 rfl).trans rfl) (allocBelow _ _)
          have y1 : W.cell? ⟨w.heap.size + 1, 1, none⟩ = some (.slice b1 q.st.length d1) := by rw [hW]; exact (new_cell _ _ _ 1 (by simp)).trans rfl
          have x2 : W.cell? ⟨w.heap.size, 2, none⟩ = some (.int .i64 p.cor) := by rw [hW]; exact keep1 ((new_cell w _ _ 2 rfl).trans rfl) (allocBelow _ _)
          have y2 : W.cell? ⟨w.heap.size + 1, 2, none⟩ = some (.int .i64 q.cor) := by rw [hW]; exact (new_cell _ _ _ 2 (by simp)).trans rfl
          have x3 : W.cell? ⟨w.heap.size, 3, none⟩ = some (.slice a3 p.se.length c3) := by rw [hW]; exact keep1 ((new_cell w _ _ 3 rfl).trans rfl) (allocBelow _ _)
          have y3 : W.cell? ⟨w.heap.size + 1, 3, none⟩ = some (.slice b3 q.se.length d3) := by rw [hW]; exact (new_cell _ _ _ 3 (by simp)).trans rfl
          have x4 : W.cell? ⟨w.heap.size, 4, none⟩ = some (.slice a4 p.fa.length c4) := by rw [hW]; exact keep1 ((new_cell w _ _ 4 rfl).trans rfl) (allocBelow _ _)
          have y4 : W.cell? ⟨w.heap.size + 1, 4, none⟩ = some (.slice b4 q.fa.length d4) := by rw [hW]; exact (new_cell _ _ _ 4 (by simp)).trans rfl
          have x5 : W.cell? ⟨w.heap.size, 5, none⟩ = some (.int .i64 p.val) := by rw [hW]; exact keep1 ((new_cell w _ _ 5 rfl).trans rfl) (allocBelow _ _)
          have y5 : W.cell? ⟨w.heap.size + 1, 5, none⟩ = some (.int .i64 q.val) := by rw [hW]; exact (new_cell _ _ _ 5 (by simp)).trans rfl
          clear hW
          refine (C0.out _ HB.out).mono ?_
          rintro e w0 ⟨rfl, hb0⟩
          have HB0 := Lib.hid (thenBelow HB.out hb0)
          replace x0 := keep1 x0 hb0
          replace y0 := keep1 y0 hb0
          replace x1 := keep1 x1 hb0
          replace y1 := keep1 y1 hb0
          replace x2 := keep1 x2 hb0
          replace y2 := keep1 y2 hb0
          replace x3 := keep1 x3 hb0
          replace y3 := keep1 y3 hb0
          replace x4 := keep1 x4 hb0
          replace y4 := keep1 y4 hb0
          replace x5 := keep1 x5 hb0
          replace y5 := keep1 y5 hb0
          clear hb0
          go_wp2_with fail
          refine (C1.out _ HB0.out).mono ?_
          rintro e w1 ⟨rfl, hb1⟩
          have HB1 := Lib.hid (thenBelow HB0.out hb1)
          replace x0 := keep1 x0 hb1
          replace y0 := keep1 y0 hb1
          replace x1 := keep1 x1 hb1
          replace y1 := keep1 y1 hb1
          replace x2 := keep1 x2 hb1
          replace y2 := keep1 y2 hb1
          replace x3 := keep1 x3 hb1
          replace y3 := keep1 y3 hb1
          replace x4 := keep1 x4 hb1
          replace y4 := keep1 y4 hb1
          replace x5 := keep1 x5 hb1
          replace y5 := keep1 y5 hb1
          clear hb1
          go_wp2_with fail
          refine (C2.out _ HB1.out).mono ?_
          rintro e w2 ⟨rfl, hb2⟩
          have HB2 := Lib.hid (thenBelow HB1.out hb2)
          replace x0 := keep1 x0 hb2
          replace y0 := keep1 y0 hb2
          replace x1 := keep1 x1 hb2
          replace y1 := keep1 y1 hb2
          replace x2 := keep1 x2 hb2
          replace y2 := keep1 y2 hb2
          replace x3 := keep1 x3 hb2
          replace y3 := keep1 y3 hb2
          replace x4 := keep1 x4 hb2
          replace y4 := keep1 y4 hb2
          replace x5 := keep1 x5 hb2
          replace y5 := keep1 y5 hb2
          clear hb2
          go_wp2_with fail
          refine (C3.out _ HB2.out).mono ?_
          rintro e w3 ⟨rfl, hb3⟩
          have HB3 := Lib.hid (thenBelow HB2.out hb3)
          replace x0 := keep1 x0 hb3
          replace y0 := keep1 y0 hb3
          replace x1 := keep1 x1 hb3
          replace y1 := keep1 y1 hb3
          replace x2 := keep1 x2 hb3
          replace y2 := keep1 y2 hb3
          replace x3 := keep1 x3 hb3
          replace y3 := keep1 y3 hb3
          replace x4 := keep1 x4 hb3
          replace y4 := keep1 y4 hb3
          replace x5 := keep1 x5 hb3
          replace y5 := keep1 y5 hb3
          clear hb3
          have hz3 : w.heap.size + 1 < w3.heap.size := cell_lt y2
          have hz4 : w.heap.size < w3.heap.size := cell_lt x2
          go_wp2_with (go_at_call 21; refine (cmpInts_any (two_ints ((heap_old _ _ (by go_size)).trans (heap_new _ _ (by go_size))) G.out) (two_ints (heap_new _ _ (by go_size)) G'.out)).mono ?_; rintro e w5 ⟨rfl, hb5⟩)
          go_ret
          exact ⟨ret_int (by rw [E.out, cmpI_two]; simp only [orL, if_pos]), thenBelow HB3.out (Below.trans (by go_grown) (hb5.mono (by go_size)))⟩
        · have zz3 : (e3 != 0) = true := by simpa using z3
          have N := Lib.hid z3
          clear z3
          go_enter Try.func16, Try.ntmps16
          go_wp2_with fail
          obtain ⟨W, hW⟩ : ∃ W, W = (w.alloc (.cells #[.slice a0 p.sh.length c0, .slice a1 p.st.length c1, .int .i64 p.cor, .slice a3 p.se.length c3, .slice a4 p.fa.length c4, .int .i64 p.val] 38)).alloc (.cells #[.slice b0 q.sh.length d0, .slice b1 q.st.length d1, .int .i64 q.cor, .slice b3 q.se.length d3, .slice b4 q.fa.length d4, .int .i64 q.val] 38) := ⟨_, rfl⟩
          rw [← hW]
          have HB := Lib.hid (show Below w.heap.size w W by rw [hW]; show Below _ _ _; go_grown)
          have x0 : W.cell? ⟨w.heap.size, 0, none⟩ = some (.slice a0 p.sh.length c0) := by rw [hW]; exact keep1 ((new_cell w _ _ 0 rfl).trans rfl) (allocBelow _ _)
          have y0 : W.cell? ⟨w.heap.size + 1, 0, none⟩ = some (.slice b0 q.sh.length d0) := by rw [hW]; exact (new_cell _ _ _ 0 (by simp)).trans rfl
          have x1 : W.cell? ⟨w.heap.size, 1, none⟩ = some (.slice a1 p.st.length c1) := by rw [hW]; exact keep1 ((new_cell w _ _ 1 rfl).trans rfl) (allocBelow _ _)
          have y1 : W.cell? ⟨w.heap.size + 1, 1, none⟩ = some (.slice b1 q.st.length d1) := by rw [hW]; exact (new_cell _ _ _ 1 (by simp)).trans rfl
          have x2 : W.cell? ⟨w.heap.size, 2, none⟩ = some (.int .i64 p.cor) := by rw [hW]; exact keep1 ((new_cell w _ _ 2 rfl).trans rfl) (allocBelow _ _)
          have y2 : W.cell? ⟨w.heap.size + 1, 2, none⟩ = some (.int .i64 q.cor) := by rw [hW]; exact (new_cell _ _ _ 2 (by simp)).trans rfl
          have x3 : W.cell? ⟨w.heap.size, 3, none⟩ = some (.slice a3 p.se.length c3) := by rw [hW]; exact keep1 ((new_cell w _ _ 3 rfl).trans rfl) (allocBelow _ _)
          have y3 : W.cell? ⟨w.heap.size + 1, 3, none⟩ = some (.slice b3 q.se.length d3) := by rw [hW]; exact (new_cell _ _ _ 3 (by simp)).trans rfl
          have x4 : W.cell? ⟨w.heap.size, 4, none⟩ = some (.slice a4 p.fa.length c4) := by rw [hW]; exact keep1 ((new_cell w _ _ 4 rfl).trans rfl) (allocBelow _ _)
          have y4 : W.cell? ⟨w.heap.size + 1, 4, none⟩ = some (.slice b4 q.fa.length d4) := by rw [hW]; exact (new_cell _ _ _ 4 (by simp)).trans rfl
          have x5 : W.cell? ⟨w.heap.size, 5, none⟩ = some (.int .i64 p.val) := by rw [hW]; exact keep1 ((new_cell w _ _ 5 rfl).trans rfl) (allocBelow _ _)
          have y5 : W.cell? ⟨w.heap.size + 1, 5, none⟩ = some (.int .i64 q.val) := by rw [hW]; exact (new_cell _ _ _ 5 (by simp)).trans rfl
          clear hW
          refine (C0.out _ HB.out).mono ?_
          rintro e w0 ⟨rfl, hb0⟩
          have HB0 := Lib.hid (thenBelow HB.out hb0)
          replace x0 := keep1 x0 hb0
          replace y0 := keep1 y0 hb0
          replace x1 := keep1 x1 hb0
          replace y1 := keep1 y1 hb0
          replace x2 := keep1 x2 hb0
          replace y2 := keep1 y2 hb0
          replace x3 := keep1 x3 hb0
          replace y3 := keep1 y3 hb0
          replace x4 := keep1 x4 hb0
          replace y4 := keep1 y4 hb0
          replace x5 := keep1 x5 hb0
          replace y5 := keep1 y5 hb0
          clear hb0
          go_wp2_with fail
          refine (C1.out _ HB0.out).mono ?_
          rintro e w1 ⟨rfl, hb1⟩
          have HB1 := Lib.hid (thenBelow HB0.out hb1)
          replace x0 := keep1 x0 hb1
          replace y0 := keep1 y0 hb1
          replace x1 := keep1 x1 hb1
          replace y1 := keep1 y1 hb1
          replace x2 := keep1 x2 hb1
          replace y2 := keep1 y2 hb1
          replace x3 := keep1 x3 hb1
          replace y3 := keep1 y3 hb1
          replace x4 := keep1 x4 hb1
          replace y4 := keep1 y4 hb1
          replace x5 := keep1 x5 hb1
          replace y5 := keep1 y5 hb1
          clear hb1
          go_wp2_with fail
          refine (C2.out _ HB1.out).mono ?_
          rintro e w2 ⟨rfl, hb2⟩
          have HB2 := Lib.hid (thenBelow HB1.out hb2)
          replace x0 := keep1 x0 hb2
          replace y0 := keep1 y0 hb2
          replace x1 := keep1 x1 hb2
          replace y1 := keep1 y1 hb2
          replace x2 := keep1 x2 hb2
          replace y2 := keep1 y2 hb2
          replace x3 := keep1 x3 hb2
          replace y3 := keep1 y3 hb2
          replace x4 := keep1 x4 hb2
          replace y4 := keep1 y4 hb2
          replace x5 := keep1 x5 hb2
          replace y5 := keep1 y5 hb2
          clear hb2
          go_wp2_with fail
          refine (C3.out _ HB2.out).mono ?_
          rintro e w3 ⟨rfl, hb3⟩
          have HB3 := Lib.hid (thenBelow HB2.out hb3)
          replace x0 := keep1 x0 hb3
          replace y0 := keep1 y0 hb3
          replace x1 := keep1 x1 hb3
          replace y1 := keep1 y1 hb3
          replace x2 := keep1 x2 hb3
          replace y2 := keep1 y2 hb3
          replace x3 := keep1 x3 hb3
          replace y3 := keep1 y3 hb3
          replace x4 := keep1 x4 hb3
          replace y4 := keep1 y4 hb3
          replace x5 := keep1 x5 hb3
          replace y5 := keep1 y5 hb3
          clear hb3
          go_wp2_with fail
          go_ret
          exact ⟨ret_int (by have n := N.out; rw [E.out]; simp [orL, n]), HB3.out⟩
      · have zz2 : (e2 != 0) = true := by simpa using z2
        have N := Lib.hid z2
        clear z2
        go_enter Try.func16, Try.ntmps16
        go_wp2_with fail
        obtain ⟨W, hW⟩ : ∃ W, W = (w.alloc (.cells #[.slice a0 p.sh.length c0, .slice a1 p.st.length c1, .int .i64 p.cor, .slice a3 p.se.length c3, .slice a4 p.fa.length c4, .int .i64 p.val] 38)).alloc (.cells #[.slice b0 q.sh.length d0, .slice b1 q.st.length d1, .int .i64 q.cor, .slice b3 q.se.length d3, .slice b4 q.fa.length d4, .int .i64 q.val] 38) := ⟨_, rfl⟩
        rw [← hW]
        have HB := Lib.hid (show Below w.heap.size w W by rw [hW]; show Below _ _ _; go_grown)
        have x0 : W.cell? ⟨w.heap.size, 0, none⟩ = some (.slice a0 p.sh.length c0) := by rw [hW]; exact keep1 ((new_cell w _ _ 0 rfl).trans rfl) (allocBelow _ _)
        have y0 : W.cell? ⟨w.heap.size + 1, 0, none⟩ = some (.slice b0 q.sh.length d0) := by rw [hW]; exact (new_cell _ _ _ 0 (by simp)).trans rfl
        have x1 : W.cell? ⟨w.heap.size, 1, none⟩ = some (.slice a1 p.st.length c1) := by rw [hW]; exact keep1 ((new_cell w _ _ 1 rfl).trans rfl) (allocBelow _ _)
        have y1 : W.cell? ⟨w.heap.size + 1, 1, none⟩ = some (.slice b1 q.st.length d1) := by rw [hW]; exact (new_cell _ _ _ 1 (by simp)).trans rfl
        have x2 : W.cell? ⟨w.heap.size, 2, none⟩ = some (.int .i64 p.cor) := by rw [hW]; exact keep1 ((new_cell w _ _ 2 rfl).trans rfl) (allocBelow _ _)
        have y2 : W.cell? ⟨w.heap.size + 1, 2, none⟩ = some (.int .i64 q.cor) := by rw [hW]; exact (new_cell _ _ _ 2 (by simp)).trans rfl
        have x3 : W.cell? ⟨w.heap.size, 3, none⟩ = some (.slice a3 p.se.length c3) := by rw [hW]; exact keep1 ((new_cell w _ _ 3 rfl).trans rfl) (allocBelow _ _)
        have y3 : W.cell? ⟨w.heap.size + 1, 3, none⟩ = some (.slice b3 q.se.length d3) := by rw [hW]; exact (new_cell _ _ _ 3 (by simp)).trans rfl
        have x4 : W.cell? ⟨w.heap.size, 4, none⟩ = some (.slice a4 p.fa.length c4) := by rw [hW]; exact keep1 ((new_cell w _ _ 4 rfl).trans rfl) (allocBelow _ _)
        have y4 : W.cell? ⟨w.heap.size + 1, 4, none⟩ = some (.slice b4 q.fa.length d4) := by rw [hW]; exact (new_cell _ _ _ 4 (by simp)).trans rfl
        have x5 : W.cell? ⟨w.heap.size, 5, none⟩ = some (.int .i64 p.val) := by rw [hW]; exact keep1 ((new_cell w _ _ 5 rfl).trans rfl) (allocBelow _ _)
        have y5 : W.cell? ⟨w.heap.size + 1, 5, none⟩ = some (.int .i64 q.val) := by rw [hW]; exact (new_cell _ _ _ 5 (by simp)).trans rfl
        clear hW
        refine (C0.out _ HB.out).mono ?_
        rintro e w0 ⟨rfl, hb0⟩
        have HB0 := Lib.hid (thenBelow HB.out hb0)
        replace x0 := keep1 x0 hb0
        replace y0 := keep1 y0 hb0
        replace x1 := keep1 x1 hb0
        replace y1 := keep1 y1 hb0
        replace x2 := keep1 x2 hb0
        replace y2 := keep1 y2 hb0
        replace x3 := keep1 x3 hb0
        replace y3 := keep1 y3 hb0
        replace x4 := keep1 x4 hb0
        replace y4 := keep1 y4 hb0
        replace x5 := keep1 x5 hb0
        replace y5 := keep1 y5 hb0
        clear hb0
        go_wp2_with fail
        refine (C1.out _ HB0.out).mono ?_
        rintro e w1 ⟨rfl, hb1⟩
        have HB1 := Lib.hid (thenBelow HB0.out hb1)
        replace x0 := keep1 x0 hb1
        replace y0 := keep1 y0 hb1
        replace x1 := keep1 x1 hb1
        replace y1 := keep1 y1 hb1
        replace x2 := keep1 x2 hb1
        replace y2 := keep1 y2 hb1
        replace x3 := keep1 x3 hb1
        replace y3 := keep1 y3 hb1
        replace x4 := keep1 x4 hb1
        replace y4 := keep1 y4 hb1
        replace x5 := keep1 x5 hb1
        replace y5 := keep1 y5 hb1
        clear hb1
        go_wp2_with fail
        refine (C2.out _ HB1.out).mono ?_
        rintro e w2 ⟨rfl, hb2⟩
        have HB2 := Lib.hid (thenBelow HB1.out hb2)
        replace x0 := keep1 x0 hb2
        replace y0 := keep1 y0 hb2
        replace x1 := keep1 x1 hb2
        replace y1 := keep1 y1 hb2
        replace x2 := keep1 x2 hb2
        replace y2 := keep1 y2 hb2
        replace x3 := keep1 x3 hb2
        replace y3 := keep1 y3 hb2
        replace x4 := keep1 x4 hb2
        replace y4 := keep1 y4 hb2
        replace x5 := keep1 x5 hb2
        replace y5 := keep1 y5 hb2
        clear hb2
        go_wp2_with fail
        go_ret
        exact ⟨ret_int (by have n := N.out; rw [E.out]; simp [orL, n]), HB2.out⟩
    · have zz1 : (e1 != 0) = true := by simpa using z1
      have N := Lib.hid z1
      clear z1
      go_enter Try.func16, Try.ntmps16
      go_wp2_with fail
      obtain ⟨W, hW⟩ : ∃ W, W = (w.alloc (.cells #[.slice a0 p.sh.length c0, .slice a1 p.st.length c1, .int .i64 p.cor, .slice a3 p.se.length c3, .slice a4 p.fa.length c4, .int .i64 p.val] 38)).alloc (.cells #[.slice b0 q.sh.length d0, .slice b1 q.st.length d1, .int .i64 q.cor, .slice b3 q.se.length d3, .slice b4 q.fa.length d4, .int .i64 q.val] 38) := ⟨_, rfl⟩
      rw [← hW]
      have HB := Lib.hid (show Below w.heap.size w W by rw [hW]; show Below _ _ _; go_grown)
      have x0 : W.cell? ⟨w.heap.size, 0, none⟩ = some (.slice a0 p.sh.length c0) := by rw [hW]; exact keep1 ((new_cell w _ _ 0 rfl).trans rfl) (allocBelow _ _)
      have y0 : W.cell? ⟨w.heap.size + 1, 0, none⟩ = some (.slice b0 q.sh.length d0) := by rw [hW]; exact (new_cell _ _ _ 0 (by simp)).trans rfl
      have x1 : W.cell? ⟨w.heap.size, 1, none⟩ = some (.slice a1 p.st.length c1) := by rw [hW]; exact keep1 ((new_cell w _ _ 1 rfl).trans rfl) (allocBelow _ _)
      have y1 : W.cell? ⟨w.heap.size + 1, 1, none⟩ = some (.slice b1 q.st.length d1) := by rw [hW]; exact (new_cell _ _ _ 1 (by simp)).trans rfl
      have x2 : W.cell? ⟨w.heap.size, 2, none⟩ = some (.int .i64 p.cor) := by rw [hW]; exact keep1 ((new_cell w _ _ 2 rfl).trans rfl) (allocBelow _ _)
      have y2 : W.cell? ⟨w.heap.size + 1, 2, none⟩ = some (.int .i64 q.cor) := by rw [hW]; exact (new_cell _ _ _ 2 (by simp)).trans rfl
      have x3 : W.cell? ⟨w.heap.size, 3, none⟩ = some (.slice a3 p.se.length c3) := by rw [hW]; exact keep1 ((new_cell w _ _ 3 rfl).trans rfl) (allocBelow _ _)
      have y3 : W.cell? ⟨w.heap.size + 1, 3, none⟩ = some (.slice b3 q.se.length d3) := by rw [hW]; exact (new_cell _ _ _ 3 (by simp)).trans rfl
      have x4 : W.cell? ⟨w.heap.size, 4, none⟩ = some (.slice a4 p.fa.length c4) := by rw [hW]; exact keep1 ((new_cell w _ _ 4 rfl).trans rfl) (allocBelow _ _)
      have y4 : W.cell? ⟨w.heap.size + 1, 4, none⟩ = some (.slice b4 q.fa.length d4) := by rw [hW]; exact (new_cell _ _ _ 4 (by simp)).trans rfl
      have x5 : W.cell? ⟨w.heap.size, 5, none⟩ = some (.int .i64 p.val) := by rw [hW]; exact keep1 ((new_cell w _ _ 5 rfl).trans rfl) (allocBelow _ _)
      have y5 : W.cell? ⟨w.heap.size + 1, 5, none⟩ = some (.int .i64 q.val) := by rw [hW]; exact (new_cell _ _ _ 5 (by simp)).trans rfl
      clear hW
      refine (C0.out _ HB.out).mono ?_
      rintro e w0 ⟨rfl, hb0⟩
      have HB0 := Lib.hid (thenBelow HB.out hb0)
      replace x0 := keep1 x0 hb0
      replace y0 := keep1 y0 hb0
      replace x1 := keep1 x1 hb0
      replace y1 := keep1 y1 hb0
      replace x2 := keep1 x2 hb0
      replace y2 := keep1 y2 hb0
      replace x3 := keep1 x3 hb0
      replace y3 := keep1 y3 hb0
      replace x4 := keep1 x4 hb0
      replace y4 := keep1 y4 hb0
      replace x5 := keep1 x5 hb0
      replace y5 := keep1 y5 hb0
      clear hb0
      go_wp2_with fail
      refine (C1.out _ HB0.out).mono ?_
      rintro e w1 ⟨rfl, hb1⟩
      have HB1 := Lib.hid (thenBelow HB0.out hb1)
      replace x0 := keep1 x0 hb1
      replace y0 := keep1 y0 hb1
      replace x1 := keep1 x1 hb1
      replace y1 := keep1 y1 hb1
      replace x2 := keep1 x2 hb1
      replace y2 := keep1 y2 hb1
      replace x3 := keep1 x3 hb1
      replace y3 := keep1 y3 hb1
      replace x4 := keep1 x4 hb1
      replace y4 := keep1 y4 hb1
      replace x5 := keep1 x5 hb1
      replace y5 := keep1 y5 hb1
      clear hb1
      go_wp2_with fail
      go_ret
      exact ⟨ret_int (by have n := N.out; rw [E.out]; simp [orL, n]), HB1.out⟩
  · have zz0 : (e0 != 0) = true := by simpa using z0
    have N := Lib.hid z0
    clear z0
    go_enter Try.func16, Try.ntmps16
    go_wp2_with fail
    obtain ⟨W, hW⟩ : ∃ W, W = (w.alloc (.cells #[.slice a0 p.sh.length c0, .slice a1 p.st.length c1, .int .i64 p.cor, .slice a3 p.se.length c3, .slice a4 p.fa.length c4, .int .i64 p.val] 38)).alloc (.cells #[.slice b0 q.sh.length d0, .slice b1 q.st.length d1, .int .i64 q.cor, .slice b3 q.se.length d3, .slice b4 q.fa.length d4, .int .i64 q.val] 38) := ⟨_, rfl⟩
    rw [← hW]
    have HB := Lib.hid (show Below w.heap.size w W by rw [hW]; show Below _ _ _; go_grown)
    have x0 : W.cell? ⟨w.heap.size, 0, none⟩ = some (.slice a0 p.sh.length c0) := by rw [hW]; exact keep1 ((new_cell w _ _ 0 rfl).trans rfl) (allocBelow _ _)
    have y0 : W.cell? ⟨w.heap.size + 1, 0, none⟩ = some (.slice b0 q.sh.length d0) := by rw [hW]; exact (new_cell _ _ _ 0 (by simp)).trans rfl
    have x1 : W.cell? ⟨w.heap.size, 1, none⟩ = some (.slice a1 p.st.length c1) := by rw [hW]; exact keep1 ((new_cell w _ _ 1 rfl).trans rfl) (allocBelow _ _)
    have y1 : W.cell? ⟨w.heap.size + 1, 1, none⟩ = some (.slice b1 q.st.length d1) := by rw [hW]; exact (new_cell _ _ _ 1 (by simp)).trans rfl
    have x2 : W.cell? ⟨w.heap.size, 2, none⟩ = some (.int .i64 p.cor) := by rw [hW]; exact keep1 ((new_cell w _ _ 2 rfl).trans rfl) (allocBelow _ _)
    have y2 : W.cell? ⟨w.heap.size + 1, 2, none⟩ = some (.int .i64 q.cor) := by rw [hW]; exact (new_cell _ _ _ 2 (by simp)).trans rfl
    have x3 : W.cell? ⟨w.heap.size, 3, none⟩ = some (.slice a3 p.se.length c3) := by rw [hW]; exact keep1 ((new_cell w _ _ 3 rfl).trans rfl) (allocBelow _ _)
    have y3 : W.cell? ⟨w.heap.size + 1, 3, none⟩ = some (.slice b3 q.se.length d3) := by rw [hW]; exact (new_cell _ _ _ 3 (by simp)).trans rfl
    have x4 : W.cell? ⟨w.heap.size, 4, none⟩ = some (.slice a4 p.fa.length c4) := by rw [hW]; exact keep1 ((new_cell w _ _ 4 rfl).trans rfl) (allocBelow _ _)
    have y4 : W.cell? ⟨w.heap.size + 1, 4, none⟩ = some (.slice b4 q.fa.length d4) := by rw [hW]; exact (new_cell _ _ _ 4 (by simp)).trans rfl
    have x5 : W.cell? ⟨w.heap.size, 5, none⟩ = some (.int .i64 p.val) := by rw [hW]; exact keep1 ((new_cell w _ _ 5 rfl).trans rfl) (allocBelow _ _)
    have y5 : W.cell? ⟨w.heap.size + 1, 5, none⟩ = some (.int .i64 q.val) := by rw [hW]; exact (new_cell _ _ _ 5 (by simp)).trans rfl
    clear hW
    refine (C0.out _ HB.out).mono ?_
    rintro e w0 ⟨rfl, hb0⟩
    have HB0 := Lib.hid (thenBelow HB.out hb0)
    replace x0 := keep1 x0 hb0
    replace y0 := keep1 y0 hb0
    replace x1 := keep1 x1 hb0
    replace y1 := keep1 y1 hb0
    replace x2 := keep1 x2 hb0
    replace y2 := keep1 y2 hb0
    replace x3 := keep1 x3 hb0
    replace y3 := keep1 y3 hb0
    replace x4 := keep1 x4 hb0
    replace y4 := keep1 y4 hb0
    replace x5 := keep1 x5 hb0
    replace y5 := keep1 y5 hb0
    clear hb0
    go_wp2_with fail
    go_ret
    exact ⟨ret_int (by have n := N.out; rw [E.out]; simp [orL, n]), HB0.out⟩
end Go.Proofs.Ytbeadfagacndeaa
