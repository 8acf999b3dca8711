import Derived.Test.YtgbgfkhkjlakbaaGreatGrpjaojkbkb
import Derived.Test.YtgbgfkhkjlakbaaGreatGrpneglbfao
import Derived.Test.YtgbgfkhkjlakbaaGreatGrpkmbkkaod
import Derived.Test.YtgbgfkhkjlakbaaGreatGrpmgphmkil
import Derived.Test.YtgbgfkhkjlakbaaGreatGrpmlglnmkc
set_option linter.all false
namespace Go.Proofs.YtgbgfkhkjlakbaaGreat
open Go.RowKit Go.Deep
theorem cmpI_two (a d b x : Int) : cmpI [a, d] [b, x] = orL [cmpN a b, cmpN d x] := by
  unfold cmpN
  simp only [cmpI, orL]
  repeat' split
  all_goals first | rfl | omega | simp_all
theorem two_ints {w : World} {b : Nat} {t : TypeId} {x y : Int} (hg : w.heap[b]? = some (.cells #[.int .i64 x, .int .i64 y] t (0, 0))) (h : I64 x ∧ I64 y) :
    IsInts 0 w (.slice (some ⟨b, 0, none⟩) 2 2) [x, y] :=
  Y8 (xs := [x, y]) hg (Nat.zero_le _) rfl (Nat.le_refl _) (by unfold maxLen; omega) (fun u hu => by simp at hu; exact hu.elim (fun e => e ▸ h.1) fun e => e ▸ h.2) fun i hi => by
    match i, hi with
    | 0, _ => rfl
    | 1, _ => rfl
set_option maxHeartbeats 3200000 in
theorem rcfCompare_any {lo lo' : Nat} {w : World} {v v' : Value} {p q : Cf} (h : IsCf lo w v p) (h' : IsCf lo' w v' q) :
    Calls Tryz.prog 13 #[v, v'] w fun e w' => e = .returned (.int .i64 (cmpCf p q)) ∧ Below w.heap.size w w' := by
  obtain ⟨u0, u1, u3, u4, rfl, h0, h1, g2, h3, h4, g5⟩ := h
  obtain ⟨v0, v1, v3, v4, rfl, k0, k1, l2, k3, k4, l5⟩ := h'
  obtain ⟨a0, c0, rfl⟩ := h0.shape
  obtain ⟨b0, d0, rfl⟩ := k0.shape
  have H0 := Lib.hid h0
  have K0 := Lib.hid k0
  obtain ⟨a1, c1, rfl⟩ := h1.shape
  obtain ⟨b1, d1, rfl⟩ := k1.shape
  have H1 := Lib.hid h1
  have K1 := Lib.hid k1
  obtain ⟨a3, c3, rfl⟩ := h3.shape
  obtain ⟨b3, d3, rfl⟩ := k3.shape
  have H3 := Lib.hid h3
  have K3 := Lib.hid k3
  obtain ⟨a4, c4, rfl⟩ := h4.shape
  obtain ⟨b4, d4, rfl⟩ := k4.shape
  have H4 := Lib.hid h4
  have K4 := Lib.hid k4
  have G := Lib.hid (And.intro g2 g5)
  have G' := Lib.hid (And.intro l2 l5)
  clear h0 h1 h3 h4 k0 k1 k3 k4 g2 g5 l2 l5
  have E : Hid (cmpCf p q = orL [cmpI p.sh q.sh, cmpI p.st q.st, cmpI p.se q.se, cmpI p.fa q.fa, cmpN p.cor q.cor, cmpN p.val q.val]) := (rfl : cmpCf p q = _)
  obtain ⟨e0, j0⟩ : ∃ e, e = cmpI p.sh q.sh := ⟨_, rfl⟩
  rw [← j0] at E
  have J0 := Lib.hid j0
  obtain ⟨e1, j1⟩ : ∃ e, e = cmpI p.st q.st := ⟨_, rfl⟩
  rw [← j1] at E
  have J1 := Lib.hid j1
  obtain ⟨e2, j2⟩ : ∃ e, e = cmpI p.se q.se := ⟨_, rfl⟩
  rw [← j2] at E
  have J2 := Lib.hid j2
  obtain ⟨e3, j3⟩ : ∃ e, e = cmpI p.fa q.fa := ⟨_, rfl⟩
  rw [← j3] at E
  have J3 := Lib.hid j3
  clear j0 j1 j2 j3
  have C0 : Hid (∀ w' : World, Below w.heap.size w w' → Calls Tryz.prog 27 #[.slice a0 p.sh.length c0, .slice b0 q.sh.length d0] w' fun e w'' => e = .returned (.int .i64 e0) ∧ Below w'.heap.size w' w'') := fun w' hb => by
    have h := Ke (H0.out.below hb) (K0.out.below hb)
    rw [← J0.out] at h
    exact h
  have C1 : Hid (∀ w' : World, Below w.heap.size w w' → Calls Tryz.prog 27 #[.slice a1 p.st.length c1, .slice b1 q.st.length d1] w' fun e w'' => e = .returned (.int .i64 e1) ∧ Below w'.heap.size w' w'') := fun w' hb => by
    have h := Ke (H1.out.below hb) (K1.out.below hb)
    rw [← J1.out] at h
    exact h
  have C2 : Hid (∀ w' : World, Below w.heap.size w w' → Calls Tryz.prog 27 #[.slice a3 p.se.length c3, .slice b3 q.se.length d3] w' fun e w'' => e = .returned (.int .i64 e2) ∧ Below w'.heap.size w' w'') := fun w' hb => by
    have h := Ke (H3.out.below hb) (K3.out.below hb)
    rw [← J2.out] at h
    exact h
  have C3 : Hid (∀ w' : World, Below w.heap.size w w' → Calls Tryz.prog 27 #[.slice a4 p.fa.length c4, .slice b4 q.fa.length d4] w' fun e w'' => e = .returned (.int .i64 e3) ∧ Below w'.heap.size w' w'') := fun w' hb => by
    have h := Ke (H4.out.below hb) (K4.out.below hb)
    rw [← J3.out] at h
    exact h
  by_cases z0 : e0 = 0
  · subst z0
    by_cases z1 : e1 = 0
    · subst z1
      by_cases z2 : e2 = 0
      · subst z2
        by_cases z3 : e3 = 0
        · subst z3
          go_enter Tryz.func13, Tryz.ntmps13
          go_wp2_with fail
          obtain ⟨W, hW⟩ : ∃ W, W = (w.alloc (.cells #[.slice a0 p.sh.length c0, .slice a1 p.st.length c1, .int .i64 p.cor, .slice a3 p.se.length c3, .slice a4 p.fa.length c4, .int .i64 p.val] 29)).alloc (.cells #[.slice b0 q.sh.length d0, .slice b1 q.st.length d1, .int .i64 q.cor, .slice b3 q.se.length d3, .slice b4 q.fa.length d4, .int .i64 q.val] 29) := ⟨_, rfl⟩
          rw [← hW]
          have HB := Lib.hid (show Below w.heap.size w W by rw [hW]; show Below _ _ _; go_grown)
          have x0 : W.cell? ⟨w.heap.size, 0, none⟩ = some (.slice a0 p.sh.length c0) := by rw [hW]; exact keep1 ((Zj w _ _ 0 rfl).trans rfl) (Zc _ _)
          have y0 : W.cell? ⟨w.heap.size + 1, 0, none⟩ = some (.slice b0 q.sh.length d0) := by rw [hW]; exact (Zj _ _ _ 0 (by simp)).trans rfl
          have x1 : W.cell? ⟨w.heap.size, 1, none⟩ = some (.slice a1 p.st.length c1) := by rw [hW]; exact keep1 ((Zj w _ _ 1 rfl).trans rfl) (Zc _ _)
          have y1 : W.cell? ⟨w.heap.size + 1, 1, none⟩ = some (.slice b1 q.st.length d1) := by rw [hW]; exact (Zj _ _ _ 1 (by simp)).trans rfl
          have x2 : W.cell? ⟨w.heap.size, 2, none⟩ = some (.int .i64 p.cor) := by rw [hW]; exact keep1 ((Zj w _ _ 2 rfl).trans rfl) (Zc _ _)
          have y2 : W.cell? ⟨w.heap.size + 1, 2, none⟩ = some (.int .i64 q.cor) := by rw [hW]; exact (Zj _ _ _ 2 (by simp)).trans rfl
          have x3 : W.cell? ⟨w.heap.size, 3, none⟩ = some (.slice a3 p.se.length c3) := by rw [hW]; exact keep1 ((Zj w _ _ 3 rfl).trans rfl) (Zc _ _)
          have y3 : W.cell? ⟨w.heap.size + 1, 3, none⟩ = some (.slice b3 q.se.length d3) := by rw [hW]; exact (Zj _ _ _ 3 (by simp)).trans rfl
          have x4 : W.cell? ⟨w.heap.size, 4, none⟩ = some (.slice a4 p.fa.length c4) := by rw [hW]; exact keep1 ((Zj w _ _ 4 rfl).trans rfl) (Zc _ _)
          have y4 : W.cell? ⟨w.heap.size + 1, 4, none⟩ = some (.slice b4 q.fa.length d4) := by rw [hW]; exact (Zj _ _ _ 4 (by simp)).trans rfl
          have x5 : W.cell? ⟨w.heap.size, 5, none⟩ = some (.int .i64 p.val) := by rw [hW]; exact keep1 ((Zj w _ _ 5 rfl).trans rfl) (Zc _ _)
          have y5 : W.cell? ⟨w.heap.size + 1, 5, none⟩ = some (.int .i64 q.val) := by rw [hW]; exact (Zj _ _ _ 5 (by simp)).trans rfl
          clear hW
          refine (C0.out _ HB.out).mono ?_
          rintro e w0 ⟨rfl, hb0⟩
          have HB0 := Lib.hid (Zg HB.out hb0)
          replace x0 := keep1 x0 hb0
          replace y0 := keep1 y0 hb0
          replace x1 := keep1 x1 hb0
          replace y1 := keep1 y1 hb0
          replace x2 := keep1 x2 hb0
          replace y2 := keep1 y2 hb0
          replace x3 := keep1 x3 hb0
          replace y3 := keep1 y3 hb0
          replace x4 := keep1 x4 hb0
          replace y4 := keep1 y4 hb0
          replace x5 := keep1 x5 hb0
          replace y5 := keep1 y5 hb0
          clear hb0
          go_wp2_with fail
          refine (C1.out _ HB0.out).mono ?_
          rintro e w1 ⟨rfl, hb1⟩
          have HB1 := Lib.hid (Zg HB0.out hb1)
          replace x0 := keep1 x0 hb1
          replace y0 := keep1 y0 hb1
          replace x1 := keep1 x1 hb1
          replace y1 := keep1 y1 hb1
          replace x2 := keep1 x2 hb1
          replace y2 := keep1 y2 hb1
          replace x3 := keep1 x3 hb1
          replace y3 := keep1 y3 hb1
          replace x4 := keep1 x4 hb1
          replace y4 := keep1 y4 hb1
          replace x5 := keep1 x5 hb1
          replace y5 := keep1 y5 hb1
          clear hb1
          go_wp2_with fail
          refine (C2.out _ HB1.out).mono ?_
          rintro e w2 ⟨rfl, hb2⟩
          have HB2 := Lib.hid (Zg HB1.out hb2)
          replace x0 := keep1 x0 hb2
          replace y0 := keep1 y0 hb2
          replace x1 := keep1 x1 hb2
          replace y1 := keep1 y1 hb2
          replace x2 := keep1 x2 hb2
          replace y2 := keep1 y2 hb2
          replace x3 := keep1 x3 hb2
          replace y3 := keep1 y3 hb2
          replace x4 := keep1 x4 hb2
          replace y4 := keep1 y4 hb2
          replace x5 := keep1 x5 hb2
          replace y5 := keep1 y5 hb2
          clear hb2
          go_wp2_with fail
          refine (C3.out _ HB2.out).mono ?_
          rintro e w3 ⟨rfl, hb3⟩
          have HB3 := Lib.hid (Zg HB2.out hb3)
          replace x0 := keep1 x0 hb3
          replace y0 := keep1 y0 hb3
          replace x1 := keep1 x1 hb3
          replace y1 := keep1 y1 hb3
          replace x2 := keep1 x2 hb3
          replace y2 := keep1 y2 hb3
          replace x3 := keep1 x3 hb3
          replace y3 := keep1 y3 hb3
          replace x4 := keep1 x4 hb3
          replace y4 := keep1 y4 hb3
          replace x5 := keep1 x5 hb3
          replace y5 := keep1 y5 hb3
          clear hb3
          have hz3 : w.heap.size + 1 < w3.heap.size := cell_lt y2
          have hz4 : w.heap.size < w3.heap.size := cell_lt x2
          go_wp2_with (go_at_call 27; refine (Ke (two_ints ((Kp _ _ (by go_size)).trans (ZK _ _ (by go_size))) G.out) (two_ints (ZK _ _ (by go_size)) G'.out)).mono ?_; rintro e w5 ⟨rfl, hb5⟩)
          go_ret
          exact ⟨Zs (by rw [E.out, cmpI_two]; simp only [orL, if_pos]), Zg HB3.out (Below.trans (by go_grown) (hb5.mono (by go_size)))⟩
        have zz3 : (e3 != 0) = true := by simpa using z3
        have N := Lib.hid z3
        clear z3
        go_enter Tryz.func13, Tryz.ntmps13
        go_wp2_with fail
        obtain ⟨W, hW⟩ : ∃ W, W = (w.alloc (.cells #[.slice a0 p.sh.length c0, .slice a1 p.st.length c1, .int .i64 p.cor, .slice a3 p.se.length c3, .slice a4 p.fa.length c4, .int .i64 p.val] 29)).alloc (.cells #[.slice b0 q.sh.length d0, .slice b1 q.st.length d1, .int .i64 q.cor, .slice b3 q.se.length d3, .slice b4 q.fa.length d4, .int .i64 q.val] 29) := ⟨_, rfl⟩
        rw [← hW]
        have HB := Lib.hid (show Below w.heap.size w W by rw [hW]; show Below _ _ _; go_grown)
        have x0 : W.cell? ⟨w.heap.size, 0, none⟩ = some (.slice a0 p.sh.length c0) := by rw [hW]; exact keep1 ((Zj w _ _ 0 rfl).trans rfl) (Zc _ _)
        have y0 : W.cell? ⟨w.heap.size + 1, 0, none⟩ = some (.slice b0 q.sh.length d0) := by rw [hW]; exact (Zj _ _ _ 0 (by simp)).trans rfl
        have x1 : W.cell? ⟨w.heap.size, 1, none⟩ = some (.slice a1 p.st.length c1) := by rw [hW]; exact keep1 ((Zj w _ _ 1 rfl).trans rfl) (Zc _ _)
        have y1 : W.cell? ⟨w.heap.size + 1, 1, none⟩ = some (.slice b1 q.st.length d1) := by rw [hW]; exact (Zj _ _ _ 1 (by simp)).trans rfl
        have x2 : W.cell? ⟨w.heap.size, 2, none⟩ = some (.int .i64 p.cor) := by rw [hW]; exact keep1 ((Zj w _ _ 2 rfl).trans rfl) (Zc _ _)
        have y2 : W.cell? ⟨w.heap.size + 1, 2, none⟩ = some (.int .i64 q.cor) := by rw [hW]; exact (Zj _ _ _ 2 (by simp)).trans rfl
        have x3 : W.cell? ⟨w.heap.size, 3, none⟩ = some (.slice a3 p.se.length c3) := by rw [hW]; exact keep1 ((Zj w _ _ 3 rfl).trans rfl) (Zc _ _)
        have y3 : W.cell? ⟨w.heap.size + 1, 3, none⟩ = some (.slice b3 q.se.length d3) := by rw [hW]; exact (Zj _ _ _ 3 (by simp)).trans rfl
        have x4 : W.cell? ⟨w.heap.size, 4, none⟩ = some (.slice a4 p.fa.length c4) := by rw [hW]; exact keep1 ((Zj w _ _ 4 rfl).trans rfl) (Zc _ _)
        have y4 : W.cell? ⟨w.heap.size + 1, 4, none⟩ = some (.slice b4 q.fa.length d4) := by rw [hW]; exact (Zj _ _ _ 4 (by simp)).trans rfl
        have x5 : W.cell? ⟨w.heap.size, 5, none⟩ = some (.int .i64 p.val) := by rw [hW]; exact keep1 ((Zj w _ _ 5 rfl).trans rfl) (Zc _ _)
        have y5 : W.cell? ⟨w.heap.size + 1, 5, none⟩ = some (.int .i64 q.val) := by rw [hW]; exact (Zj _ _ _ 5 (by simp)).trans rfl
        clear hW
        refine (C0.out _ HB.out).mono ?_
        rintro e w0 ⟨rfl, hb0⟩
        have HB0 := Lib.hid (Zg HB.out hb0)
        replace x0 := keep1 x0 hb0
        replace y0 := keep1 y0 hb0
        replace x1 := keep1 x1 hb0
        replace y1 := keep1 y1 hb0
        replace x2 := keep1 x2 hb0
        replace y2 := keep1 y2 hb0
        replace x3 := keep1 x3 hb0
        replace y3 := keep1 y3 hb0
        replace x4 := keep1 x4 hb0
        replace y4 := keep1 y4 hb0
        replace x5 := keep1 x5 hb0
        replace y5 := keep1 y5 hb0
        clear hb0
        go_wp2_with fail
        refine (C1.out _ HB0.out).mono ?_
        rintro e w1 ⟨rfl, hb1⟩
        have HB1 := Lib.hid (Zg HB0.out hb1)
        replace x0 := keep1 x0 hb1
        replace y0 := keep1 y0 hb1
        replace x1 := keep1 x1 hb1
        replace y1 := keep1 y1 hb1
        replace x2 := keep1 x2 hb1
        replace y2 := keep1 y2 hb1
        replace x3 := keep1 x3 hb1
        replace y3 := keep1 y3 hb1
        replace x4 := keep1 x4 hb1
        replace y4 := keep1 y4 hb1
        replace x5 := keep1 x5 hb1
        replace y5 := keep1 y5 hb1
        clear hb1
        go_wp2_with fail
        refine (C2.out _ HB1.out).mono ?_
        rintro e w2 ⟨rfl, hb2⟩
        have HB2 := Lib.hid (Zg HB1.out hb2)
        replace x0 := keep1 x0 hb2
        replace y0 := keep1 y0 hb2
        replace x1 := keep1 x1 hb2
        replace y1 := keep1 y1 hb2
        replace x2 := keep1 x2 hb2
        replace y2 := keep1 y2 hb2
        replace x3 := keep1 x3 hb2
        replace y3 := keep1 y3 hb2
        replace x4 := keep1 x4 hb2
        replace y4 := keep1 y4 hb2
        replace x5 := keep1 x5 hb2
        replace y5 := keep1 y5 hb2
        clear hb2
        go_wp2_with fail
        refine (C3.out _ HB2.out).mono ?_
        rintro e w3 ⟨rfl, hb3⟩
        have HB3 := Lib.hid (Zg HB2.out hb3)
        replace x0 := keep1 x0 hb3
        replace y0 := keep1 y0 hb3
        replace x1 := keep1 x1 hb3
        replace y1 := keep1 y1 hb3
        replace x2 := keep1 x2 hb3
        replace y2 := keep1 y2 hb3
        replace x3 := keep1 x3 hb3
        replace y3 := keep1 y3 hb3
        replace x4 := keep1 x4 hb3
        replace y4 := keep1 y4 hb3
        replace x5 := keep1 x5 hb3
        replace y5 := keep1 y5 hb3
        clear hb3
        go_wp2_with fail
        go_ret
        exact ⟨Zs (by have n := N.out; rw [E.out]; simp [orL, n]), HB3.out⟩
      have zz2 : (e2 != 0) = true := by simpa using z2
      have N := Lib.hid z2
      clear z2
      go_enter Tryz.func13, Tryz.ntmps13
      go_wp2_with fail
      obtain ⟨W, hW⟩ : ∃ W, W = (w.alloc (.cells #[.slice a0 p.sh.length c0, .slice a1 p.st.length c1, .int .i64 p.cor, .slice a3 p.se.length c3, .slice a4 p.fa.length c4, .int .i64 p.val] 29)).alloc (.cells #[.slice b0 q.sh.length d0, .slice b1 q.st.length d1, .int .i64 q.cor, .slice b3 q.se.length d3, .slice b4 q.fa.length d4, .int .i64 q.val] 29) := ⟨_, rfl⟩
      rw [← hW]
      have HB := Lib.hid (show Below w.heap.size w W by rw [hW]; show Below _ _ _; go_grown)
      have x0 : W.cell? ⟨w.heap.size, 0, none⟩ = some (.slice a0 p.sh.length c0) := by rw [hW]; exact keep1 ((Zj w _ _ 0 rfl).trans rfl) (Zc _ _)
      have y0 : W.cell? ⟨w.heap.size + 1, 0, none⟩ = some (.slice b0 q.sh.length d0) := by rw [hW]; exact (Zj _ _ _ 0 (by simp)).trans rfl
      have x1 : W.cell? ⟨w.heap.size, 1, none⟩ = some (.slice a1 p.st.length c1) := by rw [hW]; exact keep1 ((Zj w _ _ 1 rfl).trans rfl) (Zc _ _)
      have y1 : W.cell? ⟨w.heap.size + 1, 1, none⟩ = some (.slice b1 q.st.length d1) := by rw [hW]; exact (Zj _ _ _ 1 (by simp)).trans rfl
      have x2 : W.cell? ⟨w.heap.size, 2, none⟩ = some (.int .i64 p.cor) := by rw [hW]; exact keep1 ((Zj w _ _ 2 rfl).trans rfl) (Zc _ _)
      have y2 : W.cell? ⟨w.heap.size + 1, 2, none⟩ = some (.int .i64 q.cor) := by rw [hW]; exact (Zj _ _ _ 2 (by simp)).trans rfl
      have x3 : W.cell? ⟨w.heap.size, 3, none⟩ = some (.slice a3 p.se.length c3) := by rw [hW]; exact keep1 ((Zj w _ _ 3 rfl).trans rfl) (Zc _ _)
      have y3 : W.cell? ⟨w.heap.size + 1, 3, none⟩ = some (.slice b3 q.se.length d3) := by rw [hW]; exact (Zj _ _ _ 3 (by simp)).trans rfl
      have x4 : W.cell? ⟨w.heap.size, 4, none⟩ = some (.slice a4 p.fa.length c4) := by rw [hW]; exact keep1 ((Zj w _ _ 4 rfl).trans rfl) (Zc _ _)
      have y4 : W.cell? ⟨w.heap.size + 1, 4, none⟩ = some (.slice b4 q.fa.length d4) := by rw [hW]; exact (Zj _ _ _ 4 (by simp)).trans rfl
      have x5 : W.cell? ⟨w.heap.size, 5, none⟩ = some (.int .i64 p.val) := by rw [hW]; exact keep1 ((Zj w _ _ 5 rfl).trans rfl) (Zc _ _)
      have y5 : W.cell? ⟨w.heap.size + 1, 5, none⟩ = some (.int .i64 q.val) := by rw [hW]; exact (Zj _ _ _ 5 (by simp)).trans rfl
      clear hW
      refine (C0.out _ HB.out).mono ?_
      rintro e w0 ⟨rfl, hb0⟩
      have HB0 := Lib.hid (Zg HB.out hb0)
      replace x0 := keep1 x0 hb0
      replace y0 := keep1 y0 hb0
      replace x1 := keep1 x1 hb0
      replace y1 := keep1 y1 hb0
      replace x2 := keep1 x2 hb0
      replace y2 := keep1 y2 hb0
      replace x3 := keep1 x3 hb0
      replace y3 := keep1 y3 hb0
      replace x4 := keep1 x4 hb0
      replace y4 := keep1 y4 hb0
      replace x5 := keep1 x5 hb0
      replace y5 := keep1 y5 hb0
      clear hb0
      go_wp2_with fail
      refine (C1.out _ HB0.out).mono ?_
      rintro e w1 ⟨rfl, hb1⟩
      have HB1 := Lib.hid (Zg HB0.out hb1)
      replace x0 := keep1 x0 hb1
      replace y0 := keep1 y0 hb1
      replace x1 := keep1 x1 hb1
      replace y1 := keep1 y1 hb1
      replace x2 := keep1 x2 hb1
      replace y2 := keep1 y2 hb1
      replace x3 := keep1 x3 hb1
      replace y3 := keep1 y3 hb1
      replace x4 := keep1 x4 hb1
      replace y4 := keep1 y4 hb1
      replace x5 := keep1 x5 hb1
      replace y5 := keep1 y5 hb1
      clear hb1
      go_wp2_with fail
      refine (C2.out _ HB1.out).mono ?_
      rintro e w2 ⟨rfl, hb2⟩
      have HB2 := Lib.hid (Zg HB1.out hb2)
      replace x0 := keep1 x0 hb2
      replace y0 := keep1 y0 hb2
      replace x1 := keep1 x1 hb2
      replace y1 := keep1 y1 hb2
      replace x2 := keep1 x2 hb2
      replace y2 := keep1 y2 hb2
      replace x3 := keep1 x3 hb2
      replace y3 := keep1 y3 hb2
      replace x4 := keep1 x4 hb2
      replace y4 := keep1 y4 hb2
      replace x5 := keep1 x5 hb2
      replace y5 := keep1 y5 hb2
      clear hb2
      go_wp2_with fail
      go_ret
      exact ⟨Zs (by have n := N.out; rw [E.out]; simp [orL, n]), HB2.out⟩
    have zz1 : (e1 != 0) = true := by simpa using z1
    have N := Lib.hid z1
    clear z1
    go_enter Tryz.func13, Tryz.ntmps13
    go_wp2_with fail
    obtain ⟨W, hW⟩ : ∃ W, W = (w.alloc (.cells #[.slice a0 p.sh.length c0, .slice a1 p.st.length c1, .int .i64 p.cor, .slice a3 p.se.length c3, .slice a4 p.fa.length c4, .int .i64 p.val] 29)).alloc (.cells #[.slice b0 q.sh.length d0, .slice b1 q.st.length d1, .int .i64 q.cor, .slice b3 q.se.length d3, .slice b4 q.fa.length d4, .int .i64 q.val] 29) := ⟨_, rfl⟩
    rw [← hW]
    have HB := Lib.hid (show Below w.heap.size w W by rw [hW]; show Below _ _ _; go_grown)
    have x0 : W.cell? ⟨w.heap.size, 0, none⟩ = some (.slice a0 p.sh.length c0) := by rw [hW]; exact keep1 ((Zj w _ _ 0 rfl).trans rfl) (Zc _ _)
    have y0 : W.cell? ⟨w.heap.size + 1, 0, none⟩ = some (.slice b0 q.sh.length d0) := by rw [hW]; exact (Zj _ _ _ 0 (by simp)).trans rfl
    have x1 : W.cell? ⟨w.heap.size, 1, none⟩ = some (.slice a1 p.st.length c1) := by rw [hW]; exact keep1 ((Zj w _ _ 1 rfl).trans rfl) (Zc _ _)
    have y1 : W.cell? ⟨w.heap.size + 1, 1, none⟩ = some (.slice b1 q.st.length d1) := by rw [hW]; exact (Zj _ _ _ 1 (by simp)).trans rfl
    have x2 : W.cell? ⟨w.heap.size, 2, none⟩ = some (.int .i64 p.cor) := by rw [hW]; exact keep1 ((Zj w _ _ 2 rfl).trans rfl) (Zc _ _)
    have y2 : W.cell? ⟨w.heap.size + 1, 2, none⟩ = some (.int .i64 q.cor) := by rw [hW]; exact (Zj _ _ _ 2 (by simp)).trans rfl
    have x3 : W.cell? ⟨w.heap.size, 3, none⟩ = some (.slice a3 p.se.length c3) := by rw [hW]; exact keep1 ((Zj w _ _ 3 rfl).trans rfl) (Zc _ _)
    have y3 : W.cell? ⟨w.heap.size + 1, 3, none⟩ = some (.slice b3 q.se.length d3) := by rw [hW]; exact (Zj _ _ _ 3 (by simp)).trans rfl
    have x4 : W.cell? ⟨w.heap.size, 4, none⟩ = some (.slice a4 p.fa.length c4) := by rw [hW]; exact keep1 ((Zj w _ _ 4 rfl).trans rfl) (Zc _ _)
    have y4 : W.cell? ⟨w.heap.size + 1, 4, none⟩ = some (.slice b4 q.fa.length d4) := by rw [hW]; exact (Zj _ _ _ 4 (by simp)).trans rfl
    have x5 : W.cell? ⟨w.heap.size, 5, none⟩ = some (.int .i64 p.val) := by rw [hW]; exact keep1 ((Zj w _ _ 5 rfl).trans rfl) (Zc _ _)
    have y5 : W.cell? ⟨w.heap.size + 1, 5, none⟩ = some (.int .i64 q.val) := by rw [hW]; exact (Zj _ _ _ 5 (by simp)).trans rfl
    clear hW
    refine (C0.out _ HB.out).mono ?_
    rintro e w0 ⟨rfl, hb0⟩
    have HB0 := Lib.hid (Zg HB.out hb0)
    replace x0 := keep1 x0 hb0
    replace y0 := keep1 y0 hb0
    replace x1 := keep1 x1 hb0
    replace y1 := keep1 y1 hb0
    replace x2 := keep1 x2 hb0
    replace y2 := keep1 y2 hb0
    replace x3 := keep1 x3 hb0
    replace y3 := keep1 y3 hb0
    replace x4 := keep1 x4 hb0
    replace y4 := keep1 y4 hb0
    replace x5 := keep1 x5 hb0
    replace y5 := keep1 y5 hb0
    clear hb0
    go_wp2_with fail
    refine (C1.out _ HB0.out).mono ?_
    rintro e w1 ⟨rfl, hb1⟩
    have HB1 := Lib.hid (Zg HB0.out hb1)
    replace x0 := keep1 x0 hb1
    replace y0 := keep1 y0 hb1
    replace x1 := keep1 x1 hb1
    replace y1 := keep1 y1 hb1
    replace x2 := keep1 x2 hb1
    replace y2 := keep1 y2 hb1
    replace x3 := keep1 x3 hb1
    replace y3 := keep1 y3 hb1
    replace x4 := keep1 x4 hb1
    replace y4 := keep1 y4 hb1
    replace x5 := keep1 x5 hb1
    replace y5 := keep1 y5 hb1
    clear hb1
    go_wp2_with fail
    go_ret
    exact ⟨Zs (by have n := N.out; rw [E.out]; simp [orL, n]), HB1.out⟩
  have zz0 : (e0 != 0) = true := by simpa using z0
  have N := Lib.hid z0
  clear z0
  go_enter Tryz.func13, Tryz.ntmps13
  go_wp2_with fail
  obtain ⟨W, hW⟩ : ∃ W, W = (w.alloc (.cells #[.slice a0 p.sh.length c0, .slice a1 p.st.length c1, .int .i64 p.cor, .slice a3 p.se.length c3, .slice a4 p.fa.length c4, .int .i64 p.val] 29)).alloc (.cells #[.slice b0 q.sh.length d0, .slice b1 q.st.length d1, .int .i64 q.cor, .slice b3 q.se.length d3, .slice b4 q.fa.length d4, .int .i64 q.val] 29) := ⟨_, rfl⟩
  rw [← hW]
  have HB := Lib.hid (show Below w.heap.size w W by rw [hW]; show Below _ _ _; go_grown)
  have x0 : W.cell? ⟨w.heap.size, 0, none⟩ = some (.slice a0 p.sh.length c0) := by rw [hW]; exact keep1 ((Zj w _ _ 0 rfl).trans rfl) (Zc _ _)
  have y0 : W.cell? ⟨w.heap.size + 1, 0, none⟩ = some (.slice b0 q.sh.length d0) := by rw [hW]; exact (Zj _ _ _ 0 (by simp)).trans rfl
  have x1 : W.cell? ⟨w.heap.size, 1, none⟩ = some (.slice a1 p.st.length c1) := by rw [hW]; exact keep1 ((Zj w _ _ 1 rfl).trans rfl) (Zc _ _)
  have y1 : W.cell? ⟨w.heap.size + 1, 1, none⟩ = some (.slice b1 q.st.length d1) := by rw [hW]; exact (Zj _ _ _ 1 (by simp)).trans rfl
  have x2 : W.cell? ⟨w.heap.size, 2, none⟩ = some (.int .i64 p.cor) := by rw [hW]; exact keep1 ((Zj w _ _ 2 rfl).trans rfl) (Zc _ _)
  have y2 : W.cell? ⟨w.heap.size + 1, 2, none⟩ = some (.int .i64 q.cor) := by rw [hW]; exact (Zj _ _ _ 2 (by simp)).trans rfl
  have x3 : W.cell? ⟨w.heap.size, 3, none⟩ = some (.slice a3 p.se.length c3) := by rw [hW]; exact keep1 ((Zj w _ _ 3 rfl).trans rfl) (Zc _ _)
  have y3 : W.cell? ⟨w.heap.size + 1, 3, none⟩ = some (.slice b3 q.se.length d3) := by rw [hW]; exact (Zj _ _ _ 3 (by simp)).trans rfl
  have x4 : W.cell? ⟨w.heap.size, 4, none⟩ = some (.slice a4 p.fa.length c4) := by rw [hW]; exact keep1 ((Zj w _ _ 4 rfl).trans rfl) (Zc _ _)
  have y4 : W.cell? ⟨w.heap.size + 1, 4, none⟩ = some (.slice b4 q.fa.length d4) := by rw [hW]; exact (Zj _ _ _ 4 (by simp)).trans rfl
  have x5 : W.cell? ⟨w.heap.size, 5, none⟩ = some (.int .i64 p.val) := by rw [hW]; exact keep1 ((Zj w _ _ 5 rfl).trans rfl) (Zc _ _)
  have y5 : W.cell? ⟨w.heap.size + 1, 5, none⟩ = some (.int .i64 q.val) := by rw [hW]; exact (Zj _ _ _ 5 (by simp)).trans rfl
  clear hW
  refine (C0.out _ HB.out).mono ?_
  rintro e w0 ⟨rfl, hb0⟩
  have HB0 := Lib.hid (Zg HB.out hb0)
  replace x0 := keep1 x0 hb0
  replace y0 := keep1 y0 hb0
  replace x1 := keep1 x1 hb0
  replace y1 := keep1 y1 hb0
  replace x2 := keep1 x2 hb0
  replace y2 := keep1 y2 hb0
  replace x3 := keep1 x3 hb0
  replace y3 := keep1 y3 hb0
  replace x4 := keep1 x4 hb0
  replace y4 := keep1 y4 hb0
  replace x5 := keep1 x5 hb0
  replace y5 := keep1 y5 hb0
  clear hb0
  go_wp2_with fail
  go_ret
  exact ⟨Zs (by have n := N.out; rw [E.out]; simp [orL, n]), HB0.out⟩
end Go.Proofs.YtgbgfkhkjlakbaaGreat

namespace Go.Proofs.YtgbgfkhkjlakbaaGreat
theorem cmpI_anti : ∀ (xs ys : List Int), cmpI ys xs = -cmpI xs ys
  | [], [] => rfl
  | [], _ :: _ => rfl
  | _ :: _, [] => rfl
  | x :: xs, y :: ys => by
    simp only [cmpI]
    by_cases h1 : x < y
    · rw [if_neg (by omega), if_pos h1, if_pos h1]; rfl
    by_cases h2 : y < x
    · rw [if_pos h2, if_neg h1, if_pos h2]
    rw [if_neg h2, if_neg h1, if_neg h1, if_neg h2]; exact cmpI_anti xs ys
theorem cmpN_vals (x y : Int) : (cmpN x y = -1 ∧ x < y) ∨ (cmpN x y = 0 ∧ x = y) ∨ (cmpN x y = 1 ∧ y < x) := by
  unfold cmpN
  split
  · exact .inl ⟨rfl, by assumption⟩
  split
  · exact .inr (.inr ⟨rfl, by assumption⟩)
  exact .inr (.inl ⟨rfl, by omega⟩)
theorem cmpN_anti (x y : Int) : cmpN y x = -cmpN x y := by
  have := cmpN_vals x y; have := cmpN_vals y x; omega
theorem orL_neg : ∀ xs : List Int, orL (xs.map (- ·)) = -orL xs
  | [] => rfl
  | x :: xs => by
    simp only [List.map_cons, orL, orL_neg xs]
    by_cases h : x = 0
    · rw [if_pos h, if_pos (by omega)]
    rw [if_neg h, if_neg (by omega)]
end Go.Proofs.YtgbgfkhkjlakbaaGreat

namespace Go.Proofs.YtgbgfkhkjlakbaaGreat
open Go.RowKit Go.Deep
namespace Rd
section
variable {J : World → Prop} {F ok : Nat → Prop} {w : World} {lo : Nat}
structure CgIn (c : Cf) : Prop where
  sh : InOk c.sh
  st : InOk c.st
  se : InOk c.se
  fa : InOk c.fa
  cor : I64 c.cor
  val : I64 c.val
theorem cf_in {v : Value} {c : Cf} (h : IsCf lo w v c) : CgIn c := by
  obtain ⟨_, _, _, _, _, h0, h1, h2, h3, h4, h5⟩ := h
  exact ⟨h0.ok, h1.ok, h3.ok, h4.ok, h2, h5⟩
theorem cf_pu (hok : ∀ b, lo ≤ b → b < w.heap.size → ok b) {v : Value} {c : Cf} (h : IsCf lo w v c) : Pu F w ok (.agg (cCg c)) v := by
  obtain ⟨u0, u1, u3, u4, rfl, h0, h1, _, h3, h4, _⟩ := h
  refine .agg rfl fun j hj => ?_
  match j, hj with
  | 0, _ => exact Kd hok h0
  | 1, _ => exact Kd hok h1
  | 2, _ => exact .v _
  | 3, _ => exact Kd hok h3
  | 4, _ => exact Kd hok h4
  | 5, _ => exact .v _
theorem cf_of {v : Value} {c : Cf} (H : CgIn c) (h : Pu F w ok (.agg (cCg c)) v) : IsCf 0 w v c := by
  obtain ⟨vs, rfl, hl, hv⟩ := agg_cells h
  match vs, hl, hv with
  | [v0, v1, v2, v3, v4, v5], _, hv =>
    have e2 := (hv 2 (by simp [cCg])).v_inv
    have e5 := (hv 5 (by simp [cCg])).v_inv
    simp only [List.getD_cons_succ, List.getD_cons_zero] at e2 e5
    subst e2 e5
    exact ⟨v0, v1, v3, v4, rfl, YK H.sh (fun _ _ => Nat.zero_le _) (hv 0 (by simp [cCg])), YK H.st (fun _ _ => Nat.zero_le _) (hv 1 (by simp [cCg])), H.cor, YK H.se (fun _ _ => Nat.zero_le _) (hv 3 (by simp [cCg])), YK H.fa (fun _ _ => Nat.zero_le _) (hv 4 (by simp [cCg])), H.val⟩
theorem Wide_c {c : Cf} (H : CgIn c) : Ctr Tryz.prog J 6 [.agg (cCg c)] (bv (wideCf c)) := ctr1 fun w v _ h => (Wide_any (cf_of H h)).mono fun _ _ => ret_sc
theorem cmpCf_same (c : Cf) : cmpCf c c = 0 := by
  have h : cmpCf c c = -cmpCf c c := by
    conv => lhs; unfold cmpCf
    unfold cmpCf
    rw [← orL_neg]
    simp only [List.map_cons, List.map_nil]
    rw [← cmpI_anti c.sh c.sh, ← cmpI_anti c.st c.st, ← cmpI_anti c.se c.se, ← cmpI_anti c.fa c.fa, ← cmpN_anti c.cor c.cor, ← cmpN_anti c.val c.val]
  omega
theorem rCompare_c {c : Cf} (H : CgIn c) : Ctr Tryz.prog J 13 [.agg (cCg c), .agg (cCg c)] (iv 0) := ctr2 fun w v v' _ h h' => by
  have := rcfCompare_any (cf_of H h) (cf_of H h')
  rw [cmpCf_same] at this
  exact this.mono fun _ _ => ret_sc
theorem cg_ok {c : Cf} (H : CgIn c) (h : wideCf c = false) : CgOk c := by
  unfold wideCf at h
  simp only [Bool.or_eq_false_iff, decide_eq_false_iff_not] at h
  exact ⟨H.sh, H.st, H.se, H.fa, by omega, by omega, by omega, by omega⟩
end
end Rd
end Go.Proofs.YtgbgfkhkjlakbaaGreat

namespace Go.Proofs.YtgbgfkhkjlakbaaGreat
open Go.RowKit Go.Deep
variable {J : World → Prop}
theorem Ct.cnC_in {p : Fm} {c : Cf} (H : Rd.CgIn c) : Rd.CgIn (Ct.cnC p c) := by
  unfold Ct.cnC
  split
  · exact ⟨H.sh, Ct.srtP_ok (fun x hx => H.st x (List.mem_of_mem_take hx)) (fun x hx => H.st x (List.mem_of_mem_drop hx)), H.se, H.fa, H.cor, H.val⟩
  exact ⟨fun x hx => (List.not_mem_nil hx).elim, fun x hx => (List.not_mem_nil hx).elim, fun x hx => (List.not_mem_nil hx).elim, fun x hx => (List.not_mem_nil hx).elim, by unfold I64; dsimp only; omega, by unfold I64; dsimp only; omega⟩
set_option maxRecDepth 100000 in
set_option maxHeartbeats 6400000 in
theorem lawCounts_c {p : Fm} (HP : FmOk p) {c : Cf} (HI : Rd.CgIn c) : Ctr Tryz.prog J 3 [.agg (cFm p), .agg (Rd.cCg c)] (bv true) := by
 refine ZL Tryz.func3 rfl (by intro X hX; simp only [List.mem_cons, List.not_mem_nil, or_false] at hX; rcases hX with rfl | rfl; exact ZQ (YC p); exact ZQ (Rd.plain_cg c)) (n := 66) rfl (by simp) (fun w0 => ?_)
 refine kW 66 [] [(0, .agg (cFm p)), (1, .agg (Rd.cCg c))] (Zb (Za (Yi rfl (Yq (X := .agg (cFm p)) (k := 1) (.tmp 0) rfl rfl) ⟨I0, T0⟩ T0 rfl (Yi rfl (Yq (X := .agg (Rd.cCg c)) (k := 2) (.tmp 1) rfl rfl) ⟨I0, T0⟩ T0 rfl (pM (aC (.bool false)) (kN 66 [(1, .box 27 (cFm p)), (2, .box 29 (Rd.cCg c))] [(2, .box 1 0), (3, .box 2 0), (4, bv false)] (Zd (Zb (Zb ?_)))))))))
 by_cases hs1 : (bigF p) = true
 refine Za (oB (Zn (Y := .box 27 (cFm p)) (ds := cFm p) (z := 10) (.tmp 2) rfl U27 rfl (by kernel_rfl) (by decide) (by kernel_rfl) (by kernel_rfl)) I0 rfl (oC (Zk (c := .func 5) (xs := #[.tmp 13]) [] (ZS (Big_c HP) hs1) rfl (by kernel_rfl) rfl (Xs := [.agg (cFm p)]) rfl rfl rfl) I0 I0 (pM (mT 14 (bv true)) (qK (qK (pP (Zi (.tmp 15) (.const (.bool true)) (.tmp 17) true (bv true) (.v (.tuple #[])) rfl) (kN 66 [(1, .box 27 (cFm p)), (2, .box 29 (Rd.cCg c))] [(2, .box 1 0), (3, .box 2 0), (4, bv false), (18, bv true)] (Zd (Zy rfl (Zb (Za ?_)))))))))))
 refine oA (Zk (c := .func 7) (xs := #[]) [] Sh.zknown_c rfl (by kernel_rfl) rfl (Xs := []) rfl rfl rfl) I0 (pM (aT 19 (bv true)) (Zu (Zd (Zt (Zm ?_)))))
 refine Zv Tryz.results3 (.tmp rfl) ?_
 exact rfl
 have hs1f : (bigF p) = false := by simpa using hs1
 by_cases hs2 : (wideCf c) = true
 refine Za (oB (Zn (Y := .box 27 (cFm p)) (ds := cFm p) (z := 10) (.tmp 2) rfl U27 rfl (by kernel_rfl) (by decide) (by kernel_rfl) (by kernel_rfl)) I0 rfl (oC (Zk (c := .func 5) (xs := #[.tmp 13]) [] (ZS (Big_c HP) hs1f) rfl (by kernel_rfl) rfl (Xs := [.agg (cFm p)]) rfl rfl rfl) I0 I0 (pM (mT 14 (bv false)) (gB (Zn (Y := .box 29 (Rd.cCg c)) (ds := Rd.cCg c) (z := 6) (.tmp 3) rfl U29 rfl (by kernel_rfl) (by decide) (by kernel_rfl) (by kernel_rfl)) I0 rfl (gC (Zk (c := .func 6) (xs := #[.tmp 16]) [] (ZS (Rd.Wide_c HI) hs2) rfl (by kernel_rfl) rfl (Xs := [.agg (Rd.cCg c)]) rfl rfl rfl) I0 I0 (pP (Zi (.tmp 15) (.const (.bool true)) (.tmp 17) false (bv true) (bv true) rfl) (kN 66 [(1, .box 27 (cFm p)), (2, .box 29 (Rd.cCg c))] [(2, .box 1 0), (3, .box 2 0), (4, bv false), (18, bv true)] (Zd (Zy rfl (Zb (Za ?_)))))))))))
 refine oA (Zk (c := .func 7) (xs := #[]) [] Sh.zknown_c rfl (by kernel_rfl) rfl (Xs := []) rfl rfl rfl) I0 (pM (aT 19 (bv true)) (Zu (Zd (Zt (Zm ?_)))))
 refine Zv Tryz.results3 (.tmp rfl) ?_
 exact rfl
 have hs2f : (wideCf c) = false := by simpa using hs2
 refine Za (oB (Zn (Y := .box 27 (cFm p)) (ds := cFm p) (z := 10) (.tmp 2) rfl U27 rfl (by kernel_rfl) (by decide) (by kernel_rfl) (by kernel_rfl)) I0 rfl (oC (Zk (c := .func 5) (xs := #[.tmp 13]) [] (ZS (Big_c HP) hs1f) rfl (by kernel_rfl) rfl (Xs := [.agg (cFm p)]) rfl rfl rfl) I0 I0 (pM (mT 14 (bv false)) (gB (Zn (Y := .box 29 (Rd.cCg c)) (ds := Rd.cCg c) (z := 6) (.tmp 3) rfl U29 rfl (by kernel_rfl) (by decide) (by kernel_rfl) (by kernel_rfl)) I0 rfl (gC (Zk (c := .func 6) (xs := #[.tmp 16]) [] (ZS (Rd.Wide_c HI) hs2f) rfl (by kernel_rfl) rfl (Xs := [.agg (Rd.cCg c)]) rfl rfl rfl) I0 I0 (pP (Zi (.tmp 15) (.const (.bool true)) (.tmp 17) false (bv true) (bv false) rfl) (kN 66 [(1, .box 27 (cFm p)), (2, .box 29 (Rd.cCg c))] [(2, .box 1 0), (3, .box 2 0), (4, bv false), (18, bv false)] (Zd (Zx rfl (Zr (Zd ?_)))))))))))
 refine Zb (Za (oB (Zn (Y := .box 27 (cFm p)) (ds := cFm p) (z := 10) (.tmp 2) rfl U27 rfl (by kernel_rfl) (by decide) (by kernel_rfl) (by kernel_rfl)) I0 rfl (oB (Zn (Y := .box 29 (Rd.cCg c)) (ds := Rd.cCg c) (z := 6) (.tmp 3) rfl U29 rfl (by kernel_rfl) (by decide) (by kernel_rfl) (by kernel_rfl)) I0 rfl (oD (Zk (c := .func 8) (xs := #[.tmp 21, .tmp 22]) [] (qCounts_c HP (famLen hs1f).states (Rd.cg_ok HI hs2f)) rfl (by kernel_rfl) rfl (Xs := [.agg (cFm p), .agg (Rd.cCg c)]) rfl rfl rfl) I0 I0 I0 (pM (mT 23 (.tup [.fr (Zh (Ct.ctL p c)), iv (Ct.ctE p c)])) (oA (Y2 (X := .fr (Zh (Ct.ctL p c))) (.tmp 20) rfl rfl) I0 (oA (Y2 (X := iv (Ct.ctE p c)) (.tmp 20) rfl rfl) I0 (pM (aT 24 (.fr (Zh (Ct.ctL p c)))) (pM (aT 25 (iv (Ct.ctE p c))) (kN 66 [(1, .box 27 (cFm p)), (2, .box 29 (Rd.cCg c))] [(2, .box 1 0), (3, .box 2 0), (4, bv false), (5, .fr (Zh (Ct.ctL p c))), (6, iv (Ct.ctE p c))] (Zd ?_)))))))))))
 refine Zb (Za (oB (Zn (Y := .box 27 (cFm p)) (ds := cFm p) (z := 10) (.tmp 2) rfl U27 rfl (by kernel_rfl) (by decide) (by kernel_rfl) (by kernel_rfl)) I0 rfl (oB (Zn (Y := .box 29 (Rd.cCg c)) (ds := Rd.cCg c) (z := 6) (.tmp 3) rfl U29 rfl (by kernel_rfl) (by decide) (by kernel_rfl) (by kernel_rfl)) I0 rfl (oD (Zk (c := .func 9) (xs := #[.tmp 27, .tmp 28]) [] (rCounts_c HP (famLen hs1f).states (Rd.cg_ok HI hs2f)) rfl (by kernel_rfl) rfl (Xs := [.agg (cFm p), .agg (Rd.cCg c)]) rfl rfl rfl) I0 I0 I0 (pM (mT 29 (.tup [.fr (Zh (Ct.ctL p c)), iv (Ct.ctE p c)])) (oA (Y2 (X := .fr (Zh (Ct.ctL p c))) (.tmp 26) rfl rfl) I0 (oA (Y2 (X := iv (Ct.ctE p c)) (.tmp 26) rfl rfl) I0 (pM (aT 30 (.fr (Zh (Ct.ctL p c)))) (pM (aT 31 (iv (Ct.ctE p c))) (kN 66 [(1, .box 27 (cFm p)), (2, .box 29 (Rd.cCg c))] [(2, .box 1 0), (3, .box 2 0), (4, bv false), (5, .fr (Zh (Ct.ctL p c))), (6, iv (Ct.ctE p c)), (7, .fr (Zh (Ct.ctL p c))), (8, iv (Ct.ctE p c))] (Zd ?_)))))))))))
 refine Zb (Za (oB (Zn (Y := .box 27 (cFm p)) (ds := cFm p) (z := 10) (.tmp 2) rfl U27 rfl (by kernel_rfl) (by decide) (by kernel_rfl) (by kernel_rfl)) I0 rfl (oB (Zn (Y := .box 29 (Rd.cCg c)) (ds := Rd.cCg c) (z := 6) (.tmp 3) rfl U29 rfl (by kernel_rfl) (by decide) (by kernel_rfl) (by kernel_rfl)) I0 rfl (oD (Zk (c := .func 10) (xs := #[.tmp 33, .tmp 34]) [] (qCanonical_c HP (famLen hs1f).states (Rd.cg_ok HI hs2f)) rfl (by kernel_rfl) rfl (Xs := [.agg (cFm p), .agg (Rd.cCg c)]) rfl rfl rfl) I0 I0 I0 (pM (mT 35 (.tup [.fr (.agg (Rd.cCg (Ct.cnC p c))), iv (Ct.ctE p c)])) (oA (Y2 (X := .fr (.agg (Rd.cCg (Ct.cnC p c)))) (.tmp 32) rfl rfl) I0 (oA (Y2 (X := iv (Ct.ctE p c)) (.tmp 32) rfl rfl) I0 (Yi rfl (Y4 (z := .agg #[.slice none 0 0, .slice none 0 0, .int .i64 0, .slice none 0 0, .slice none 0 0, .int .i64 0]) (k := 3) rfl (by kernel_rfl)) T0 T0 rfl (Yi rfl (ZV (T0 := 29) (X := .agg [.fr (Zh ((Ct.cnC p c).sh)), .fr (Zh ((Ct.cnC p c).st)), iv ((Ct.cnC p c).cor), .fr (Zh ((Ct.cnC p c).se)), .fr (Zh ((Ct.cnC p c).fa)), iv ((Ct.cnC p c).val)]) (cs := [.v (.slice none 0 0), .v (.slice none 0 0), iv 0, .v (.slice none 0 0), .v (.slice none 0 0), iv 0]) (ds := [.fr (Zh ((Ct.cnC p c).sh)), .fr (Zh ((Ct.cnC p c).st)), iv ((Ct.cnC p c).cor), .fr (Zh ((Ct.cnC p c).se)), .fr (Zh ((Ct.cnC p c).fa)), iv ((Ct.cnC p c).val)]) (z := 6) (.tmp 9) (.tmp 36) rfl (by kernel_rfl) (by kernel_rfl) (by kernel_rfl) (of_decide_eq_true (by kernel_rfl)) (by kernel_rfl)) ⟨I0, .inr (.inr (.inl ⟨_, rfl, rfl⟩)), T0⟩ ⟨rfl, T0⟩ rfl (pM (aT 37 (iv (Ct.ctE p c))) (kN 66 [(1, .box 27 (cFm p)), (2, .box 29 (Rd.cCg c)), (3, .box 29 [.fr (Zh ((Ct.cnC p c).sh)), .fr (Zh ((Ct.cnC p c).st)), iv ((Ct.cnC p c).cor), .fr (Zh ((Ct.cnC p c).se)), .fr (Zh ((Ct.cnC p c).fa)), iv ((Ct.cnC p c).val)])] [(2, .box 1 0), (3, .box 2 0), (4, bv false), (5, .fr (Zh (Ct.ctL p c))), (6, iv (Ct.ctE p c)), (7, .fr (Zh (Ct.ctL p c))), (8, iv (Ct.ctE p c)), (9, .box 3 0), (10, iv (Ct.ctE p c))] ?_)))))))))))
 refine Zd (Zb (Za (oB (Zn (Y := .box 27 (cFm p)) (ds := cFm p) (z := 10) (.tmp 2) rfl U27 rfl (by kernel_rfl) (by decide) (by kernel_rfl) (by kernel_rfl)) I0 rfl (oB (Zn (Y := .box 29 (Rd.cCg c)) (ds := Rd.cCg c) (z := 6) (.tmp 3) rfl U29 rfl (by kernel_rfl) (by decide) (by kernel_rfl) (by kernel_rfl)) I0 rfl (oD (Zk (c := .func 11) (xs := #[.tmp 39, .tmp 40]) [] (rCanonical_c HP (famLen hs1f).states (Rd.cg_ok HI hs2f)) rfl (by kernel_rfl) rfl (Xs := [.agg (cFm p), .agg (Rd.cCg c)]) rfl rfl rfl) I0 I0 I0 (pM (mT 41 (.tup [.fr (.agg (Rd.cCg (Ct.cnC p c))), iv (Ct.ctE p c)])) (oA (Y2 (X := .fr (.agg (Rd.cCg (Ct.cnC p c)))) (.tmp 38) rfl rfl) I0 (oA (Y2 (X := iv (Ct.ctE p c)) (.tmp 38) rfl rfl) I0 (Yi rfl (Y4 (z := .agg #[.slice none 0 0, .slice none 0 0, .int .i64 0, .slice none 0 0, .slice none 0 0, .int .i64 0]) (k := 4) rfl (by kernel_rfl)) T0 T0 rfl (Yi rfl (ZV (T0 := 29) (X := .agg [.fr (Zh ((Ct.cnC p c).sh)), .fr (Zh ((Ct.cnC p c).st)), iv ((Ct.cnC p c).cor), .fr (Zh ((Ct.cnC p c).se)), .fr (Zh ((Ct.cnC p c).fa)), iv ((Ct.cnC p c).val)]) (cs := [.v (.slice none 0 0), .v (.slice none 0 0), iv 0, .v (.slice none 0 0), .v (.slice none 0 0), iv 0]) (ds := [.fr (Zh ((Ct.cnC p c).sh)), .fr (Zh ((Ct.cnC p c).st)), iv ((Ct.cnC p c).cor), .fr (Zh ((Ct.cnC p c).se)), .fr (Zh ((Ct.cnC p c).fa)), iv ((Ct.cnC p c).val)]) (z := 6) (.tmp 11) (.tmp 42) rfl (by kernel_rfl) (by kernel_rfl) (by kernel_rfl) (of_decide_eq_true (by kernel_rfl)) (by kernel_rfl)) ⟨I0, .inr (.inr (.inl ⟨_, rfl, rfl⟩)), T0⟩ ⟨rfl, T0⟩ rfl (pM (aT 43 (iv (Ct.ctE p c))) ?_)))))))))))
 refine kN 66 [(3, .box 29 [.fr (Zh ((Ct.cnC p c).sh)), .fr (Zh ((Ct.cnC p c).st)), iv ((Ct.cnC p c).cor), .fr (Zh ((Ct.cnC p c).se)), .fr (Zh ((Ct.cnC p c).fa)), iv ((Ct.cnC p c).val)]), (4, .box 29 [.fr (Zh ((Ct.cnC p c).sh)), .fr (Zh ((Ct.cnC p c).st)), iv ((Ct.cnC p c).cor), .fr (Zh ((Ct.cnC p c).se)), .fr (Zh ((Ct.cnC p c).fa)), iv ((Ct.cnC p c).val)])] [(4, bv false), (5, .fr (Zh (Ct.ctL p c))), (6, iv (Ct.ctE p c)), (7, .fr (Zh (Ct.ctL p c))), (8, iv (Ct.ctE p c)), (9, .box 3 0), (10, iv (Ct.ctE p c)), (11, .box 4 0), (12, iv (Ct.ctE p c))] (Zd (Zb (Za (pM (mT 6 (iv (Ct.ctE p c))) (pM (mT 8 (iv (Ct.ctE p c))) (oC (Ya rfl (dT rfl)) I0 I0 (pM (mT 46 (bv true)) (qM (mT 5 (.fr (Zh (Ct.ctL p c)))) (qM (mT 7 (.fr (Zh (Ct.ctL p c)))) (YS rfl (Zk (c := .func 12) (xs := #[.tmp 48, .tmp 49]) [] (sameInts_c (Ct.ctL p c) (Ct.ctL_ok (Rd.cg_ok HI hs2f))) rfl (by kernel_rfl) rfl (Xs := [Zh (Ct.ctL p c), Zh (Ct.ctL p c)]) rfl rfl rfl) ⟨I0, .inr (.inl rfl), .inr (.inl rfl), T0⟩ T0 T0 (pP (Zi (.tmp 47) (.tmp 50) (.const (.bool false)) true (bv true) (bv false) rfl) ?_)))))))))))
 refine pM (mT 51 (bv true)) (qM (mT 10 (iv (Ct.ctE p c))) (qM (mT 12 (iv (Ct.ctE p c))) (gC (Ya rfl (dT rfl)) I0 I0 (pP (Zi (.tmp 52) (.tmp 55) (.const (.bool false)) true (bv true) (bv false) rfl) (pM (mT 56 (bv true)) (gB (Zn (Y := .box 29 [.fr (Zh ((Ct.cnC p c).sh)), .fr (Zh ((Ct.cnC p c).st)), iv ((Ct.cnC p c).cor), .fr (Zh ((Ct.cnC p c).se)), .fr (Zh ((Ct.cnC p c).fa)), iv ((Ct.cnC p c).val)]) (ds := [.fr (Zh ((Ct.cnC p c).sh)), .fr (Zh ((Ct.cnC p c).st)), iv ((Ct.cnC p c).cor), .fr (Zh ((Ct.cnC p c).se)), .fr (Zh ((Ct.cnC p c).fa)), iv ((Ct.cnC p c).val)]) (z := 6) (.tmp 9) rfl U29 rfl (by kernel_rfl) (by decide) (by kernel_rfl) (by kernel_rfl)) I0 rfl (gB (Zn (Y := .box 29 [.fr (Zh ((Ct.cnC p c).sh)), .fr (Zh ((Ct.cnC p c).st)), iv ((Ct.cnC p c).cor), .fr (Zh ((Ct.cnC p c).se)), .fr (Zh ((Ct.cnC p c).fa)), iv ((Ct.cnC p c).val)]) (ds := [.fr (Zh ((Ct.cnC p c).sh)), .fr (Zh ((Ct.cnC p c).st)), iv ((Ct.cnC p c).cor), .fr (Zh ((Ct.cnC p c).se)), .fr (Zh ((Ct.cnC p c).fa)), iv ((Ct.cnC p c).val)]) (z := 6) (.tmp 11) rfl U29 rfl (by kernel_rfl) (by decide) (by kernel_rfl) (by kernel_rfl)) I0 rfl (gD (Zk (c := .func 13) (xs := #[.tmp 58, .tmp 59]) [] (Rd.rCompare_c (Ct.cnC_in HI)) rfl (by kernel_rfl) rfl (Xs := [.agg [.fr (Zh ((Ct.cnC p c).sh)), .fr (Zh ((Ct.cnC p c).st)), iv ((Ct.cnC p c).cor), .fr (Zh ((Ct.cnC p c).se)), .fr (Zh ((Ct.cnC p c).fa)), iv ((Ct.cnC p c).val)], .agg [.fr (Zh ((Ct.cnC p c).sh)), .fr (Zh ((Ct.cnC p c).st)), iv ((Ct.cnC p c).cor), .fr (Zh ((Ct.cnC p c).se)), .fr (Zh ((Ct.cnC p c).fa)), iv ((Ct.cnC p c).val)]]) rfl rfl rfl) I0 I0 I0 (gC (Ya (r := true) rfl (by decide)) I0 I0 (pP (Zi (.tmp 57) (.tmp 61) (.const (.bool false)) true (bv true) (bv false) rfl) (pM (mT 62 (bv true)) ?_)))))))))))
 refine gA (Zk (c := .func 7) (xs := #[]) [] Sh.zknown_c rfl (by kernel_rfl) rfl (Xs := []) rfl rfl rfl) I0 (pP (Zi (.tmp 63) (.tmp 64) (.const (.bool false)) true (bv true) (bv false) rfl) (pM (aT 65 (bv true)) (Zu (Zd (Zt ?_)))))
 refine Zv Tryz.results3 (.tmp rfl) ?_
 exact rfl
theorem walk_Counts {v : Value} {p : Fm} {u0 u1 u3 u4 : Value} {xs0 xs1 xs3 xs4 : List Int} {c2 c5 : Int} (w : World) (hp : IsFam 0 w v p) (h0 : IsInts 0 w u0 xs0) (h1 : IsInts 0 w u1 xs1) (b2 : I64 c2) (h3 : IsInts 0 w u3 xs3) (h4 : IsInts 0 w u4 xs4) (b5 : I64 c5) :
    Calls Tryz.prog 3 #[v, .agg #[u0, u1, .int .i64 c2, u3, u4, .int .i64 c5]] w fun e w' => e = .returned (.bool true) ∧ Below w.heap.size w w' := by
  have hc : IsCf 0 w (.agg #[u0, u1, .int .i64 c2, u3, u4, .int .i64 c5]) ⟨xs0, xs1, c2, xs3, xs4, c5⟩ := ⟨u0, u1, u3, u4, rfl, h0, h1, b2, h3, h4, b5⟩
  exact (lawCounts_c (J := fun _ => True) hp.ok (Rd.cf_in hc) w #[v, .agg #[u0, u1, .int .i64 c2, u3, u4, .int .i64 c5]] (fun _ _ => T0) rfl fun j hj => (match j, hj with
    | 0, _ => famw hp
    | 1, _ => Rd.cf_pu (fun _ _ h => h) hc)).mono fun _ _ ⟨_, he, hp, hb⟩ => ⟨by rw [he, hp.v_inv], hb⟩
end Go.Proofs.YtgbgfkhkjlakbaaGreat
