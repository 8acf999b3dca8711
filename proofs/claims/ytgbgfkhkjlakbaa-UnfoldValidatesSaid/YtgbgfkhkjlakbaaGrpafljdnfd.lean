import Derived.Test.YtgbgfkhkjlakbaaGrpgpbpdhfe
import Derived.Test.YtgbgfkhkjlakbaaGrpjeknidcc
import Derived.Test.YtgbgfkhkjlakbaaGrpcamhenbb
import Derived.Test.YtgbgfkhkjlakbaaGrpakkbiahl
import Derived.Test.YtgbgfkhkjlakbaaGrpjohmkmbe
set_option linter.all false
namespace Go.Proofs.Ytgbgfkhkjlakbaa
open Go.RowKit Go.Deep
theorem cmpI_two (a d b x : Int) : cmpI [a, d] [b, x] = orL [cmpN a b, cmpN d x] := by
  unfold cmpN
  simp only [cmpI, orL]
  repeat' split
  all_goals first | rfl | omega | simp_all
theorem two_ints {w : World} {b : Nat} {t : TypeId} {x y : Int} (hg : w.heap[b]? = some (.cells #[.int .i64 x, .int .i64 y] t (0, 0))) (h : I64 x ∧ I64 y) :
    IsInts 0 w (.slice (some ⟨b, 0, none⟩) 2 2) [x, y] :=
  Kj (xs := [x, y]) hg (Nat.zero_le _) rfl (Nat.le_refl _) (by unfold maxLen; omega) (fun u hu => by simp at hu; exact hu.elim (fun e => e ▸ h.1) fun e => e ▸ h.2) fun i hi => by
    match i, hi with
    | 0, _ => rfl
    | 1, _ => rfl
set_option maxHeartbeats 3200000 in
theorem rcfCompare_any {lo lo' : Nat} {w : World} {v v' : Value} {p q : Cf} (h : IsCf lo w v p) (h' : IsCf lo' w v' q) :
    Calls Try.prog 18 #[v, v'] w fun e w' => e = .returned (.int .i64 (cmpCf p q)) ∧ Below w.heap.size w w' := by
  obtain ⟨u0, u1, u3, u4, rfl, h0, h1, g2, h3, h4, g5⟩ := h
  obtain ⟨v0, v1, v3, v4, rfl, k0, k1, l2, k3, k4, l5⟩ := h'
  obtain ⟨a0, c0, rfl⟩ := h0.shape
  obtain ⟨b0, d0, rfl⟩ := k0.shape
  have H0 := Lib.hid h0
  have K0 := Lib.hid k0
  obtain ⟨a1, c1, rfl⟩ := h1.shape
  obtain ⟨b1, d1, rfl⟩ := k1.shape
  have H1 := Lib.hid h1
  have K1 := Lib.hid k1
  obtain ⟨a3, c3, rfl⟩ := h3.shape
  obtain ⟨b3, d3, rfl⟩ := k3.shape
  have H3 := Lib.hid h3
  have K3 := Lib.hid k3
  obtain ⟨a4, c4, rfl⟩ := h4.shape
  obtain ⟨b4, d4, rfl⟩ := k4.shape
  have H4 := Lib.hid h4
  have K4 := Lib.hid k4
  have G := Lib.hid (And.intro g2 g5)
  have G' := Lib.hid (And.intro l2 l5)
  clear h0 h1 h3 h4 k0 k1 k3 k4 g2 g5 l2 l5
  have E : Hid (cmpCf p q = orL [cmpI p.sh q.sh, cmpI p.st q.st, cmpI p.se q.se, cmpI p.fa q.fa, cmpN p.cor q.cor, cmpN p.val q.val]) := (rfl : cmpCf p q = _)
  obtain ⟨e0, j0⟩ : ∃ e, e = cmpI p.sh q.sh := ⟨_, rfl⟩
  rw [← j0] at E
  have J0 := Lib.hid j0
  obtain ⟨e1, j1⟩ : ∃ e, e = cmpI p.st q.st := ⟨_, rfl⟩
  rw [← j1] at E
  have J1 := Lib.hid j1
  obtain ⟨e2, j2⟩ : ∃ e, e = cmpI p.se q.se := ⟨_, rfl⟩
  rw [← j2] at E
  have J2 := Lib.hid j2
  obtain ⟨e3, j3⟩ : ∃ e, e = cmpI p.fa q.fa := ⟨_, rfl⟩
  rw [← j3] at E
  have J3 := Lib.hid j3
  clear j0 j1 j2 j3
  have C0 : Hid (∀ w' : World, Below w.heap.size w w' → Calls Try.prog 39 #[.slice a0 p.sh.length c0, .slice b0 q.sh.length d0] w' fun e w'' => e = .returned (.int .i64 e0) ∧ Below w'.heap.size w' w'') := fun w' hb => by
    have h := Kr (H0.out.below hb) (K0.out.below hb)
    rw [← J0.out] at h
    exact h
  have C1 : Hid (∀ w' : World, Below w.heap.size w w' → Calls Try.prog 39 #[.slice a1 p.st.length c1, .slice b1 q.st.length d1] w' fun e w'' => e = .returned (.int .i64 e1) ∧ Below w'.heap.size w' w'') := fun w' hb => by
    have h := Kr (H1.out.below hb) (K1.out.below hb)
    rw [← J1.out] at h
    exact h
  have C2 : Hid (∀ w' : World, Below w.heap.size w w' → Calls Try.prog 39 #[.slice a3 p.se.length c3, .slice b3 q.se.length d3] w' fun e w'' => e = .returned (.int .i64 e2) ∧ Below w'.heap.size w' w'') := fun w' hb => by
    have h := Kr (H3.out.below hb) (K3.out.below hb)
    rw [← J2.out] at h
    exact h
  have C3 : Hid (∀ w' : World, Below w.heap.size w w' → Calls Try.prog 39 #[.slice a4 p.fa.length c4, .slice b4 q.fa.length d4] w' fun e w'' => e = .returned (.int .i64 e3) ∧ Below w'.heap.size w' w'') := fun w' hb => by
    have h := Kr (H4.out.below hb) (K4.out.below hb)
    rw [← J3.out] at h
    exact h
  by_cases z0 : e0 = 0
  · subst z0
    by_cases z1 : e1 = 0
    · subst z1
      by_cases z2 : e2 = 0
      · subst z2
        by_cases z3 : e3 = 0
        · subst z3
          go_enter Try.func18, Try.ntmps18
          go_wp2_with fail
          obtain ⟨W, hW⟩ : ∃ W, W = (w.alloc (.cells #[.slice a0 p.sh.length c0, .slice a1 p.st.length c1, .int .i64 p.cor, .slice a3 p.se.length c3, .slice a4 p.fa.length c4, .int .i64 p.val] 41)).alloc (.cells #[.slice b0 q.sh.length d0, .slice b1 q.st.length d1, .int .i64 q.cor, .slice b3 q.se.length d3, .slice b4 q.fa.length d4, .int .i64 q.val] 41) := ⟨_, rfl⟩
          rw [← hW]
          have HB := Lib.hid (show Below w.heap.size w W by rw [hW]; show Below _ _ _; go_grown)
          have x0 : W.cell? ⟨w.heap.size, 0, none⟩ = some (.slice a0 p.sh.length c0) := by rw [hW]; exact keep1 ((Zn w _ _ 0 rfl).trans rfl) (Zd _ _)
          have y0 : W.cell? ⟨w.heap.size + 1, 0, none⟩ = some (.slice b0 q.sh.length d0) := by rw [hW]; exact (Zn _ _ _ 0 (by simp)).trans rfl
          have x1 : W.cell? ⟨w.heap.size, 1, none⟩ = some (.slice a1 p.st.length c1) := by rw [hW]; exact keep1 ((Zn w _ _ 1 rfl).trans rfl) (Zd _ _)
          have y1 : W.cell? ⟨w.heap.size + 1, 1, none⟩ = some (.slice b1 q.st.length d1) := by rw [hW]; exact (Zn _ _ _ 1 (by simp)).trans rfl
          have x2 : W.cell? ⟨w.heap.size, 2, none⟩ = some (.int .i64 p.cor) := by rw [hW]; exact keep1 ((Zn w _ _ 2 rfl).trans rfl) (Zd _ _)
          have y2 : W.cell? ⟨w.heap.size + 1, 2, none⟩ = some (.int .i64 q.cor) := by rw [hW]; exact (Zn _ _ _ 2 (by simp)).trans rfl
          have x3 : W.cell? ⟨w.heap.size, 3, none⟩ = some (.slice a3 p.se.length c3) := by rw [hW]; exact keep1 ((Zn w _ _ 3 rfl).trans rfl) (Zd _ _)
          have y3 : W.cell? ⟨w.heap.size + 1, 3, none⟩ = some (.slice b3 q.se.length d3) := by rw [hW]; exact (Zn _ _ _ 3 (by simp)).trans rfl
          have x4 : W.cell? ⟨w.heap.size, 4, none⟩ = some (.slice a4 p.fa.length c4) := by rw [hW]; exact keep1 ((Zn w _ _ 4 rfl).trans rfl) (Zd _ _)
          have y4 : W.cell? ⟨w.heap.size + 1, 4, none⟩ = some (.slice b4 q.fa.length d4) := by rw [hW]; exact (Zn _ _ _ 4 (by simp)).trans rfl
          have x5 : W.cell? ⟨w.heap.size, 5, none⟩ = some (.int .i64 p.val) := by rw [hW]; exact keep1 ((Zn w _ _ 5 rfl).trans rfl) (Zd _ _)
          have y5 : W.cell? ⟨w.heap.size + 1, 5, none⟩ = some (.int .i64 q.val) := by rw [hW]; exact (Zn _ _ _ 5 (by simp)).trans rfl
          clear hW
          refine (C0.out _ HB.out).mono ?_
          rintro e w0 ⟨rfl, hb0⟩
          have HB0 := Lib.hid (Zg HB.out hb0)
          replace x0 := keep1 x0 hb0
          replace y0 := keep1 y0 hb0
          replace x1 := keep1 x1 hb0
          replace y1 := keep1 y1 hb0
          replace x2 := keep1 x2 hb0
          replace y2 := keep1 y2 hb0
          replace x3 := keep1 x3 hb0
          replace y3 := keep1 y3 hb0
          replace x4 := keep1 x4 hb0
          replace y4 := keep1 y4 hb0
          replace x5 := keep1 x5 hb0
          replace y5 := keep1 y5 hb0
          clear hb0
          go_wp2_with fail
          refine (C1.out _ HB0.out).mono ?_
          rintro e w1 ⟨rfl, hb1⟩
          have HB1 := Lib.hid (Zg HB0.out hb1)
          replace x0 := keep1 x0 hb1
          replace y0 := keep1 y0 hb1
          replace x1 := keep1 x1 hb1
          replace y1 := keep1 y1 hb1
          replace x2 := keep1 x2 hb1
          replace y2 := keep1 y2 hb1
          replace x3 := keep1 x3 hb1
          replace y3 := keep1 y3 hb1
          replace x4 := keep1 x4 hb1
          replace y4 := keep1 y4 hb1
          replace x5 := keep1 x5 hb1
          replace y5 := keep1 y5 hb1
          clear hb1
          go_wp2_with fail
          refine (C2.out _ HB1.out).mono ?_
          rintro e w2 ⟨rfl, hb2⟩
          have HB2 := Lib.hid (Zg HB1.out hb2)
          replace x0 := keep1 x0 hb2
          replace y0 := keep1 y0 hb2
          replace x1 := keep1 x1 hb2
          replace y1 := keep1 y1 hb2
          replace x2 := keep1 x2 hb2
          replace y2 := keep1 y2 hb2
          replace x3 := keep1 x3 hb2
          replace y3 := keep1 y3 hb2
          replace x4 := keep1 x4 hb2
          replace y4 := keep1 y4 hb2
          replace x5 := keep1 x5 hb2
          replace y5 := keep1 y5 hb2
          clear hb2
          go_wp2_with fail
          refine (C3.out _ HB2.out).mono ?_
          rintro e w3 ⟨rfl, hb3⟩
          have HB3 := Lib.hid (Zg HB2.out hb3)
          replace x0 := keep1 x0 hb3
          replace y0 := keep1 y0 hb3
          replace x1 := keep1 x1 hb3
          replace y1 := keep1 y1 hb3
          replace x2 := keep1 x2 hb3
          replace y2 := keep1 y2 hb3
          replace x3 := keep1 x3 hb3
          replace y3 := keep1 y3 hb3
          replace x4 := keep1 x4 hb3
          replace y4 := keep1 y4 hb3
          replace x5 := keep1 x5 hb3
          replace y5 := keep1 y5 hb3
          clear hb3
          have hz3 : w.heap.size + 1 < w3.heap.size := cell_lt y2
          have hz4 : w.heap.size < w3.heap.size := cell_lt x2
          go_wp2_with (go_at_call 39; refine (Kr (two_ints ((Kk _ _ (by go_size)).trans (ZN _ _ (by go_size))) G.out) (two_ints (ZN _ _ (by go_size)) G'.out)).mono ?_; rintro e w5 ⟨rfl, hb5⟩)
          go_ret
          exact ⟨Zz (by rw [E.out, cmpI_two]; simp only [orL, if_pos]), Zg HB3.out (Below.trans (by go_grown) (hb5.mono (by go_size)))⟩
        have zz3 : (e3 != 0) = true := by simpa using z3
        have N := Lib.hid z3
        clear z3
        go_enter Try.func18, Try.ntmps18
        go_wp2_with fail
        obtain ⟨W, hW⟩ : ∃ W, W = (w.alloc (.cells #[.slice a0 p.sh.length c0, .slice a1 p.st.length c1, .int .i64 p.cor, .slice a3 p.se.length c3, .slice a4 p.fa.length c4, .int .i64 p.val] 41)).alloc (.cells #[.slice b0 q.sh.length d0, .slice b1 q.st.length d1, .int .i64 q.cor, .slice b3 q.se.length d3, .slice b4 q.fa.length d4, .int .i64 q.val] 41) := ⟨_, rfl⟩
        rw [← hW]
        have HB := Lib.hid (show Below w.heap.size w W by rw [hW]; show Below _ _ _; go_grown)
        have x0 : W.cell? ⟨w.heap.size, 0, none⟩ = some (.slice a0 p.sh.length c0) := by rw [hW]; exact keep1 ((Zn w _ _ 0 rfl).trans rfl) (Zd _ _)
        have y0 : W.cell? ⟨w.heap.size + 1, 0, none⟩ = some (.slice b0 q.sh.length d0) := by rw [hW]; exact (Zn _ _ _ 0 (by simp)).trans rfl
        have x1 : W.cell? ⟨w.heap.size, 1, none⟩ = some (.slice a1 p.st.length c1) := by rw [hW]; exact keep1 ((Zn w _ _ 1 rfl).trans rfl) (Zd _ _)
        have y1 : W.cell? ⟨w.heap.size + 1, 1, none⟩ = some (.slice b1 q.st.length d1) := by rw [hW]; exact (Zn _ _ _ 1 (by simp)).trans rfl
        have x2 : W.cell? ⟨w.heap.size, 2, none⟩ = some (.int .i64 p.cor) := by rw [hW]; exact keep1 ((Zn w _ _ 2 rfl).trans rfl) (Zd _ _)
        have y2 : W.cell? ⟨w.heap.size + 1, 2, none⟩ = some (.int .i64 q.cor) := by rw [hW]; exact (Zn _ _ _ 2 (by simp)).trans rfl
        have x3 : W.cell? ⟨w.heap.size, 3, none⟩ = some (.slice a3 p.se.length c3) := by rw [hW]; exact keep1 ((Zn w _ _ 3 rfl).trans rfl) (Zd _ _)
        have y3 : W.cell? ⟨w.heap.size + 1, 3, none⟩ = some (.slice b3 q.se.length d3) := by rw [hW]; exact (Zn _ _ _ 3 (by simp)).trans rfl
        have x4 : W.cell? ⟨w.heap.size, 4, none⟩ = some (.slice a4 p.fa.length c4) := by rw [hW]; exact keep1 ((Zn w _ _ 4 rfl).trans rfl) (Zd _ _)
        have y4 : W.cell? ⟨w.heap.size + 1, 4, none⟩ = some (.slice b4 q.fa.length d4) := by rw [hW]; exact (Zn _ _ _ 4 (by simp)).trans rfl
        have x5 : W.cell? ⟨w.heap.size, 5, none⟩ = some (.int .i64 p.val) := by rw [hW]; exact keep1 ((Zn w _ _ 5 rfl).trans rfl) (Zd _ _)
        have y5 : W.cell? ⟨w.heap.size + 1, 5, none⟩ = some (.int .i64 q.val) := by rw [hW]; exact (Zn _ _ _ 5 (by simp)).trans rfl
        clear hW
        refine (C0.out _ HB.out).mono ?_
        rintro e w0 ⟨rfl, hb0⟩
        have HB0 := Lib.hid (Zg HB.out hb0)
        replace x0 := keep1 x0 hb0
        replace y0 := keep1 y0 hb0
        replace x1 := keep1 x1 hb0
        replace y1 := keep1 y1 hb0
        replace x2 := keep1 x2 hb0
        replace y2 := keep1 y2 hb0
        replace x3 := keep1 x3 hb0
        replace y3 := keep1 y3 hb0
        replace x4 := keep1 x4 hb0
        replace y4 := keep1 y4 hb0
        replace x5 := keep1 x5 hb0
        replace y5 := keep1 y5 hb0
        clear hb0
        go_wp2_with fail
        refine (C1.out _ HB0.out).mono ?_
        rintro e w1 ⟨rfl, hb1⟩
        have HB1 := Lib.hid (Zg HB0.out hb1)
        replace x0 := keep1 x0 hb1
        replace y0 := keep1 y0 hb1
        replace x1 := keep1 x1 hb1
        replace y1 := keep1 y1 hb1
        replace x2 := keep1 x2 hb1
        replace y2 := keep1 y2 hb1
        replace x3 := keep1 x3 hb1
        replace y3 := keep1 y3 hb1
        replace x4 := keep1 x4 hb1
        replace y4 := keep1 y4 hb1
        replace x5 := keep1 x5 hb1
        replace y5 := keep1 y5 hb1
        clear hb1
        go_wp2_with fail
        refine (C2.out _ HB1.out).mono ?_
        rintro e w2 ⟨rfl, hb2⟩
        have HB2 := Lib.hid (Zg HB1.out hb2)
        replace x0 := keep1 x0 hb2
        replace y0 := keep1 y0 hb2
        replace x1 := keep1 x1 hb2
        replace y1 := keep1 y1 hb2
        replace x2 := keep1 x2 hb2
        replace y2 := keep1 y2 hb2
        replace x3 := keep1 x3 hb2
        replace y3 := keep1 y3 hb2
        replace x4 := keep1 x4 hb2
        replace y4 := keep1 y4 hb2
        replace x5 := keep1 x5 hb2
        replace y5 := keep1 y5 hb2
        clear hb2
        go_wp2_with fail
        refine (C3.out _ HB2.out).mono ?_
        rintro e w3 ⟨rfl, hb3⟩
        have HB3 := Lib.hid (Zg HB2.out hb3)
        replace x0 := keep1 x0 hb3
        replace y0 := keep1 y0 hb3
        replace x1 := keep1 x1 hb3
        replace y1 := keep1 y1 hb3
        replace x2 := keep1 x2 hb3
        replace y2 := keep1 y2 hb3
        replace x3 := keep1 x3 hb3
        replace y3 := keep1 y3 hb3
        replace x4 := keep1 x4 hb3
        replace y4 := keep1 y4 hb3
        replace x5 := keep1 x5 hb3
        replace y5 := keep1 y5 hb3
        clear hb3
        go_wp2_with fail
        go_ret
        exact ⟨Zz (by have n := N.out; rw [E.out]; simp [orL, n]), HB3.out⟩
      have zz2 : (e2 != 0) = true := by simpa using z2
      have N := Lib.hid z2
      clear z2
      go_enter Try.func18, Try.ntmps18
      go_wp2_with fail
      obtain ⟨W, hW⟩ : ∃ W, W = (w.alloc (.cells #[.slice a0 p.sh.length c0, .slice a1 p.st.length c1, .int .i64 p.cor, .slice a3 p.se.length c3, .slice a4 p.fa.length c4, .int .i64 p.val] 41)).alloc (.cells #[.slice b0 q.sh.length d0, .slice b1 q.st.length d1, .int .i64 q.cor, .slice b3 q.se.length d3, .slice b4 q.fa.length d4, .int .i64 q.val] 41) := ⟨_, rfl⟩
      rw [← hW]
      have HB := Lib.hid (show Below w.heap.size w W by rw [hW]; show Below _ _ _; go_grown)
      have x0 : W.cell? ⟨w.heap.size, 0, none⟩ = some (.slice a0 p.sh.length c0) := by rw [hW]; exact keep1 ((Zn w _ _ 0 rfl).trans rfl) (Zd _ _)
      have y0 : W.cell? ⟨w.heap.size + 1, 0, none⟩ = some (.slice b0 q.sh.length d0) := by rw [hW]; exact (Zn _ _ _ 0 (by simp)).trans rfl
      have x1 : W.cell? ⟨w.heap.size, 1, none⟩ = some (.slice a1 p.st.length c1) := by rw [hW]; exact keep1 ((Zn w _ _ 1 rfl).trans rfl) (Zd _ _)
      have y1 : W.cell? ⟨w.heap.size + 1, 1, none⟩ = some (.slice b1 q.st.length d1) := by rw [hW]; exact (Zn _ _ _ 1 (by simp)).trans rfl
      have x2 : W.cell? ⟨w.heap.size, 2, none⟩ = some (.int .i64 p.cor) := by rw [hW]; exact keep1 ((Zn w _ _ 2 rfl).trans rfl) (Zd _ _)
      have y2 : W.cell? ⟨w.heap.size + 1, 2, none⟩ = some (.int .i64 q.cor) := by rw [hW]; exact (Zn _ _ _ 2 (by simp)).trans rfl
      have x3 : W.cell? ⟨w.heap.size, 3, none⟩ = some (.slice a3 p.se.length c3) := by rw [hW]; exact keep1 ((Zn w _ _ 3 rfl).trans rfl) (Zd _ _)
      have y3 : W.cell? ⟨w.heap.size + 1, 3, none⟩ = some (.slice b3 q.se.length d3) := by rw [hW]; exact (Zn _ _ _ 3 (by simp)).trans rfl
      have x4 : W.cell? ⟨w.heap.size, 4, none⟩ = some (.slice a4 p.fa.length c4) := by rw [hW]; exact keep1 ((Zn w _ _ 4 rfl).trans rfl) (Zd _ _)
      have y4 : W.cell? ⟨w.heap.size + 1, 4, none⟩ = some (.slice b4 q.fa.length d4) := by rw [hW]; exact (Zn _ _ _ 4 (by simp)).trans rfl
      have x5 : W.cell? ⟨w.heap.size, 5, none⟩ = some (.int .i64 p.val) := by rw [hW]; exact keep1 ((Zn w _ _ 5 rfl).trans rfl) (Zd _ _)
      have y5 : W.cell? ⟨w.heap.size + 1, 5, none⟩ = some (.int .i64 q.val) := by rw [hW]; exact (Zn _ _ _ 5 (by simp)).trans rfl
      clear hW
      refine (C0.out _ HB.out).mono ?_
      rintro e w0 ⟨rfl, hb0⟩
      have HB0 := Lib.hid (Zg HB.out hb0)
      replace x0 := keep1 x0 hb0
      replace y0 := keep1 y0 hb0
      replace x1 := keep1 x1 hb0
      replace y1 := keep1 y1 hb0
      replace x2 := keep1 x2 hb0
      replace y2 := keep1 y2 hb0
      replace x3 := keep1 x3 hb0
      replace y3 := keep1 y3 hb0
      replace x4 := keep1 x4 hb0
      replace y4 := keep1 y4 hb0
      replace x5 := keep1 x5 hb0
      replace y5 := keep1 y5 hb0
      clear hb0
      go_wp2_with fail
      refine (C1.out _ HB0.out).mono ?_
      rintro e w1 ⟨rfl, hb1⟩
      have HB1 := Lib.hid (Zg HB0.out hb1)
      replace x0 := keep1 x0 hb1
      replace y0 := keep1 y0 hb1
      replace x1 := keep1 x1 hb1
      replace y1 := keep1 y1 hb1
      replace x2 := keep1 x2 hb1
      replace y2 := keep1 y2 hb1
      replace x3 := keep1 x3 hb1
      replace y3 := keep1 y3 hb1
      replace x4 := keep1 x4 hb1
      replace y4 := keep1 y4 hb1
      replace x5 := keep1 x5 hb1
      replace y5 := keep1 y5 hb1
      clear hb1
      go_wp2_with fail
      refine (C2.out _ HB1.out).mono ?_
      rintro e w2 ⟨rfl, hb2⟩
      have HB2 := Lib.hid (Zg HB1.out hb2)
      replace x0 := keep1 x0 hb2
      replace y0 := keep1 y0 hb2
      replace x1 := keep1 x1 hb2
      replace y1 := keep1 y1 hb2
      replace x2 := keep1 x2 hb2
      replace y2 := keep1 y2 hb2
      replace x3 := keep1 x3 hb2
      replace y3 := keep1 y3 hb2
      replace x4 := keep1 x4 hb2
      replace y4 := keep1 y4 hb2
      replace x5 := keep1 x5 hb2
      replace y5 := keep1 y5 hb2
      clear hb2
      go_wp2_with fail
      go_ret
      exact ⟨Zz (by have n := N.out; rw [E.out]; simp [orL, n]), HB2.out⟩
    have zz1 : (e1 != 0) = true := by simpa using z1
    have N := Lib.hid z1
    clear z1
    go_enter Try.func18, Try.ntmps18
    go_wp2_with fail
    obtain ⟨W, hW⟩ : ∃ W, W = (w.alloc (.cells #[.slice a0 p.sh.length c0, .slice a1 p.st.length c1, .int .i64 p.cor, .slice a3 p.se.length c3, .slice a4 p.fa.length c4, .int .i64 p.val] 41)).alloc (.cells #[.slice b0 q.sh.length d0, .slice b1 q.st.length d1, .int .i64 q.cor, .slice b3 q.se.length d3, .slice b4 q.fa.length d4, .int .i64 q.val] 41) := ⟨_, rfl⟩
    rw [← hW]
    have HB := Lib.hid (show Below w.heap.size w W by rw [hW]; show Below _ _ _; go_grown)
    have x0 : W.cell? ⟨w.heap.size, 0, none⟩ = some (.slice a0 p.sh.length c0) := by rw [hW]; exact keep1 ((Zn w _ _ 0 rfl).trans rfl) (Zd _ _)
    have y0 : W.cell? ⟨w.heap.size + 1, 0, none⟩ = some (.slice b0 q.sh.length d0) := by rw [hW]; exact (Zn _ _ _ 0 (by simp)).trans rfl
    have x1 : W.cell? ⟨w.heap.size, 1, none⟩ = some (.slice a1 p.st.length c1) := by rw [hW]; exact keep1 ((Zn w _ _ 1 rfl).trans rfl) (Zd _ _)
    have y1 : W.cell? ⟨w.heap.size + 1, 1, none⟩ = some (.slice b1 q.st.length d1) := by rw [hW]; exact (Zn _ _ _ 1 (by simp)).trans rfl
    have x2 : W.cell? ⟨w.heap.size, 2, none⟩ = some (.int .i64 p.cor) := by rw [hW]; exact keep1 ((Zn w _ _ 2 rfl).trans rfl) (Zd _ _)
    have y2 : W.cell? ⟨w.heap.size + 1, 2, none⟩ = some (.int .i64 q.cor) := by rw [hW]; exact (Zn _ _ _ 2 (by simp)).trans rfl
    have x3 : W.cell? ⟨w.heap.size, 3, none⟩ = some (.slice a3 p.se.length c3) := by rw [hW]; exact keep1 ((Zn w _ _ 3 rfl).trans rfl) (Zd _ _)
    have y3 : W.cell? ⟨w.heap.size + 1, 3, none⟩ = some (.slice b3 q.se.length d3) := by rw [hW]; exact (Zn _ _ _ 3 (by simp)).trans rfl
    have x4 : W.cell? ⟨w.heap.size, 4, none⟩ = some (.slice a4 p.fa.length c4) := by rw [hW]; exact keep1 ((Zn w _ _ 4 rfl).trans rfl) (Zd _ _)
    have y4 : W.cell? ⟨w.heap.size + 1, 4, none⟩ = some (.slice b4 q.fa.length d4) := by rw [hW]; exact (Zn _ _ _ 4 (by simp)).trans rfl
    have x5 : W.cell? ⟨w.heap.size, 5, none⟩ = some (.int .i64 p.val) := by rw [hW]; exact keep1 ((Zn w _ _ 5 rfl).trans rfl) (Zd _ _)
    have y5 : W.cell? ⟨w.heap.size + 1, 5, none⟩ = some (.int .i64 q.val) := by rw [hW]; exact (Zn _ _ _ 5 (by simp)).trans rfl
    clear hW
    refine (C0.out _ HB.out).mono ?_
    rintro e w0 ⟨rfl, hb0⟩
    have HB0 := Lib.hid (Zg HB.out hb0)
    replace x0 := keep1 x0 hb0
    replace y0 := keep1 y0 hb0
    replace x1 := keep1 x1 hb0
    replace y1 := keep1 y1 hb0
    replace x2 := keep1 x2 hb0
    replace y2 := keep1 y2 hb0
    replace x3 := keep1 x3 hb0
    replace y3 := keep1 y3 hb0
    replace x4 := keep1 x4 hb0
    replace y4 := keep1 y4 hb0
    replace x5 := keep1 x5 hb0
    replace y5 := keep1 y5 hb0
    clear hb0
    go_wp2_with fail
    refine (C1.out _ HB0.out).mono ?_
    rintro e w1 ⟨rfl, hb1⟩
    have HB1 := Lib.hid (Zg HB0.out hb1)
    replace x0 := keep1 x0 hb1
    replace y0 := keep1 y0 hb1
    replace x1 := keep1 x1 hb1
    replace y1 := keep1 y1 hb1
    replace x2 := keep1 x2 hb1
    replace y2 := keep1 y2 hb1
    replace x3 := keep1 x3 hb1
    replace y3 := keep1 y3 hb1
    replace x4 := keep1 x4 hb1
    replace y4 := keep1 y4 hb1
    replace x5 := keep1 x5 hb1
    replace y5 := keep1 y5 hb1
    clear hb1
    go_wp2_with fail
    go_ret
    exact ⟨Zz (by have n := N.out; rw [E.out]; simp [orL, n]), HB1.out⟩
  have zz0 : (e0 != 0) = true := by simpa using z0
  have N := Lib.hid z0
  clear z0
  go_enter Try.func18, Try.ntmps18
  go_wp2_with fail
  obtain ⟨W, hW⟩ : ∃ W, W = (w.alloc (.cells #[.slice a0 p.sh.length c0, .slice a1 p.st.length c1, .int .i64 p.cor, .slice a3 p.se.length c3, .slice a4 p.fa.length c4, .int .i64 p.val] 41)).alloc (.cells #[.slice b0 q.sh.length d0, .slice b1 q.st.length d1, .int .i64 q.cor, .slice b3 q.se.length d3, .slice b4 q.fa.length d4, .int .i64 q.val] 41) := ⟨_, rfl⟩
  rw [← hW]
  have HB := Lib.hid (show Below w.heap.size w W by rw [hW]; show Below _ _ _; go_grown)
  have x0 : W.cell? ⟨w.heap.size, 0, none⟩ = some (.slice a0 p.sh.length c0) := by rw [hW]; exact keep1 ((Zn w _ _ 0 rfl).trans rfl) (Zd _ _)
  have y0 : W.cell? ⟨w.heap.size + 1, 0, none⟩ = some (.slice b0 q.sh.length d0) := by rw [hW]; exact (Zn _ _ _ 0 (by simp)).trans rfl
  have x1 : W.cell? ⟨w.heap.size, 1, none⟩ = some (.slice a1 p.st.length c1) := by rw [hW]; exact keep1 ((Zn w _ _ 1 rfl).trans rfl) (Zd _ _)
  have y1 : W.cell? ⟨w.heap.size + 1, 1, none⟩ = some (.slice b1 q.st.length d1) := by rw [hW]; exact (Zn _ _ _ 1 (by simp)).trans rfl
  have x2 : W.cell? ⟨w.heap.size, 2, none⟩ = some (.int .i64 p.cor) := by rw [hW]; exact keep1 ((Zn w _ _ 2 rfl).trans rfl) (Zd _ _)
  have y2 : W.cell? ⟨w.heap.size + 1, 2, none⟩ = some (.int .i64 q.cor) := by rw [hW]; exact (Zn _ _ _ 2 (by simp)).trans rfl
  have x3 : W.cell? ⟨w.heap.size, 3, none⟩ = some (.slice a3 p.se.length c3) := by rw [hW]; exact keep1 ((Zn w _ _ 3 rfl).trans rfl) (Zd _ _)
  have y3 : W.cell? ⟨w.heap.size + 1, 3, none⟩ = some (.slice b3 q.se.length d3) := by rw [hW]; exact (Zn _ _ _ 3 (by simp)).trans rfl
  have x4 : W.cell? ⟨w.heap.size, 4, none⟩ = some (.slice a4 p.fa.length c4) := by rw [hW]; exact keep1 ((Zn w _ _ 4 rfl).trans rfl) (Zd _ _)
  have y4 : W.cell? ⟨w.heap.size + 1, 4, none⟩ = some (.slice b4 q.fa.length d4) := by rw [hW]; exact (Zn _ _ _ 4 (by simp)).trans rfl
  have x5 : W.cell? ⟨w.heap.size, 5, none⟩ = some (.int .i64 p.val) := by rw [hW]; exact keep1 ((Zn w _ _ 5 rfl).trans rfl) (Zd _ _)
  have y5 : W.cell? ⟨w.heap.size + 1, 5, none⟩ = some (.int .i64 q.val) := by rw [hW]; exact (Zn _ _ _ 5 (by simp)).trans rfl
  clear hW
  refine (C0.out _ HB.out).mono ?_
  rintro e w0 ⟨rfl, hb0⟩
  have HB0 := Lib.hid (Zg HB.out hb0)
  replace x0 := keep1 x0 hb0
  replace y0 := keep1 y0 hb0
  replace x1 := keep1 x1 hb0
  replace y1 := keep1 y1 hb0
  replace x2 := keep1 x2 hb0
  replace y2 := keep1 y2 hb0
  replace x3 := keep1 x3 hb0
  replace y3 := keep1 y3 hb0
  replace x4 := keep1 x4 hb0
  replace y4 := keep1 y4 hb0
  replace x5 := keep1 x5 hb0
  replace y5 := keep1 y5 hb0
  clear hb0
  go_wp2_with fail
  go_ret
  exact ⟨Zz (by have n := N.out; rw [E.out]; simp [orL, n]), HB0.out⟩
end Go.Proofs.Ytgbgfkhkjlakbaa

namespace Go.Proofs.Ytgbgfkhkjlakbaa
theorem cmpI_anti : ∀ (xs ys : List Int), cmpI ys xs = -cmpI xs ys
  | [], [] => rfl
  | [], _ :: _ => rfl
  | _ :: _, [] => rfl
  | x :: xs, y :: ys => by
    simp only [cmpI]
    by_cases h1 : x < y
    · rw [if_neg (by omega), if_pos h1, if_pos h1]; rfl
    by_cases h2 : y < x
    · rw [if_pos h2, if_neg h1, if_pos h2]
    rw [if_neg h2, if_neg h1, if_neg h1, if_neg h2]; exact cmpI_anti xs ys
theorem cmpN_vals (x y : Int) : (cmpN x y = -1 ∧ x < y) ∨ (cmpN x y = 0 ∧ x = y) ∨ (cmpN x y = 1 ∧ y < x) := by
  unfold cmpN
  split
  · exact .inl ⟨rfl, by assumption⟩
  split
  · exact .inr (.inr ⟨rfl, by assumption⟩)
  exact .inr (.inl ⟨rfl, by omega⟩)
theorem cmpN_anti (x y : Int) : cmpN y x = -cmpN x y := by
  have := cmpN_vals x y; have := cmpN_vals y x; omega
theorem orL_neg : ∀ xs : List Int, orL (xs.map (- ·)) = -orL xs
  | [] => rfl
  | x :: xs => by
    simp only [List.map_cons, orL, orL_neg xs]
    by_cases h : x = 0
    · rw [if_pos h, if_pos (by omega)]
    rw [if_neg h, if_neg (by omega)]
end Go.Proofs.Ytgbgfkhkjlakbaa

namespace Go.Proofs.Ytgbgfkhkjlakbaa
open Go.RowKit Go.Deep
namespace Rd
section
variable {J : World → Prop} {F ok : Nat → Prop} {w : World} {lo : Nat}
structure CgIn (c : Cf) : Prop where
  sh : InOk c.sh
  st : InOk c.st
  se : InOk c.se
  fa : InOk c.fa
  cor : I64 c.cor
  val : I64 c.val
theorem cf_in {v : Value} {c : Cf} (h : IsCf lo w v c) : CgIn c := by
  obtain ⟨_, _, _, _, _, h0, h1, h2, h3, h4, h5⟩ := h
  exact ⟨h0.ok, h1.ok, h3.ok, h4.ok, h2, h5⟩
theorem cf_pu (hok : ∀ b, lo ≤ b → b < w.heap.size → ok b) {v : Value} {c : Cf} (h : IsCf lo w v c) : Pu F w ok (.agg (cCg c)) v := by
  obtain ⟨u0, u1, u3, u4, rfl, h0, h1, _, h3, h4, _⟩ := h
  refine .agg rfl fun j hj => ?_
  match j, hj with
  | 0, _ => exact Kp hok h0
  | 1, _ => exact Kp hok h1
  | 2, _ => exact .v _
  | 3, _ => exact Kp hok h3
  | 4, _ => exact Kp hok h4
  | 5, _ => exact .v _
theorem cf_of {v : Value} {c : Cf} (H : CgIn c) (h : Pu F w ok (.agg (cCg c)) v) : IsCf 0 w v c := by
  obtain ⟨vs, rfl, hl, hv⟩ := Kn h
  match vs, hl, hv with
  | [v0, v1, v2, v3, v4, v5], _, hv =>
    have e2 := (hv 2 (by simp [cCg])).v_inv
    have e5 := (hv 5 (by simp [cCg])).v_inv
    simp only [List.getD_cons_succ, List.getD_cons_zero] at e2 e5
    subst e2 e5
    exact ⟨v0, v1, v3, v4, rfl, YW H.sh (fun _ _ => Nat.zero_le _) (hv 0 (by simp [cCg])), YW H.st (fun _ _ => Nat.zero_le _) (hv 1 (by simp [cCg])), H.cor, YW H.se (fun _ _ => Nat.zero_le _) (hv 3 (by simp [cCg])), YW H.fa (fun _ _ => Nat.zero_le _) (hv 4 (by simp [cCg])), H.val⟩
theorem agg_app {cs ds : List AV} {us vs : List Value} (h1 : Pu F w ok (.agg cs) (.agg us.toArray)) (h2 : Pu F w ok (.agg ds) (.agg vs.toArray)) : Pu F w ok (.agg (cs ++ ds)) (.agg (us ++ vs).toArray) := by
  obtain ⟨us', e1, l1, p1⟩ := Kn h1
  obtain ⟨vs', e2, l2, p2⟩ := Kn h2
  obtain rfl : us = us' := by simpa using e1
  obtain rfl : vs = vs' := by simpa using e2
  refine .agg (by simp [l1, l2]) fun j hj => ?_
  by_cases hj' : j < cs.length
  · rw [List.getElem_append_left hj']
    have := p1 j hj'
    simpa [Array.getD_eq_getD_getElem?, List.getD_eq_getElem?_getD, List.getElem?_append_left (show j < us.length by omega)] using this
  rw [List.getElem_append_right (by omega)]
  have := p2 (j - cs.length) (by simp at hj; omega)
  simpa [Array.getD_eq_getD_getElem?, List.getD_eq_getElem?_getD, List.getElem?_append_right (show us.length ≤ j by omega), l1] using this
theorem at_pu {v : Value} {q : Fm} {n t f : Int} {c : Cf} (h : IsAt w v q n t f c) : Pu (fun _ => True) w (fun b => b < w.heap.size) (.agg (cFm q ++ (cSz n t f ++ cCg c))) v := by
  obtain ⟨fs, cs, rfl, hF, hC⟩ := h
  refine agg_app (famw hF) (agg_app (.agg rfl fun j hj => ?_) (cf_pu (fun _ _ h => h) hC))
  match j, hj with
  | 0, _ => exact .v _
  | 1, _ => exact .v _
  | 2, _ => exact .v _
theorem Wide_c {c : Cf} (H : CgIn c) : Ctr Try.prog J 14 [.agg (cCg c)] (bv (wideCf c)) := ctr1 fun w v _ h => (Wide_any (cf_of H h)).mono fun _ _ => ret_sc
theorem cmpCf_same (c : Cf) : cmpCf c c = 0 := by
  have h : cmpCf c c = -cmpCf c c := by
    conv => lhs; unfold cmpCf
    unfold cmpCf
    rw [← orL_neg]
    simp only [List.map_cons, List.map_nil]
    rw [← cmpI_anti c.sh c.sh, ← cmpI_anti c.st c.st, ← cmpI_anti c.se c.se, ← cmpI_anti c.fa c.fa, ← cmpN_anti c.cor c.cor, ← cmpN_anti c.val c.val]
  omega
theorem rCompare_c {c : Cf} (H : CgIn c) : Ctr Try.prog J 18 [.agg (cCg c), .agg (cCg c)] (iv 0) := ctr2 fun w v v' _ h h' => by
  have := rcfCompare_any (cf_of H h) (cf_of H h')
  rw [cmpCf_same] at this
  exact this.mono fun _ _ => ret_sc
theorem cg_ok {c : Cf} (H : CgIn c) (h : wideCf c = false) : CgOk c := by
  unfold wideCf at h
  simp only [Bool.or_eq_false_iff, decide_eq_false_iff_not] at h
  exact ⟨H.sh, H.st, H.se, H.fa, by omega, by omega, by omega, by omega⟩
end
end Rd
end Go.Proofs.Ytgbgfkhkjlakbaa

namespace Go.Proofs.Ytgbgfkhkjlakbaa
set_option maxRecDepth 100000
set_option maxHeartbeats 6400000
open Go.RowKit Go.Deep
variable {J : World → Prop}
theorem outB_c {x m : Int} : Ctr Try.prog J 95 [iv x, .el ([iv m]) 0] (bv (Rd.outB m x)) := by
 refine ZL Try.func95 rfl (by intro X hX; simp only [List.mem_cons, List.not_mem_nil, or_false] at hX; rcases hX with rfl | rfl; exact .v _; exact .el (YQ (by intro X hX; rw [List.mem_singleton.1 hX]; exact .v _))) (n := 11) rfl (by simp) (fun w0 => ?_)
 refine kW 11 [] [(0, iv x), (1, .el ([iv m]) 0)] (Zb (Za (pM (aC (.bool false)) (kN 11 [] [(0, iv x), (1, .el ([iv m]) 0), (3, bv false)] (Zc (Zb ?_))))))
 by_cases hs1 : x < 0
 refine Za (pM (mT 0 (iv x)) (oC (Yg rfl (dT hs1)) I0 I0 (pM (mT 5 (bv true)) (qK (qK (qK (pP (Zh (.tmp 6) (.const (.bool true)) (.tmp 9) true (bv true) (.v (.tuple #[])) rfl) (pM (aT 10 (bv true)) (Zv (Zc (Zt ?_)))))))))))
 refine Zs Try.results95 (.tmp rfl) ?_
 exact congrArg (fun x : Bool => AV.v (.bool x)) ((Rd.outB_lo hs1).symm)
 refine Za (pM (mT 0 (iv x)) (oC (Yg rfl (dF hs1)) I0 I0 (pM (mT 5 (bv false)) (qM (mT 0 (iv x)) (gA (ZK (X := iv m) (.tmp 1) rfl U3 rfl rfl) I0 (gC (sp_geq rfl rfl) I0 I0 (pP (Zh (.tmp 6) (.const (.bool true)) (.tmp 9) false (bv true) (bv (decide (m ≤ x))) rfl) (pM (aT 10 (bv (decide (m ≤ x)))) (Zv (Zc (Zt ?_)))))))))))
 refine Zs Try.results95 (.tmp rfl) ?_
 exact congrArg (fun x : Bool => AV.v (.bool x)) ((Rd.outB_hi hs1).symm)
theorem ixOut_c (xs : List Int) {m : Int} (lx : xs.length ≤ 9223372036854775807) : Ctr Try.prog J 100 [Zi xs, .clo 95 [.el ([iv m]) 0]] (iv (Rd.ixP xs (Rd.outB m))) := by
 refine ZL Try.func100 rfl (by intro X hX; simp only [List.mem_cons, List.not_mem_nil, or_false] at hX; rcases hX with rfl | rfl; exact Yo _; exact .clo (fun j hj => match j, hj with | 0, _ => .el (YQ (by intro X hX; rw [List.mem_singleton.1 hX]; exact .v _)))) (n := 19) rfl (by simp) (fun w0 => ?_)
 refine kW 19 [] [(0, Zi xs), (1, .clo 95 [.el ([iv m]) 0])] (Zb (Za (pM (aC (.int .i64 0)) (kN 19 [] [(0, Zi xs), (1, .clo 95 [.el ([iv m]) 0]), (4, iv 0)] (Zc (Zb (Zb (Za (pM (mT 0 (Zi xs)) (oA (Zm (.tmp 6) rfl U24) I0 (pM (sp_move (.const (.int .i64 0)) (iv 0) rfl) ?_)))))))))))
 refine kN 19 [] [(0, Zi xs), (1, .clo 95 [.el ([iv m]) 0]), (4, iv 0), (7, iv xs.length), (8, iv 0)] (Zc (ZQ ?_))
 refine Yy (σ := {k : Nat // k ≤ xs.length ∧ Rd.noP xs (Rd.outB m) k}) (fun s => (ofL [], ofT 19 [(0, Zi xs), (1, .clo 95 [.el ([iv m]) 0]), (7, iv xs.length), (8, iv s.1)])) (fun s => xs.length - s.1) ⟨0, Nat.zero_le _, Rd.noP_zero _ _⟩ (Zq [] _ rfl (by kernel_rfl) (by kernel_rfl)) (fun s => ?_)
 obtain ⟨k, hk0, hs0⟩ := s
 show ETri J w0 (ofL []) (ofT 19 [(0, Zi xs), (1, .clo 95 [.el ([iv m]) 0]), (7, iv xs.length), (8, iv k)]) _
 refine Zb ?_
 by_cases hs1 : ((k : Nat) : Int) < ((xs.length : Nat) : Int)
 refine Za (oC (Yg rfl (dT hs1)) I0 I0 (kN 19 [] [(0, Zi xs), (1, .clo 95 [.el ([iv m]) 0]), (7, iv xs.length), (8, iv k), (9, bv true)] (Zc (Zb (Zw rfl (Zr (Zc (Zb (ZQ (Zb (Za ?_)))))))))))
 refine pM (mT 8 (iv k)) (pM (aT 10 (iv k)) (kN 19 [] [(0, Zi xs), (1, .clo 95 [.el ([iv m]) 0]), (5, iv k), (7, iv xs.length), (8, iv k), (9, bv true)] (Zc (Zb ?_))))
 by_cases hs2 : (Rd.outB m xs[k]) = true
 refine Za (pM (mT 1 (.clo 95 [.el ([iv m]) 0])) (pM (mT 0 (Zi xs)) (pM (mT 5 (iv k)) (oC (ZW (off := k * 1) (.tmp 12) (.tmp 13) rfl U24 (by kernel_rfl) (by omega) (by omega) rfl) I0 I0 (oA (ZK (X := iv xs[k]) (.tmp 14) rfl U3 rfl (Y9 xs (by omega))) I0 (oC (sp_callClo (c := .tmp 11) (xs := #[.tmp 15]) (Cs := [.el ([iv m]) 0]) [] (ZJ outB_c hs2) rfl (by kernel_rfl) rfl (Xs := [iv xs[k]]) rfl rfl rfl rfl rfl) I0 I0 (kN 19 [] [(0, Zi xs), (1, .clo 95 [.el ([iv m]) 0]), (5, iv k), (7, iv xs.length), (8, iv k), (9, bv true), (16, bv true)] (Zc (Zw rfl (Zb (Za ?_)))))))))))
 refine pM (mT 5 (iv k)) (pM (aT 17 (iv k)) (Zv (Zc (Zt (ZF (Zj (Zj (ZF (Zj ?_)))))))))
 refine Zs Try.results100 (.tmp rfl) ?_
 exact congrArg (fun x : Int => AV.v (.int .i64 x)) ((Rd.ixP_at (by omega) hs0 hs2).symm)
 have hs2f : (Rd.outB m xs[k]) = false := by simpa using hs2
 refine Za (pM (mT 1 (.clo 95 [.el ([iv m]) 0])) (pM (mT 0 (Zi xs)) (pM (mT 5 (iv k)) (oC (ZW (off := k * 1) (.tmp 12) (.tmp 13) rfl U24 (by kernel_rfl) (by omega) (by omega) rfl) I0 I0 (oA (ZK (X := iv xs[k]) (.tmp 14) rfl U3 rfl (Y9 xs (by omega))) I0 (oC (sp_callClo (c := .tmp 11) (xs := #[.tmp 15]) (Cs := [.el ([iv m]) 0]) [] (ZJ outB_c hs2f) rfl (by kernel_rfl) rfl (Xs := [iv xs[k]]) rfl rfl rfl rfl rfl) I0 I0 (kN 19 [] [(0, Zi xs), (1, .clo 95 [.el ([iv m]) 0]), (5, iv k), (7, iv xs.length), (8, iv k), (9, bv true), (16, bv false)] (Zc (Zx rfl (Zr (Yx ?_)))))))))))
 refine Zc (Za (oC (Ke (c := ((k + 1 : Nat) : Int)) rfl (w64 (by omega) (by omega) (by omega))) I0 I0 (pM (mT 18 (iv (k + 1 : Nat))) (kN 19 [] [(0, Zi xs), (1, .clo 95 [.el ([iv m]) 0]), (5, iv k), (7, iv xs.length), (8, iv (k + 1 : Nat)), (9, bv true), (16, bv false)] (Zc ?_)))))
 refine Yk ⟨k + 1, by omega, Rd.noP_succ (by omega) hs0 hs2f⟩ (show xs.length - (k + 1) < xs.length - k by omega) ?_
 exact Zq [] _ rfl (by kernel_rfl) (by kernel_rfl)
 refine Za (oC (Yg rfl (dF hs1)) I0 I0 (kN 19 [] [(0, Zi xs), (1, .clo 95 [.el ([iv m]) 0]), (7, iv xs.length), (8, iv k), (9, bv false)] (Zc (Zb (Zx rfl (Yz (ZE (ZE (t_hit (Zc (Zb ?_)))))))))))
 refine Za (pM (aC (.int .i64 (-1))) (Zv (Zc (Zt ?_))))
 refine Zs Try.results100 (.tmp rfl) ?_
 exact congrArg (fun x : Int => AV.v (.int .i64 x)) ((Rd.ixP_none (k := k) (by omega) hs0).symm)
theorem hasOut_c (xs : List Int) {m : Int} (lx : xs.length ≤ 9223372036854775807) : Ctr Try.prog J 71 [Zi xs, .clo 95 [.el ([iv m]) 0]] (bv (xs.any (Rd.outB m))) := by
 refine ZL Try.func71 rfl (by intro X hX; simp only [List.mem_cons, List.not_mem_nil, or_false] at hX; rcases hX with rfl | rfl; exact Yo _; exact .clo (fun j hj => match j, hj with | 0, _ => .el (YQ (by intro X hX; rw [List.mem_singleton.1 hX]; exact .v _)))) (n := 9) rfl (by simp) (fun w0 => ?_)
 refine kW 9 [] [(0, Zi xs), (1, .clo 95 [.el ([iv m]) 0])] (Zb (Za (pM (aC (.bool false)) (kN 9 [] [(0, Zi xs), (1, .clo 95 [.el ([iv m]) 0]), (4, bv false)] (Zc (Zb (Za (pM (mT 0 (Zi xs)) (pM (mT 1 (.clo 95 [.el ([iv m]) 0])) (oD (Zl (c := .func 100) (xs := #[.tmp 5, .tmp 6]) [] (ixOut_c xs lx) rfl (by kernel_rfl) rfl (Xs := [Zi xs, .clo 95 [.el ([iv m]) 0]]) rfl rfl rfl) I0 I0 I0 (oC (sp_geq rfl rfl) I0 I0 ?_)))))))))))
 refine pM (aT 8 (bv (decide (0 ≤ (Rd.ixP xs (Rd.outB m)))))) (Zv (Zc (Zt ?_)))
 refine Zs Try.results71 (.tmp rfl) ?_
 exact congrArg (fun x : Bool => AV.v (.bool x)) (Rd.anyP_ix xs (Rd.outB m))
theorem Ks (xs : List Int) {m : Int} (lx : xs.length ≤ 9223372036854775807) : Ctr Try.prog J 63 [Zi xs, iv m] (bv (Rd.belB xs m)) := by
 refine ZL Try.func63 rfl (by intro X hX; simp only [List.mem_cons, List.not_mem_nil, or_false] at hX; rcases hX with rfl | rfl; exact Yo _; exact .v _) (n := 9) rfl (by simp) (fun w0 => ?_)
 refine kW 9 [] [(0, Zi xs), (1, iv m)] (Zb (Za (Z8 rfl (Z9 (X := iv m) (k := 1) (.tmp 1) rfl rfl) ⟨I0, T0⟩ T0 rfl (pM (aC (.bool false)) (kN 9 [(1, .box 3 [iv m])] [(0, Zi xs), (3, .box 1 0), (4, bv false)] (Zc (Zb (Za (pM (mT 0 (Zi xs)) (oA (sp_makeFunc (xs := #[.tmp 3]) (Xs := [.box 1 0]) rfl rfl) I0 (Z8 rfl (Zl (c := .func 71) (xs := #[.tmp 5, .tmp 6]) [(1, .box 3 [iv m])] (hasOut_c xs lx) rfl (by kernel_rfl) rfl (Xs := [Zi xs, .clo 95 [.box 1 0]]) rfl rfl rfl) ⟨I0, I0, I0, T0⟩ ⟨rfl, T0⟩ T0 ?_)))))))))))
 refine oA (Zy rfl rfl) I0 (pM (aT 8 (bv (!(xs.any (Rd.outB m))))) (Zv (Zc (Zt ?_))))
 refine Zs Try.results63 (.tmp rfl) ?_
 exact rfl
end Go.Proofs.Ytgbgfkhkjlakbaa

namespace Go.Proofs.Ytgbgfkhkjlakbaa
set_option maxRecDepth 100000
set_option maxHeartbeats 6400000
open Go.RowKit Go.Deep
variable {J : World → Prop}
theorem linksOf_row {top : Int} {c : Nat} (ht : top = 2 ∨ top = 3) (hc : c ≤ 8) : Ctr Try.prog J 43 [iv top, .v (.slice none 0 0), iv c] (.sl 3 c (Ns.lkZ top c c)) := by
 refine ZL Try.func43 rfl (by intro X hX; simp only [List.mem_cons, List.not_mem_nil, or_false] at hX; rcases hX with rfl | rfl | rfl; exact .v _; exact .v _; exact .v _) (n := 33) rfl (by simp) (fun w0 => ?_)
 refine kW 33 [] [(0, iv top), (1, .v (.slice none 0 0)), (2, iv c)] (Zb (Za (pM (YA (.const (.slice none 0 0)) (.v (.slice none 0 0)) rfl) (kN 33 [] [(0, iv top), (1, .v (.slice none 0 0)), (2, iv c), (6, .v (.slice none 0 0))] (Zc (Zb (Zb (Za (pM (mT 0 (iv top)) (kN 33 [] [(0, iv top), (1, .v (.slice none 0 0)), (2, iv c), (6, .v (.slice none 0 0)), (9, iv top)] (Zc ?_)))))))))))
 refine ZQ (Zb (Zb ?_))
 by_cases hs1 : top = 2
 refine Za (oC (ZY rfl (dT hs1)) I0 I0 (pM (aT 11 (bv true)) (kN 33 [] [(0, iv top), (1, .v (.slice none 0 0)), (2, iv c), (6, .v (.slice none 0 0)), (9, iv top), (10, bv true)] (Zc (Zw rfl (Zr (Zc (Zw rfl (Zb (Za (pM (mT 2 (iv c)) ?_)))))))))))
 refine Z8 rfl (sp_makeZ (k := 1) (n := c) (bytes := 24) (z := 3) (zv := .agg #[.int .i64 0, .int .i64 0, .int .i64 0]) true rfl U92 (by kernel_rfl) rfl (by decide) (by first | (show 24 * c ≤ _; omega) | omega) (by unfold maxLen; omega) (cs := (Ns.lkZ top c 0)) (Ns.lkZ_zero top c)) ⟨I0, I0, T0⟩ T0 rfl (pM (aT 14 (.own 1)) (kN 33 [(1, .row true 99 3 c (Ns.lkZ top c 0))] [(0, iv top), (2, iv c), (6, .v (.slice none 0 0)), (7, .own 1)] (Zc (Zb (Zb (Za (pM (mT 7 (.own 1)) (oB (sp_lenOwn (.tmp 15) rfl U92) I0 rfl (pM (sp_move (.const (.int .i64 0)) (iv 0) rfl) (kN 33 [(1, .row true 99 3 c (Ns.lkZ top c 0))] [(0, iv top), (2, iv c), (6, .v (.slice none 0 0)), (7, .own 1), (16, iv c), (17, iv 0)] (Zc ?_)))))))))))
 refine ZQ ?_
 refine Yy (σ := {j : Nat // j ≤ c}) (fun s => (ofL [(1, .row true 99 3 c (Ns.lkZ top c s.1))], ofT 33 [(0, iv top), (2, iv c), (6, .v (.slice none 0 0)), (7, .own 1), (16, iv c), (17, iv s.1)])) (fun s => c - s.1) ⟨0, Nat.zero_le _⟩ (Zq _ _ rfl (by kernel_rfl) (by kernel_rfl)) (fun s => ?_)
 obtain ⟨j, hj0⟩ := s
 show ETri J w0 (ofL [(1, .row true 99 3 c (Ns.lkZ top c j))]) (ofT 33 [(0, iv top), (2, iv c), (6, .v (.slice none 0 0)), (7, .own 1), (16, iv c), (17, iv j)]) _
 refine Zb ?_
 by_cases hs2 : ((j : Nat) : Int) < ((c : Nat) : Int)
 refine Za (oC (Yg rfl (dT hs2)) I0 I0 (kN 33 [(1, .row true 99 3 c (Ns.lkZ top c j))] [(0, iv top), (2, iv c), (6, .v (.slice none 0 0)), (7, .own 1), (16, iv c), (17, iv j), (18, bv true)] (Zc (Zb (Zw rfl (Zr (Zc (Zb (ZQ (Zb (Za ?_)))))))))))
 refine pM (mT 17 (iv j)) (pM (aT 19 (iv j)) (kN 33 [(1, .row true 99 3 c (Ns.lkZ top c j))] [(0, iv top), (2, iv c), (6, .v (.slice none 0 0)), (7, .own 1), (8, iv j), (16, iv c), (17, iv j), (18, bv true)] (Zc (Za (pM (mT 7 (.own 1)) (pM (mT 8 (iv j)) (pM (mT 0 (iv top)) (pM (mT 2 (iv c)) (pM (mT 8 (iv j)) (Z8 rfl (Zl (c := .func 50) (xs := #[.tmp 22, .tmp 23, .tmp 24]) [] (Ns.rowLink_c (by omega) (by omega) (by omega)) rfl (by kernel_rfl) rfl (Xs := [iv top, iv c, iv j]) rfl rfl rfl) ⟨I0, I0, I0, I0, T0⟩ T0 T0 (Z8 rfl (sp_indexOwn (off := j * 3) (.tmp 20) (.tmp 21) rfl U92 (by kernel_rfl) (by omega) (by omega) rfl) ⟨I0, I0, T0⟩ ⟨rfl, T0⟩ T0 ?_)))))))))))
 refine Z8 rfl (sp_storeRow (X := .agg [iv ((rowL top ((c : Nat) : Int) (((j) : Nat) : Int)).1), iv ((rowL top ((c : Nat) : Int) (((j) : Nat) : Int)).2.1), iv ((rowL top ((c : Nat) : Int) (((j) : Nat) : Int)).2.2)]) (off := j * 3) (cs := (Ns.lkZ top c j)) (ds := (Ns.lkZ top c (j + 1))) (zz := 3) (.tmp 26) (.tmp 25) rfl (by kernel_rfl) (by kernel_rfl) (fun _ d hd => by simp only [AV.cellsOf, Ns.lk3, List.mem_cons, List.not_mem_nil, or_false] at hd; rcases hd with rfl | rfl | rfl <;> rfl) (by kernel_rfl) (by rw [Ns.lkZ_len (by omega)]; omega) (Ns.lkZ_step (by omega))) ⟨I0, .inr (.inr (.inl ⟨_, rfl, rfl⟩)), T0⟩ ⟨rfl, T0⟩ rfl (kN 33 [(1, .row true 99 3 c (Ns.lkZ top c (j + 1)))] [(0, iv top), (2, iv c), (6, .v (.slice none 0 0)), (7, .own 1), (8, iv j), (16, iv c), (17, iv j), (18, bv true)] (Yx (Zc (Za (oC (Ke (c := ((j + 1 : Nat) : Int)) rfl (w64 (by omega) (by omega) (by omega))) I0 I0 (pM (mT 27 (iv (j + 1 : Nat))) (kN 33 [(1, .row true 99 3 c (Ns.lkZ top c (j + 1)))] [(0, iv top), (2, iv c), (6, .v (.slice none 0 0)), (7, .own 1), (8, iv j), (16, iv c), (17, iv (j + 1 : Nat)), (18, bv true)] (Zc ?_))))))))
 refine Yk ⟨j + 1, by omega⟩ (show c - (j + 1) < c - j by omega) ?_
 exact Zq _ _ rfl (by kernel_rfl) (by kernel_rfl)
 refine Za (oC (Yg rfl (dF hs2)) I0 I0 (kN 33 [(1, .row true 99 3 c (Ns.lkZ top c j))] [(0, iv top), (2, iv c), (6, .v (.slice none 0 0)), (7, .own 1), (16, iv c), (17, iv j), (18, bv false)] (Zc (Zb (Zx rfl (Yz (ZE (ZE (t_hit (Zc (Zb ?_)))))))))))
 refine Za (pM (mT 7 (.own 1)) (pM (aT 28 (.own 1)) (Zv (Zc (Zt (ZF (Zj ?_)))))))
 refine Zs Try.results43 (.tmp rfl) ?_
 obtain rfl : j = c := by omega
 exact rfl
 refine Za (oC (ZY rfl (dF hs1)) I0 I0 (pM (aT 11 (bv false)) (kN 33 [] [(0, iv top), (1, .v (.slice none 0 0)), (2, iv c), (6, .v (.slice none 0 0)), (9, iv top), (10, bv false)] (Zc (Zx rfl (Za (oC (ZY rfl (dT (by omega))) I0 I0 (pM (aT 12 (bv true)) (kN 33 [] [(0, iv top), (1, .v (.slice none 0 0)), (2, iv c), (6, .v (.slice none 0 0)), (9, iv top), (10, bv true)] (Zc (Zw rfl ?_)))))))))))
 refine Zb (Za (pM (mT 2 (iv c)) (Z8 rfl (sp_makeZ (k := 1) (n := c) (bytes := 24) (z := 3) (zv := .agg #[.int .i64 0, .int .i64 0, .int .i64 0]) true rfl U92 (by kernel_rfl) rfl (by decide) (by first | (show 24 * c ≤ _; omega) | omega) (by unfold maxLen; omega) (cs := (Ns.lkZ top c 0)) (Ns.lkZ_zero top c)) ⟨I0, I0, T0⟩ T0 rfl (pM (aT 14 (.own 1)) (kN 33 [(1, .row true 99 3 c (Ns.lkZ top c 0))] [(0, iv top), (2, iv c), (6, .v (.slice none 0 0)), (7, .own 1)] (Zc (Zb (Zb (Za (pM (mT 7 (.own 1)) (oB (sp_lenOwn (.tmp 15) rfl U92) I0 rfl ?_)))))))))))
 refine pM (sp_move (.const (.int .i64 0)) (iv 0) rfl) (kN 33 [(1, .row true 99 3 c (Ns.lkZ top c 0))] [(0, iv top), (2, iv c), (6, .v (.slice none 0 0)), (7, .own 1), (16, iv c), (17, iv 0)] (Zc (ZQ ?_)))
 refine Yy (σ := {j : Nat // j ≤ c}) (fun s => (ofL [(1, .row true 99 3 c (Ns.lkZ top c s.1))], ofT 33 [(0, iv top), (2, iv c), (6, .v (.slice none 0 0)), (7, .own 1), (16, iv c), (17, iv s.1)])) (fun s => c - s.1) ⟨0, Nat.zero_le _⟩ (Zq _ _ rfl (by kernel_rfl) (by kernel_rfl)) (fun s => ?_)
 obtain ⟨j, hj0⟩ := s
 show ETri J w0 (ofL [(1, .row true 99 3 c (Ns.lkZ top c j))]) (ofT 33 [(0, iv top), (2, iv c), (6, .v (.slice none 0 0)), (7, .own 1), (16, iv c), (17, iv j)]) _
 refine Zb ?_
 by_cases hs3 : ((j : Nat) : Int) < ((c : Nat) : Int)
 refine Za (oC (Yg rfl (dT hs3)) I0 I0 (kN 33 [(1, .row true 99 3 c (Ns.lkZ top c j))] [(0, iv top), (2, iv c), (6, .v (.slice none 0 0)), (7, .own 1), (16, iv c), (17, iv j), (18, bv true)] (Zc (Zb (Zw rfl (Zr (Zc (Zb (ZQ (Zb (Za ?_)))))))))))
 refine pM (mT 17 (iv j)) (pM (aT 19 (iv j)) (kN 33 [(1, .row true 99 3 c (Ns.lkZ top c j))] [(0, iv top), (2, iv c), (6, .v (.slice none 0 0)), (7, .own 1), (8, iv j), (16, iv c), (17, iv j), (18, bv true)] (Zc (Za (pM (mT 7 (.own 1)) (pM (mT 8 (iv j)) (pM (mT 0 (iv top)) (pM (mT 2 (iv c)) (pM (mT 8 (iv j)) (Z8 rfl (Zl (c := .func 50) (xs := #[.tmp 22, .tmp 23, .tmp 24]) [] (Ns.rowLink_c (by omega) (by omega) (by omega)) rfl (by kernel_rfl) rfl (Xs := [iv top, iv c, iv j]) rfl rfl rfl) ⟨I0, I0, I0, I0, T0⟩ T0 T0 (Z8 rfl (sp_indexOwn (off := j * 3) (.tmp 20) (.tmp 21) rfl U92 (by kernel_rfl) (by omega) (by omega) rfl) ⟨I0, I0, T0⟩ ⟨rfl, T0⟩ T0 ?_)))))))))))
 refine Z8 rfl (sp_storeRow (X := .agg [iv ((rowL top ((c : Nat) : Int) (((j) : Nat) : Int)).1), iv ((rowL top ((c : Nat) : Int) (((j) : Nat) : Int)).2.1), iv ((rowL top ((c : Nat) : Int) (((j) : Nat) : Int)).2.2)]) (off := j * 3) (cs := (Ns.lkZ top c j)) (ds := (Ns.lkZ top c (j + 1))) (zz := 3) (.tmp 26) (.tmp 25) rfl (by kernel_rfl) (by kernel_rfl) (fun _ d hd => by simp only [AV.cellsOf, Ns.lk3, List.mem_cons, List.not_mem_nil, or_false] at hd; rcases hd with rfl | rfl | rfl <;> rfl) (by kernel_rfl) (by rw [Ns.lkZ_len (by omega)]; omega) (Ns.lkZ_step (by omega))) ⟨I0, .inr (.inr (.inl ⟨_, rfl, rfl⟩)), T0⟩ ⟨rfl, T0⟩ rfl (kN 33 [(1, .row true 99 3 c (Ns.lkZ top c (j + 1)))] [(0, iv top), (2, iv c), (6, .v (.slice none 0 0)), (7, .own 1), (8, iv j), (16, iv c), (17, iv j), (18, bv true)] (Yx (Zc (Za (oC (Ke (c := ((j + 1 : Nat) : Int)) rfl (w64 (by omega) (by omega) (by omega))) I0 I0 (pM (mT 27 (iv (j + 1 : Nat))) (kN 33 [(1, .row true 99 3 c (Ns.lkZ top c (j + 1)))] [(0, iv top), (2, iv c), (6, .v (.slice none 0 0)), (7, .own 1), (8, iv j), (16, iv c), (17, iv (j + 1 : Nat)), (18, bv true)] (Zc ?_))))))))
 refine Yk ⟨j + 1, by omega⟩ (show c - (j + 1) < c - j by omega) ?_
 exact Zq _ _ rfl (by kernel_rfl) (by kernel_rfl)
 refine Za (oC (Yg rfl (dF hs3)) I0 I0 (kN 33 [(1, .row true 99 3 c (Ns.lkZ top c j))] [(0, iv top), (2, iv c), (6, .v (.slice none 0 0)), (7, .own 1), (16, iv c), (17, iv j), (18, bv false)] (Zc (Zb (Zx rfl (Yz (ZE (ZE (t_hit (Zc (Zb ?_)))))))))))
 refine Za (pM (mT 7 (.own 1)) (pM (aT 28 (.own 1)) (Zv (Zc (Zt (ZF (Zj ?_)))))))
 refine Zs Try.results43 (.tmp rfl) ?_
 obtain rfl : j = c := by omega
 exact rfl
theorem linksOf_tree {xs : List Int} {c : Int} (hI : InOk xs) (h0 : 0 < xs.length) (h1 : xs.length ≤ 100) : Ctr Try.prog J 43 [iv 4, Zi xs, iv c] (Ns.lkT xs) := by
 refine ZL Try.func43 rfl (by intro X hX; simp only [List.mem_cons, List.not_mem_nil, or_false] at hX; rcases hX with rfl | rfl | rfl; exact .v _; exact Yo _; exact .v _) (n := 33) rfl (by simp) (fun w0 => ?_)
 refine kW 33 [] [(0, iv 4), (1, Zi xs), (2, iv c)] (Zb (Za (pM (YA (.const (.slice none 0 0)) (.v (.slice none 0 0)) rfl) (kN 33 [] [(0, iv 4), (1, Zi xs), (2, iv c), (6, .v (.slice none 0 0))] (Zc (Zb (Zb (Za (pM (mT 0 (iv 4)) (kN 33 [] [(0, iv 4), (1, Zi xs), (2, iv c), (6, .v (.slice none 0 0)), (9, iv 4)] (Zc ?_)))))))))))
 refine ZQ (Zb (Zb (Za (oC (ZY (r := false) rfl (by decide)) I0 I0 (pM (aT 11 (bv false)) (kN 33 [] [(0, iv 4), (1, Zi xs), (2, iv c), (6, .v (.slice none 0 0)), (9, iv 4), (10, bv false)] (Zc (Zx rfl (Za (oC (ZY (r := false) rfl (by decide)) I0 I0 (pM (aT 12 (bv false)) ?_)))))))))))
 refine kN 33 [] [(0, iv 4), (1, Zi xs), (2, iv c), (6, .v (.slice none 0 0)), (9, iv 4), (10, bv false)] (Zc (Zx rfl (Zb (Za (oC (ZY (r := true) rfl (by decide)) I0 I0 (pM (aT 30 (bv true)) (kN 33 [] [(1, Zi xs), (6, .v (.slice none 0 0)), (29, bv true)] (Zc (Zw rfl (Zb (Za ?_)))))))))))
 refine pM (mT 1 (Zi xs)) (oC (Zl (c := .func 51) (xs := #[.tmp 31]) [] (Ns.treeLinks_c hI h0 h1) rfl (by kernel_rfl) rfl (Xs := [Zi xs]) rfl rfl rfl) I0 I0 (pM (aT 32 (.fr (Ns.lkT xs))) (Zv (Zc (Zt (ZF (Zj ?_)))))))
 refine Zs Try.results43 (.tmp rfl) ?_
 exact rfl
end Go.Proofs.Ytgbgfkhkjlakbaa

namespace Go.Proofs.Ytgbgfkhkjlakbaa
open Go.RowKit Go.Deep
variable {J : World → Prop}
theorem Sh_pos {c : Nat} : ∀ xs ∈ Sh.shX ((c : Nat) : Int), 0 < xs.length := by
  unfold Sh.shX
  split
  · intro xs h; cases h
  split
  · intro xs h; cases h
  rename_i h1 h2
  rw [Int.toNat_natCast]
  obtain rfl | rfl | rfl | rfl : c = 1 ∨ c = 3 ∨ c = 5 ∨ c = 7 := by omega
  all_goals decide
set_option maxRecDepth 100000 in
set_option maxHeartbeats 6400000 in
theorem place_w {top : Int} {c : Nat} (hc : c ≤ 8) (xs : Nat → Value) : CtrW Try.prog J 55 [.box 1000000 0] 1000000 (.box 71 [.v (xs 0), iv top, .v (xs 2), .v (xs 3), .v (xs 4), .v (xs 5), .v (xs 6), .v (xs 7), .v (xs 8), .v (xs 9), .v (xs 10), .v (xs 11), .v (xs 12), iv c, .v (xs 14), .v (xs 15), .v (xs 16), .v (xs 17), .v (xs 18), .v (xs 19), .v (xs 20), .v (xs 21), .v (xs 22), .v (xs 23), .v (xs 24), .v (xs 25), .v (xs 26), .v (xs 27), .v (xs 28), .v (xs 29), .v (xs 30), .v (.slice none 0 0), .v (.slice none 0 0)]) (.box 71 [.v (xs 0), iv top, .v (xs 2), .v (xs 3), .v (xs 4), .v (xs 5), .v (xs 6), .v (xs 7), .v (xs 8), .v (xs 9), .v (xs 10), .v (xs 11), .v (xs 12), iv c, .v (xs 14), .v (xs 15), .v (xs 16), .v (xs 17), .v (xs 18), .v (xs 19), .v (xs 20), .v (xs 21), .v (xs 22), .v (xs 23), .v (xs 24), .v (xs 25), .v (xs 26), .v (xs 27), .v (xs 28), .v (xs 29), .v (xs 30), .fr (slA 1 cLi (Ns.shT top ((c : Nat) : Int))), .any]) (.v (.tuple #[])) := by
 have hsh := Sh_pos (c := c)
 have hsl := Sh.shX_len ((c : Nat) : Int)
 refine ctrW_of_tri (by decide) Try.func55 rfl (n := 64) rfl (by simp) (fun w0 => ?_)
 refine kW 64 [(1000000, .box 71 [.v (xs 0), iv top, .v (xs 2), .v (xs 3), .v (xs 4), .v (xs 5), .v (xs 6), .v (xs 7), .v (xs 8), .v (xs 9), .v (xs 10), .v (xs 11), .v (xs 12), iv c, .v (xs 14), .v (xs 15), .v (xs 16), .v (xs 17), .v (xs 18), .v (xs 19), .v (xs 20), .v (xs 21), .v (xs 22), .v (xs 23), .v (xs 24), .v (xs 25), .v (xs 26), .v (xs 27), .v (xs 28), .v (xs 29), .v (xs 30), .v (.slice none 0 0), .v (.slice none 0 0)])] [(0, .box 1000000 0)] (Zb (Za (pM (mT 0 (.box 1000000 0)) (oA (Yt (off := 0) (.tmp 4) rfl) I0 (oA (fb 0 5 U71 10) I0 (oA (fb 1 6 U27 1) I0 (oB (lb (iv top) 7 U3) I0 rfl (kN 64 [(1000000, .box 71 [.v (xs 0), iv top, .v (xs 2), .v (xs 3), .v (xs 4), .v (xs 5), .v (xs 6), .v (xs 7), .v (xs 8), .v (xs 9), .v (xs 10), .v (xs 11), .v (xs 12), iv c, .v (xs 14), .v (xs 15), .v (xs 16), .v (xs 17), .v (xs 18), .v (xs 19), .v (xs 20), .v (xs 21), .v (xs 22), .v (xs 23), .v (xs 24), .v (xs 25), .v (xs 26), .v (xs 27), .v (xs 28), .v (xs 29), .v (xs 30), .v (.slice none 0 0), .v (.slice none 0 0)])] [(0, .box 1000000 0), (8, iv top)] (Zc (ZQ (Zb ?_)))))))))))
 refine Zb ?_
 by_cases hs1 : top = 2
 refine Za (oC (ZY rfl (dT hs1)) I0 I0 (pM (aT 10 (bv true)) (kN 64 [(1000000, .box 71 [.v (xs 0), iv top, .v (xs 2), .v (xs 3), .v (xs 4), .v (xs 5), .v (xs 6), .v (xs 7), .v (xs 8), .v (xs 9), .v (xs 10), .v (xs 11), .v (xs 12), iv c, .v (xs 14), .v (xs 15), .v (xs 16), .v (xs 17), .v (xs 18), .v (xs 19), .v (xs 20), .v (xs 21), .v (xs 22), .v (xs 23), .v (xs 24), .v (xs 25), .v (xs 26), .v (xs 27), .v (xs 28), .v (xs 29), .v (xs 30), .v (.slice none 0 0), .v (.slice none 0 0)])] [(0, .box 1000000 0), (8, iv top), (9, bv true)] (Zc (Zw rfl (Zr (Zc (Zw rfl ?_))))))))
 refine Z0 (dM (mT 0 (.box 1000000 0)) (dM (mT 0 (.box 1000000 0)) (dA (Yt (off := 0) (.tmp 13) rfl) I0 (dA (fb 0 14 U71 10) I0 (dA (fb 1 15 U27 1) I0 (dB (lb (iv top) 16 U3) I0 rfl (dM (mT 0 (.box 1000000 0)) (dA (Yt (off := 0) (.tmp 18) rfl) I0 (dA (fb 13 19 U71 1) I0 (dB (lb (iv c) 20 U3) I0 rfl (dR (Zl (c := .func 43) (xs := #[.tmp 17, .const (.slice none 0 0), .tmp 21]) [] (linksOf_row (.inl hs1) hc) rfl (by kernel_rfl) rfl (Xs := [iv top, .v (.slice none 0 0), iv c]) rfl rfl rfl) ⟨I0, I0, I0, I0, T0⟩ T0 T0 (dR (sp_build (z := 1) (k := 1) (fr := false) (cs := [.fr (.sl 3 c (Ns.lkZ top c c))]) [.tmp 22] [.fr (.sl 3 c (Ns.lkZ top c c))] rfl U69 (by kernel_rfl) (by decide) (by decide) rfl rfl rfl (by kernel_rfl) (by decide) (fun h => Bool.noConfusion h) (by kernel_rfl)) ⟨I0, T0⟩ T0 rfl (dA (Yt (off := 0) (.tmp 12) rfl) I0 (dA (fb 32 24 U71 1) I0 (dR (ZH (T0 := 71) (X := .own 1) (cs := [.v (xs 0), iv top, .v (xs 2), .v (xs 3), .v (xs 4), .v (xs 5), .v (xs 6), .v (xs 7), .v (xs 8), .v (xs 9), .v (xs 10), .v (xs 11), .v (xs 12), iv c, .v (xs 14), .v (xs 15), .v (xs 16), .v (xs 17), .v (xs 18), .v (xs 19), .v (xs 20), .v (xs 21), .v (xs 22), .v (xs 23), .v (xs 24), .v (xs 25), .v (xs 26), .v (xs 27), .v (xs 28), .v (xs 29), .v (xs 30), .v (.slice none 0 0), .v (.slice none 0 0)]) (ds := [.v (xs 0), iv top, .v (xs 2), .v (xs 3), .v (xs 4), .v (xs 5), .v (xs 6), .v (xs 7), .v (xs 8), .v (xs 9), .v (xs 10), .v (xs 11), .v (xs 12), iv c, .v (xs 14), .v (xs 15), .v (xs 16), .v (xs 17), .v (xs 18), .v (xs 19), .v (xs 20), .v (xs 21), .v (xs 22), .v (xs 23), .v (xs 24), .v (xs 25), .v (xs 26), .v (xs 27), .v (xs 28), .v (xs 29), .v (xs 30), .v (.slice none 0 0), .own 1]) (z := 1) (.tmp 25) (.tmp 23) rfl (by kernel_rfl) (by kernel_rfl) (by kernel_rfl) (of_decide_eq_true (by kernel_rfl)) (by kernel_rfl)) ⟨I0, I0, T0⟩ ⟨rfl, T0⟩ rfl (dE ?_)))))))))))))))) (by kernel_rfl)
 show ETri J w0 _ _ _
 refine kW 64 [(1, .row false 92 1 1 ([.fr (.sl 3 c (Ns.lkZ top c c))])), (1000000, .box 71 [.v (xs 0), iv top, .v (xs 2), .v (xs 3), .v (xs 4), .v (xs 5), .v (xs 6), .v (xs 7), .v (xs 8), .v (xs 9), .v (xs 10), .v (xs 11), .v (xs 12), iv c, .v (xs 14), .v (xs 15), .v (xs 16), .v (xs 17), .v (xs 18), .v (xs 19), .v (xs 20), .v (xs 21), .v (xs 22), .v (xs 23), .v (xs 24), .v (xs 25), .v (xs 26), .v (xs 27), .v (xs 28), .v (xs 29), .v (xs 30), .v (.slice none 0 0), .own 1])] [] (Yx ?_)
 refine KA ?_
 rw [Ns.shT_no (n := ((c : Nat) : Int)) (by omega)]
 refine tri_wk (wk_anyN 1000000 1 [0, 0, 0, 0, 0, 0, 0, 0, 0, 0, 0, 0, 0, 0, 0, 0, 0, 0, 0, 0, 0, 0, 0, 0, 0, 0, 0, 0, 0, 0, 0, 2, 1] rfl (ds := [.v (xs 0), iv top, .v (xs 2), .v (xs 3), .v (xs 4), .v (xs 5), .v (xs 6), .v (xs 7), .v (xs 8), .v (xs 9), .v (xs 10), .v (xs 11), .v (xs 12), iv c, .v (xs 14), .v (xs 15), .v (xs 16), .v (xs 17), .v (xs 18), .v (xs 19), .v (xs 20), .v (xs 21), .v (xs 22), .v (xs 23), .v (xs 24), .v (xs 25), .v (xs 26), .v (xs 27), .v (xs 28), .v (xs 29), .v (xs 30), .fr (.sl 1 0 []), .any]) (by kernel_rfl) (by kernel_rfl)) ?_
 exact tri_back0 Try.results55  (by decide) (by kernel_rfl)
 refine Za (oC (ZY rfl (dF hs1)) I0 I0 (pM (aT 10 (bv false)) (kN 64 [(1000000, .box 71 [.v (xs 0), iv top, .v (xs 2), .v (xs 3), .v (xs 4), .v (xs 5), .v (xs 6), .v (xs 7), .v (xs 8), .v (xs 9), .v (xs 10), .v (xs 11), .v (xs 12), iv c, .v (xs 14), .v (xs 15), .v (xs 16), .v (xs 17), .v (xs 18), .v (xs 19), .v (xs 20), .v (xs 21), .v (xs 22), .v (xs 23), .v (xs 24), .v (xs 25), .v (xs 26), .v (xs 27), .v (xs 28), .v (xs 29), .v (xs 30), .v (.slice none 0 0), .v (.slice none 0 0)])] [(0, .box 1000000 0), (8, iv top), (9, bv false)] (Zc (Zx rfl ?_)))))
 by_cases hs2 : top = 3
 refine Za (oC (ZY rfl (dT hs2)) I0 I0 (pM (aT 11 (bv true)) (kN 64 [(1000000, .box 71 [.v (xs 0), iv top, .v (xs 2), .v (xs 3), .v (xs 4), .v (xs 5), .v (xs 6), .v (xs 7), .v (xs 8), .v (xs 9), .v (xs 10), .v (xs 11), .v (xs 12), iv c, .v (xs 14), .v (xs 15), .v (xs 16), .v (xs 17), .v (xs 18), .v (xs 19), .v (xs 20), .v (xs 21), .v (xs 22), .v (xs 23), .v (xs 24), .v (xs 25), .v (xs 26), .v (xs 27), .v (xs 28), .v (xs 29), .v (xs 30), .v (.slice none 0 0), .v (.slice none 0 0)])] [(0, .box 1000000 0), (8, iv top), (9, bv true)] (Zc (Zw rfl ?_)))))
 refine Z0 (dM (mT 0 (.box 1000000 0)) (dM (mT 0 (.box 1000000 0)) (dA (Yt (off := 0) (.tmp 13) rfl) I0 (dA (fb 0 14 U71 10) I0 (dA (fb 1 15 U27 1) I0 (dB (lb (iv top) 16 U3) I0 rfl (dM (mT 0 (.box 1000000 0)) (dA (Yt (off := 0) (.tmp 18) rfl) I0 (dA (fb 13 19 U71 1) I0 (dB (lb (iv c) 20 U3) I0 rfl (dR (Zl (c := .func 43) (xs := #[.tmp 17, .const (.slice none 0 0), .tmp 21]) [] (linksOf_row (.inr hs2) hc) rfl (by kernel_rfl) rfl (Xs := [iv top, .v (.slice none 0 0), iv c]) rfl rfl rfl) ⟨I0, I0, I0, I0, T0⟩ T0 T0 (dR (sp_build (z := 1) (k := 1) (fr := false) (cs := [.fr (.sl 3 c (Ns.lkZ top c c))]) [.tmp 22] [.fr (.sl 3 c (Ns.lkZ top c c))] rfl U69 (by kernel_rfl) (by decide) (by decide) rfl rfl rfl (by kernel_rfl) (by decide) (fun h => Bool.noConfusion h) (by kernel_rfl)) ⟨I0, T0⟩ T0 rfl (dA (Yt (off := 0) (.tmp 12) rfl) I0 (dA (fb 32 24 U71 1) I0 (dR (ZH (T0 := 71) (X := .own 1) (cs := [.v (xs 0), iv top, .v (xs 2), .v (xs 3), .v (xs 4), .v (xs 5), .v (xs 6), .v (xs 7), .v (xs 8), .v (xs 9), .v (xs 10), .v (xs 11), .v (xs 12), iv c, .v (xs 14), .v (xs 15), .v (xs 16), .v (xs 17), .v (xs 18), .v (xs 19), .v (xs 20), .v (xs 21), .v (xs 22), .v (xs 23), .v (xs 24), .v (xs 25), .v (xs 26), .v (xs 27), .v (xs 28), .v (xs 29), .v (xs 30), .v (.slice none 0 0), .v (.slice none 0 0)]) (ds := [.v (xs 0), iv top, .v (xs 2), .v (xs 3), .v (xs 4), .v (xs 5), .v (xs 6), .v (xs 7), .v (xs 8), .v (xs 9), .v (xs 10), .v (xs 11), .v (xs 12), iv c, .v (xs 14), .v (xs 15), .v (xs 16), .v (xs 17), .v (xs 18), .v (xs 19), .v (xs 20), .v (xs 21), .v (xs 22), .v (xs 23), .v (xs 24), .v (xs 25), .v (xs 26), .v (xs 27), .v (xs 28), .v (xs 29), .v (xs 30), .v (.slice none 0 0), .own 1]) (z := 1) (.tmp 25) (.tmp 23) rfl (by kernel_rfl) (by kernel_rfl) (by kernel_rfl) (of_decide_eq_true (by kernel_rfl)) (by kernel_rfl)) ⟨I0, I0, T0⟩ ⟨rfl, T0⟩ rfl (dE ?_)))))))))))))))) (by kernel_rfl)
 show ETri J w0 _ _ _
 refine kW 64 [(1, .row false 92 1 1 ([.fr (.sl 3 c (Ns.lkZ top c c))])), (1000000, .box 71 [.v (xs 0), iv top, .v (xs 2), .v (xs 3), .v (xs 4), .v (xs 5), .v (xs 6), .v (xs 7), .v (xs 8), .v (xs 9), .v (xs 10), .v (xs 11), .v (xs 12), iv c, .v (xs 14), .v (xs 15), .v (xs 16), .v (xs 17), .v (xs 18), .v (xs 19), .v (xs 20), .v (xs 21), .v (xs 22), .v (xs 23), .v (xs 24), .v (xs 25), .v (xs 26), .v (xs 27), .v (xs 28), .v (xs 29), .v (xs 30), .v (.slice none 0 0), .own 1])] [] (Yx ?_)
 refine KA ?_
 rw [Ns.shT_no (n := ((c : Nat) : Int)) (by omega)]
 refine tri_wk (wk_anyN 1000000 1 [0, 0, 0, 0, 0, 0, 0, 0, 0, 0, 0, 0, 0, 0, 0, 0, 0, 0, 0, 0, 0, 0, 0, 0, 0, 0, 0, 0, 0, 0, 0, 2, 1] rfl (ds := [.v (xs 0), iv top, .v (xs 2), .v (xs 3), .v (xs 4), .v (xs 5), .v (xs 6), .v (xs 7), .v (xs 8), .v (xs 9), .v (xs 10), .v (xs 11), .v (xs 12), iv c, .v (xs 14), .v (xs 15), .v (xs 16), .v (xs 17), .v (xs 18), .v (xs 19), .v (xs 20), .v (xs 21), .v (xs 22), .v (xs 23), .v (xs 24), .v (xs 25), .v (xs 26), .v (xs 27), .v (xs 28), .v (xs 29), .v (xs 30), .fr (.sl 1 0 []), .any]) (by kernel_rfl) (by kernel_rfl)) ?_
 exact tri_back0 Try.results55  (by decide) (by kernel_rfl)
 refine Za (oC (ZY rfl (dF hs2)) I0 I0 (pM (aT 11 (bv false)) (kN 64 [(1000000, .box 71 [.v (xs 0), iv top, .v (xs 2), .v (xs 3), .v (xs 4), .v (xs 5), .v (xs 6), .v (xs 7), .v (xs 8), .v (xs 9), .v (xs 10), .v (xs 11), .v (xs 12), iv c, .v (xs 14), .v (xs 15), .v (xs 16), .v (xs 17), .v (xs 18), .v (xs 19), .v (xs 20), .v (xs 21), .v (xs 22), .v (xs 23), .v (xs 24), .v (xs 25), .v (xs 26), .v (xs 27), .v (xs 28), .v (xs 29), .v (xs 30), .v (.slice none 0 0), .v (.slice none 0 0)])] [(0, .box 1000000 0), (8, iv top), (9, bv false)] (Zc (Zx rfl (Zb ?_))))))
 by_cases hs3 : top = 4
 refine Za (oC (ZY rfl (dT hs3)) I0 I0 (pM (aT 27 (bv true)) (kN 64 [(1000000, .box 71 [.v (xs 0), iv top, .v (xs 2), .v (xs 3), .v (xs 4), .v (xs 5), .v (xs 6), .v (xs 7), .v (xs 8), .v (xs 9), .v (xs 10), .v (xs 11), .v (xs 12), iv c, .v (xs 14), .v (xs 15), .v (xs 16), .v (xs 17), .v (xs 18), .v (xs 19), .v (xs 20), .v (xs 21), .v (xs 22), .v (xs 23), .v (xs 24), .v (xs 25), .v (xs 26), .v (xs 27), .v (xs 28), .v (xs 29), .v (xs 30), .v (.slice none 0 0), .v (.slice none 0 0)])] [(0, .box 1000000 0), (26, bv true)] (Zc (Zw rfl (Zb (Za (pM (mT 0 (.box 1000000 0)) (pM (mT 0 (.box 1000000 0)) (oA (Yt (off := 0) (.tmp 30) rfl) I0 (oA (fb 13 31 U71 1) I0 ?_)))))))))))
 refine oB (lb (iv c) 32 U3) I0 rfl (oC (Zl (c := .func 11) (xs := #[.tmp 33]) [] (Sh.Shapes_n _) rfl (by kernel_rfl) rfl (Xs := [iv c]) rfl rfl rfl) I0 I0 (pM (mT 34 (.tup [.fr (slA 1 cLi (Sh.shX ((c : Nat) : Int))), iv (Sh.shZ ((c : Nat) : Int))])) (oA (Yn (X := .fr (slA 1 cLi (Sh.shX ((c : Nat) : Int)))) (.tmp 28) rfl rfl) I0 (oA (Yn (X := iv (Sh.shZ ((c : Nat) : Int))) (.tmp 28) rfl rfl) I0 (oA (Yt (off := 0) (.tmp 29) rfl) I0 (oA (fb 31 37 U71 1) I0 (Z8 rfl (ZH (T0 := 71) (X := .fr (slA 1 cLi (Sh.shX ((c : Nat) : Int)))) (cs := [.v (xs 0), iv top, .v (xs 2), .v (xs 3), .v (xs 4), .v (xs 5), .v (xs 6), .v (xs 7), .v (xs 8), .v (xs 9), .v (xs 10), .v (xs 11), .v (xs 12), iv c, .v (xs 14), .v (xs 15), .v (xs 16), .v (xs 17), .v (xs 18), .v (xs 19), .v (xs 20), .v (xs 21), .v (xs 22), .v (xs 23), .v (xs 24), .v (xs 25), .v (xs 26), .v (xs 27), .v (xs 28), .v (xs 29), .v (xs 30), .v (.slice none 0 0), .v (.slice none 0 0)]) (ds := [.v (xs 0), iv top, .v (xs 2), .v (xs 3), .v (xs 4), .v (xs 5), .v (xs 6), .v (xs 7), .v (xs 8), .v (xs 9), .v (xs 10), .v (xs 11), .v (xs 12), iv c, .v (xs 14), .v (xs 15), .v (xs 16), .v (xs 17), .v (xs 18), .v (xs 19), .v (xs 20), .v (xs 21), .v (xs 22), .v (xs 23), .v (xs 24), .v (xs 25), .v (xs 26), .v (xs 27), .v (xs 28), .v (xs 29), .v (xs 30), .fr (slA 1 cLi (Sh.shX ((c : Nat) : Int))), .v (.slice none 0 0)]) (z := 1) (.tmp 38) (.tmp 35) rfl (by kernel_rfl) (by kernel_rfl) (by kernel_rfl) (of_decide_eq_true (by kernel_rfl)) (by kernel_rfl)) ⟨I0, I0, T0⟩ ⟨rfl, T0⟩ rfl (kN 64 [(1000000, .box 71 [.v (xs 0), iv top, .v (xs 2), .v (xs 3), .v (xs 4), .v (xs 5), .v (xs 6), .v (xs 7), .v (xs 8), .v (xs 9), .v (xs 10), .v (xs 11), .v (xs 12), iv c, .v (xs 14), .v (xs 15), .v (xs 16), .v (xs 17), .v (xs 18), .v (xs 19), .v (xs 20), .v (xs 21), .v (xs 22), .v (xs 23), .v (xs 24), .v (xs 25), .v (xs 26), .v (xs 27), .v (xs 28), .v (xs 29), .v (xs 30), .fr (slA 1 cLi (Sh.shX ((c : Nat) : Int))), .v (.slice none 0 0)])] [(0, .box 1000000 0)] (Zc (Zb (Za ?_)))))))))))
 refine pM (mT 0 (.box 1000000 0)) (oA (Yt (off := 0) (.tmp 39) rfl) I0 (oA (fb 31 40 U71 1) I0 (oB (lb (.fr (slA 1 cLi (Sh.shX ((c : Nat) : Int)))) 41 U34) I0 rfl (Z8 rfl (Zm (.tmp 42) rfl U34) ⟨.inr (.inl rfl), T0⟩ T0 T0 (pM (sp_move (.const (.int .i64 0)) (iv 0) rfl) (kN 64 [(1000000, .box 71 [.v (xs 0), iv top, .v (xs 2), .v (xs 3), .v (xs 4), .v (xs 5), .v (xs 6), .v (xs 7), .v (xs 8), .v (xs 9), .v (xs 10), .v (xs 11), .v (xs 12), iv c, .v (xs 14), .v (xs 15), .v (xs 16), .v (xs 17), .v (xs 18), .v (xs 19), .v (xs 20), .v (xs 21), .v (xs 22), .v (xs 23), .v (xs 24), .v (xs 25), .v (xs 26), .v (xs 27), .v (xs 28), .v (xs 29), .v (xs 30), .fr (slA 1 cLi (Sh.shX ((c : Nat) : Int))), .v (.slice none 0 0)])] [(0, .box 1000000 0), (42, .fr (slA 1 cLi (Sh.shX ((c : Nat) : Int)))), (43, iv ((Sh.shX ((c : Nat) : Int)).length : Nat)), (44, iv 0)] (Zc (ZQ ?_))))))))
 refine tri_wk (wk_adoptB 1000000 32 1 true 92 1 rfl rfl rfl rfl) ?_
 refine Yy (σ := {j : Nat // j ≤ (Sh.shX ((c : Nat) : Int)).length}) (fun s => (ofL [(1, .row true 92 1 (((Sh.shX ((c : Nat) : Int)).take s.1).length) (((Sh.shX ((c : Nat) : Int)).take s.1).flatMap Ns.cLk)), (1000000, .box 71 [.v (xs 0), iv top, .v (xs 2), .v (xs 3), .v (xs 4), .v (xs 5), .v (xs 6), .v (xs 7), .v (xs 8), .v (xs 9), .v (xs 10), .v (xs 11), .v (xs 12), iv c, .v (xs 14), .v (xs 15), .v (xs 16), .v (xs 17), .v (xs 18), .v (xs 19), .v (xs 20), .v (xs 21), .v (xs 22), .v (xs 23), .v (xs 24), .v (xs 25), .v (xs 26), .v (xs 27), .v (xs 28), .v (xs 29), .v (xs 30), .fr (slA 1 cLi (Sh.shX ((c : Nat) : Int))), .own 1])], ofT 64 [(0, .box 1000000 0), (42, .fr (slA 1 cLi (Sh.shX ((c : Nat) : Int)))), (43, iv ((Sh.shX ((c : Nat) : Int)).length : Nat)), (44, iv s.1)])) (fun s => (Sh.shX ((c : Nat) : Int)).length - s.1) ⟨0, Nat.zero_le _⟩ (Zq _ _ rfl (by kernel_rfl) (by kernel_rfl)) (fun s => ?_)
 obtain ⟨j, hj0⟩ := s
 show ETri J w0 (ofL [(1, .row true 92 1 (((Sh.shX ((c : Nat) : Int)).take j).length) (((Sh.shX ((c : Nat) : Int)).take j).flatMap Ns.cLk)), (1000000, .box 71 [.v (xs 0), iv top, .v (xs 2), .v (xs 3), .v (xs 4), .v (xs 5), .v (xs 6), .v (xs 7), .v (xs 8), .v (xs 9), .v (xs 10), .v (xs 11), .v (xs 12), iv c, .v (xs 14), .v (xs 15), .v (xs 16), .v (xs 17), .v (xs 18), .v (xs 19), .v (xs 20), .v (xs 21), .v (xs 22), .v (xs 23), .v (xs 24), .v (xs 25), .v (xs 26), .v (xs 27), .v (xs 28), .v (xs 29), .v (xs 30), .fr (slA 1 cLi (Sh.shX ((c : Nat) : Int))), .own 1])]) (ofT 64 [(0, .box 1000000 0), (42, .fr (slA 1 cLi (Sh.shX ((c : Nat) : Int)))), (43, iv ((Sh.shX ((c : Nat) : Int)).length : Nat)), (44, iv j)]) _
 have l1 : ((Sh.shX ((c : Nat) : Int)).take j).length ≤ j := List.length_take_le _ _
 refine Zb ?_
 by_cases hs4 : ((j : Nat) : Int) < (((Sh.shX ((c : Nat) : Int)).length : Nat) : Int)
 have hj1 : j < (Sh.shX ((c : Nat) : Int)).length := by omega
 have hx0 : 0 < (Sh.shX ((c : Nat) : Int))[j].length := hsh _ (List.getElem_mem hj1)
 have hx1 : (Sh.shX ((c : Nat) : Int))[j].length ≤ 100 := Nat.le_trans (Sh.shX_mem _ _ (List.getElem_mem hj1)).1 (by decide)
 refine Za (oC (Yg rfl (dT hs4)) I0 I0 (kN 64 [(1, .row true 92 1 (((Sh.shX ((c : Nat) : Int)).take j).length) (((Sh.shX ((c : Nat) : Int)).take j).flatMap Ns.cLk)), (1000000, .box 71 [.v (xs 0), iv top, .v (xs 2), .v (xs 3), .v (xs 4), .v (xs 5), .v (xs 6), .v (xs 7), .v (xs 8), .v (xs 9), .v (xs 10), .v (xs 11), .v (xs 12), iv c, .v (xs 14), .v (xs 15), .v (xs 16), .v (xs 17), .v (xs 18), .v (xs 19), .v (xs 20), .v (xs 21), .v (xs 22), .v (xs 23), .v (xs 24), .v (xs 25), .v (xs 26), .v (xs 27), .v (xs 28), .v (xs 29), .v (xs 30), .fr (slA 1 cLi (Sh.shX ((c : Nat) : Int))), .own 1])] [(0, .box 1000000 0), (42, .fr (slA 1 cLi (Sh.shX ((c : Nat) : Int)))), (43, iv ((Sh.shX ((c : Nat) : Int)).length : Nat)), (44, iv j), (45, bv true)] (Zc (Zb (Zw rfl (Zr (Zc (Zb (ZQ (Zb (Za ?_)))))))))))
 refine Z8 rfl (ZW (off := j * 1) (.tmp 42) (.tmp 44) rfl U34 (by kernel_rfl) (by omega) (by omega) rfl) ⟨.inr (.inl rfl), I0, T0⟩ T0 T0 (oA (ZK (X := Zi ((Sh.shX ((c : Nat) : Int))[j])) (.tmp 46) rfl U24 rfl ((Km lenLi (Sh.shX ((c : Nat) : Int)) j 0 (by omega) (by decide)).trans rfl)) I0 (pM (aT 47 (Zi ((Sh.shX ((c : Nat) : Int))[j]))) (kN 64 [(1, .row true 92 1 (((Sh.shX ((c : Nat) : Int)).take j).length) (((Sh.shX ((c : Nat) : Int)).take j).flatMap Ns.cLk)), (1000000, .box 71 [.v (xs 0), iv top, .v (xs 2), .v (xs 3), .v (xs 4), .v (xs 5), .v (xs 6), .v (xs 7), .v (xs 8), .v (xs 9), .v (xs 10), .v (xs 11), .v (xs 12), iv c, .v (xs 14), .v (xs 15), .v (xs 16), .v (xs 17), .v (xs 18), .v (xs 19), .v (xs 20), .v (xs 21), .v (xs 22), .v (xs 23), .v (xs 24), .v (xs 25), .v (xs 26), .v (xs 27), .v (xs 28), .v (xs 29), .v (xs 30), .fr (slA 1 cLi (Sh.shX ((c : Nat) : Int))), .own 1])] [(0, .box 1000000 0), (3, Zi ((Sh.shX ((c : Nat) : Int))[j])), (42, .fr (slA 1 cLi (Sh.shX ((c : Nat) : Int)))), (43, iv ((Sh.shX ((c : Nat) : Int)).length : Nat)), (44, iv j), (45, bv true)] (Zc ?_))))
 refine Z0 (dM (mT 0 (.box 1000000 0)) (dM (mT 0 (.box 1000000 0)) (dA (Yt (off := 0) (.tmp 49) rfl) I0 (dA (fb 32 50 U71 1) I0 (dB (lb (.own 1) 51 U69) I0 rfl (dM (mT 3 (Zi ((Sh.shX ((c : Nat) : Int))[j]))) (dM (mT 0 (.box 1000000 0)) (dA (Yt (off := 0) (.tmp 54) rfl) I0 (dA (fb 13 55 U71 1) I0 (dB (lb (iv c) 56 U3) I0 rfl (dR (Zl (c := .func 43) (xs := #[.const (.int .i64 4), .tmp 53, .tmp 57]) [] (linksOf_tree (Sh.shX_mem _ _ (List.getElem_mem (by omega))).2 hx0 hx1) rfl (by kernel_rfl) rfl (Xs := [iv 4, Zi ((Sh.shX ((c : Nat) : Int))[j]), iv c]) rfl rfl rfl) ⟨I0, I0, I0, I0, T0⟩ T0 T0 (dR (sp_build (z := 1) (k := 2) (fr := false) (cs := [.fr (Ns.lkT ((Sh.shX ((c : Nat) : Int))[j]))]) [.tmp 58] [.fr (Ns.lkT ((Sh.shX ((c : Nat) : Int))[j]))] rfl U69 (by kernel_rfl) (by decide) (by decide) rfl rfl rfl (by kernel_rfl) (by decide) (fun h => Bool.noConfusion h) (by kernel_rfl)) ⟨I0, T0⟩ T0 rfl (dR (sp_appendOwn (n := ((Sh.shX ((c : Nat) : Int)).take j).length) (cs := (((Sh.shX ((c : Nat) : Int)).take j).flatMap Ns.cLk)) (fr := true) (m := 1) (ds := [.fr (Ns.lkT ((Sh.shX ((c : Nat) : Int))[j]))]) (⟨U69, by kernel_rfl, by decide⟩ : Elt Try.prog 69 92 1 24) (.tmp 52) (.tmp 59) rfl (fun _ => Ns.newLk (Sh.shX ((c : Nat) : Int))[j]) (by unfold maxLen; omega) (by omega) (Ns.cellLk (Sh.shX ((c : Nat) : Int))[j]) (es := (((Sh.shX ((c : Nat) : Int)).take (j + 1)).flatMap Ns.cLk)) (Ns.snocLk (by omega))) ⟨I0, I0, T0⟩ ⟨rfl, rfl, T0⟩ rfl (dA (Yt (off := 0) (.tmp 48) rfl) I0 (dA (fb 32 61 U71 1) I0 (dR (ZH (T0 := 71) (X := .own 1) (cs := [.v (xs 0), iv top, .v (xs 2), .v (xs 3), .v (xs 4), .v (xs 5), .v (xs 6), .v (xs 7), .v (xs 8), .v (xs 9), .v (xs 10), .v (xs 11), .v (xs 12), iv c, .v (xs 14), .v (xs 15), .v (xs 16), .v (xs 17), .v (xs 18), .v (xs 19), .v (xs 20), .v (xs 21), .v (xs 22), .v (xs 23), .v (xs 24), .v (xs 25), .v (xs 26), .v (xs 27), .v (xs 28), .v (xs 29), .v (xs 30), .fr (slA 1 cLi (Sh.shX ((c : Nat) : Int))), .any]) (ds := [.v (xs 0), iv top, .v (xs 2), .v (xs 3), .v (xs 4), .v (xs 5), .v (xs 6), .v (xs 7), .v (xs 8), .v (xs 9), .v (xs 10), .v (xs 11), .v (xs 12), iv c, .v (xs 14), .v (xs 15), .v (xs 16), .v (xs 17), .v (xs 18), .v (xs 19), .v (xs 20), .v (xs 21), .v (xs 22), .v (xs 23), .v (xs 24), .v (xs 25), .v (xs 26), .v (xs 27), .v (xs 28), .v (xs 29), .v (xs 30), .fr (slA 1 cLi (Sh.shX ((c : Nat) : Int))), .own 1]) (z := 1) (.tmp 62) (.tmp 60) rfl (by kernel_rfl) (by kernel_rfl) (by kernel_rfl) (of_decide_eq_true (by kernel_rfl)) (by kernel_rfl)) ⟨I0, I0, T0⟩ ⟨rfl, T0⟩ rfl (dE ?_))))))))))))))))) (by kernel_rfl)
 show ETri J w0 _ _ _
 refine kW 64 [(1, .row true 92 1 (((Sh.shX ((c : Nat) : Int)).take j).length + 1) (((Sh.shX ((c : Nat) : Int)).take (j + 1)).flatMap Ns.cLk)), (1000000, .box 71 [.v (xs 0), iv top, .v (xs 2), .v (xs 3), .v (xs 4), .v (xs 5), .v (xs 6), .v (xs 7), .v (xs 8), .v (xs 9), .v (xs 10), .v (xs 11), .v (xs 12), iv c, .v (xs 14), .v (xs 15), .v (xs 16), .v (xs 17), .v (xs 18), .v (xs 19), .v (xs 20), .v (xs 21), .v (xs 22), .v (xs 23), .v (xs 24), .v (xs 25), .v (xs 26), .v (xs 27), .v (xs 28), .v (xs 29), .v (xs 30), .fr (slA 1 cLi (Sh.shX ((c : Nat) : Int))), .own 1])] [(0, .box 1000000 0), (3, Zi ((Sh.shX ((c : Nat) : Int))[j])), (42, .fr (slA 1 cLi (Sh.shX ((c : Nat) : Int)))), (43, iv ((Sh.shX ((c : Nat) : Int)).length : Nat)), (44, iv j), (45, bv true)] (Yx (Zc (Za (oC (Ke (c := ((j + 1 : Nat) : Int)) rfl (w64 (by omega) (by omega) (by omega))) I0 I0 (pM (mT 63 (iv (j + 1 : Nat))) (kN 64 [(1, .row true 92 1 (((Sh.shX ((c : Nat) : Int)).take j).length + 1) (((Sh.shX ((c : Nat) : Int)).take (j + 1)).flatMap Ns.cLk)), (1000000, .box 71 [.v (xs 0), iv top, .v (xs 2), .v (xs 3), .v (xs 4), .v (xs 5), .v (xs 6), .v (xs 7), .v (xs 8), .v (xs 9), .v (xs 10), .v (xs 11), .v (xs 12), iv c, .v (xs 14), .v (xs 15), .v (xs 16), .v (xs 17), .v (xs 18), .v (xs 19), .v (xs 20), .v (xs 21), .v (xs 22), .v (xs 23), .v (xs 24), .v (xs 25), .v (xs 26), .v (xs 27), .v (xs 28), .v (xs 29), .v (xs 30), .fr (slA 1 cLi (Sh.shX ((c : Nat) : Int))), .own 1])] [(0, .box 1000000 0), (3, Zi ((Sh.shX ((c : Nat) : Int))[j])), (42, .fr (slA 1 cLi (Sh.shX ((c : Nat) : Int)))), (43, iv ((Sh.shX ((c : Nat) : Int)).length : Nat)), (44, iv (j + 1 : Nat)), (45, bv true)] (Zc ?_)))))))
 refine Yk ⟨j + 1, by omega⟩ (show (Sh.shX ((c : Nat) : Int)).length - (j + 1) < (Sh.shX ((c : Nat) : Int)).length - j by omega) ?_
 show Wk _ _ (ofL [(1, .row true 92 1 (((Sh.shX ((c : Nat) : Int)).take (j + 1)).length) (((Sh.shX ((c : Nat) : Int)).take (j + 1)).flatMap Ns.cLk)), (1000000, .box 71 [.v (xs 0), iv top, .v (xs 2), .v (xs 3), .v (xs 4), .v (xs 5), .v (xs 6), .v (xs 7), .v (xs 8), .v (xs 9), .v (xs 10), .v (xs 11), .v (xs 12), iv c, .v (xs 14), .v (xs 15), .v (xs 16), .v (xs 17), .v (xs 18), .v (xs 19), .v (xs 20), .v (xs 21), .v (xs 22), .v (xs 23), .v (xs 24), .v (xs 25), .v (xs 26), .v (xs 27), .v (xs 28), .v (xs 29), .v (xs 30), .fr (slA 1 cLi (Sh.shX ((c : Nat) : Int))), .own 1])]) (ofT 64 [(0, .box 1000000 0), (42, .fr (slA 1 cLi (Sh.shX ((c : Nat) : Int)))), (43, iv ((Sh.shX ((c : Nat) : Int)).length : Nat)), (44, iv ((j + 1) : Nat))])
 rw [show ((Sh.shX ((c : Nat) : Int)).take (j + 1)).length = ((Sh.shX ((c : Nat) : Int)).take j).length + 1 by rw [List.length_take, List.length_take]; omega]
 exact Zq _ _ rfl (by kernel_rfl) (by kernel_rfl)
 refine Za (oC (Yg rfl (dF hs4)) I0 I0 (kN 64 [(1, .row true 92 1 (((Sh.shX ((c : Nat) : Int)).take j).length) (((Sh.shX ((c : Nat) : Int)).take j).flatMap Ns.cLk)), (1000000, .box 71 [.v (xs 0), iv top, .v (xs 2), .v (xs 3), .v (xs 4), .v (xs 5), .v (xs 6), .v (xs 7), .v (xs 8), .v (xs 9), .v (xs 10), .v (xs 11), .v (xs 12), iv c, .v (xs 14), .v (xs 15), .v (xs 16), .v (xs 17), .v (xs 18), .v (xs 19), .v (xs 20), .v (xs 21), .v (xs 22), .v (xs 23), .v (xs 24), .v (xs 25), .v (xs 26), .v (xs 27), .v (xs 28), .v (xs 29), .v (xs 30), .fr (slA 1 cLi (Sh.shX ((c : Nat) : Int))), .own 1])] [(0, .box 1000000 0), (42, .fr (slA 1 cLi (Sh.shX ((c : Nat) : Int)))), (43, iv ((Sh.shX ((c : Nat) : Int)).length : Nat)), (44, iv j), (45, bv false)] (Zc (Zb (Zx rfl (Yz (ZE (ZE (t_hit (Yx ?_))))))))))
 refine KA ?_
 rw [Ns.shT_tree (n := ((c : Nat) : Int)) hs3]
 refine tri_wk (wk_anyN 1000000 1 [0, 0, 0, 0, 0, 0, 0, 0, 0, 0, 0, 0, 0, 0, 0, 0, 0, 0, 0, 0, 0, 0, 0, 0, 0, 0, 0, 0, 0, 0, 0, 0, 1] rfl (ds := [.v (xs 0), iv top, .v (xs 2), .v (xs 3), .v (xs 4), .v (xs 5), .v (xs 6), .v (xs 7), .v (xs 8), .v (xs 9), .v (xs 10), .v (xs 11), .v (xs 12), iv c, .v (xs 14), .v (xs 15), .v (xs 16), .v (xs 17), .v (xs 18), .v (xs 19), .v (xs 20), .v (xs 21), .v (xs 22), .v (xs 23), .v (xs 24), .v (xs 25), .v (xs 26), .v (xs 27), .v (xs 28), .v (xs 29), .v (xs 30), .fr (slA 1 cLi (Sh.shX ((c : Nat) : Int))), .any]) (by kernel_rfl) (by kernel_rfl)) ?_
 exact tri_back0 Try.results55  (by decide) (by kernel_rfl)
 refine Za (oC (ZY rfl (dF hs3)) I0 I0 (pM (aT 27 (bv false)) (kN 64 [(1000000, .box 71 [.v (xs 0), iv top, .v (xs 2), .v (xs 3), .v (xs 4), .v (xs 5), .v (xs 6), .v (xs 7), .v (xs 8), .v (xs 9), .v (xs 10), .v (xs 11), .v (xs 12), iv c, .v (xs 14), .v (xs 15), .v (xs 16), .v (xs 17), .v (xs 18), .v (xs 19), .v (xs 20), .v (xs 21), .v (xs 22), .v (xs 23), .v (xs 24), .v (xs 25), .v (xs 26), .v (xs 27), .v (xs 28), .v (xs 29), .v (xs 30), .v (.slice none 0 0), .v (.slice none 0 0)])] [(0, .box 1000000 0), (26, bv false)] (Zc (Zx rfl (Zr (Yx ?_)))))))
 refine KA ?_
 rw [Ns.shT_no (n := ((c : Nat) : Int)) (by omega)]
 refine tri_wk (wk_anyN 1000000 1 [0, 0, 0, 0, 0, 0, 0, 0, 0, 0, 0, 0, 0, 0, 0, 0, 0, 0, 0, 0, 0, 0, 0, 0, 0, 0, 0, 0, 0, 0, 0, 2, 1] rfl (ds := [.v (xs 0), iv top, .v (xs 2), .v (xs 3), .v (xs 4), .v (xs 5), .v (xs 6), .v (xs 7), .v (xs 8), .v (xs 9), .v (xs 10), .v (xs 11), .v (xs 12), iv c, .v (xs 14), .v (xs 15), .v (xs 16), .v (xs 17), .v (xs 18), .v (xs 19), .v (xs 20), .v (xs 21), .v (xs 22), .v (xs 23), .v (xs 24), .v (xs 25), .v (xs 26), .v (xs 27), .v (xs 28), .v (xs 29), .v (xs 30), .fr (.sl 1 0 []), .any]) (by kernel_rfl) (by kernel_rfl)) ?_
 exact tri_back0 Try.results55  (by decide) (by kernel_rfl)
end Go.Proofs.Ytgbgfkhkjlakbaa
