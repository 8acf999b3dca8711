/-
  EqualProperty OF THE REFERENCE.
-/
import Derived.Test.YtbdnihjokndhaabDoorPropBase
namespace Go.Proofs.YtbdnihjokndhaabDoor
open Go.RowKit Go.Deep

set_option maxHeartbeats 3200000 in
theorem rEqualProperty_any {lo lo' : Nat} {w : World} {v v' : Value} {p q : Pq} (h : IsProp lo w v p) (h' : IsProp lo' w v' q) :
    Calls Tryd.prog 8 #[v, v'] w fun e w' => e = .returned (.bool (eqQ p q)) ∧ Below w.heap.size w w' := by
  obtain ⟨v2, v3, v4, v5, rfl, H2, H3, H4, H5, _⟩ := h
  obtain ⟨u2, u3, u4, u5, rfl, K2, K3, K4, K5, _⟩ := h'
  obtain ⟨nm, kind, start, bad, adj, goal⟩ := p
  obtain ⟨nm', kind', start', bad', adj', goal'⟩ := q
  dsimp only at H2 H3 H4 H5 K2 K3 K4 K5 ⊢
  obtain ⟨a0, c0, rfl⟩ := H2.shape
  obtain ⟨a1, c1, rfl⟩ := H3.shape
  obtain ⟨a2, c2, rfl⟩ := H4.shape
  obtain ⟨a3, c3, rfl⟩ := H5.shape
  obtain ⟨a4, c4, rfl⟩ := K2.shape
  obtain ⟨a5, c5, rfl⟩ := K3.shape
  obtain ⟨a6, c6, rfl⟩ := K4.shape
  obtain ⟨a7, c7, rfl⟩ := K5.shape
  have GH2 := Lib.hid H2
  have GH3 := Lib.hid H3
  have GH4 := Lib.hid H4
  have GH5 := Lib.hid H5
  have GK2 := Lib.hid K2
  have GK3 := Lib.hid K3
  have GK4 := Lib.hid K4
  have GK5 := Lib.hid K5
  have hm := H3.bound
  have hm' := K3.bound
  clear H2 H3 H4 H5 K2 K3 K4 K5
  have E : Hid (eqQ ⟨nm, kind, start, bad, adj, goal⟩ ⟨nm', kind', start', bad', adj', goal'⟩ = ((nm.toList == nm'.toList) && (kind == kind') && eqI start start' && eqC bad bad' && eqI adj adj' && eqI goal goal')) := (rfl : eqQ _ _ = _)
  cases t0 : (nm.toList == nm'.toList) with
  | false =>
    go_enter Tryd.func8, Tryd.ntmps8
    go_wp2_with fail
    go_ret
    exact ⟨ret_bool (by rw [E.out, t0]; simp), (allocBelow _ _).trans ((allocBelow _ _).mono (by simp))⟩
  | true =>
    cases t1 : (kind == kind') with
    | false =>
      have t1' : (kind != kind') = true := by rw [bne, t1]; rfl
      go_enter Tryd.func8, Tryd.ntmps8
      go_wp2_with fail
      go_ret
      exact ⟨ret_bool (by rw [E.out, t0, t1]; simp), (allocBelow _ _).trans ((allocBelow _ _).mono (by simp))⟩
    | true =>
      have t1' : (kind != kind') = false := by rw [bne, t1]; rfl
      by_cases t2 : bad.length = bad'.length
      · have t2' : (((bad.length : Nat) : Int) != ((bad'.length : Nat) : Int)) = false := by simp [t2]
        have HL := Lib.hid t2
        clear t2
        have E' : Hid (eqQ ⟨nm, kind, start, bad, adj, goal⟩ ⟨nm', kind', start', bad', adj', goal'⟩ = (eqI start start' && eqC bad bad' && eqI adj adj' && eqI goal goal')) := by show _ = _; rw [E.out, t0, t1]; rfl
        clear E
        go_enter Tryd.func8, Tryd.ntmps8
        go_wp2_with fail
        obtain ⟨W, hW⟩ : ∃ W, W = (w.alloc (.cells #[.string nm, .int .i64 kind, .slice a0 start.length c0, .slice a1 bad.length c1, .slice a2 adj.length c2, .slice a3 goal.length c3] 25)).alloc (.cells #[.string nm', .int .i64 kind', .slice a4 start'.length c4, .slice a5 bad'.length c5, .slice a6 adj'.length c6, .slice a7 goal'.length c7] 25) := ⟨_, rfl⟩
        rw [← hW]
        have A2 : W.cell? ⟨w.heap.size, 2, none⟩ = some (.slice a0 start.length c0) := by rw [hW]; exact keep1 ((new_cell w _ _ 2 rfl).trans rfl) (allocBelow _ _)
        have B2 : W.cell? ⟨w.heap.size + 1, 2, none⟩ = some (.slice a4 start'.length c4) := by rw [hW]; exact (new_cell _ _ _ 2 (by simp)).trans rfl
        have A3 : W.cell? ⟨w.heap.size, 3, none⟩ = some (.slice a1 bad.length c1) := by rw [hW]; exact keep1 ((new_cell w _ _ 3 rfl).trans rfl) (allocBelow _ _)
        have B3 : W.cell? ⟨w.heap.size + 1, 3, none⟩ = some (.slice a5 bad'.length c5) := by rw [hW]; exact (new_cell _ _ _ 3 (by simp)).trans rfl
        have A4 : W.cell? ⟨w.heap.size, 4, none⟩ = some (.slice a2 adj.length c2) := by rw [hW]; exact keep1 ((new_cell w _ _ 4 rfl).trans rfl) (allocBelow _ _)
        have B4 : W.cell? ⟨w.heap.size + 1, 4, none⟩ = some (.slice a6 adj'.length c6) := by rw [hW]; exact (new_cell _ _ _ 4 (by simp)).trans rfl
        have A5 : W.cell? ⟨w.heap.size, 5, none⟩ = some (.slice a3 goal.length c3) := by rw [hW]; exact keep1 ((new_cell w _ _ 5 rfl).trans rfl) (allocBelow _ _)
        have B5 : W.cell? ⟨w.heap.size + 1, 5, none⟩ = some (.slice a7 goal'.length c7) := by rw [hW]; exact (new_cell _ _ _ 5 (by simp)).trans rfl
        have HBW := Lib.hid (show Below w.heap.size w W by rw [hW]; show Below _ _ _; go_grown)
        clear hW
        have HA2 := Lib.hid A2
        have HB2 := Lib.hid B2
        have HA3 := Lib.hid A3
        have HB3 := Lib.hid B3
        have HA4 := Lib.hid A4
        have HB4 := Lib.hid B4
        have HA5 := Lib.hid A5
        have HB5 := Lib.hid B5
        clear A2 A3 A4 A5 B2 B3 B4 B5
        go_loopw [5] (fun v wr => ∃ k : Nat, k ≤ bad.length ∧ v = .int .i64 k ∧ sameKR bad bad' k ∧ Below W.heap.size W wr) (fun v _ => bad.length - (intOf v).toNat)
        case atStart => exact ⟨0, Nat.zero_le _, rfl, rfl, Below.refl _ _⟩
        case round =>
          obtain ⟨k, hk, rfl, hs, hB⟩ := hrel
          have HS := Lib.hid hs
          have HB := Lib.hid (thenBelow HBW.out hB)
          have HBw := Lib.hid hB
          have z3 := keep1 HA3.out hB
          have y3 := keep1 HB3.out hB
          by_cases h1 : k < bad.length
          · obtain ⟨b, off, sv, rfl, hb, q1, q2, q3, _⟩ := GH3.out.at k h1
            obtain ⟨b', off', sv', rfl, hb', r1, r2, r3, _⟩ := GK3.out.at k (HL.out ▸ h1)
            obtain ⟨x1, d1, rfl⟩ := q3.shape
            obtain ⟨x2, d2, rfl⟩ := r3.shape
            have g1 := keep1 q1 HB.out
            have g2 := keep1 q2 HB.out
            have g3 := keep1 r1 HB.out
            have g4 := keep1 r2 HB.out
            have Q := Lib.hid (q3.below HB.out)
            have R := Lib.hid (r3.below HB.out)
            have hkl : k < bad'.length := HL.out ▸ h1
            clear hB hs q1 q2 q3 r1 r2 r3
            generalize hX : bad[k]'h1 = x at g1 g2 Q
            generalize hY : bad'[k]'hkl = y at g3 g4 R
            have HX := Lib.hid hX
            have HY := Lib.hid hY
            have HC : Hid (sameC x y = ((x.2 == y.2) && eqI x.1 y.1)) := (rfl : sameC x y = _)
            clear hX hY
            have HZ := Lib.hid (show wr.cell? ⟨w.heap.size, 3, none⟩ = some _ ∧ wr.cell? ⟨w.heap.size + 1, 3, none⟩ = some _ ∧ wr.cell? ⟨b, off + k * 2, none⟩ = some _ ∧ wr.cell? ⟨b, off + k * 2 + 1, none⟩ = some _ ∧ wr.cell? ⟨b', off' + k * 2, none⟩ = some _ ∧ wr.cell? ⟨b', off' + k * 2 + 1, none⟩ = some _ ∧ Below wr.heap.size wr wr from ⟨z3, y3, g1, g2, g3, g4, Below.refl _ _⟩)
            cases hc : (x.2 == y.2) with
            | true =>
              have hc' : (x.2 != y.2) = false := by rw [bne, hc]; rfl
              cases he : eqI x.1 y.1 with
              | true =>
                have HE := Lib.hid (show sameC x y = true by rw [HC.out, hc, he]; rfl)
                go_wp2_with fail
                go_region_held3 (fun w' => w'.cell? ⟨w.heap.size, 3, none⟩ = some (.slice (some ⟨b, off, none⟩) bad.length c1) ∧ w'.cell? ⟨w.heap.size + 1, 3, none⟩ = some (.slice (some ⟨b', off', none⟩) bad'.length c5) ∧ w'.cell? ⟨b, off + k * 2, none⟩ = some (.slice x1 x.1.length d1) ∧ w'.cell? ⟨b, off + k * 2 + 1, none⟩ = some (.int .i64 x.2) ∧ w'.cell? ⟨b', off' + k * 2, none⟩ = some (.slice x2 y.1.length d2) ∧ w'.cell? ⟨b', off' + k * 2 + 1, none⟩ = some (.int .i64 y.2) ∧ Below wr.heap.size wr w') (first | exact HZ.out | exact keepSix HZ.out (drewBelow _) | assumption | exact keepSix (by assumption) (by assumption)) (first | (go_at_call 19; (with_reducible refine (SameInts_any (Q.out.below (heldSix (by assumption))) (R.out.below (heldSix (by assumption)))).mono ?_); rintro e w1 ⟨rfl, hb1⟩))
                have hE := heldSix (by assumption : _ ∧ _ ∧ _ ∧ _ ∧ _ ∧ _ ∧ Below wr.heap.size wr w1)
                go_wp2_with fail
                go_roundw
                case rel => exact ⟨k + 1, by omega, by go_num, sameKR_succ (by omega) (by omega) HS.out (by rw [HX.out, HY.out]; exact HE.out), thenBelow HBw.out hE⟩
                case measure => simp [intOf]; omega
              | false =>
                have HE := Lib.hid (show sameC x y = false by rw [HC.out, hc, he]; rfl)
                go_wp2_with fail
                go_region_held3 (fun w' => w'.cell? ⟨w.heap.size, 3, none⟩ = some (.slice (some ⟨b, off, none⟩) bad.length c1) ∧ w'.cell? ⟨w.heap.size + 1, 3, none⟩ = some (.slice (some ⟨b', off', none⟩) bad'.length c5) ∧ w'.cell? ⟨b, off + k * 2, none⟩ = some (.slice x1 x.1.length d1) ∧ w'.cell? ⟨b, off + k * 2 + 1, none⟩ = some (.int .i64 x.2) ∧ w'.cell? ⟨b', off' + k * 2, none⟩ = some (.slice x2 y.1.length d2) ∧ w'.cell? ⟨b', off' + k * 2 + 1, none⟩ = some (.int .i64 y.2) ∧ Below wr.heap.size wr w') (first | exact HZ.out | exact keepSix HZ.out (drewBelow _) | assumption | exact keepSix (by assumption) (by assumption)) (first | (go_at_call 19; (with_reducible refine (SameInts_any (Q.out.below (heldSix (by assumption))) (R.out.below (heldSix (by assumption)))).mono ?_); rintro e w1 ⟨rfl, hb1⟩))
                have hE := heldSix (by assumption : _ ∧ _ ∧ _ ∧ _ ∧ _ ∧ _ ∧ Below wr.heap.size wr w1)
                go_wp2_with fail
                go_ret
                exact ⟨ret_bool (by rw [E'.out, eqC_differ (k := k) (by omega) (by omega) (by rw [HX.out, HY.out]; exact HE.out)]; simp), thenBelow HB.out hE⟩
            | false =>
              have hc' : (x.2 != y.2) = true := by rw [bne, hc]; rfl
              have HE := Lib.hid (show sameC x y = false by rw [HC.out, hc]; rfl)
              go_wp2_with fail
              go_quiet (fail)
              go_wp2_with fail
              go_ret
              exact ⟨ret_bool (by rw [E'.out, eqC_differ (k := k) (by omega) (by omega) (by rw [HX.out, HY.out]; exact HE.out)]; simp), quietBelow HB.out _⟩
          · have EE := Lib.hid (eqC_end (k := k) (by omega) (by have := HL.out; omega) HS.out)
            have zA2 := keep1 HA2.out hB
            have zB2 := keep1 HB2.out hB
            have zA4 := keep1 HA4.out hB
            have zB4 := keep1 HB4.out hB
            have zA5 := keep1 HA5.out hB
            have zB5 := keep1 HB5.out hB
            clear hB hs y3
            cases e1 : eqI start start' with
            | false =>
              go_wp2_with (first | (go_at_call 19; (with_reducible refine (SameInts_any (GH2.out.below HB.out) (GK2.out.below HB.out)).mono ?_); rintro e w1 ⟨rfl, hbw1⟩; have zA4w1 := keep1 zA4 hbw1; have zB4w1 := keep1 zB4 hbw1; have zA5w1 := keep1 zA5 hbw1; have zB5w1 := keep1 zB5 hbw1; have hBw1 := thenBelow HB.out hbw1; clear hbw1))
              go_ret
              exact ⟨ret_bool (by rw [E'.out, EE.out, e1]; rfl), hBw1⟩
            | true =>
              cases e2 : eqI adj adj' with
              | false =>
                go_wp2_with (first | (go_at_call 19; (with_reducible refine (SameInts_any (GH2.out.below HB.out) (GK2.out.below HB.out)).mono ?_); rintro e w1 ⟨rfl, hbw1⟩; have zA4w1 := keep1 zA4 hbw1; have zB4w1 := keep1 zB4 hbw1; have zA5w1 := keep1 zA5 hbw1; have zB5w1 := keep1 zB5 hbw1; have hBw1 := thenBelow HB.out hbw1; clear hbw1) | (go_at_call 19; (with_reducible refine (SameInts_any (GH4.out.below hBw1) (GK4.out.below hBw1)).mono ?_); rintro e w2 ⟨rfl, hbw2⟩; have zA5w2 := keep1 zA5w1 hbw2; have zB5w2 := keep1 zB5w1 hbw2; have hBw2 := thenBelow hBw1 hbw2; clear hbw2))
                go_ret
                exact ⟨ret_bool (by rw [E'.out, EE.out, e1, e2]; rfl), hBw2⟩
              | true =>
                go_wp2_with (first | (go_at_call 19; (with_reducible refine (SameInts_any (GH2.out.below HB.out) (GK2.out.below HB.out)).mono ?_); rintro e w1 ⟨rfl, hbw1⟩; have zA4w1 := keep1 zA4 hbw1; have zB4w1 := keep1 zB4 hbw1; have zA5w1 := keep1 zA5 hbw1; have zB5w1 := keep1 zB5 hbw1; have hBw1 := thenBelow HB.out hbw1; clear hbw1) | (go_at_call 19; (with_reducible refine (SameInts_any (GH4.out.below hBw1) (GK4.out.below hBw1)).mono ?_); rintro e w2 ⟨rfl, hbw2⟩; have zA5w2 := keep1 zA5w1 hbw2; have zB5w2 := keep1 zB5w1 hbw2; have hBw2 := thenBelow hBw1 hbw2; clear hbw2) | (go_at_call 19; (with_reducible refine (SameInts_any (GH5.out.below hBw2) (GK5.out.below hBw2)).mono ?_); rintro e w3 ⟨rfl, hbw3⟩; have hBw3 := thenBelow hBw2 hbw3; clear hbw3))
                go_ret
                exact ⟨ret_bool (by rw [E'.out, EE.out, e1, e2]; rfl), hBw3⟩
      · have t2' : (((bad.length : Nat) : Int) != ((bad'.length : Nat) : Int)) = true := by simp; omega
        have t3 := eqC_len t2
        clear t2
        go_enter Tryd.func8, Tryd.ntmps8
        go_wp2_with fail
        go_ret
        exact ⟨ret_bool (by rw [E.out, t0, t1, t3]; simp), (allocBelow _ _).trans ((allocBelow _ _).mono (by simp))⟩
end Go.Proofs.YtbdnihjokndhaabDoor
