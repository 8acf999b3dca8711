/-
  THE WALK OF ProtocolEqualsProperty: EqualProperty compares all fields, for all pairs of properties.
-/
import Derived.Test.YtbdnihjokndhaabDoorPKnown
import Derived.Test.YtbdnihjokndhaabDoorBigProp
import Derived.Test.YtbdnihjokndhaabDoorRPropEq
import Derived.Test.YtbdnihjokndhaabDoorCopyProp
import Derived.Test.YtbdnihjokndhaabDoorHold2
import Derived.Deep.RegionHeld3
namespace Go.Proofs.YtbdnihjokndhaabDoor
open Go.RowKit Go.Deep

/-- Twelve cells that stay. -/
theorem keepTw {w w1 w2 : World} {p0 p1 p2 p3 p4 p5 p6 p7 p8 p9 p10 p11 : Addr} {u0 u1 u2 u3 u4 u5 u6 u7 u8 u9 u10 u11 : Value} (h : w1.cell? p0 = some u0 ∧ w1.cell? p1 = some u1 ∧ w1.cell? p2 = some u2 ∧ w1.cell? p3 = some u3 ∧ w1.cell? p4 = some u4 ∧ w1.cell? p5 = some u5 ∧ w1.cell? p6 = some u6 ∧ w1.cell? p7 = some u7 ∧ w1.cell? p8 = some u8 ∧ w1.cell? p9 = some u9 ∧ w1.cell? p10 = some u10 ∧ w1.cell? p11 = some u11 ∧ Below w.heap.size w w1) (hb : Below w1.heap.size w1 w2) :
    w2.cell? p0 = some u0 ∧ w2.cell? p1 = some u1 ∧ w2.cell? p2 = some u2 ∧ w2.cell? p3 = some u3 ∧ w2.cell? p4 = some u4 ∧ w2.cell? p5 = some u5 ∧ w2.cell? p6 = some u6 ∧ w2.cell? p7 = some u7 ∧ w2.cell? p8 = some u8 ∧ w2.cell? p9 = some u9 ∧ w2.cell? p10 = some u10 ∧ w2.cell? p11 = some u11 ∧ Below w.heap.size w w2 :=
  ⟨keep1 h.1 hb, keep1 h.2.1 hb, keep1 h.2.2.1 hb, keep1 h.2.2.2.1 hb, keep1 h.2.2.2.2.1 hb, keep1 h.2.2.2.2.2.1 hb, keep1 h.2.2.2.2.2.2.1 hb, keep1 h.2.2.2.2.2.2.2.1 hb, keep1 h.2.2.2.2.2.2.2.2.1 hb, keep1 h.2.2.2.2.2.2.2.2.2.1 hb, keep1 h.2.2.2.2.2.2.2.2.2.2.1 hb, keep1 h.2.2.2.2.2.2.2.2.2.2.2.1 hb, thenBelow h.2.2.2.2.2.2.2.2.2.2.2.2 hb⟩
theorem heldTw {a b c d e f g i j k l m n : Prop} (h : a ∧ b ∧ c ∧ d ∧ e ∧ f ∧ g ∧ i ∧ j ∧ k ∧ l ∧ m ∧ n) : n := h.2.2.2.2.2.2.2.2.2.2.2.2

set_option maxHeartbeats 3200000 in
theorem walk_EqualsProperty {v v' : Value} {qa qb : Pq} (w : World) (H0 : IsProp 0 w v qa) (H1 : IsProp 0 w v' qb) (ht : TabW w) :
    Calls Tryd.prog 3 #[v, v'] w fun e w' => e = .returned (.bool true) ∧ Below w.heap.size w w' := by
  have HT := Lib.hid ht
  have G0 := Lib.hid H0
  have G1 := Lib.hid H1
  clear ht
  obtain ⟨v2, v3, v4, v5, rfl, H2, H3, H4, H5, _⟩ := H0
  obtain ⟨u2, u3, u4, u5, rfl, K2, K3, K4, K5, _⟩ := H1
  obtain ⟨a0, c0, rfl⟩ := H2.shape
  obtain ⟨a1, c1, rfl⟩ := H3.shape
  obtain ⟨a2, c2, rfl⟩ := H4.shape
  obtain ⟨a3, c3, rfl⟩ := H5.shape
  obtain ⟨a4, c4, rfl⟩ := K2.shape
  obtain ⟨a5, c5, rfl⟩ := K3.shape
  obtain ⟨a6, c6, rfl⟩ := K4.shape
  obtain ⟨a7, c7, rfl⟩ := K5.shape
  clear H2 H3 H4 H5 K2 K3 K4 K5
  go_enter Tryd.func3, Tryd.ntmps3
  go_wp2_with fail
  obtain ⟨W, hW⟩ : ∃ W, W = (w.alloc (.cells #[.string qa.nm, .int .i64 qa.kind, .slice a0 qa.start.length c0, .slice a1 qa.bad.length c1, .slice a2 qa.adj.length c2, .slice a3 qa.goal.length c3] 25)).alloc (.cells #[.string qb.nm, .int .i64 qb.kind, .slice a4 qb.start.length c4, .slice a5 qb.bad.length c5, .slice a6 qb.adj.length c6, .slice a7 qb.goal.length c7] 25) := ⟨_, rfl⟩
  rw [← hW]
  have HS := Lib.hid (show (fun w' => w'.cell? ⟨w.heap.size, 0, none⟩ = some (.string qa.nm) ∧ w'.cell? ⟨w.heap.size, 1, none⟩ = some (.int .i64 qa.kind) ∧ w'.cell? ⟨w.heap.size, 2, none⟩ = some (.slice a0 qa.start.length c0) ∧ w'.cell? ⟨w.heap.size, 3, none⟩ = some (.slice a1 qa.bad.length c1) ∧ w'.cell? ⟨w.heap.size, 4, none⟩ = some (.slice a2 qa.adj.length c2) ∧ w'.cell? ⟨w.heap.size, 5, none⟩ = some (.slice a3 qa.goal.length c3) ∧ w'.cell? ⟨w.heap.size + 1, 0, none⟩ = some (.string qb.nm) ∧ w'.cell? ⟨w.heap.size + 1, 1, none⟩ = some (.int .i64 qb.kind) ∧ w'.cell? ⟨w.heap.size + 1, 2, none⟩ = some (.slice a4 qb.start.length c4) ∧ w'.cell? ⟨w.heap.size + 1, 3, none⟩ = some (.slice a5 qb.bad.length c5) ∧ w'.cell? ⟨w.heap.size + 1, 4, none⟩ = some (.slice a6 qb.adj.length c6) ∧ w'.cell? ⟨w.heap.size + 1, 5, none⟩ = some (.slice a7 qb.goal.length c7) ∧ Below w.heap.size w w') W from by
    rw [hW]
    exact ⟨keep1 ((new_cell w _ _ 0 rfl).trans rfl) (allocBelow _ _), keep1 ((new_cell w _ _ 1 rfl).trans rfl) (allocBelow _ _), keep1 ((new_cell w _ _ 2 rfl).trans rfl) (allocBelow _ _), keep1 ((new_cell w _ _ 3 rfl).trans rfl) (allocBelow _ _), keep1 ((new_cell w _ _ 4 rfl).trans rfl) (allocBelow _ _), keep1 ((new_cell w _ _ 5 rfl).trans rfl) (allocBelow _ _), (new_cell _ _ _ 0 (by simp)).trans rfl, (new_cell _ _ _ 1 (by simp)).trans rfl, (new_cell _ _ _ 2 (by simp)).trans rfl, (new_cell _ _ _ 3 (by simp)).trans rfl, (new_cell _ _ _ 4 (by simp)).trans rfl, (new_cell _ _ _ 5 (by simp)).trans rfl, (allocBelow _ _).trans ((allocBelow _ _).mono (by simp))⟩)
  clear hW
  have HSW := heldTw HS.out
  refine (BigProperty_any (G0.out.below HSW)).mono ?_
  rintro e w1 ⟨rfl, hb1⟩
  have HS1 := Lib.hid (keepTw HS.out hb1)
  have hB1 := heldTw HS1.out
  clear hb1
  cases hA : bigQ qa with
  | true =>
    go_wp2_with (go_at_call 6; refine (vknown_any _ (HT.out.below hB1)).mono ?_; rintro e wk ⟨rfl, hbk⟩)
    go_ret
    exact ⟨rfl, thenBelow hB1 hbk⟩
  | false =>
    have HA := Lib.hid hA
    obtain ⟨j0, j1, j2, j3, j4, j5, k0, k1, k2, k3, k4, k5, _⟩ := HS1.out
    cases hB : bigQ qb with
    | true =>
      go_wp2_with (first | (go_at_call 5; refine (BigProperty_any (G1.out.below hB1)).mono ?_; rintro e w2 ⟨rfl, hb2⟩; have hB2 := thenBelow hB1 hb2; clear hb2) | (go_at_call 6; refine (vknown_any _ (HT.out.below hB2)).mono ?_; rintro e wk ⟨rfl, hbk⟩))
      go_ret
      exact ⟨rfl, thenBelow hB2 hbk⟩
    | false =>
      go_wp2_with (first | (go_at_call 5; refine (BigProperty_any (G1.out.below hB1)).mono ?_; rintro e w2 ⟨rfl, hb2⟩; have HS2 := Lib.hid (keepTw HS1.out hb2); clear hb2 j0 j1 j2 j3 j4 j5 k0 k1 k2 k3 k4 k5; obtain ⟨j0, j1, j2, j3, j4, j5, k0, k1, k2, k3, k4, k5, hB2⟩ := HS2.out))
      clear j0 j1 j2 j3 j4 j5 k0 k1 k2 k3 k4 k5 hB2 hB1 HSW
      go_region_held3 (fun w' => w'.cell? ⟨w.heap.size, 0, none⟩ = some (.string qa.nm) ∧ w'.cell? ⟨w.heap.size, 1, none⟩ = some (.int .i64 qa.kind) ∧ w'.cell? ⟨w.heap.size, 2, none⟩ = some (.slice a0 qa.start.length c0) ∧ w'.cell? ⟨w.heap.size, 3, none⟩ = some (.slice a1 qa.bad.length c1) ∧ w'.cell? ⟨w.heap.size, 4, none⟩ = some (.slice a2 qa.adj.length c2) ∧ w'.cell? ⟨w.heap.size, 5, none⟩ = some (.slice a3 qa.goal.length c3) ∧ w'.cell? ⟨w.heap.size + 1, 0, none⟩ = some (.string qb.nm) ∧ w'.cell? ⟨w.heap.size + 1, 1, none⟩ = some (.int .i64 qb.kind) ∧ w'.cell? ⟨w.heap.size + 1, 2, none⟩ = some (.slice a4 qb.start.length c4) ∧ w'.cell? ⟨w.heap.size + 1, 3, none⟩ = some (.slice a5 qb.bad.length c5) ∧ w'.cell? ⟨w.heap.size + 1, 4, none⟩ = some (.slice a6 qb.adj.length c6) ∧ w'.cell? ⟨w.heap.size + 1, 5, none⟩ = some (.slice a7 qb.goal.length c7) ∧ Below w.heap.size w w') (first | exact HS2.out | exact keepTw HS2.out (drewBelow _) | assumption | exact keepTw (by assumption) (by assumption)) (first | (go_at_call 7; (with_reducible refine (EqualProperty_any (G0.out.below (heldTw (by assumption))) (G1.out.below (heldTw (by assumption)))).mono ?_); rintro e w3 ⟨rfl, hb3⟩) | (go_at_call 8; (with_reducible refine (rEqualProperty_any (G0.out.below (heldTw (by assumption))) (G1.out.below (heldTw (by assumption)))).mono ?_); rintro e w4 ⟨rfl, hb4⟩) | (go_at_call 9; (with_reducible refine (CopyProperty_any (G0.out.below (heldTw (by assumption))) HA.out).mono ?_); rintro e w5 ⟨v', rfl, hv', hb5⟩; have HV := Lib.hid hv'; clear hv') | (go_at_call 7; (with_reducible refine (EqualProperty_any (G0.out.below (heldTw (by assumption))) HV.out).mono ?_); rw [eqQ_self]; rintro e w6 ⟨rfl, hb6⟩) | (go_at_call 6; (with_reducible refine (vknown_any _ (HT.out.below (heldTw (by assumption)))).mono ?_); rintro e wk ⟨rfl, hbk⟩))
      have hE := heldTw (by assumption : _ ∧ _ ∧ _ ∧ _ ∧ _ ∧ _ ∧ _ ∧ _ ∧ _ ∧ _ ∧ _ ∧ _ ∧ Below w.heap.size w wk)
      go_wp2_with fail
      go_ret
      exact ⟨rfl, hE⟩
end Go.Proofs.YtbdnihjokndhaabDoor
