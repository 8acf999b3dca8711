/-
  THE WALK OF ProtocolOrders: Compare is the order of sizes, and a total order.
-/
import Derived.Test.YtbdnihjokndhaaaDoorPKnown
import Derived.Test.YtbdnihjokndhaaaDoorPOrder
import Derived.Test.YtbdnihjokndhaaaDoorHold2
import Derived.Deep.RegionHeld3
namespace Go.Proofs.YtbdnihjokndhaaaDoor
open Go.RowKit Go.Deep

theorem cmpN_three (x y : Int) : cmpN x y = -1 ∧ x < y ∨ cmpN x y = 0 ∧ x = y ∨ cmpN x y = 1 ∧ y < x := by
  unfold cmpN; split
  · exact .inl ⟨rfl, by omega⟩
  · split
    · exact .inr (.inr ⟨rfl, by omega⟩)
    · exact .inr (.inl ⟨rfl, by omega⟩)
theorem ord_three (a b d x y z : Int) : (ordS a b d x y z = -1 ∧ (a < x ∨ a = x ∧ (d < z ∨ d = z ∧ b < y))) ∨ (ordS a b d x y z = 0 ∧ a = x ∧ d = z ∧ b = y) ∨ (ordS a b d x y z = 1 ∧ (x < a ∨ a = x ∧ (z < d ∨ d = z ∧ y < b))) := by
  unfold ordS orI
  rcases cmpN_three a x with ⟨e, h⟩ | ⟨e, h⟩ | ⟨e, h⟩
  · rw [e]; exact .inl ⟨rfl, .inl h⟩
  · rw [e, if_neg (by simp)]
    rcases cmpN_three d z with ⟨e', h'⟩ | ⟨e', h'⟩ | ⟨e', h'⟩
    · rw [e']; exact .inl ⟨rfl, .inr ⟨h, .inl h'⟩⟩
    · rw [e', if_neg (by simp)]
      rcases cmpN_three b y with ⟨e'', h''⟩ | ⟨e'', h''⟩ | ⟨e'', h''⟩
      · exact .inl ⟨e'', .inr ⟨h, .inr ⟨h', h''⟩⟩⟩
      · exact .inr (.inl ⟨e'', h, h', h''⟩)
      · exact .inr (.inr ⟨e'', .inr ⟨h, .inr ⟨h', h''⟩⟩⟩)
    · rw [e']; exact .inr (.inr ⟨rfl, .inr ⟨h, .inl h'⟩⟩)
  · rw [e]; exact .inr (.inr ⟨rfl, .inl h⟩)
theorem ord_flip (a b d x y z : Int) : ordS x y z a b d = -ordS a b d x y z := by
  rcases ord_three a b d x y z with ⟨e, h⟩ | ⟨e, h⟩ | ⟨e, h⟩ <;> rcases ord_three x y z a b d with ⟨e', h'⟩ | ⟨e', h'⟩ | ⟨e', h'⟩ <;> omega
theorem ord_zero (a b d x y z : Int) : ordS a b d x y z = 0 ↔ a = x ∧ b = y ∧ d = z := by
  rcases ord_three a b d x y z with ⟨e, h⟩ | ⟨e, h⟩ | ⟨e, h⟩ <;> omega
theorem ord_trans (a b d x y z p q r : Int) : 0 < ordS a b d x y z ∨ 0 < ordS x y z p q r ∨ ordS a b d p q r ≤ 0 := by
  rcases ord_three a b d x y z with ⟨e, h⟩ | ⟨e, h⟩ | ⟨e, h⟩ <;> rcases ord_three x y z p q r with ⟨e', h'⟩ | ⟨e', h'⟩ | ⟨e', h'⟩ <;> rcases ord_three a b d p q r with ⟨e'', h''⟩ | ⟨e'', h''⟩ | ⟨e'', h''⟩ <;> omega

set_option maxHeartbeats 1600000 in
theorem walk_Orders {a b d x y z p q r : Int} (w : World) (ba : I64 a) (bb : I64 b) (bd : I64 d) (bx : I64 x) (hy : I64 y) (bz : I64 z) (_bp : I64 p) (_bq : I64 q) (_br : I64 r) (ht : TabW w) :
    Calls Tryd.prog 10 #[.agg #[.int .i64 a, .int .i64 b, .int .i64 d], .agg #[.int .i64 x, .int .i64 y, .int .i64 z], .agg #[.int .i64 p, .int .i64 q, .int .i64 r]] w fun e w' => e = .returned (.bool true) ∧ Below w.heap.size w w' := by
  have HT := Lib.hid ht
  obtain ⟨o1, h1⟩ : ∃ o, o = ordS a b d x y z := ⟨_, rfl⟩
  obtain ⟨o2, h2⟩ : ∃ o, o = ordS x y z p q r := ⟨_, rfl⟩
  obtain ⟨o3, h3⟩ : ∃ o, o = ordS a b d p q r := ⟨_, rfl⟩
  have c1 : ∀ w : World, Calls Tryd.prog 36 #[.agg #[.int .i64 a, .int .i64 b, .int .i64 d], .agg #[.int .i64 x, .int .i64 y, .int .i64 z]] w fun e w' => e = .returned (.int .i64 o1) ∧ Below w.heap.size w w' := fun w => by rw [h1]; exact sizeCompare_any _ _ _ _ _ _ w
  have c2 : ∀ w : World, Calls Tryd.prog 36 #[.agg #[.int .i64 x, .int .i64 y, .int .i64 z], .agg #[.int .i64 p, .int .i64 q, .int .i64 r]] w fun e w' => e = .returned (.int .i64 o2) ∧ Below w.heap.size w w' := fun w => by rw [h2]; exact sizeCompare_any _ _ _ _ _ _ w
  have c3 : ∀ w : World, Calls Tryd.prog 36 #[.agg #[.int .i64 a, .int .i64 b, .int .i64 d], .agg #[.int .i64 p, .int .i64 q, .int .i64 r]] w fun e w' => e = .returned (.int .i64 o3) ∧ Below w.heap.size w w' := fun w => by rw [h3]; exact sizeCompare_any _ _ _ _ _ _ w
  have c4 : ∀ w : World, Calls Tryd.prog 36 #[.agg #[.int .i64 x, .int .i64 y, .int .i64 z], .agg #[.int .i64 a, .int .i64 b, .int .i64 d]] w fun e w' => e = .returned (.int .i64 (-o1)) ∧ Below w.heap.size w w' := fun w => by rw [h1, ← ord_flip]; exact sizeCompare_any _ _ _ _ _ _ w
  have c5 : ∀ w : World, Calls Tryd.prog 37 #[.agg #[.int .i64 a, .int .i64 b, .int .i64 d], .agg #[.int .i64 x, .int .i64 y, .int .i64 z]] w fun e w' => e = .returned (.int .i64 o1) ∧ Below w.heap.size w w' := fun w => by rw [h1]; exact rsizeCompare_any _ _ _ _ _ _ ⟨ba, bd, bb⟩ ⟨bx, bz, hy⟩ w
  have lo : -1 ≤ o1 ∧ o1 ≤ 1 := by rw [h1]; rcases ord_three a b d x y z with ⟨e, _⟩ | ⟨e, _⟩ | ⟨e, _⟩ <;> omega
  have C1 := Lib.hid c1
  have C2 := Lib.hid c2
  have C3 := Lib.hid c3
  have C4 := Lib.hid c4
  have C5 := Lib.hid c5
  have HZ := Lib.hid (show o1 = 0 ↔ a = x ∧ b = y ∧ d = z by rw [h1]; exact ord_zero ..)
  have HR := Lib.hid (show 0 < o1 ∨ 0 < o2 ∨ o3 ≤ 0 by rw [h1, h2, h3]; exact ord_trans ..)
  obtain ⟨lo1, lo2⟩ := lo
  clear ht ba bb bd bx hy bz _bp _bq _br h1 h2 h3 c1 c2 c3 c4 c5
  go_enter Tryd.func10, Tryd.ntmps10
  go_wp2_with fail
  obtain ⟨W, hW⟩ : ∃ W, W = ((w.alloc (.cells #[.int .i64 a, .int .i64 b, .int .i64 d] 61)).alloc (.cells #[.int .i64 x, .int .i64 y, .int .i64 z] 61)).alloc (.cells #[.int .i64 p, .int .i64 q, .int .i64 r] 61) := ⟨_, rfl⟩
  rw [← hW]
  have k00 : W.cell? ⟨w.heap.size, 0, none⟩ = some (.int .i64 a) := by rw [hW]; exact keep1 (keep1 ((new_cell w _ _ 0 rfl).trans rfl) (allocBelow _ _)) (allocBelow _ _)
  have k01 : W.cell? ⟨w.heap.size, 1, none⟩ = some (.int .i64 b) := by rw [hW]; exact keep1 (keep1 ((new_cell w _ _ 1 rfl).trans rfl) (allocBelow _ _)) (allocBelow _ _)
  have k02 : W.cell? ⟨w.heap.size, 2, none⟩ = some (.int .i64 d) := by rw [hW]; exact keep1 (keep1 ((new_cell w _ _ 2 rfl).trans rfl) (allocBelow _ _)) (allocBelow _ _)
  have k10 : W.cell? ⟨w.heap.size + 1, 0, none⟩ = some (.int .i64 x) := by rw [hW]; exact keep1 ((new_cell _ _ _ 0 (by simp)).trans rfl) (allocBelow _ _)
  have k11 : W.cell? ⟨w.heap.size + 1, 1, none⟩ = some (.int .i64 y) := by rw [hW]; exact keep1 ((new_cell _ _ _ 1 (by simp)).trans rfl) (allocBelow _ _)
  have k12 : W.cell? ⟨w.heap.size + 1, 2, none⟩ = some (.int .i64 z) := by rw [hW]; exact keep1 ((new_cell _ _ _ 2 (by simp)).trans rfl) (allocBelow _ _)
  have k20 : W.cell? ⟨w.heap.size + 1 + 1, 0, none⟩ = some (.int .i64 p) := by rw [hW]; exact (new_cell _ _ _ 0 (by simp)).trans rfl
  have k21 : W.cell? ⟨w.heap.size + 1 + 1, 1, none⟩ = some (.int .i64 q) := by rw [hW]; exact (new_cell _ _ _ 1 (by simp)).trans rfl
  have k22 : W.cell? ⟨w.heap.size + 1 + 1, 2, none⟩ = some (.int .i64 r) := by rw [hW]; exact (new_cell _ _ _ 2 (by simp)).trans rfl
  have HBW : Hid (Below w.heap.size w W) := by rw [hW]; show Below _ _ _; go_grown
  clear hW
  go_region_held3 (fun w' => w'.cell? ⟨w.heap.size, 0, none⟩ = some (.int .i64 a) ∧ w'.cell? ⟨w.heap.size, 1, none⟩ = some (.int .i64 b) ∧ w'.cell? ⟨w.heap.size, 2, none⟩ = some (.int .i64 d) ∧ w'.cell? ⟨w.heap.size + 1, 0, none⟩ = some (.int .i64 x) ∧ w'.cell? ⟨w.heap.size + 1, 1, none⟩ = some (.int .i64 y) ∧ w'.cell? ⟨w.heap.size + 1, 2, none⟩ = some (.int .i64 z) ∧ w'.cell? ⟨w.heap.size + 1 + 1, 0, none⟩ = some (.int .i64 p) ∧ w'.cell? ⟨w.heap.size + 1 + 1, 1, none⟩ = some (.int .i64 q) ∧ w'.cell? ⟨w.heap.size + 1 + 1, 2, none⟩ = some (.int .i64 r) ∧ Below W.heap.size W w') (first | exact ⟨k00, k01, k02, k10, k11, k12, k20, k21, k22, Below.refl _ _⟩ | exact keepNine ⟨k00, k01, k02, k10, k11, k12, k20, k21, k22, Below.refl _ _⟩ (drewBelow _) | assumption | exact keepNine (by assumption) (by assumption)) (first | (go_at_call 36; (with_reducible refine (C1.out _).mono ?_); rintro e v1 ⟨rfl, hbv1⟩) | (go_at_call 36; (with_reducible refine (C2.out _).mono ?_); rintro e v2 ⟨rfl, hbv2⟩) | (go_at_call 36; (with_reducible refine (C3.out _).mono ?_); rintro e v3 ⟨rfl, hbv3⟩))
  obtain ⟨j00, j01, j02, j10, j11, j12, j20, j21, j22, hB3⟩ := (by assumption : _ ∧ _ ∧ _ ∧ _ ∧ _ ∧ _ ∧ _ ∧ _ ∧ _ ∧ Below W.heap.size W v3)
  clear k00 k01 k02 k10 k11 k12 k20 k21 k22 hbv1 hbv2 hbv3
  go_wp2_with (first | (go_at_call 37; (with_reducible refine (C5.out _).mono ?_); rintro e v5 ⟨rfl, hb5⟩; have m1 := keep1 j00 hb5; have m2 := keep1 j01 hb5; have m3 := keep1 j02 hb5; have m4 := keep1 j10 hb5; have m5 := keep1 j11 hb5; have m6 := keep1 j12 hb5; have hB5 := thenBelow hB3 hb5; clear hb5) | (go_at_call 36; (with_reducible refine (C4.out _).mono ?_); rintro e v6 ⟨rfl, hb6⟩; have n1 := keep1 m1 hb6; have n2 := keep1 m2 hb6; have n3 := keep1 m3 hb6; have n4 := keep1 m4 hb6; have n5 := keep1 m5 hb6; have n6 := keep1 m6 hb6; have hB6 := thenBelow hB5 hb6; clear hb6) | (go_at_call 31; (with_reducible refine (vknown_any _ (HT.out.below (thenBelow HBW.out hB6))).mono ?_); rintro e wk ⟨rfl, hbk⟩))
  all_goals first
    | (exfalso; have hz := HZ.out; have hr := HR.out; clear HZ HR; omega)
    | (go_ret; exact ⟨rfl, thenBelow (thenBelow HBW.out hB6) hbk⟩)
    | (go_ret; refine ⟨ret_bool ?_, thenBelow (thenBelow HBW.out hB6) hbk⟩; have hz := HZ.out; have hr := HR.out; clear HZ HR; simp; omega)
    | (exfalso; rename_i g1 g2 g3 g4; rw [if_pos g3] at g1; cases g1; exact g2 rfl)
end Go.Proofs.YtbdnihjokndhaaaDoor
