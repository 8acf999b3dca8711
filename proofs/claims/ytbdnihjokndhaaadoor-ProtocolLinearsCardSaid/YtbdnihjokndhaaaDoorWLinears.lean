/-
  THE WALK OF ProtocolLinears: the text of an expression, for all expressions.
-/
import Derived.Test.YtbdnihjokndhaaaDoorPKnown
import Derived.Test.YtbdnihjokndhaaaDoorLinMath
import Derived.Test.YtbdnihjokndhaaaDoorHold
import Derived.Deep.RegionHeld3
namespace Go.Proofs.YtbdnihjokndhaaaDoor
open Go.RowKit Go.Deep

set_option maxHeartbeats 800000 in
theorem walk_Linears {c n t f : Int} (w : World) (_bc : I64 c) (_bn : I64 n) (_bt : I64 t) (_bf : I64 f) (ht : TabW w) :
    Calls Tryd.prog 11 #[.agg #[.int .i64 c, .int .i64 n, .int .i64 t, .int .i64 f]] w fun e w' => e = .returned (.bool true) ∧ Below w.heap.size w w' := by
  have HT := Lib.hid ht
  clear ht _bc _bn _bt _bf
  cases hs : smL c n t f with
  | true =>
    have HS := Lib.hid hs
    clear hs
    go_enter Tryd.func11, Tryd.ntmps11
    go_wp2_with fail
    obtain ⟨W, hW⟩ : ∃ W, W = w.alloc (.cells #[.int .i64 c, .int .i64 n, .int .i64 t, .int .i64 f] 59) := ⟨_, rfl⟩
    rw [← hW]
    have k0 : W.cell? ⟨w.heap.size, 0, none⟩ = some (.int .i64 c) := by rw [hW]; exact (new_cell _ _ _ 0 rfl).trans rfl
    have k1 : W.cell? ⟨w.heap.size, 1, none⟩ = some (.int .i64 n) := by rw [hW]; exact (new_cell _ _ _ 1 rfl).trans rfl
    have k2 : W.cell? ⟨w.heap.size, 2, none⟩ = some (.int .i64 t) := by rw [hW]; exact (new_cell _ _ _ 2 rfl).trans rfl
    have k3 : W.cell? ⟨w.heap.size, 3, none⟩ = some (.int .i64 f) := by rw [hW]; exact (new_cell _ _ _ 3 rfl).trans rfl
    have HBW := Lib.hid (show Below w.heap.size w W by rw [hW]; exact allocBelow _ _)
    clear hW
    have S0 : W.cell? ⟨w.heap.size, 0, none⟩ = some (.int .i64 c) ∧ W.cell? ⟨w.heap.size, 1, none⟩ = some (.int .i64 n) ∧ W.cell? ⟨w.heap.size, 2, none⟩ = some (.int .i64 t) ∧ W.cell? ⟨w.heap.size, 3, none⟩ = some (.int .i64 f) ∧ Below w.heap.size w W := ⟨k0, k1, k2, k3, HBW.out⟩
    have HS0 := Lib.hid S0
    clear S0
    go_region_held3 (fun w' => w'.cell? ⟨w.heap.size, 0, none⟩ = some (.int .i64 c) ∧ w'.cell? ⟨w.heap.size, 1, none⟩ = some (.int .i64 n) ∧ w'.cell? ⟨w.heap.size, 2, none⟩ = some (.int .i64 t) ∧ w'.cell? ⟨w.heap.size, 3, none⟩ = some (.int .i64 f) ∧ Below w.heap.size w w') (first | exact HS0.out | exact keepF HS0.out (drewBelow _) | assumption | exact keepF (by assumption) (by assumption)) (first | (go_at_call 38; (with_reducible refine (FormatLinear_any c n t f HS.out _ (HT.out.below (heldF (by assumption)))).mono ?_); rintro e w1 ⟨rfl, hb1⟩) | (go_at_call 39; (with_reducible refine (rFormatLinear_any c n t f HS.out _).mono ?_); rintro e w2 ⟨rfl, hb2⟩) | (go_at_call 31; (with_reducible refine (vknown_any _ (HT.out.below (heldF (by assumption)))).mono ?_); rintro e wk ⟨rfl, hbk⟩))
    have hE := heldF (by assumption : _ ∧ _ ∧ _ ∧ _ ∧ Below w.heap.size w wk)
    go_wp2_with fail
    go_ret
    exact ⟨rfl, hE⟩
  | false =>
    have HS := Lib.hid hs
    clear hs
    go_enter Tryd.func11, Tryd.ntmps11
    go_wp2_with fail
    obtain ⟨W, hW⟩ : ∃ W, W = w.alloc (.cells #[.int .i64 c, .int .i64 n, .int .i64 t, .int .i64 f] 59) := ⟨_, rfl⟩
    rw [← hW]
    have k0 : W.cell? ⟨w.heap.size, 0, none⟩ = some (.int .i64 c) := by rw [hW]; exact (new_cell _ _ _ 0 rfl).trans rfl
    have k1 : W.cell? ⟨w.heap.size, 1, none⟩ = some (.int .i64 n) := by rw [hW]; exact (new_cell _ _ _ 1 rfl).trans rfl
    have k2 : W.cell? ⟨w.heap.size, 2, none⟩ = some (.int .i64 t) := by rw [hW]; exact (new_cell _ _ _ 2 rfl).trans rfl
    have k3 : W.cell? ⟨w.heap.size, 3, none⟩ = some (.int .i64 f) := by rw [hW]; exact (new_cell _ _ _ 3 rfl).trans rfl
    have HBW := Lib.hid (show Below w.heap.size w W by rw [hW]; exact allocBelow _ _)
    clear hW
    have S0 : W.cell? ⟨w.heap.size, 0, none⟩ = some (.int .i64 c) ∧ W.cell? ⟨w.heap.size, 1, none⟩ = some (.int .i64 n) ∧ W.cell? ⟨w.heap.size, 2, none⟩ = some (.int .i64 t) ∧ W.cell? ⟨w.heap.size, 3, none⟩ = some (.int .i64 f) ∧ Below w.heap.size w W := ⟨k0, k1, k2, k3, HBW.out⟩
    have HS0 := Lib.hid S0
    clear S0
    go_region_held3 (fun w' => w'.cell? ⟨w.heap.size, 0, none⟩ = some (.int .i64 c) ∧ w'.cell? ⟨w.heap.size, 1, none⟩ = some (.int .i64 n) ∧ w'.cell? ⟨w.heap.size, 2, none⟩ = some (.int .i64 t) ∧ w'.cell? ⟨w.heap.size, 3, none⟩ = some (.int .i64 f) ∧ Below w.heap.size w w') (first | exact HS0.out | exact keepF HS0.out (drewBelow _) | assumption | exact keepF (by assumption) (by assumption)) (first | (go_at_call 38; (with_reducible refine (FormatLinear_none c n t f HS.out _).mono ?_); rintro e w1 ⟨rfl, hb1⟩) | (go_at_call 39; (with_reducible refine (rFormatLinear_none c n t f HS.out _).mono ?_); rintro e w2 ⟨rfl, hb2⟩) | (go_at_call 31; (with_reducible refine (vknown_any _ (HT.out.below (heldF (by assumption)))).mono ?_); rintro e wk ⟨rfl, hbk⟩))
    have hE := heldF (by assumption : _ ∧ _ ∧ _ ∧ _ ∧ Below w.heap.size w wk)
    go_wp2_with fail
    go_ret
    exact ⟨rfl, hE⟩
end Go.Proofs.YtbdnihjokndhaaaDoor
