/-
  THE ORDER OF SIZES: Compare of the program and of the reference.
-/
import Derived.Test.YtenahfmmijpelaaDoorCmpNum
import Derived.Test.YtenahfmmijpelaaDoorCmpInts
import Derived.Test.YtenahfmmijpelaaDoorHold
import Derived.Deep.RegionHeld3
import Derived.Lib.Hide
namespace Go.Proofs.YtenahfmmijpelaaDoor
open Go.RowKit Go.Deep

/-- By N, then by F, then by T. -/
def ordS (a b d x y z : Int) : Int := orI (cmpN a x) (orI (cmpN d z) (cmpN b y))

set_option maxHeartbeats 1600000 in
theorem sizeCompare_any (a b d x y z : Int) (w : World) :
    Calls Tryd.prog 15 #[.agg #[.int .i64 a, .int .i64 b, .int .i64 d], .agg #[.int .i64 x, .int .i64 y, .int .i64 z]] w fun e w' => e = .returned (.int .i64 (ordS a b d x y z)) ∧ Below w.heap.size w w' := by
  go_enter Tryd.func15, Tryd.ntmps15
  go_wp2_with fail
  obtain ⟨W, hW⟩ : ∃ W, W = (w.alloc (.cells #[.int .i64 a, .int .i64 b, .int .i64 d] 43)).alloc (.cells #[.int .i64 x, .int .i64 y, .int .i64 z] 43) := ⟨_, rfl⟩
  rw [← hW]
  have r0 : W.cell? ⟨w.heap.size, 0, none⟩ = some (.int .i64 a) := by rw [hW]; simp
  have r1 : W.cell? ⟨w.heap.size, 1, none⟩ = some (.int .i64 b) := by rw [hW]; simp
  have r2 : W.cell? ⟨w.heap.size, 2, none⟩ = some (.int .i64 d) := by rw [hW]; simp
  have s0 : W.cell? ⟨w.heap.size + 1, 0, none⟩ = some (.int .i64 x) := by rw [hW]; simp
  have s1 : W.cell? ⟨w.heap.size + 1, 1, none⟩ = some (.int .i64 y) := by rw [hW]; simp
  have s2 : W.cell? ⟨w.heap.size + 1, 2, none⟩ = some (.int .i64 z) := by rw [hW]; simp
  have HBW : Hid (Below w.heap.size w W) := by rw [hW]; show Below _ _ _; go_grown
  clear hW
  go_region_held3 (fun w' => w'.cell? ⟨w.heap.size, 0, none⟩ = some (.int .i64 a) ∧ w'.cell? ⟨w.heap.size, 1, none⟩ = some (.int .i64 b) ∧ w'.cell? ⟨w.heap.size, 2, none⟩ = some (.int .i64 d) ∧ w'.cell? ⟨w.heap.size + 1, 0, none⟩ = some (.int .i64 x) ∧ w'.cell? ⟨w.heap.size + 1, 1, none⟩ = some (.int .i64 y) ∧ w'.cell? ⟨w.heap.size + 1, 2, none⟩ = some (.int .i64 z) ∧ Below W.heap.size W w') (first | exact ⟨r0, r1, r2, s0, s1, s2, Below.refl _ _⟩ | exact keepSix ⟨r0, r1, r2, s0, s1, s2, Below.refl _ _⟩ (drewBelow _) | assumption | exact keepSix (by assumption) (allocBelow _ _)) (first | (go_at_call 44; refine (cmpCompare_any _ _ _).mono ?_; rintro e w' ⟨rfl, rfl⟩) | (go_at_call 43; refine (cmpOr_three _ (cmpN a x) (cmpN d z) (cmpN b y) _ (new_cell _ _ _ _ rfl) (new_cell _ _ _ _ rfl) (new_cell _ _ _ _ rfl)).mono ?_; rintro e w' ⟨rfl, rfl⟩))
  have hE := heldSix (by assumption : _ ∧ _ ∧ _ ∧ _ ∧ _ ∧ _ ∧ Below W.heap.size W _)
  go_wp2_with fail
  go_ret
  exact ⟨rfl, thenBelow HBW.out hE⟩

theorem cmpI_three (a d b x z y : Int) : cmpI [a, d, b] [x, z, y] = ordS a b d x y z := by
  unfold ordS orI cmpN
  simp only [cmpI]
  repeat' split
  all_goals first | rfl | omega | simp_all

theorem three_ints {w : World} {b : Nat} {t : TypeId} {x y z : Int} (hg : w.heap[b]? = some (.cells #[.int .i64 x, .int .i64 y, .int .i64 z] t (0, 0))) (h : I64 x ∧ I64 y ∧ I64 z) :
    IsInts 0 w (.slice (some ⟨b, 0, none⟩) 3 3) [x, y, z] :=
  ints_of_block (xs := [x, y, z]) hg (Nat.zero_le _) rfl (Nat.le_refl _) (by unfold maxLen; omega) (fun u hu => by simp at hu; exact hu.elim (fun e => e ▸ h.1) fun hu => hu.elim (fun e => e ▸ h.2.1) fun e => e ▸ h.2.2) fun i hi => by
    match i, hi with
    | 0, _ => rfl
    | 1, _ => rfl
    | 2, _ => rfl
end Go.Proofs.YtenahfmmijpelaaDoor
