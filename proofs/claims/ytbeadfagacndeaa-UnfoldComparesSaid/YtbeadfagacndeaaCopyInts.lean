/-
  COPIES AND COMPARISONS OF SLICES OF INTEGERS: CopyInts, SameInts of the reference; a slice that the call has made.
-/
import Derived.Test.YtbeadfagacndeaaCmpInts
import Derived.Test.YtbeadfagacndeaaHold
import Derived.Laws.AppendOwnNone
import Derived.Deep.RegionWith
import Derived.StillTailTactics
import Derived.Deep.RegionHeld3
namespace Go.Proofs.Ytbeadfagacndeaa
open Go.RowKit Go.Deep

/-- A slice of integers that the call has made: nil, or a row of its own. -/
def OwnV (lo : Nat) (w : World) (v : Value) (xs : List Int) : Prop :=
  (v = .slice none 0 0 ∧ xs = []) ∨ ∃ g cap, v = .slice (some ⟨g, 0, none⟩) xs.length cap ∧ xs.length ≤ cap ∧ cap ≤ maxLen ∧ OwnInts lo w g xs
theorem OwnV.ints {lo : Nat} {w : World} {v : Value} {xs : List Int} (h : OwnV lo w v xs) : IsInts lo w v xs := by
  rcases h with ⟨rfl, rfl⟩ | ⟨g, cap, rfl, hl, hm, h1, h2, h3, cur, t, hg, hc⟩
  · exact ⟨none, 0, rfl, by simp, by simp [maxLen], by simp, .inl rfl⟩
  · exact ints_of_block hg h1 rfl hl hm h3 hc
theorem OwnV.below {lo : Nat} {w w' : World} {v : Value} {xs : List Int} (h : OwnV lo w v xs) (hb : Below w.heap.size w w') : OwnV lo w' v xs := by
  rcases h with h | ⟨g, cap, hv, hl, hm, h⟩
  · exact .inl h
  · exact .inr ⟨g, cap, hv, hl, hm, h.below hb⟩
theorem OwnV.mono {lo lo' : Nat} {w : World} {v : Value} {xs : List Int} (h : OwnV lo w v xs) (hl' : lo' ≤ lo) : OwnV lo' w v xs := by
  rcases h with h | ⟨g, cap, hv, hl, hm, h⟩
  · exact .inl h
  · exact .inr ⟨g, cap, hv, hl, hm, h.mono hl'⟩
theorem OwnV.shape {lo : Nat} {w : World} {v : Value} {xs : List Int} (h : OwnV lo w v xs) : ∃ a cap, v = .slice a xs.length cap := h.ints.shape
theorem own_of_row {lo : Nat} {w : World} {v : Value} {e : TypeId} {xs : List Int} (h : w.ownsRow lo e 1 v xs.length (xs.map (Value.int .i64))) (hi : ∀ x ∈ xs, I64 x) : OwnV lo w v xs := by
  obtain ⟨_, h⟩ := h
  rcases h with ⟨hv, hn⟩ | ⟨g, cap, cur, hv, hb, hg, hnc, hcm, hcs, htake⟩
  · exact .inl ⟨hv, List.eq_nil_of_length_eq_zero hn⟩
  · refine .inr ⟨g, cap, hv, hnc, hcm, hb, Nat.le_trans hnc hcm, hi, cur, e, hg, fun i h => ?_⟩
    have h1 : (cur.toList.take (xs.length * 1))[i]? = some (.int .i64 (xs.getD i 0)) := by rw [htake]; simp [h]
    rw [List.getElem?_take, if_pos (by omega)] at h1
    simpa using h1

theorem info_int4 : ∃ i, Try.prog.info? 3 = some i ∧ i.zero = some (.int .i64 0) ∧ i.size = 1 ∧ i.bytes = 8 := by
  obtain ⟨i, hi, h⟩ := Option.map_eq_some_iff.1 (show (Try.prog.info? 3).map (fun i => (i.zero, i.size, i.bytes)) = some (some (.int .i64 0), 1, 8) by kernel_rfl)
  simp only [Prod.mk.injEq] at h
  exact ⟨i, hi, h.1, h.2.1, h.2.2⟩

theorem cmpI_self : ∀ xs, cmpI xs xs = 0
  | [] => rfl
  | x :: xs => by simp [cmpI, cmpI_self xs]
theorem cmpI_zero : ∀ {xs ys : List Int}, cmpI xs ys = 0 → xs = ys
  | [], [], _ => rfl
  | [], _ :: _, h => by simp [cmpI] at h
  | _ :: _, [], h => by simp [cmpI] at h
  | x :: xs, y :: ys, h => by
    unfold cmpI at h
    split at h
    · cases h
    · split at h
      · cases h
      · rw [show x = y by omega, cmpI_zero h]
def eqI (xs ys : List Int) : Bool := decide (xs = ys)
theorem eqI_cmp (xs ys : List Int) : (cmpI xs ys == 0) = eqI xs ys := by
  unfold eqI
  rw [Bool.eq_iff_iff, beq_iff_eq, decide_eq_true_iff]
  exact ⟨cmpI_zero, fun h => by rw [h]; exact cmpI_self _⟩
theorem SameInts_any {lo lo' : Nat} {w : World} {v v' : Value} {xs ys : List Int} (h : IsInts lo w v xs) (h' : IsInts lo' w v' ys) :
    Calls Try.prog 11 #[v, v'] w fun e w' => e = .returned (.bool (eqI xs ys)) ∧ Below w.heap.size w w' := by
  obtain ⟨a, cap, rfl⟩ := h.shape
  obtain ⟨a', cap', rfl⟩ := h'.shape
  have E := hid0 (eqI_cmp xs ys)
  go_enter Try.func11, Try.ntmps11
  go_wp2_with (go_at_call 21; refine (cmpInts_any h h').mono ?_; rintro e w1 ⟨rfl, hb1⟩)
  go_ret
  exact ⟨ret_bool E.out, hb1⟩
theorem grownTrans {a b c : World} {r : Option Nat} (h : a.grownBy b r) (k : b.grownBy c r) : a.grownBy c r :=
  ⟨k.os.trans h.os, k.tape.trans h.tape, k.output.trans h.output, Nat.le_trans h.size k.size, fun i hi hne => (k.block i (Nat.lt_of_lt_of_le hi h.size) hne).trans (h.block i hi hne)⟩

end Go.Proofs.Ytbeadfagacndeaa
