/-
  COPIES AND COMPARISONS OF SLICES OF INTEGERS: CopyInts, SameInts of the reference; a slice that the call has made.
-/
import Derived.Test.YtenahfmmijpelaaDoorCmpInts
import Derived.Test.YtenahfmmijpelaaDoorHold
import Derived.Laws.AppendOwnNone
import Derived.Deep.RegionWith
import Derived.StillTailTactics
import Derived.Deep.RegionHeld3
namespace Go.Proofs.YtenahfmmijpelaaDoor
open Go.RowKit Go.Deep

/-- A slice of integers that the call has made: nil, or a row of its own. -/
def OwnV (lo : Nat) (w : World) (v : Value) (xs : List Int) : Prop :=
  (v = .slice none 0 0 ∧ xs = []) ∨ ∃ g cap, v = .slice (some ⟨g, 0, none⟩) xs.length cap ∧ xs.length ≤ cap ∧ cap ≤ maxLen ∧ OwnInts lo w g xs
theorem OwnV.ints {lo : Nat} {w : World} {v : Value} {xs : List Int} (h : OwnV lo w v xs) : IsInts lo w v xs := by
  rcases h with ⟨rfl, rfl⟩ | ⟨g, cap, rfl, hl, hm, h1, h2, h3, cur, t, hg, hc⟩
  · exact ⟨none, 0, rfl, by simp, by simp [maxLen], by simp, .inl rfl⟩
  · exact ints_of_block hg h1 rfl hl hm h3 hc
theorem OwnV.below {lo : Nat} {w w' : World} {v : Value} {xs : List Int} (h : OwnV lo w v xs) (hb : Below w.heap.size w w') : OwnV lo w' v xs := by
  rcases h with h | ⟨g, cap, hv, hl, hm, h⟩
  · exact .inl h
  · exact .inr ⟨g, cap, hv, hl, hm, h.below hb⟩
theorem OwnV.mono {lo lo' : Nat} {w : World} {v : Value} {xs : List Int} (h : OwnV lo w v xs) (hl' : lo' ≤ lo) : OwnV lo' w v xs := by
  rcases h with h | ⟨g, cap, hv, hl, hm, h⟩
  · exact .inl h
  · exact .inr ⟨g, cap, hv, hl, hm, h.mono hl'⟩
theorem OwnV.shape {lo : Nat} {w : World} {v : Value} {xs : List Int} (h : OwnV lo w v xs) : ∃ a cap, v = .slice a xs.length cap := h.ints.shape
theorem own_of_row {lo : Nat} {w : World} {v : Value} {e : TypeId} {xs : List Int} (h : w.ownsRow lo e 1 v xs.length (xs.map (Value.int .i64))) (hi : ∀ x ∈ xs, I64 x) : OwnV lo w v xs := by
  obtain ⟨_, h⟩ := h
  rcases h with ⟨hv, hn⟩ | ⟨g, cap, cur, hv, hb, hg, hnc, hcm, hcs, htake⟩
  · exact .inl ⟨hv, List.eq_nil_of_length_eq_zero hn⟩
  · refine .inr ⟨g, cap, hv, hnc, hcm, hb, Nat.le_trans hnc hcm, hi, cur, e, hg, fun i h => ?_⟩
    have h1 : (cur.toList.take (xs.length * 1))[i]? = some (.int .i64 (xs.getD i 0)) := by rw [htake]; simp [h]
    rw [List.getElem?_take, if_pos (by omega)] at h1
    simpa using h1

theorem info_int4 : ∃ i, Tryd.prog.info? 3 = some i ∧ i.zero = some (.int .i64 0) ∧ i.size = 1 ∧ i.bytes = 8 := by
  obtain ⟨i, hi, h⟩ := Option.map_eq_some_iff.1 (show (Tryd.prog.info? 3).map (fun i => (i.zero, i.size, i.bytes)) = some (some (.int .i64 0), 1, 8) by kernel_rfl)
  simp only [Prod.mk.injEq] at h
  exact ⟨i, hi, h.1, h.2.1, h.2.2⟩

set_option maxHeartbeats 800000 in
theorem CopyInts_any {lo : Nat} {w : World} {v : Value} {xs : List Int} (h : IsInts lo w v xs) (hn : xs.length ≤ 1000) :
    Calls Tryd.prog 40 #[v] w fun e w' => ∃ v', e = .returned v' ∧ OwnV w.heap.size w' v' xs ∧ Below w.heap.size w w' := by
  have H := h
  obtain ⟨a, cap, rfl, hl, hm, hi, hc⟩ := h
  obtain ⟨i0, hi0, hz0, hz1, hz2⟩ := info_int4
  have HI := hid0 hi.1
  cases a with
  | none =>
    obtain rfl : cap = 0 := hi.2 rfl
    have h0 : xs.length = 0 := by omega
    obtain rfl : xs = [] := List.eq_nil_of_length_eq_zero h0
    have hown := World.ownsRow_lit (base := w.heap.size) (e := 3) (size := 1) w #[] 0 (Nat.le_refl _) (by simp) (by simp)
    have HO := hid0 hown
    clear hown hc hi hl hm h0 H
    go_enter Tryd.func40, Tryd.ntmps40
    go_wp2_with (refine wpList_append_own_none rfl (.tmp 3) (.tmp 4) 24 rfl w.heap.size 3 i0 1 Tryd.underlying24 hi0 _ _ _ rfl HO.out rfl ?_)
    go_ret
    exact ⟨_, rfl, own_of_row (e := 3) (by simpa using HO.out) (by simp), allocBelow _ _⟩
  | some ad =>
    have HS : Hid (∀ w', Below w.heap.size w w' → ∀ j u, (xs.map (Value.int .i64))[j]? = some u → w'.cell? (ad.add j) = some u) := hid0 fun w' hb j u hj => by
      have h0 : 0 < xs.length := by have := (List.getElem?_eq_some_iff.1 hj).1; simp at this; omega
      obtain ⟨ad', e, hS⟩ := H.src h0
      cases e
      exact hS w' hb j u hj
    have hown := World.ownsRow_lit (base := w.heap.size) (e := 3) (size := 1) w #[] 0 (Nat.le_refl _) (by simp) (by simp)
    have HO := hid0 hown
    clear hown hc hi
    go_enter Tryd.func40, Tryd.ntmps40
    go_wp2_with (refine wpList_append_own _ rfl (.tmp 3) (.tmp 4) 24 rfl w.heap.size 3 i0 (.int .i64 0) 1 8 Tryd.underlying24 hi0 hz0 hz1 hz2 rfl (by decide) _ _ _ rfl HO.out ad xs.length cap (xs.map (Value.int .i64)) rfl (by simp) (HS.out _ (by go_grown)) (by simp [Value.oneCell']) (by unfold maxLen; omega) (by omega) (by simp) ?_; intro v' w1 hown1 hgrow1 _)
    go_ret
    have hown2 : w1.ownsRow w.heap.size 3 1 v' xs.length (xs.map (Value.int .i64)) := by simpa using hown1
    refine ⟨v', rfl, own_of_row hown2 HI.out, (allocBelow w _).grown hgrow1 (by simp) fun k hk => ?_⟩
    have hk' : some w.heap.size = some k := hk
    injection hk' with hk'
    omega

theorem cmpI_self : ∀ xs, cmpI xs xs = 0
  | [] => rfl
  | x :: xs => by simp [cmpI, cmpI_self xs]
theorem cmpI_zero : ∀ {xs ys : List Int}, cmpI xs ys = 0 → xs = ys
  | [], [], _ => rfl
  | [], _ :: _, h => by simp [cmpI] at h
  | _ :: _, [], h => by simp [cmpI] at h
  | x :: xs, y :: ys, h => by
    unfold cmpI at h
    split at h
    · cases h
    · split at h
      · cases h
      · rw [show x = y by omega, cmpI_zero h]
def eqI (xs ys : List Int) : Bool := decide (xs = ys)
theorem eqI_cmp (xs ys : List Int) : (cmpI xs ys == 0) = eqI xs ys := by
  unfold eqI
  rw [Bool.eq_iff_iff, beq_iff_eq, decide_eq_true_iff]
  exact ⟨cmpI_zero, fun h => by rw [h]; exact cmpI_self _⟩
theorem SameInts_any {lo lo' : Nat} {w : World} {v v' : Value} {xs ys : List Int} (h : IsInts lo w v xs) (h' : IsInts lo' w v' ys) :
    Calls Tryd.prog 55 #[v, v'] w fun e w' => e = .returned (.bool (eqI xs ys)) ∧ Below w.heap.size w w' := by
  obtain ⟨a, cap, rfl⟩ := h.shape
  obtain ⟨a', cap', rfl⟩ := h'.shape
  have E := hid0 (eqI_cmp xs ys)
  go_enter Tryd.func55, Tryd.ntmps55
  go_wp2_with (go_at_call 79; refine (cmpInts_any h h').mono ?_; rintro e w1 ⟨rfl, hb1⟩)
  go_ret
  exact ⟨ret_bool E.out, hb1⟩
theorem grownTrans {a b c : World} {r : Option Nat} (h : a.grownBy b r) (k : b.grownBy c r) : a.grownBy c r :=
  ⟨k.os.trans h.os, k.tape.trans h.tape, k.output.trans h.output, Nat.le_trans h.size k.size, fun i hi hne => (k.block i (Nat.lt_of_lt_of_le hi h.size) hne).trans (h.block i hi hne)⟩

end Go.Proofs.YtenahfmmijpelaaDoor
