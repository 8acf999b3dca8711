/-
  THE WALK OF LinearCompares: Compare is the order of rows, and a total order.
-/
import Derived.Test.YtbppooajhoejcaaDoorKnown
import Derived.Test.YtbppooajhoejcaaDoorCmp
import Derived.Deep.RegionHeld3
namespace Go.Proofs.YtbppooajhoejcaaDoor
open Go.RowKit Go.Deep

theorem keep6 {w w1 w2 : World} {p1 p2 p3 p4 p5 p6 : Addr} {u1 u2 u3 u4 u5 u6 : Value} (h : w1.cell? p1 = some u1 ∧ w1.cell? p2 = some u2 ∧ w1.cell? p3 = some u3 ∧ w1.cell? p4 = some u4 ∧ w1.cell? p5 = some u5 ∧ w1.cell? p6 = some u6 ∧ Below w.heap.size w w1) (hb : Below w1.heap.size w1 w2) :
    w2.cell? p1 = some u1 ∧ w2.cell? p2 = some u2 ∧ w2.cell? p3 = some u3 ∧ w2.cell? p4 = some u4 ∧ w2.cell? p5 = some u5 ∧ w2.cell? p6 = some u6 ∧ Below w.heap.size w w2 :=
  ⟨keep1 h.1 hb, keep1 h.2.1 hb, keep1 h.2.2.1 hb, keep1 h.2.2.2.1 hb, keep1 h.2.2.2.2.1 hb, keep1 h.2.2.2.2.2.1 hb, thenBelow h.2.2.2.2.2.2 hb⟩
theorem held6 {a b c d e f g : Prop} (h : a ∧ b ∧ c ∧ d ∧ e ∧ f ∧ g) : g := h.2.2.2.2.2.2

theorem cmpI_anti : ∀ (xs ys : List Int), cmpI ys xs = -cmpI xs ys
  | [], [] => rfl
  | [], _ :: _ => rfl
  | _ :: _, [] => rfl
  | x :: xs, y :: ys => by
    simp only [cmpI]
    by_cases h1 : x < y
    · rw [if_neg (by omega), if_pos h1, if_pos h1]; rfl
    · by_cases h2 : y < x
      · rw [if_pos h2, if_neg h1, if_pos h2]
      · rw [if_neg h2, if_neg h1, if_neg h1, if_neg h2]; exact cmpI_anti xs ys
theorem cmpI_vals : ∀ (xs ys : List Int), cmpI xs ys = -1 ∨ cmpI xs ys = 0 ∨ cmpI xs ys = 1
  | [], [] => by simp [cmpI]
  | [], _ :: _ => by simp [cmpI]
  | _ :: _, [] => by simp [cmpI]
  | x :: xs, y :: ys => by
    simp only [cmpI]
    split
    · exact .inl rfl
    · split
      · exact .inr (.inr rfl)
      · exact cmpI_vals xs ys
theorem cmpI_trans : ∀ (xs ys zs : List Int), cmpI xs ys ≤ 0 → cmpI ys zs ≤ 0 → cmpI xs zs ≤ 0 ∧ (cmpI xs zs = 0 → cmpI xs ys = 0 ∧ cmpI ys zs = 0)
  | [], [], zs, _, h => ⟨h, fun e => ⟨rfl, e⟩⟩
  | [], _ :: _, [], _, h => by simp [cmpI] at h
  | [], _ :: _, _ :: _, _, _ => by simp [cmpI]
  | _ :: _, [], _, h, _ => by simp [cmpI] at h
  | _ :: _, _ :: _, [], _, h => by simp [cmpI] at h
  | x :: xs, y :: ys, z :: zs, h1, h2 => by
    simp only [cmpI] at *
    by_cases a1 : x < y
    · rw [if_pos a1] at *
      by_cases a2 : y < z
      · rw [if_pos (by omega : x < z)]; simp
      · rw [if_neg a2] at *
        by_cases a3 : z < y
        · rw [if_pos a3] at h2; omega
        · rw [if_pos (by omega : x < z)]; simp
    · rw [if_neg a1] at *
      by_cases b1 : y < x
      · rw [if_pos b1] at h1; omega
      · rw [if_neg b1] at *
        by_cases a2 : y < z
        · rw [if_pos a2, if_pos (by omega : x < z)]; simp
        · rw [if_neg a2] at *
          by_cases a3 : z < y
          · rw [if_pos a3] at h2; omega
          · rw [if_neg a3] at *
            rw [if_neg (by omega : ¬ x < z), if_neg (by omega : ¬ z < x)]
            exact cmpI_trans xs ys zs h1 h2
theorem cmpN_vals (x y : Int) : (cmpN x y = -1 ∧ x < y) ∨ (cmpN x y = 0 ∧ x = y) ∨ (cmpN x y = 1 ∧ y < x) := by
  unfold cmpN
  split
  · exact .inl ⟨rfl, by assumption⟩
  · split
    · exact .inr (.inr ⟨rfl, by assumption⟩)
    · exact .inr (.inl ⟨rfl, by omega⟩)
theorem cmpR_anti (r s : Rw) : cmpR s r = -cmpR r s := by
  unfold cmpR
  rw [cmpI_anti r.1 s.1]
  by_cases h : cmpI r.1 s.1 = 0
  · rw [if_neg (by omega), if_neg (by omega)]
    have h1 := cmpN_vals r.2 s.2
    have h2 := cmpN_vals s.2 r.2
    omega
  · rw [if_pos (by omega), if_pos h]
theorem cmpR_self (r : Rw) : cmpR r r = 0 := by have := cmpR_anti r r; omega
theorem cmpR_zero {r s : Rw} (h : cmpR r s = 0) : sameR r s = true := by
  unfold cmpR at h
  split at h
  · contradiction
  · rename_i h0
    have e1 : r.1 = s.1 := cmpI_zero (by omega)
    have e2 : r.2 = s.2 := by have := cmpN_vals r.2 s.2; omega
    simp only [sameR, decide_eq_true_iff]
    exact Prod.ext e1 e2
theorem cmpR_trans {r s t : Rw} (h1 : cmpR r s ≤ 0) (h2 : cmpR s t ≤ 0) : cmpR r t ≤ 0 := by
  unfold cmpR at *
  have v1 := cmpI_vals r.1 s.1
  have v2 := cmpI_vals s.1 t.1
  have v3 := cmpI_vals r.1 t.1
  have n1 := cmpN_vals r.2 s.2
  have n2 := cmpN_vals s.2 t.2
  have n3 := cmpN_vals r.2 t.2
  have l1 : cmpI r.1 s.1 ≤ 0 := by split at h1 <;> omega
  have l2 : cmpI s.1 t.1 ≤ 0 := by split at h2 <;> omega
  obtain ⟨l3, l4⟩ := cmpI_trans r.1 s.1 t.1 l1 l2
  by_cases e : cmpI r.1 t.1 = 0
  · obtain ⟨e1, e2⟩ := l4 e
    rw [if_neg (by omega : ¬ cmpI r.1 s.1 ≠ 0)] at h1
    rw [if_neg (by omega : ¬ cmpI s.1 t.1 ≠ 0)] at h2
    rw [if_neg (by omega : ¬ cmpI r.1 t.1 ≠ 0)]
    omega
  · rw [if_pos e]; exact l3

theorem cmpR_vals (r s : Rw) : cmpR r s = -1 ∨ cmpR r s = 0 ∨ cmpR r s = 1 := by
  have := cmpI_vals r.1 s.1
  have := cmpN_vals r.2 s.2
  unfold cmpR
  split <;> omega
theorem Compare_back {lo lo' : Nat} {w : World} {v v' : Value} {xs ys : List Int} (c d : Int) (h : IsInts lo w v xs) (h' : IsInts lo' w v' ys) :
    Calls Tryd.prog 14 #[.agg #[v, .int .i64 d], .agg #[v', .int .i64 c]] w fun e w' => e = .returned (.int .i64 (-cmpR (ys, c) (xs, d))) ∧ Below w.heap.size w w' := by
  rw [← cmpR_anti (ys, c) (xs, d)]; exact Compare_any d c h h'
theorem SameRow_eq {lo lo' : Nat} {w : World} {v v' : Value} {xs ys : List Int} (c d : Int) (E : sameR (xs, c) (ys, d) = true) (h : IsInts lo w v xs) (h' : IsInts lo' w v' ys) :
    Calls Tryd.prog 16 #[.agg #[v, .int .i64 c], .agg #[v', .int .i64 d]] w fun e w' => e = .returned (.bool true) ∧ Below w.heap.size w w' := by
  have := SameRow_any c d h h'
  rwa [E] at this
theorem cmpR_or (r s t : Rw) : 0 < cmpR r s ∨ 0 < cmpR s t ∨ cmpR r t ≤ 0 := by
  by_cases h1 : 0 < cmpR r s
  · exact .inl h1
  · by_cases h2 : 0 < cmpR s t
    · exact .inr (.inl h2)
    · exact .inr (.inr (cmpR_trans (s := s) (by omega) (by omega)))
theorem Compare_self {lo : Nat} {w : World} {v : Value} {xs : List Int} (c : Int) (h : IsInts lo w v xs) :
    Calls Tryd.prog 14 #[.agg #[v, .int .i64 c], .agg #[v, .int .i64 c]] w fun e w' => e = .returned (.int .i64 0) ∧ Below w.heap.size w w' := by
  have := Compare_any c c h h
  rwa [cmpR_self] at this

set_option maxHeartbeats 6400000 in
theorem walk_Compares {u1 u2 u3 : Value} {xs ys zs : List Int} {c d f : Int} (w : World) (H1 : IsInts 0 w u1 xs) (_b1 : I64 c) (H2 : IsInts 0 w u2 ys) (_b2 : I64 d) (H3 : IsInts 0 w u3 zs) (_b3 : I64 f) :
    Calls Tryd.prog 3 #[.agg #[u1, .int .i64 c], .agg #[u2, .int .i64 d], .agg #[u3, .int .i64 f]] w fun e w' => e = .returned (.bool true) ∧ Below w.heap.size w w' := by
  obtain ⟨a1, k1, rfl⟩ := H1.shape
  obtain ⟨a2, k2, rfl⟩ := H2.shape
  obtain ⟨a3, k3, rfl⟩ := H3.shape
  have G1 := hid0 H1
  have G2 := hid0 H2
  have G3 := hid0 H3
  clear H1 H2 H3
  by_cases h1 : 200 < xs.length
  · have h1' : (200 : Int) < xs.length := by omega
    go_enter Tryd.func3, Tryd.ntmps3
    go_wp2_with fail
    obtain ⟨W, hW⟩ : ∃ W, W = ((w.alloc (.cells #[.slice a1 xs.length k1, .int .i64 c] 24)).alloc (.cells #[.slice a2 ys.length k2, .int .i64 d] 24)).alloc (.cells #[.slice a3 zs.length k3, .int .i64 f] 24) := ⟨_, rfl⟩
    rw [← hW]
    have hq : W.cell? ⟨w.heap.size, 0, none⟩ = some (.slice a1 xs.length k1) ∧ W.cell? ⟨w.heap.size, 1, none⟩ = some (.int .i64 c) ∧ W.cell? ⟨w.heap.size + 1, 0, none⟩ = some (.slice a2 ys.length k2) ∧ W.cell? ⟨w.heap.size + 1, 1, none⟩ = some (.int .i64 d) ∧ W.cell? ⟨w.heap.size + 1 + 1, 0, none⟩ = some (.slice a3 zs.length k3) ∧ W.cell? ⟨w.heap.size + 1 + 1, 1, none⟩ = some (.int .i64 f) ∧ Below w.heap.size w W := by
      have n2 : w.heap.size + 1 = (w.alloc (.cells #[.slice a1 xs.length k1, .int .i64 c] 24)).heap.size := by simp
      have n3 : w.heap.size + 1 + 1 = ((w.alloc (.cells #[.slice a1 xs.length k1, .int .i64 c] 24)).alloc (.cells #[.slice a2 ys.length k2, .int .i64 d] 24)).heap.size := by simp
      rw [hW]
      exact ⟨keep1 (keep1 (new_cell w _ _ 0 rfl) (allocBelow _ _)) (allocBelow _ _), keep1 (keep1 (new_cell w _ _ 1 rfl) (allocBelow _ _)) (allocBelow _ _), keep1 (new_cell _ _ _ 0 n2) (allocBelow _ _), keep1 (new_cell _ _ _ 1 n2) (allocBelow _ _), new_cell _ _ _ 0 n3, new_cell _ _ _ 1 n3, by go_grown⟩
    clear hW
    go_wp2_with (first | (go_at_call 12; refine (long_any _ _ _ _ _).mono ?_; rintro e wn ⟨rfl, hbn⟩; have hq := keep6 (by assumption) hbn) | (go_at_call 13; refine (known_any _).mono ?_; rintro e wk ⟨rfl, hbk⟩))
    go_ret
    exact ⟨rfl, thenBelow (held6 (by assumption)) hbk⟩
  · have h1' : ¬ (200 : Int) < xs.length := by omega
    by_cases h2 : 200 < ys.length
    · have h2' : (200 : Int) < ys.length := by omega
      go_enter Tryd.func3, Tryd.ntmps3
      go_wp2_with fail
      obtain ⟨W, hW⟩ : ∃ W, W = ((w.alloc (.cells #[.slice a1 xs.length k1, .int .i64 c] 24)).alloc (.cells #[.slice a2 ys.length k2, .int .i64 d] 24)).alloc (.cells #[.slice a3 zs.length k3, .int .i64 f] 24) := ⟨_, rfl⟩
      rw [← hW]
      have hq : W.cell? ⟨w.heap.size, 0, none⟩ = some (.slice a1 xs.length k1) ∧ W.cell? ⟨w.heap.size, 1, none⟩ = some (.int .i64 c) ∧ W.cell? ⟨w.heap.size + 1, 0, none⟩ = some (.slice a2 ys.length k2) ∧ W.cell? ⟨w.heap.size + 1, 1, none⟩ = some (.int .i64 d) ∧ W.cell? ⟨w.heap.size + 1 + 1, 0, none⟩ = some (.slice a3 zs.length k3) ∧ W.cell? ⟨w.heap.size + 1 + 1, 1, none⟩ = some (.int .i64 f) ∧ Below w.heap.size w W := by
        have n2 : w.heap.size + 1 = (w.alloc (.cells #[.slice a1 xs.length k1, .int .i64 c] 24)).heap.size := by simp
        have n3 : w.heap.size + 1 + 1 = ((w.alloc (.cells #[.slice a1 xs.length k1, .int .i64 c] 24)).alloc (.cells #[.slice a2 ys.length k2, .int .i64 d] 24)).heap.size := by simp
        rw [hW]
        exact ⟨keep1 (keep1 (new_cell w _ _ 0 rfl) (allocBelow _ _)) (allocBelow _ _), keep1 (keep1 (new_cell w _ _ 1 rfl) (allocBelow _ _)) (allocBelow _ _), keep1 (new_cell _ _ _ 0 n2) (allocBelow _ _), keep1 (new_cell _ _ _ 1 n2) (allocBelow _ _), new_cell _ _ _ 0 n3, new_cell _ _ _ 1 n3, by go_grown⟩
      clear hW
      go_wp2_with (first | (go_at_call 12; refine (long_any _ _ _ _ _).mono ?_; rintro e wn ⟨rfl, hbn⟩; have hq := keep6 (by assumption) hbn) | (go_at_call 13; refine (known_any _).mono ?_; rintro e wk ⟨rfl, hbk⟩))
      go_ret
      exact ⟨rfl, thenBelow (held6 (by assumption)) hbk⟩
    · have h2' : ¬ (200 : Int) < ys.length := by omega
      by_cases h3 : 200 < zs.length
      · have h3' : (200 : Int) < zs.length := by omega
        go_enter Tryd.func3, Tryd.ntmps3
        go_wp2_with fail
        obtain ⟨W, hW⟩ : ∃ W, W = ((w.alloc (.cells #[.slice a1 xs.length k1, .int .i64 c] 24)).alloc (.cells #[.slice a2 ys.length k2, .int .i64 d] 24)).alloc (.cells #[.slice a3 zs.length k3, .int .i64 f] 24) := ⟨_, rfl⟩
        rw [← hW]
        have hq : W.cell? ⟨w.heap.size, 0, none⟩ = some (.slice a1 xs.length k1) ∧ W.cell? ⟨w.heap.size, 1, none⟩ = some (.int .i64 c) ∧ W.cell? ⟨w.heap.size + 1, 0, none⟩ = some (.slice a2 ys.length k2) ∧ W.cell? ⟨w.heap.size + 1, 1, none⟩ = some (.int .i64 d) ∧ W.cell? ⟨w.heap.size + 1 + 1, 0, none⟩ = some (.slice a3 zs.length k3) ∧ W.cell? ⟨w.heap.size + 1 + 1, 1, none⟩ = some (.int .i64 f) ∧ Below w.heap.size w W := by
          have n2 : w.heap.size + 1 = (w.alloc (.cells #[.slice a1 xs.length k1, .int .i64 c] 24)).heap.size := by simp
          have n3 : w.heap.size + 1 + 1 = ((w.alloc (.cells #[.slice a1 xs.length k1, .int .i64 c] 24)).alloc (.cells #[.slice a2 ys.length k2, .int .i64 d] 24)).heap.size := by simp
          rw [hW]
          exact ⟨keep1 (keep1 (new_cell w _ _ 0 rfl) (allocBelow _ _)) (allocBelow _ _), keep1 (keep1 (new_cell w _ _ 1 rfl) (allocBelow _ _)) (allocBelow _ _), keep1 (new_cell _ _ _ 0 n2) (allocBelow _ _), keep1 (new_cell _ _ _ 1 n2) (allocBelow _ _), new_cell _ _ _ 0 n3, new_cell _ _ _ 1 n3, by go_grown⟩
        clear hW
        go_wp2_with (first | (go_at_call 12; refine (long_any _ _ _ _ _).mono ?_; rintro e wn ⟨rfl, hbn⟩; have hq := keep6 (by assumption) hbn) | (go_at_call 13; refine (known_any _).mono ?_; rintro e wk ⟨rfl, hbk⟩))
        go_ret
        exact ⟨rfl, thenBelow (held6 (by assumption)) hbk⟩
      · have h3' : ¬ (200 : Int) < zs.length := by omega
        go_enter Tryd.func3, Tryd.ntmps3
        go_wp2_with fail
        obtain ⟨W, hW⟩ : ∃ W, W = ((w.alloc (.cells #[.slice a1 xs.length k1, .int .i64 c] 24)).alloc (.cells #[.slice a2 ys.length k2, .int .i64 d] 24)).alloc (.cells #[.slice a3 zs.length k3, .int .i64 f] 24) := ⟨_, rfl⟩
        rw [← hW]
        have hq : W.cell? ⟨w.heap.size, 0, none⟩ = some (.slice a1 xs.length k1) ∧ W.cell? ⟨w.heap.size, 1, none⟩ = some (.int .i64 c) ∧ W.cell? ⟨w.heap.size + 1, 0, none⟩ = some (.slice a2 ys.length k2) ∧ W.cell? ⟨w.heap.size + 1, 1, none⟩ = some (.int .i64 d) ∧ W.cell? ⟨w.heap.size + 1 + 1, 0, none⟩ = some (.slice a3 zs.length k3) ∧ W.cell? ⟨w.heap.size + 1 + 1, 1, none⟩ = some (.int .i64 f) ∧ Below w.heap.size w W := by
          have n2 : w.heap.size + 1 = (w.alloc (.cells #[.slice a1 xs.length k1, .int .i64 c] 24)).heap.size := by simp
          have n3 : w.heap.size + 1 + 1 = ((w.alloc (.cells #[.slice a1 xs.length k1, .int .i64 c] 24)).alloc (.cells #[.slice a2 ys.length k2, .int .i64 d] 24)).heap.size := by simp
          rw [hW]
          exact ⟨keep1 (keep1 (new_cell w _ _ 0 rfl) (allocBelow _ _)) (allocBelow _ _), keep1 (keep1 (new_cell w _ _ 1 rfl) (allocBelow _ _)) (allocBelow _ _), keep1 (new_cell _ _ _ 0 n2) (allocBelow _ _), keep1 (new_cell _ _ _ 1 n2) (allocBelow _ _), new_cell _ _ _ 0 n3, new_cell _ _ _ 1 n3, by go_grown⟩
        clear hW
        go_wp2_with (go_at_call 12; refine (long_any _ _ _ _ _).mono ?_; rintro e wn ⟨rfl, hbn⟩; have hq := keep6 (by assumption) hbn)
        have hS := hid0 hq
        go_region_held3 (fun w' => w'.cell? ⟨w.heap.size, 0, none⟩ = some (.slice a1 xs.length k1) ∧ w'.cell? ⟨w.heap.size, 1, none⟩ = some (.int .i64 c) ∧ w'.cell? ⟨w.heap.size + 1, 0, none⟩ = some (.slice a2 ys.length k2) ∧ w'.cell? ⟨w.heap.size + 1, 1, none⟩ = some (.int .i64 d) ∧ w'.cell? ⟨w.heap.size + 1 + 1, 0, none⟩ = some (.slice a3 zs.length k3) ∧ w'.cell? ⟨w.heap.size + 1 + 1, 1, none⟩ = some (.int .i64 f) ∧ Below w.heap.size w w') (first | exact hS.out | exact keep6 hS.out (drewBelow _) | exact keep6 (by assumption) (by assumption)) (first | (go_at_call 14; (first | (with_reducible refine (Compare_any c d (G1.out.below (held6 (by assumption))) (G2.out.below (held6 (by assumption)))).mono ?_) | (with_reducible refine (Compare_any d f (G2.out.below (held6 (by assumption))) (G3.out.below (held6 (by assumption)))).mono ?_) | (with_reducible refine (Compare_any c f (G1.out.below (held6 (by assumption))) (G3.out.below (held6 (by assumption)))).mono ?_)); rintro e w2 ⟨rfl, hb2⟩))
        obtain ⟨q0, q1, q2, q3, q4, q5, hB⟩ := (by assumption : _ ∧ _ ∧ _ ∧ _ ∧ _ ∧ _ ∧ Below w.heap.size w _)
        have hv := cmpR_vals (xs, c) (ys, d)
        have wn : IntKind.i64.wrap (-cmpR (xs, c) (ys, d)) = -cmpR (xs, c) (ys, d) := by rcases hv with e | e | e <;> rw [e] <;> rfl
        have F1 := hid0 (@cmpR_zero (xs, c) (ys, d))
        have F2 := hid0 (cmpR_or (xs, c) (ys, d) (zs, f))
        have hv := hid0 hv
        go_wp2_with (first | (go_at_call 15; refine (rCompare_any c d (G1.out.below hB) (G2.out.below hB)).mono ?_; rintro e w3 ⟨rfl, hb3⟩; obtain ⟨q0, q1, q2, q3, q4, q5, hB⟩ := keep6 ⟨q0, q1, q2, q3, q4, q5, hB⟩ hb3; clear hb3) | (go_at_call 14; (with_reducible refine (Compare_back c d (G2.out.below hB) (G1.out.below hB)).mono ?_); rintro e w4 ⟨rfl, hb4⟩; obtain ⟨q0, q1, q2, q3, q4, q5, hB⟩ := keep6 ⟨q0, q1, q2, q3, q4, q5, hB⟩ hb4; clear hb4) | (go_at_call 14; (with_reducible refine (Compare_self c (G1.out.below hB)).mono ?_); rintro e w5 ⟨rfl, hb5⟩; obtain ⟨q0, q1, q2, q3, q4, q5, hB⟩ := keep6 ⟨q0, q1, q2, q3, q4, q5, hB⟩ hb5; clear hb5) | (go_at_call 16; refine (SameRow_eq c d (F1.out (by omega)) (G1.out.below hB) (G2.out.below hB)).mono ?_; rintro e w6 ⟨rfl, hb6⟩; obtain ⟨q0, q1, q2, q3, q4, q5, hB⟩ := keep6 ⟨q0, q1, q2, q3, q4, q5, hB⟩ hb6; clear hb6) | (go_at_call 13; refine (known_any _).mono ?_; rintro e wk ⟨rfl, hbk⟩))
        all_goals (try go_ret)
        all_goals (have t := F2.out)
        all_goals (first | (refine ⟨ret_bool ?_, thenBelow hB hbk⟩) | (exfalso; omega) | skip)
        all_goals (first | rfl | (simp only [Bool.or_eq_true, decide_eq_true_eq]; omega) | (exfalso; omega))
end Go.Proofs.YtbppooajhoejcaaDoor
