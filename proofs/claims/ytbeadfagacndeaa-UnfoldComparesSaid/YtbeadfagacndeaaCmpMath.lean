/-
  THE ORDERS ARE ORDERS: lists of integers, numbers, and the first of several that is not 0.
-/
import Derived.Test.YtbeadfagacndeaaCmpInts
import Derived.Test.YtbeadfagacndeaaCmpNum
import Derived.Test.YtbeadfagacndeaaOrL
namespace Go.Proofs.Ytbeadfagacndeaa

theorem cmpI_anti : ∀ (xs ys : List Int), cmpI ys xs = -cmpI xs ys
  | [], [] => rfl
  | [], _ :: _ => rfl
  | _ :: _, [] => rfl
  | x :: xs, y :: ys => by
    simp only [cmpI]
    by_cases h1 : x < y
    · rw [if_neg (by omega), if_pos h1, if_pos h1]; rfl
    · by_cases h2 : y < x
      · rw [if_pos h2, if_neg h1, if_pos h2]
      · rw [if_neg h2, if_neg h1, if_neg h1, if_neg h2]; exact cmpI_anti xs ys
theorem cmpI_vals : ∀ (xs ys : List Int), cmpI xs ys = -1 ∨ cmpI xs ys = 0 ∨ cmpI xs ys = 1
  | [], [] => by simp [cmpI]
  | [], _ :: _ => by simp [cmpI]
  | _ :: _, [] => by simp [cmpI]
  | x :: xs, y :: ys => by
    simp only [cmpI]
    split
    · exact .inl rfl
    · split
      · exact .inr (.inr rfl)
      · exact cmpI_vals xs ys
theorem cmpI_trans : ∀ (xs ys zs : List Int), cmpI xs ys ≤ 0 → cmpI ys zs ≤ 0 → cmpI xs zs ≤ 0 ∧ (cmpI xs zs = 0 → cmpI xs ys = 0 ∧ cmpI ys zs = 0)
  | [], [], zs, _, h => ⟨h, fun e => ⟨rfl, e⟩⟩
  | [], _ :: _, [], _, h => by simp [cmpI] at h
  | [], _ :: _, _ :: _, _, _ => by simp [cmpI]
  | _ :: _, [], _, h, _ => by simp [cmpI] at h
  | _ :: _, _ :: _, [], _, h => by simp [cmpI] at h
  | x :: xs, y :: ys, z :: zs, h1, h2 => by
    simp only [cmpI] at *
    by_cases a1 : x < y
    · rw [if_pos a1] at *
      by_cases a2 : y < z
      · rw [if_pos (by omega : x < z)]; simp
      · rw [if_neg a2] at *
        by_cases a3 : z < y
        · rw [if_pos a3] at h2; omega
        · rw [if_pos (by omega : x < z)]; simp
    · rw [if_neg a1] at *
      by_cases b1 : y < x
      · rw [if_pos b1] at h1; omega
      · rw [if_neg b1] at *
        by_cases a2 : y < z
        · rw [if_pos a2, if_pos (by omega : x < z)]; simp
        · rw [if_neg a2] at *
          by_cases a3 : z < y
          · rw [if_pos a3] at h2; omega
          · rw [if_neg a3] at *
            rw [if_neg (by omega : ¬ x < z), if_neg (by omega : ¬ z < x)]
            exact cmpI_trans xs ys zs h1 h2
theorem cmpN_vals (x y : Int) : (cmpN x y = -1 ∧ x < y) ∨ (cmpN x y = 0 ∧ x = y) ∨ (cmpN x y = 1 ∧ y < x) := by
  unfold cmpN
  split
  · exact .inl ⟨rfl, by assumption⟩
  · split
    · exact .inr (.inr ⟨rfl, by assumption⟩)
    · exact .inr (.inl ⟨rfl, by omega⟩)
theorem cmpN_anti (x y : Int) : cmpN y x = -cmpN x y := by
  have := cmpN_vals x y; have := cmpN_vals y x; omega
theorem cmpN_trans (x y z : Int) (h1 : cmpN x y ≤ 0) (h2 : cmpN y z ≤ 0) : cmpN x z ≤ 0 ∧ (cmpN x z = 0 → cmpN x y = 0 ∧ cmpN y z = 0) := by
  have := cmpN_vals x y; have := cmpN_vals y z; have := cmpN_vals x z; omega
theorem orL_neg : ∀ xs : List Int, orL (xs.map (- ·)) = -orL xs
  | [] => rfl
  | x :: xs => by
    simp only [List.map_cons, orL, orL_neg xs]
    by_cases h : x = 0
    · rw [if_pos h, if_pos (by omega)]
    · rw [if_neg h, if_neg (by omega)]
/-- Triples of answers that an order gives. -/
def Tri : List (Int × Int × Int) → Prop
  | [] => True
  | (x, y, z) :: ts => (x ≤ 0 → y ≤ 0 → z ≤ 0 ∧ (z = 0 → x = 0 ∧ y = 0)) ∧ (x = 0 → y = 0 → z = 0) ∧ Tri ts
theorem orL_tri : ∀ ts : List (Int × Int × Int), Tri ts → orL (ts.map (·.1)) ≤ 0 → orL (ts.map (·.2.1)) ≤ 0 → orL (ts.map (·.2.2)) ≤ 0
  | [], _, _, _ => by simp [orL]
  | (x, y, z) :: ts, h, h1, h2 => by
    obtain ⟨t1, t2, t3⟩ := h
    simp only [List.map_cons, orL] at h1 h2 ⊢
    have ih := orL_tri ts t3
    by_cases ex : x = 0
    · by_cases ey : y = 0
      · rw [if_pos ex] at h1
        rw [if_pos ey] at h2
        rw [if_pos (t2 ex ey)]
        exact ih h1 h2
      · rw [if_neg ey] at h2
        have := t1 (by omega) h2
        rw [if_neg (fun e => ey (this.2 e).2)]; exact this.1
    · rw [if_neg ex] at h1
      by_cases ey : y = 0
      · have := t1 h1 (by omega)
        rw [if_neg (fun e => ex (this.2 e).1)]; exact this.1
      · rw [if_neg ey] at h2
        have := t1 h1 h2
        rw [if_neg (fun e => ex (this.2 e).1)]; exact this.1
theorem orL_vals : ∀ xs : List Int, (∀ x ∈ xs, x = -1 ∨ x = 0 ∨ x = 1) → orL xs = -1 ∨ orL xs = 0 ∨ orL xs = 1
  | [], _ => .inr (.inl rfl)
  | x :: xs, h => by
    simp only [orL]
    split
    · exact orL_vals xs (fun y hy => h y (by simp [hy]))
    · exact h x (by simp)
theorem cmpI_zz {a b c : List Int} (h1 : cmpI a b = 0) (h2 : cmpI b c = 0) : cmpI a c = 0 := by
  have t := (cmpI_trans a b c (by omega) (by omega)).1
  have t2 := (cmpI_trans c b a (by rw [cmpI_anti]; omega) (by rw [cmpI_anti]; omega)).1
  rw [cmpI_anti a c] at t2; omega
theorem cmpN_zz {a b c : Int} (h1 : cmpN a b = 0) (h2 : cmpN b c = 0) : cmpN a c = 0 := by
  have := cmpN_vals a b; have := cmpN_vals b c; have := cmpN_vals a c; omega
end Go.Proofs.Ytbeadfagacndeaa
