/-
  THE LIST OF ALL SHAPES: its numbers' digits, and how often a list is among them.
-/
import Derived.Test.YtbeadfagacndeaaTreeMath
namespace Go.Proofs.Ytbeadfagacndeaa
/-- The digits of k, as counts of children. -/
def digF (n k j : Nat) : Int := (((k / 2 ^ (n - 1 - j)) % 2 : Nat) : Int) * 2
def dig (n k : Nat) : List Int := (List.range n).map (digF n k)
theorem dig_length (n k : Nat) : (dig n k).length = n := by simp [dig]
theorem dig_get (n k j : Nat) (h : j < n) : (dig n k).getD j 0 = digF n k j := by simp [dig, List.getD, h]
theorem digF_small (n k j : Nat) : 0 ≤ digF n k j ∧ digF n k j ≤ 2 := by unfold digF; omega
/-- All shapes among the first k lists. -/
def shK (n k : Nat) : List (List Int) := ((List.range k).map (dig n)).filter shp
def shL (n : Nat) : List (List Int) := shK n (2 ^ n)
theorem shK_succ (n k : Nat) : shK n (k + 1) = if shp (dig n k) then shK n k ++ [dig n k] else shK n k := by
  unfold shK
  rw [List.range_succ, List.map_append, List.filter_append]
  by_cases h : shp (dig n k) = true
  · simp [h]
  · simp [h]
theorem shK_len (n k : Nat) : (shK n k).length ≤ k := by
  have := List.length_filter_le shp ((List.range k).map (dig n))
  simpa [shK] using this
theorem shK_mem {n k : Nat} {xs : List Int} (h : xs ∈ shK n k) : xs.length = n ∧ shp xs = true := by
  unfold shK at h
  rw [List.mem_filter] at h
  obtain ⟨h1, h2⟩ := h
  obtain ⟨j, _, rfl⟩ := List.mem_map.1 h1
  exact ⟨dig_length _ _, h2⟩

/-- All lists of 0 and 2, in ascending order. -/
def allL : Nat → List (List Int)
  | 0 => [[]]
  | n + 1 => (allL n).map (0 :: ·) ++ (allL n).map (2 :: ·)
theorem count_map_cons (a b : Int) (ys : List Int) : ∀ L : List (List Int), (L.map (a :: ·)).count (b :: ys) = if a = b then L.count ys else 0
  | [] => by simp
  | x :: L => by
    rw [List.map_cons, List.count_cons, List.count_cons, count_map_cons a b ys L]
    by_cases h : a = b
    · subst h; simp
    · simp [h]
theorem count_map_nil (a : Int) : ∀ L : List (List Int), (L.map (a :: ·)).count [] = 0
  | [] => rfl
  | x :: L => by rw [List.map_cons, List.count_cons, count_map_nil a L]; simp
theorem count_all : ∀ xs : List Int, (∀ x ∈ xs, x = 0 ∨ x = 2) → (allL xs.length).count xs = 1
  | [], _ => rfl
  | x :: xs, h => by
    have ih := count_all xs (fun y hy => h y (by simp [hy]))
    show ((allL xs.length).map (0 :: ·) ++ (allL xs.length).map (2 :: ·)).count (x :: xs) = 1
    rw [List.count_append, count_map_cons, count_map_cons, ih]
    rcases h x (by simp) with rfl | rfl <;> simp
theorem shp_digits : ∀ (xs : List Int) (m : Int), shpF xs m = true → ∀ x ∈ xs, x = 0 ∨ x = 2
  | [], _, _, x, hx => by simp at hx
  | c :: cs, m, h, x, hx => by
    rw [shpF] at h
    by_cases h0 : m = 0
    · rw [if_pos h0] at h; cases h
    · rw [if_neg h0] at h
      by_cases h1 : c ≠ 0 ∧ c ≠ 2
      · rw [if_pos h1] at h; cases h
      · rw [if_neg h1] at h
        rcases List.mem_cons.1 hx with rfl | hx
        · omega
        · exact shp_digits cs _ h x hx
set_option maxRecDepth 100000 in
theorem dig_all : ∀ n, n ≤ 8 → (List.range (2 ^ n)).map (dig n) = allL n
  | 0, _ => by decide +kernel
  | 1, _ => by decide +kernel
  | 2, _ => by decide +kernel
  | 3, _ => by decide +kernel
  | 4, _ => by decide +kernel
  | 5, _ => by decide +kernel
  | 6, _ => by decide +kernel
  | 7, _ => by decide +kernel
  | 8, _ => by decide +kernel
/-- Each shape is listed once. -/
theorem shL_count (xs : List Int) (h : xs.length ≤ 8) : (shL xs.length).count xs = if shp xs = true then 1 else 0 := by
  unfold shL shK
  by_cases hs : shp xs = true
  · rw [if_pos hs, List.count_filter hs, dig_all _ h]
    exact count_all xs (shp_digits xs 1 hs)
  · rw [if_neg hs, List.count_eq_zero]
    intro hm
    exact hs (List.mem_filter.1 hm).2
/-- How often a list is among the first k. -/
def cntK (L : List (List Int)) (xs : List Int) (k : Nat) : Nat := (L.take k).count xs
theorem cntK_succ {L : List (List Int)} {xs : List Int} {k : Nat} (h : k < L.length) : cntK L xs (k + 1) = cntK L xs k + if L[k] = xs then 1 else 0 := by
  unfold cntK
  rw [List.take_succ_eq_append_getElem h, List.count_append, List.count_singleton]
  by_cases e : L[k] = xs
  · simp [e]
  · have : (xs == L[k]) = false := by simpa using fun h => e h.symm
    simp [e]
theorem cntK_le (L : List (List Int)) (xs : List Int) (k : Nat) : cntK L xs k ≤ k := by
  unfold cntK
  have h1 : (L.take k).count xs ≤ (L.take k).length := List.count_le_length
  have h2 : (L.take k).length ≤ k := List.length_take_le _ _
  omega
theorem cntK_all {L : List (List Int)} {xs : List Int} {k : Nat} (h : k = L.length) : cntK L xs k = L.count xs := by
  unfold cntK; rw [List.take_of_length_le (by omega)]
end Go.Proofs.Ytbeadfagacndeaa
