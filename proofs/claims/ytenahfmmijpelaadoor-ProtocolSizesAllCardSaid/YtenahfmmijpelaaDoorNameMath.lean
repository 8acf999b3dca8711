/-
  WHICH TEXTS ARE NAMES, as plain facts on lists of bytes.
-/
import Derived.WalkKit
namespace Go.Proofs.YtenahfmmijpelaaDoor
/-- The reserved words, by their bytes. -/
def resW : List (List UInt8) := [[112, 114, 111, 116, 111, 99, 111, 108], [116, 111, 112, 111, 108, 111, 103, 121], [115, 116, 97, 116, 101, 115], [109, 101, 115, 115, 97, 103, 101, 115], [118, 97, 108, 117, 101, 115], [102, 97, 117, 108, 116, 115], [114, 101, 115, 105, 108, 105, 101, 110, 99, 101], [105, 110, 105, 116, 105, 97, 108], [108, 101, 97, 100, 101, 114], [114, 117, 108, 101], [108, 111, 99, 97, 108], [112, 97, 105, 114], [98, 114, 111, 97, 100, 99, 97, 115, 116], [110, 101, 105, 103, 104, 98, 111, 114], [112, 97, 115, 115], [119, 104, 101, 110], [101, 120, 105, 115, 116, 115], [102, 111, 114, 97, 108, 108], [114, 101, 97, 100], [119, 114, 105, 116, 101], [115, 101, 110, 100], [97, 108, 108], [97, 116], [102, 105, 114, 115, 116], [108, 97, 115, 116], [108, 101, 102, 116], [114, 105, 103, 104, 116], [112, 97, 114, 101, 110, 116], [99, 104, 105, 108, 100], [112, 114, 111, 112, 101, 114, 116, 121], [110, 101, 118, 101, 114], [101, 118, 101, 110, 116, 117, 97, 108, 108, 121], [115, 116, 97, 114, 116], [99, 111, 117, 110, 116], [97, 100, 106, 97, 99, 101, 110, 116], [103, 111, 97, 108], [99, 108, 105, 113, 117, 101], [108, 105, 110, 101], [114, 105, 110, 103], [116, 114, 101, 101], [99, 114, 97, 115, 104], [111, 109, 105, 115, 115, 105, 111, 110], [97, 114, 98, 105, 116, 114, 97, 114, 121]]
def resB (l : List UInt8) : Bool := resW.any (fun w => l == w)
/-- A letter; a digit or the sign '_'. -/
def leB (c : UInt8) : Bool := decide (97 ≤ (c.toNat : Int)) && decide ((c.toNat : Int) ≤ 122)
def diB (c : UInt8) : Bool := decide (48 ≤ (c.toNat : Int)) && decide ((c.toNat : Int) ≤ 57) || ((c.toNat : Int) == 95)
/-- The byte at i may stand there. -/
def atB (l : List UInt8) (i : Nat) : Bool := leB (l.getD i 0) || (decide (i ≠ 0) && diB (l.getD i 0))
def upB (l : List UInt8) (n : Nat) : Bool := (List.range n).all (atB l)
theorem upB_zero (l : List UInt8) : upB l 0 = true := rfl
theorem upB_succ {l : List UInt8} {n : Nat} (h : upB l n = true) (h' : atB l n = true) : upB l (n + 1) = true := by
  unfold upB at *; rw [List.range_succ, List.all_append, h]; simp [h']
theorem upB_no {l : List UInt8} {n k : Nat} (hk : k < n) (h' : atB l k = false) : upB l n = false := by
  unfold upB; rw [List.all_eq_false]; exact ⟨k, List.mem_range.2 hk, by simp [h']⟩
def nameB (l : List UInt8) : Bool := decide (1 ≤ l.length) && decide (l.length ≤ 12) && !resB l && upB l l.length
/-- The reference's order: the first byte, then each, then the words. -/
def reB (l : List UInt8) (n : Nat) : Bool := (l.take n).all fun c => leB c || diB c
theorem reB_succ {l : List UInt8} {n : Nat} (hn : n < l.length) (h : reB l n = true) (h' : (leB l[n] || diB l[n]) = true) : reB l (n + 1) = true := by
  unfold reB at *; rw [List.take_succ_eq_append_getElem hn, List.all_append, h]; simpa using h'
theorem reB_no {l : List UInt8} {k : Nat} (hk : k < l.length) (h' : (leB l[k] || diB l[k]) = false) : reB l l.length = false := by
  unfold reB; rw [List.all_eq_false]; exact ⟨l[k], by rw [List.take_length]; exact List.getElem_mem hk, by simp [h']⟩
theorem upB_reB {l : List UInt8} (h0 : 0 < l.length) : upB l l.length = (leB l[0] && reB l l.length) := by
  rw [Bool.eq_iff_iff]
  unfold upB reB
  rw [List.take_length, List.all_eq_true, Bool.and_eq_true, List.all_eq_true]
  constructor
  · intro h
    refine ⟨?_, fun c hc => ?_⟩
    · have := h 0 (List.mem_range.2 h0); simpa [atB, h0] using this
    · obtain ⟨i, hi, rfl⟩ := List.getElem_of_mem hc
      have := h i (List.mem_range.2 hi)
      unfold atB at this
      simp only [List.getD_eq_getElem?_getD, List.getElem?_eq_getElem hi, Option.getD_some] at this
      revert this
      cases leB l[i] <;> cases diB l[i] <;> simp
  · rintro ⟨h1, h2⟩ i hi
    have hi' := List.mem_range.1 hi
    have h3 := h2 l[i] (List.getElem_mem hi')
    unfold atB
    simp only [List.getD_eq_getElem?_getD, List.getElem?_eq_getElem hi', Option.getD_some]
    by_cases e : i = 0
    · subst e; simp [h1]
    · simp only [ne_eq, e, not_false_eq_true, decide_true, Bool.true_and]; exact h3
theorem upB_first {l : List UInt8} (h0 : 0 < l.length) (h : leB l[0] = false) : upB l l.length = false := by rw [upB_reB h0, h]; rfl
end Go.Proofs.YtenahfmmijpelaaDoor
