/-
  A SLICE OF ROWS (a slice of integers and a number each) AS IT LIES IN MEMORY, and how it stays.
-/
import Derived.Test.YtbdnihjokndhaaaDoorBase
namespace Go.Proofs.YtbdnihjokndhaaaDoor
open Go.RowKit Go.Deep

/-- A row: its coefficients and its constant. -/
abbrev Rw := List Int × Int
/-- The value v is a slice of rows that reads as rs. -/
def IsRows (lo : Nat) (w : World) (v : Value) (rs : List Rw) : Prop :=
  ∃ (a : Option Addr) (cap : Nat), v = .slice a rs.length cap ∧ rs.length ≤ cap ∧ cap ≤ maxLen ∧
    (rs = [] ∨ ∃ b off, a = some ⟨b, off, none⟩ ∧ lo ≤ b ∧ b < w.heap.size ∧
      ∀ i (hi : i < rs.length), ∃ sv, w.cell? ⟨b, off + i * 2, none⟩ = some sv ∧ w.cell? ⟨b, off + i * 2 + 1, none⟩ = some (.int .i64 rs[i].2) ∧ IsInts lo w sv rs[i].1 ∧ I64 rs[i].2)

theorem IsRows.below {lo : Nat} {w w' : World} {v : Value} {rs : List Rw} (h : IsRows lo w v rs) (hb : Below w.heap.size w w') : IsRows lo w' v rs := by
  obtain ⟨a, cap, hv, hl, hm, hc⟩ := h
  refine ⟨a, cap, hv, hl, hm, ?_⟩
  rcases hc with hc | ⟨b, off, ha, hlo, hbk, hcell⟩
  · exact .inl hc
  · refine .inr ⟨b, off, ha, hlo, Nat.lt_of_lt_of_le hbk hb.size, fun i hi => ?_⟩
    obtain ⟨sv, h1, h2, h3, h4⟩ := hcell i hi
    exact ⟨sv, (hb.cell (p := ⟨b, off + i * 2, none⟩) hbk).trans h1, (hb.cell (p := ⟨b, off + i * 2 + 1, none⟩) hbk).trans h2, h3.below hb, h4⟩

theorem take_allR {p : Rw → Bool} {xs : List Rw} {k : Nat} (h : k < xs.length) (hk : (xs.take k).all p = true) (hp : p xs[k] = true) : (xs.take (k + 1)).all p = true := by
  rw [List.take_succ_eq_append_getElem h, List.all_append, hk]; simp [hp]
theorem all_noR {p : Rw → Bool} {xs : List Rw} {k : Nat} (h : k < xs.length) (hp : p xs[k] = false) : xs.all p = false := by
  rw [List.all_eq_false]; exact ⟨xs[k], List.getElem_mem h, by simp [hp]⟩
theorem all_takeR {p : Rw → Bool} {xs : List Rw} {k : Nat} (h : k = xs.length) (hk : (xs.take k).all p = true) : xs.all p = true := by
  rw [← List.take_of_length_le (by omega : xs.length ≤ k)]; exact hk

theorem IsRows.mono {lo lo' : Nat} {w : World} {v : Value} {rs : List Rw} (h : IsRows lo w v rs) (hl : lo' ≤ lo) : IsRows lo' w v rs := by
  obtain ⟨a, cap, hv, h1, hm, hc⟩ := h
  refine ⟨a, cap, hv, h1, hm, ?_⟩
  rcases hc with hc | ⟨b, off, ha, hlo, hbk, r⟩
  · exact .inl hc
  · exact .inr ⟨b, off, ha, Nat.le_trans hl hlo, hbk, fun i hi => by obtain ⟨sv, h1, h2, h3, h4⟩ := r i hi; exact ⟨sv, h1, h2, h3.mono hl, h4⟩⟩
theorem IsRows.shape {lo : Nat} {w : World} {v : Value} {rs : List Rw} (h : IsRows lo w v rs) : ∃ a cap, v = .slice a rs.length cap := by
  obtain ⟨a, cap, hv, _⟩ := h
  exact ⟨a, cap, hv⟩
theorem IsRows.bound {lo : Nat} {w : World} {v : Value} {rs : List Rw} (h : IsRows lo w v rs) : rs.length ≤ 9223372036854775807 := by
  obtain ⟨a, cap, _, h1, hm, _⟩ := h
  unfold maxLen at hm; omega
theorem IsRows.at {lo : Nat} {w : World} {a : Option Addr} {n cap : Nat} {rs : List Rw} (h : IsRows lo w (.slice a n cap) rs) (k : Nat) (hk : k < rs.length) :
    ∃ b off sv, a = some ⟨b, off, none⟩ ∧ b < w.heap.size ∧ w.cell? ⟨b, off + k * 2, none⟩ = some sv ∧ w.cell? ⟨b, off + k * 2 + 1, none⟩ = some (.int .i64 rs[k].2) ∧ IsInts lo w sv rs[k].1 ∧ I64 rs[k].2 := by
  obtain ⟨a', cap', hv, _, _, hc⟩ := h
  simp only [Value.slice.injEq] at hv
  rcases hc with rfl | ⟨b, off, ha, _, hb, hc⟩
  · simp at hk
  · obtain ⟨sv, h1, h2, h3, h4⟩ := hc k hk
    exact ⟨b, off, sv, hv.1.trans ha, hb, h1, h2, h3, h4⟩
end Go.Proofs.YtbdnihjokndhaaaDoor
