/-
  WHAT THE REFERENCE'S gcd, abs, down AND Tighten RETURN: the same as the program's.
-/
import Derived.Test.YtbdnihjokndhaaaDoorCopy
import Derived.Test.YtbdnihjokndhaaaDoorTight
namespace Go.Proofs.YtbdnihjokndhaaaDoor
open Go.RowKit Go.Deep
/-- An own row stays when the cells of two boxes are written. -/
theorem OwnV.setBoth {lo lo' : Nat} {w : World} {v : Value} {xs : List Int} (h : OwnV lo' w v xs) (hl : lo ≤ lo') (b : Nat) (hb : b < lo') (u u' : Value) : OwnV lo ((w.setCell ⟨b, 0, none⟩ u).setCell ⟨b, 1, none⟩ u') v xs := by
  rcases h with hv | ⟨g, cp, hv, h1, hm, hg⟩
  · exact .inl hv
  · have := hg.1
    exact .inr ⟨g, cp, hv, h1, hm, (((hg.setOther _ _ (by simp; omega)).setOther _ _ (by simp; omega)).mono hl)⟩

/-- The loop of the content: what it holds after k rounds. -/
theorem gcdL_nat (xs : List Int) (k : Nat) (h : k < xs.length) : Nat.gcd (gcdL (xs.take k) 0) (xs[k]).natAbs = gcdL (xs.take (k + 1)) 0 := by
  rw [gcdL_snoc xs 0 k h]; simp [Int.gcd]

end Go.Proofs.YtbdnihjokndhaaaDoor
