import Derived.Test.YtoefmdjgnabgfaaGrpcknjpjhf
import Derived.Test.YtoefmdjgnabgfaaGrphceiocjc
set_option linter.all false
namespace Go.Proofs.Ytoefmdjgnabgfaa
open Go.RowKit Go.Deep
theorem all_succ {α : Type} {p : α → Bool} {xs : List α} {k : Nat} (h : k < xs.length) (hk : (xs.take k).all p = true) (e : p xs[k] = true) : (xs.take (k + 1)).all p = true := by
  rw [List.take_succ_eq_append_getElem h, List.all_append, hk]; simpa using e
theorem all_no {α : Type} {p : α → Bool} {xs : List α} {k : Nat} (h : k < xs.length) (e : p xs[k] = false) : xs.all p = false := by
  rw [List.all_eq_false]; exact ⟨xs[k], List.getElem_mem h, by simpa using e⟩
end Go.Proofs.Ytoefmdjgnabgfaa
