import Derived.Test.YtoefmdjgnabgfaaProg
import Derived.Laws.StructEq
import Derived.Laws.Tables
import Derived.Test.YtoefmdjgnabgfaaGrpchcneccm
import Derived.Test.YtoefmdjgnabgfaaGrpgfeekfoh
import Derived.Test.YtoefmdjgnabgfaaGrpimjdlhhc
import Derived.Test.YtoefmdjgnabgfaaGrpnfmidmgj
set_option linter.all false
namespace Go.Proofs.Ytoefmdjgnabgfaa
open Go.RowKit Go.Deep
end Go.Proofs.Ytoefmdjgnabgfaa

namespace Go.Proofs.Ytoefmdjgnabgfaa
open Go.RowKit Go.Deep
section
variable {F ok : Nat → Prop} {lo : Nat} {w : World}
theorem ln_pu (l : Ln) (vs : List Value) (h : LnEl lo w vs l) : ∀ j (hj : j < (cLn l).length), Pu F w ok (cLn l)[j] (vs.getD j undef) := by
  obtain ⟨rfl, _⟩ := h
  intro j hj
  match j, hj with
  | 0, _ => exact .v _
  | 1, _ => exact .v _
  | 2, _ => exact .v _
  | 3, _ => exact .v _
theorem str_pu (s : ByteArray) (vs : List Value) (h : StrEl lo w vs s) : ∀ j (hj : j < [sv s].length), Pu F w ok [sv s][j] (vs.getD j undef) := by
  obtain ⟨rfl, _⟩ := h
  intro j hj
  match j, hj with
  | 0, _ => exact .v _
theorem ru_pu (hok : ∀ b, lo ≤ b → b < w.heap.size → ok b) (r : Ru) (vs : List Value) (h : RuEl lo w vs r) : ∀ j (hj : j < (cRu r).length), Pu F w ok (cRu r)[j] (vs.getD j undef) := by
  obtain ⟨v6, v7, v8, v9, v12, v14, v15, v16, rfl, h0, h1, h2, h3, h4, h5, h6, h7, h8, h9, h10, h11, h12, h13, h14, h15, h16, h17⟩ := h
  intro j hj
  match j, hj with
  | 0, _ => exact .v _
  | 1, _ => exact .v _
  | 2, _ => exact .v _
  | 3, _ => exact .v _
  | 4, _ => exact .v _
  | 5, _ => exact .v _
  | 6, _ => exact YZ hok h6
  | 7, _ => exact sl_pu lenTh hok th_pu h7
  | 8, _ => exact YZ hok h8
  | 9, _ => exact YZ hok h9
  | 10, _ => exact .v _
  | 11, _ => exact .v _
  | 12, _ => exact YZ hok h12
  | 13, _ => exact .v _
  | 14, _ => exact YZ hok h14
  | 15, _ => exact YZ hok h15
  | 16, _ => exact YZ hok h16
  | 17, _ => exact .v _
  | j + 18, hj => exact absurd hj (by rw [lenRu]; omega)
theorem strs_pu (hok : ∀ b, lo ≤ b → b < w.heap.size → ok b) {v : Value} {xs : List ByteArray} (h : IsSl 1 StrEl lo w v xs) : Pu F w ok (Yj xs) v := by
  rw [fst1]; exact sl_pu lenStr hok str_pu h
theorem fam_pu (hok : ∀ b, lo ≤ b → b < w.heap.size → ok b) {v : Value} {q : Fm} (h : IsFam lo w v q) : Pu F w ok (.agg (cFm q)) v := by
  obtain ⟨v2, v3, v4, v6, v7, v8, v9, rfl, h0, h1, h2, h3, h4, h5, h6, h7, h8, h9⟩ := h
  refine .agg rfl fun j hj => ?_
  match j, hj with
  | 0, _ => exact .v _
  | 1, _ => exact .v _
  | 2, _ => exact strs_pu hok h2
  | 3, _ => exact strs_pu hok h3
  | 4, _ => exact strs_pu hok h4
  | 5, _ => exact .v _
  | 6, _ => exact sl_pu lenLn hok ln_pu h6
  | 7, _ => exact YZ hok h7
  | 8, _ => exact YZ hok h8
  | 9, _ => exact sl_pu lenRu hok (ru_pu hok) h9
end
theorem famw {w : World} {v : Value} {q : Fm} (h : IsFam 0 w v q) : Pu (fun _ => True) w (fun b => b < w.heap.size) (.agg (cFm q)) v := fam_pu (fun _ _ h => h) h
section
variable {J : World → Prop}
end
end Go.Proofs.Ytoefmdjgnabgfaa

namespace Go.Proofs.Ytoefmdjgnabgfaa
open Go.RowKit Go.Deep
section
variable {P : Program} {J : World → Prop} {o : Oper}
end
end Go.Proofs.Ytoefmdjgnabgfaa
