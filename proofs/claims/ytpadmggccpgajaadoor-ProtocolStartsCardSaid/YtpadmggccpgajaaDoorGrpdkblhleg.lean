import Derived.Test.YtpadmggccpgajaaDoorProg
import Derived.Laws.StructEq
import Derived.Laws.Tables
import Derived.Test.YtpadmggccpgajaaDoorGrpgkcafmdi
import Derived.Test.YtpadmggccpgajaaDoorGrpmnljgbga
import Derived.Test.YtpadmggccpgajaaDoorGrpojpoaaog
import Derived.Test.YtpadmggccpgajaaDoorGrphfdclkag
set_option linter.all false
namespace Go.Proofs.YtpadmggccpgajaaDoor
open Go.RowKit Go.Deep
end Go.Proofs.YtpadmggccpgajaaDoor

namespace Go.Proofs.YtpadmggccpgajaaDoor
open Go.RowKit Go.Deep
section
variable {F ok : Nat → Prop} {lo : Nat} {w : World}
theorem ln_pu (l : Ln) (vs : List Value) (h : LnEl lo w vs l) : ∀ j (hj : j < (cLn l).length), Pu F w ok (cLn l)[j] (vs.getD j undef) := by
  obtain ⟨rfl, _⟩ := h
  intro j hj
  match j, hj with
  | 0, _ => exact .v _
  | 1, _ => exact .v _
  | 2, _ => exact .v _
  | 3, _ => exact .v _
theorem str_pu (s : ByteArray) (vs : List Value) (h : StrEl lo w vs s) : ∀ j (hj : j < [sv s].length), Pu F w ok [sv s][j] (vs.getD j undef) := by
  obtain ⟨rfl, _⟩ := h
  intro j hj
  match j, hj with
  | 0, _ => exact .v _
theorem ru_pu (hok : ∀ b, lo ≤ b → b < w.heap.size → ok b) (r : Ru) (vs : List Value) (h : RuEl lo w vs r) : ∀ j (hj : j < (cRu r).length), Pu F w ok (cRu r)[j] (vs.getD j undef) := by
  obtain ⟨v6, v7, v8, v9, v12, v14, v15, v16, rfl, h0, h1, h2, h3, h4, h5, h6, h7, h8, h9, h10, h11, h12, h13, h14, h15, h16, h17⟩ := h
  intro j hj
  match j, hj with
  | 0, _ => exact .v _
  | 1, _ => exact .v _
  | 2, _ => exact .v _
  | 3, _ => exact .v _
  | 4, _ => exact .v _
  | 5, _ => exact .v _
  | 6, _ => exact ints_pu hok h6
  | 7, _ => exact sl_pu lenTh hok th_pu h7
  | 8, _ => exact ints_pu hok h8
  | 9, _ => exact ints_pu hok h9
  | 10, _ => exact .v _
  | 11, _ => exact .v _
  | 12, _ => exact ints_pu hok h12
  | 13, _ => exact .v _
  | 14, _ => exact ints_pu hok h14
  | 15, _ => exact ints_pu hok h15
  | 16, _ => exact ints_pu hok h16
  | 17, _ => exact .v _
  | j + 18, hj => exact absurd hj (by rw [lenRu]; omega)
theorem strs_pu (hok : ∀ b, lo ≤ b → b < w.heap.size → ok b) {v : Value} {xs : List ByteArray} (h : IsSl 1 StrEl lo w v xs) : Pu F w ok (strsA xs) v := by
  rw [fst1]; exact sl_pu lenStr hok str_pu h
theorem fam_pu (hok : ∀ b, lo ≤ b → b < w.heap.size → ok b) {v : Value} {q : Fm} (h : IsFam lo w v q) : Pu F w ok (.agg (cFm q)) v := by
  obtain ⟨v2, v3, v4, v6, v7, v8, v9, rfl, h0, h1, h2, h3, h4, h5, h6, h7, h8, h9⟩ := h
  refine .agg rfl fun j hj => ?_
  match j, hj with
  | 0, _ => exact .v _
  | 1, _ => exact .v _
  | 2, _ => exact strs_pu hok h2
  | 3, _ => exact strs_pu hok h3
  | 4, _ => exact strs_pu hok h4
  | 5, _ => exact .v _
  | 6, _ => exact sl_pu lenLn hok ln_pu h6
  | 7, _ => exact ints_pu hok h7
  | 8, _ => exact ints_pu hok h8
  | 9, _ => exact sl_pu lenRu hok (ru_pu hok) h9
end
theorem walk2 {f : FuncId} {A B : AV} {w : World} {v v' : Value} (h : Ctr Tryd.prog TabW f [A, B] (bv true)) (hA : Pu (fun _ => True) w (fun b => b < w.heap.size) A v) (hB : Pu (fun _ => True) w (fun b => b < w.heap.size) B v') (ht : TabW w) :
    Calls Tryd.prog f #[v, v'] w fun e w' => e = .returned (.bool true) ∧ Below w.heap.size w w' :=
  (h w #[v, v'] (fun _ hb => ht.below hb) rfl (fun j hj => by match j, hj with | 0, _ => exact hA | 1, _ => exact hB)).mono fun _ _ ⟨_, he, hu, hb⟩ => ⟨by rw [he, hu.v_inv], hb⟩
theorem famw {w : World} {v : Value} {q : Fm} (h : IsFam 0 w v q) : Pu (fun _ => True) w (fun b => b < w.heap.size) (.agg (cFm q)) v := fam_pu (fun _ _ h => h) h
section
variable {J : World → Prop}
end
end Go.Proofs.YtpadmggccpgajaaDoor

namespace Go.Proofs.YtpadmggccpgajaaDoor
open Go.RowKit Go.Deep
section
variable {P : Program} {J : World → Prop} {o : Oper}
theorem agg_known {ρ : Names} {B : Nat} {w : World} {xs : List Value} {x : Value} (h : Rel ρ B w (.agg (xs.map AV.v)) x) : x = .agg xs.toArray := by
  obtain ⟨vs, rfl, hl, hc⟩ := h.agg_inv
  have e : vs.toList = xs := by
    refine List.ext_getElem (by simpa using hl) fun i h1 h2 => ?_
    have h3 := hc i (by simpa using h2)
    simp only [List.getElem_map] at h3
    have h4 := h3.v_inv
    have h5 : i < vs.size := by simpa using h1
    simpa [Array.getD, h5] using h4
  rw [← e]
/-- A struct of the same cells. -/
theorem sp_aggNeq {T ty : TypeId} {x y : Operand} (xs : List Value) (ho : o.op = .binOp .neq T x y ty) (hm : P.eqGuardType P.depth T = false) (H : ∀ w, (Op.equalIn 10000 T (.agg xs.toArray) (.agg xs.toArray)).run P w = .ok true w) :
    ASpec P J o [(x, .agg (xs.map AV.v)), (y, .agg (xs.map AV.v))] [] (.v (.bool false)) .no :=
  aspec_val fun ρ B a w _ ha _ => by
    have h1 := agg_known (ha (x, .agg (xs.map AV.v)) (by simp))
    have h2 := agg_known (ha (y, .agg (xs.map AV.v)) (by simp))
    refine ⟨.bool false, ?_, .pu (.v _)⟩
    simp only [execOp, ho, h1, h2]
    refine run_val ?_
    rw [Sem.run_bind, run_eqGuard_agg w .neq T x y _ _ hm, Result.andThen_ok, run_neq_struct, H w]
    rfl
end
end Go.Proofs.YtpadmggccpgajaaDoor
