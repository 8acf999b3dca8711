import Derived.Test.YtgbgfkhkjlakbaaGreatRows
import Derived.ProofKit
import Derived.OpenShut
import Derived.Test.YtgbgfkhkjlakbaaGreatGrpkikkdkal
import Derived.Test.YtgbgfkhkjlakbaaGreatGrplnmjbbdm
import Derived.Test.YtgbgfkhkjlakbaaGreatGrpmgphmkil
/-
  UnfoldCounts RETURNS TRUE FOR ALL FAMILIES AND CONFIGURATIONS: how many correct processes are in each state, and the canonical form, are as the document says.
-/
namespace Go.Proofs.YtgbgfkhkjlakbaaGreat.unfoldCounts
open Go.ChangeShapes Go.WideShapes Go.ChangeAt Go.RowKit Go.Deep

/-- The walk, at the law's arguments. -/
theorem walk {v0 : Value} {q0 : Fm} {u10 : Value} {xs10 : List Int} {u11 : Value} {xs11 : List Int} {c12 : Int} {u13 : Value} {xs13 : List Int} {u14 : Value} {xs14 : List Int} {c15 : Int} (w : World) (H0 : IsFam 0 w v0 q0) (H10 : IsInts 0 w u10 xs10) (H11 : IsInts 0 w u11 xs11) (b12 : I64 c12) (H13 : IsInts 0 w u13 xs13) (H14 : IsInts 0 w u14 xs14) (b15 : I64 c15) :
    Calls Tryz.prog 3 #[v0, .agg #[u10, u11, .int .i64 c12, u13, u14, .int .i64 c15]] w fun e w' => e = .returned (.bool true) ∧ Below w.heap.size w w' := walk_Counts w H0 H10 H11 b12 H13 H14 b15

theorem own : ownKnob Tryz.prog.godebug = none := by kernel_rfl
theorem laidOut : laidOutB Tryz.prog = true := by kernel_rfl

set_option maxRecDepth 100000 in
theorem lifted (os : Os) (started : os.Started) (H : Type) (enc : TypeId × Value → H) :
    ReturnsInHanded {} Tryz.checked os 3 .any (Rows.unfoldCountsSpec.pre6 enc Tryz.prog Tryz.f3 Rows.unfoldCountsRow.domain false) (Rows.unfoldCountsSpec.post enc Tryz.prog Tryz.f3 false true false false) := by
  refine returnsInHanded_of_change (C := Tryz.checked) own started (by kernel_rfl) Tryz.func3
    (ChangeSpec.witness6 (enc := enc) (C := Tryz.checked) false ⟨#[], #[.agg #[.string ⟨#[]⟩, .int .i64 0, .slice none 0 0, .slice none 0 0, .slice none 0 0, .int .i64 0, .slice none 0 0, .slice none 0 0, .slice none 0 0, .slice none 0 0], .agg #[.slice none 0 0, .slice none 0 0, .int .i64 0, .slice none 0 0, .slice none 0 0, .int .i64 0]], []⟩ 8 (by kernel_rfl) (by kernel_rfl) (by kernel_rfl) (by kernel_rfl)) ?_
  intro W base args ds gs before hval0 hW hcnd _
  have hval : ∀ (j : Nat) t v, Tryz.f3.params[j]? = some t → args[j]? = some v → Value.okWide Tryz.prog W .any base t v := hval0
  have hW' := hW
  obtain ⟨p, q, hA0, hV, rfl, hfz, hnd⟩ := hW
  have hA : DataW.TrodAll enc Tryz.prog W 0 (fun _ => true) true Tryz.f3.params.toList args.toList ds p := hA0
  rw [Tryz.params3] at hA hval
  obtain ⟨v0, vs0, d0, ds0, p0, q0, hargs, rfl, rfl, h0, r0⟩ := trodAll_cons hA
  obtain ⟨v1, vs1, d1, ds1, p1, q1, rfl, rfl, rfl, h1, r1⟩ := trodAll_cons r0
  obtain ⟨rfl, rfl, rfl⟩ := trodAll_nil r1
  obtain rfl : args = #[v0, v1] := by cases args; simp_all
  obtain ⟨rfl, rfl⟩ := trodVars_none hV
  have lt0 : ∀ x ∈ p0, x.block < W.heap.size := by obtain ⟨m, hm⟩ := h0; exact DataW.trod_lt m _ _ _ hm
  have k0 := h0
  obtain ⟨q0, H0⟩ := arg_fam (hval 0 27 v0 rfl rfl) h0
  have lt1 : ∀ x ∈ p1, x.block < W.heap.size := by obtain ⟨m, hm⟩ := h1; exact DataW.trod_lt m _ _ _ hm
  have k1 := h1
  obtain ⟨u10, xs10, u11, xs11, c12, u13, xs13, u14, xs14, c15, rfl, H10, H11, b12, H13, H14, b15⟩ := arg_cfg (hval 1 29 v1 rfl rfl) h1
  clear hA0 hval0
  refine (walk W H0 H10 H11 b12 H13 H14 b15).mono fun e W' ⟨he, bel⟩ => ?_
  subst he
  exact ⟨_, rfl, _, _, _, [], _, [], hW', trodAll_mk1 (shut_bool Tryz.underlying4 _), (trodAll_cons_mk (Below.trod laidOut (by kernel_rfl) (of_decide_eq_true (by kernel_rfl)) k0 bel lt0) (trodAll_cons_mk (Below.trod laidOut (by kernel_rfl) (of_decide_eq_true (by kernel_rfl)) k1 bel lt1) trodAll_mk0)), rfl, bel.frame _, fun h => by cases h⟩

/-- The statement. -/
theorem proved : Rows.UnfoldCountsSaid :=
  OpenClaim.holds_of_wide 3 Tryz.f3 rfl rfl rfl rfl rfl rfl rfl ⟨rfl, rfl, rfl, rfl, rfl⟩ rfl rfl rfl rfl rfl (by kernel_rfl) Tryz.func3 (by kernel_rfl)
    (of_decide_eq_true (by kernel_rfl)) (by unfold Func.isWrapper; first | (rw [if_pos (by decide +kernel)]; kernel_rfl) | (rw [if_neg (by decide +kernel)]; exact ⟨rfl, rfl⟩))
    (fun os started H enc _ => lifted os started H enc)
#print axioms proved
end Go.Proofs.YtgbgfkhkjlakbaaGreat.unfoldCounts
