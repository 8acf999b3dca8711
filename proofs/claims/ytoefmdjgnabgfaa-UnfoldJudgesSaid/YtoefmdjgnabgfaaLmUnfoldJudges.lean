import Derived.Test.YtoefmdjgnabgfaaRows
import Derived.ProofKit
import Derived.OpenShut
import Derived.Test.YtoefmdjgnabgfaaGrpefdncigc
import Derived.Test.YtoefmdjgnabgfaaGrpgdggcdog
import Derived.Test.YtoefmdjgnabgfaaGrpnfmidmgj
import Derived.Test.YtoefmdjgnabgfaaGrpmobaoain
/-
  Bad and Reached beside the reference.
-/
namespace Go.Proofs.Ytoefmdjgnabgfaa.unfoldJudges
open Go.ChangeShapes Go.WideShapes Go.ChangeAt Go.RowKit Go.Deep

/-- The walk, at the law's arguments. -/
theorem walk {v0 : Value} {q0 : Fm} {v1 : Value} {q1 : Pq} {u20 : Value} {xs20 : List Int} {u21 : Value} {xs21 : List Int} {c22 : Int} {u23 : Value} {xs23 : List Int} {u24 : Value} {xs24 : List Int} {c25 : Int} (w : World) (H0 : IsFam 0 w v0 q0) (H1 : IsPropX 0 w v1 q1) (H20 : IsInts 0 w u20 xs20) (H21 : IsInts 0 w u21 xs21) (b22 : I64 c22) (H23 : IsInts 0 w u23 xs23) (H24 : IsInts 0 w u24 xs24) (b25 : I64 c25) :
    Calls Try.prog 4 #[v0, v1, .agg #[u20, u21, .int .i64 c22, u23, u24, .int .i64 c25]] w fun e w' => e = .returned (.bool true) ∧ Below w.heap.size w w' := walk_Judges w H0 H1 H20 H21 b22 H23 H24 b25

theorem own : ownKnob Try.prog.godebug = none := by kernel_rfl
theorem laidOut : laidOutB Try.prog = true := by kernel_rfl

set_option maxRecDepth 100000 in
theorem lifted (os : Os) (started : os.Started) (H : Type) (enc : TypeId × Value → H) :
    ReturnsInHanded {} Try.checked os 4 .any (Rows.unfoldJudgesSpec.pre6 enc Try.prog Try.f4 Rows.unfoldJudgesRow.domain false) (Rows.unfoldJudgesSpec.post enc Try.prog Try.f4 false true false false) := by
  refine returnsInHanded_of_change (C := Try.checked) own started (by kernel_rfl) Try.func4
    (ChangeSpec.witness6 (enc := enc) (C := Try.checked) false ⟨#[], #[.agg #[.string ⟨#[]⟩, .int .i64 0, .slice none 0 0, .slice none 0 0, .slice none 0 0, .int .i64 0, .slice none 0 0, .slice none 0 0, .slice none 0 0, .slice none 0 0], .agg #[.string ⟨#[]⟩, .int .i64 0, .slice none 0 0, .slice none 0 0, .slice none 0 0, .slice none 0 0], .agg #[.slice none 0 0, .slice none 0 0, .int .i64 0, .slice none 0 0, .slice none 0 0, .int .i64 0]], []⟩ 8 (by kernel_rfl) (by kernel_rfl) (by kernel_rfl) (by kernel_rfl)) ?_
  intro W base args ds gs before hval0 hW hcnd _
  have hval : ∀ (j : Nat) t v, Try.f4.params[j]? = some t → args[j]? = some v → Value.okWide Try.prog W .any base t v := hval0
  have hW' := hW
  obtain ⟨p, q, hA0, hV, rfl, hfz, hnd⟩ := hW
  have hA : DataW.TrodAll enc Try.prog W 0 (fun _ => true) true Try.f4.params.toList args.toList ds p := hA0
  rw [Try.params4] at hA hval
  obtain ⟨v0, vs0, d0, ds0, p0, q0, hargs, rfl, rfl, h0, r0⟩ := trodAll_cons hA
  obtain ⟨v1, vs1, d1, ds1, p1, q1, rfl, rfl, rfl, h1, r1⟩ := trodAll_cons r0
  obtain ⟨v2, vs2, d2, ds2, p2, q2, rfl, rfl, rfl, h2, r2⟩ := trodAll_cons r1
  obtain ⟨rfl, rfl, rfl⟩ := trodAll_nil r2
  obtain rfl : args = #[v0, v1, v2] := by cases args; simp_all
  obtain ⟨rfl, rfl⟩ := trodVars_none hV
  have lt0 : ∀ x ∈ p0, x.block < W.heap.size := by obtain ⟨m, hm⟩ := h0; exact DataW.trod_lt m _ _ _ hm
  have k0 := h0
  obtain ⟨q0, H0⟩ := arg_fam (hval 0 27 v0 rfl rfl) h0
  have lt1 : ∀ x ∈ p1, x.block < W.heap.size := by obtain ⟨m, hm⟩ := h1; exact DataW.trod_lt m _ _ _ hm
  have k1 := h1
  obtain ⟨q1, H1⟩ := arg_propx (hval 1 30 v1 rfl rfl) h1
  have lt2 : ∀ x ∈ p2, x.block < W.heap.size := by obtain ⟨m, hm⟩ := h2; exact DataW.trod_lt m _ _ _ hm
  have k2 := h2
  obtain ⟨u20, xs20, u21, xs21, c22, u23, xs23, u24, xs24, c25, rfl, H20, H21, b22, H23, H24, b25⟩ := arg_cfg (hval 2 32 v2 rfl rfl) h2
  clear hA0 hval0
  refine (walk W H0 H1 H20 H21 b22 H23 H24 b25).mono fun e W' ⟨he, bel⟩ => ?_
  subst he
  exact ⟨_, rfl, _, _, _, [], _, [], hW', trodAll_mk1 (shut_bool Try.underlying4 _), (trodAll_cons_mk (Below.trod laidOut (by kernel_rfl) (of_decide_eq_true (by kernel_rfl)) k0 bel lt0) (trodAll_cons_mk (Below.trod laidOut (by kernel_rfl) (of_decide_eq_true (by kernel_rfl)) k1 bel lt1) (trodAll_cons_mk (Below.trod laidOut (by kernel_rfl) (of_decide_eq_true (by kernel_rfl)) k2 bel lt2) trodAll_mk0))), rfl, bel.frame _, fun h => by cases h⟩

/-- The statement. -/
theorem proved : Rows.UnfoldJudgesSaid :=
  OpenClaim.holds_of_wide 4 Try.f4 rfl rfl rfl rfl rfl rfl rfl ⟨rfl, rfl, rfl, rfl, rfl⟩ rfl rfl rfl rfl rfl (by kernel_rfl) Try.func4 (by kernel_rfl)
    (of_decide_eq_true (by kernel_rfl)) (by unfold Func.isWrapper; first | (rw [if_pos (by decide +kernel)]; kernel_rfl) | (rw [if_neg (by decide +kernel)]; exact ⟨rfl, rfl⟩))
    (fun os started H enc _ => lifted os started H enc)
#print axioms proved
end Go.Proofs.Ytoefmdjgnabgfaa.unfoldJudges
