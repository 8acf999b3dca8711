import Derived.Test.YtmpbfdfjcfanoaaDoorGrpgdlckedd
import Derived.Test.YtmpbfdfjcfanoaaDoorGrphaacdine
set_option linter.all false
/-
  Classify: PLAIN MATHEMATICS, and the program's contract in the new form.
-/
namespace Go.Proofs.YtmpbfdfjcfanoaaDoor
open Go.RowKit Go.Deep
variable {J : World → Prop}
/-- The program's own answer, valid or not. -/
theorem cls_out {w' : World} {F ok : Nat → Prop} {a b c d e : Bool} {x : Int} : Pu F w' ok (.tup [.agg [bv a, bv b, bv c, bv d, bv e], iv x]) (.tuple #[.agg #[.bool a, .bool b, .bool c, .bool d, .bool e], .int .i64 x]) := by
  refine .tup rfl fun j hj => ?_
  match j, hj with
  | 1, _ => exact .v _
  | 0, _ =>
    refine .agg rfl fun j hj => ?_
    match j, hj with
    | 0, _ => exact .v _
    | 1, _ => exact .v _
    | 2, _ => exact .v _
    | 3, _ => exact .v _
    | 4, _ => exact .v _
def clA (q : Fm) : List AV := [bv (decide (valE q = 0) && clTh q), bv (decide (valE q = 0) && clCo q), bv (decide (valE q = 0) && clWo q), bv (decide (valE q = 0) && clTr q), bv (decide (valE q = 0) && clMo q)]
theorem qClassify_c {q : Fm} (hq : FmOk q) : Ctr Tryd.prog J 19 [.agg (cFm q)] (.tup [.agg (clA q), iv (valE q)]) := ctr1 fun w v _ h =>
  (Classify_any (fam_of hq lo0 h)).mono fun e w' ⟨he, hb⟩ => by
    refine ⟨_, he, ?_, hb⟩
    unfold clA
    by_cases h0 : valE q = 0
    · rw [if_pos h0, decide_eq_true h0]; simp only [Bool.true_and]; exact cls_out
    · rw [if_neg h0, decide_eq_false h0]; simp only [Bool.false_and]; exact cls_out
/-- What the reference gathers. -/
def plI (q : Fm) : Bool := ((decide (q.top = 1) && decide (q.fault = 0)) && decide (((q.msgs.length : Nat) : Int) = 0)) && decide (((q.res.length : Nat) : Int) = 0)
theorem plI_eq (q : Fm) : plI q = plainQ q := by
  rw [Bool.eq_iff_iff]; unfold plI plainQ; simp only [Bool.and_eq_true, decide_eq_true_eq]; omega
def thI0 (q : Fm) : Bool := decide (q.top = 1) && decide (((q.vals.length : Nat) : Int) = 0)
def moI (q : Fm) : Bool := plI q && decide (((q.states.length : Nat) : Int) ≤ 4)
def woI (q : Fm) : Bool := decide (q.top = 2) || decide (q.top = 3)
def trI (q : Fm) : Bool := decide (q.top = 4)
def noI (r : Ru) : Bool := ((!decide (r.kind = 1) || decide (r.to ≤ r.frm)) || decide ((0 : Int) < ((r.ex.length : Nat) : Int))) || decide ((0 : Int) < ((r.fa.length : Nat) : Int))
theorem noI_eq (r : Ru) : noI r = noThrB r := by
  rw [Bool.eq_iff_iff]; unfold noI noThrB; simp only [Bool.or_eq_true, Bool.not_eq_true', decide_eq_true_eq, decide_eq_false_iff_not]; omega
def cT (q : Fm) (k : Nat) : Bool := thI0 q && !(q.rules.take k).any noThrB
def cC (q : Fm) (k : Nat) : Bool := plI q && !(q.rules.take k).any demB
theorem cT_zero (q : Fm) : cT q 0 = thI0 q := by unfold cT; simp
theorem cC_zero (q : Fm) : cC q 0 = plI q := by unfold cC; simp
theorem any_snoc {α : Type} {p : α → Bool} {xs : List α} {k : Nat} (h : k < xs.length) : (xs.take (k + 1)).any p = ((xs.take k).any p || p xs[k]) := by
  rw [List.take_succ_eq_append_getElem h, List.any_append]; simp
theorem cT_t {q : Fm} {k : Nat} (h : k < q.rules.length) (e : noI q.rules[k] = true) : cT q (k + 1) = false := by
  unfold cT; rw [any_snoc h, ← noI_eq, e]; simp
theorem cT_f {q : Fm} {k : Nat} (h : k < q.rules.length) (e : noI q.rules[k] = false) : cT q (k + 1) = cT q k := by
  unfold cT; rw [any_snoc h, ← noI_eq, e]; simp
theorem dem_iff {r : Ru} : demB r = decide ((0 : Int) < ((r.fa.length : Nat) : Int)) := by unfold demB; rw [Bool.eq_iff_iff]; simp only [decide_eq_true_eq]; omega
theorem cC_t {q : Fm} {k : Nat} (h : k < q.rules.length) (e : (0 : Int) < ((q.rules[k].fa.length : Nat) : Int)) : cC q (k + 1) = false := by
  unfold cC; rw [any_snoc h, dem_iff, decide_eq_true e]; simp
theorem cC_f {q : Fm} {k : Nat} (h : k < q.rules.length) (e : ¬ (0 : Int) < ((q.rules[k].fa.length : Nat) : Int)) : cC q (k + 1) = cC q k := by
  unfold cC; rw [any_snoc h, dem_iff, decide_eq_false e]; simp
theorem cls_end {q : Fm} (h : valE q = 0) {k : Nat} (hk : k = q.rules.length) : AV.tup [.agg [bv (cT q k), bv (cC q k), bv (woI q), bv (trI q), bv (moI q)], iv 0] = .tup [.agg (clA q), iv (valE q)] := by
  subst hk
  unfold clA
  rw [h]
  have e1 : cT q q.rules.length = clTh q := by
    unfold cT clTh thI0; rw [List.take_length, Bool.eq_iff_iff]; simp only [Bool.and_eq_true, decide_eq_true_eq, Bool.not_eq_true']
    constructor
    · rintro ⟨⟨a, b⟩, c⟩; exact ⟨a, by omega, c⟩
    · rintro ⟨a, b, c⟩; exact ⟨⟨a, by omega⟩, c⟩
  have e2 : cC q q.rules.length = clCo q := by unfold cC clCo; rw [List.take_length, plI_eq]
  have e3 : moI q = clMo q := by
    unfold moI clMo; rw [plI_eq, Bool.eq_iff_iff]; simp only [Bool.and_eq_true, decide_eq_true_eq]
    constructor
    · rintro ⟨a, b⟩; exact ⟨a, by omega⟩
    · rintro ⟨a, b⟩; exact ⟨a, by omega⟩
  rw [e1, e2, e3]
  rfl
theorem cls_err {q : Fm} (h : ¬ valE q = 0) : AV.tup [.agg [bv false, bv false, bv false, bv false, bv false], iv (valE q)] = .tup [.agg (clA q), iv (valE q)] := by
  unfold clA; rw [decide_eq_false h]; rfl
end Go.Proofs.YtmpbfdfjcfanoaaDoor
