/-
  A REGION IN ONE ORDER whose operations only read and whose callees only read (they may draw): walked like one that draws, so the guards that are off are passed over.
-/
import Derived.BigQuiet
namespace Go.Proofs.YtenahfmmijpelaaDoor
open Go
section
variable {P : Program} {ops : Array Oper} {C : World → Prop}
theorem wpList_quiet {Q : Exit → Act → World → Prop} : ∀ (l : List Oper) (a : Act) (w : World), C w → wpQuiet P ops C (fun a' => ∀ w', C w' → Q .normal a' w') l a → wpList P ops Q l a w
  | [], _, w, hC, h => h w hC
  | o :: l, a, w, hC, h => by
    refine wpList_step fun K hK => ?_
    unfold wpQuiet at h
    split
    · rename_i hw
      rw [if_pos hw] at h
      exact Oper.wp_of_quiet hC (fun a' w' hC' hh => hK _ _ (wpList_quiet l a' w' hC' hh)) h
    · rename_i hw
      rw [if_neg hw] at h
      exact hK _ _ (wpList_quiet l _ w hC h)
/-- The region as it stands, at the class 'w after some draws'. -/
theorem wp_seq_quiet {id : Nat} {Q : Exit → Act → World → Prop} {a : Act} {w : World} {l : List Oper}
    (h : wpQuiet P l.toArray (fun w' => ∃ n, w' = w.drewN n) (fun a' => ∀ w', (∃ n, w' = w.drewN n) → Q .normal a' w') l a) : (Code.region id l.toArray false).wp P Q a w :=
  wp_region_lit (wpList_quiet l a w ⟨0, rfl⟩ h)
/-- The same, some draws later. -/
theorem wp_seq_quiet_at {id k : Nat} {Q : Exit → Act → World → Prop} {a : Act} {w : World} {l : List Oper}
    (h : wpQuiet P l.toArray (fun w' => ∃ n, w' = w.drewN n) (fun a' => ∀ w', (∃ n, w' = w.drewN n) → Q .normal a' w') l a) : (Code.region id l.toArray false).wp P Q a (w.drewN k) :=
  wp_region_lit (wpList_quiet l a (w.drewN k) ⟨k, rfl⟩ h)
end
end Go.Proofs.YtenahfmmijpelaaDoor
