/-
  THE WALK OF ProtocolEvaluates: what Evaluate returns for all expressions and sizes.
-/
import Derived.Test.YtbdnihjokndhaaaDoorPKnown
import Derived.Test.YtbdnihjokndhaaaDoorPEval
namespace Go.Proofs.YtbdnihjokndhaaaDoor
open Go.RowKit Go.Deep

set_option maxHeartbeats 800000 in
theorem walk_Evaluates {c n t f a b d : Int} (w : World) (_bc : I64 c) (_bn : I64 n) (_bt : I64 t) (_bf : I64 f) (_ba : I64 a) (_bb : I64 b) (_bd : I64 d) (ht : TabW w) :
    Calls Tryd.prog 9 #[.agg #[.int .i64 c, .int .i64 n, .int .i64 t, .int .i64 f], .agg #[.int .i64 a, .int .i64 b, .int .i64 d]] w fun e w' => e = .returned (.bool true) ∧ Below w.heap.size w w' := by
  have HT := Lib.hid ht
  clear ht _bc _bn _bt _bf _ba _bb _bd
  go_enter Tryd.func9, Tryd.ntmps9
  go_wp2_with (first | (go_at_call 34; refine (Evaluate_any _ _ _ _ _ _ _ _).mono ?_; rintro e w1 ⟨rfl, hb1⟩; have hB1 : Below w.heap.size w w1 := (Below.trans (by go_grown) (hb1.mono (by go_size))); obtain ⟨p1, p2⟩ := blk hb1 (n := w.heap.size) (by go_size); obtain ⟨p3, p4⟩ := blk hb1 (n := w.heap.size + 1) (by go_size); have hz1 : w.heap.size + 1 < w1.heap.size := (by have := hb1.size; simp at this; omega); clear hb1) | (go_at_call 35; refine (rEvaluate_any _ _ _ _ _ _ _ _).mono ?_; rintro e w2 ⟨rfl, hb2⟩; have hB2 : Below w.heap.size w w2 := thenBelow hB1 hb2; clear hb2) | (go_at_call 31; refine (vknown_any _ (HT.out.below hB2)).mono ?_; rintro e wk ⟨rfl, hbk⟩))
  go_ret
  exact ⟨rfl, thenBelow hB2 hbk⟩
end Go.Proofs.YtbdnihjokndhaaaDoor
