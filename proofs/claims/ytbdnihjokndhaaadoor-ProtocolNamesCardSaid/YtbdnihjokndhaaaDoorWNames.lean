/-
  THE WALK OF ProtocolNames: which names are valid, for all texts.
-/
import Derived.Test.YtbdnihjokndhaaaDoorPKnown
import Derived.Test.YtbdnihjokndhaaaDoorRNames
namespace Go.Proofs.YtbdnihjokndhaaaDoor
open Go.RowKit Go.Deep

set_option maxHeartbeats 800000 in
theorem walk_Names {s : ByteArray} (w : World) (hs : s.size ≤ maxLen) (ht : TabW w) :
    Calls Tryd.prog 8 #[.string s] w fun e w' => e = .returned (.bool true) ∧ Below w.heap.size w w' := by
  have HS := Lib.hid hs
  have HT := Lib.hid ht
  clear ht
  unfold maxLen at hs
  by_cases h1 : 1000 < s.size
  · have h1' : (1000 : Int) < s.size := by omega
    go_enter Tryd.func8, Tryd.ntmps8
    go_wp2_with (first | (go_at_call 31; refine (vknown_any _ HT.out).mono ?_; rintro e wk ⟨rfl, hbk⟩))
    go_ret
    exact ⟨rfl, hbk⟩
  · have h1' : ¬ (1000 : Int) < s.size := by omega
    go_enter Tryd.func8, Tryd.ntmps8
    go_wp2_with (first | (go_at_call 32; refine (ValidName_any s _ HS.out).mono ?_; rintro e w1 ⟨rfl, hb1⟩) | (go_at_call 33; refine (rValidName_any s _ HS.out).mono ?_; rintro e w2 ⟨rfl, hb2⟩) | (go_at_call 31; refine (vknown_any _ (HT.out.below (thenBelow hb1 hb2))).mono ?_; rintro e wk ⟨rfl, hbk⟩))
    go_ret
    exact ⟨rfl, thenBelow (thenBelow hb1 hb2) hbk⟩
end Go.Proofs.YtbdnihjokndhaaaDoor
