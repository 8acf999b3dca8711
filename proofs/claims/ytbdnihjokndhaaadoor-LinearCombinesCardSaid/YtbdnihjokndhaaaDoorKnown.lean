/-
  WHAT EVERY LAW ASKS AT ITS END: the one value, the tightened row, the text and the solution that the document gives: the function known returns true.
-/
import Derived.Test.YtbdnihjokndhaaaDoorSys
import Derived.Test.YtbdnihjokndhaaaDoorFmt
namespace Go.Proofs.YtbdnihjokndhaaaDoor
open Go.RowKit Go.Deep

theorem lit_ints {w : World} {b : Nat} {cs : Array Value} {t : TypeId} {xs : List Int} (hg : w.heap[b]? = some (.cells cs t (0, 0))) (hc : cs = (xs.map (Value.int .i64)).toArray) (hi : ∀ x ∈ xs, -1000 ≤ x ∧ x ≤ 1000) (hn : xs.length ≤ 1000) :
    IsInts 0 w (.slice (some ⟨b, 0, none⟩) xs.length xs.length) xs :=
  ints_of_block hg (Nat.zero_le _) rfl (Nat.le_refl _) (by unfold maxLen; omega) (fun x hx => by have := hi x hx; constructor <;> omega) fun i h => by subst hc; simp [h]

theorem tightenK {w : World} {b : Nat} (hg : w.heap[b]? = some (.cells #[.int .i64 2, .int .i64 (-4)] 3 (0, 0))) :
    Calls Tryd.prog 40 #[.agg #[.slice (some ⟨b, 0, none⟩) 2 2, .int .i64 (-3)]] w fun e w' => ∃ g, e = .returned (.agg #[.slice (some ⟨g, 0, none⟩) 2 2, .int .i64 (-2)]) ∧ OwnInts w.heap.size w' g [1, -2] ∧ Below w.heap.size w w' :=
  Tighten_every (xs := [2, -4]) (-3) (lit_ints (xs := [2, -4]) hg rfl (by decide) (by decide)) (by decide)
theorem valueK {w : World} {lo b : Nat} {v : Value} (h : IsInts lo w v [1, -2]) (hg : w.heap[b]? = some (.cells #[.int .i64 2, .int .i64 0] 3 (0, 0))) :
    Calls Tryd.prog 17 #[.agg #[v, .int .i64 (-2)], .slice (some ⟨b, 0, none⟩) 2 2] w fun e w' => e = .returned (.tuple #[.int .i64 0, .int .i64 0]) ∧ Below w.heap.size w w' :=
  Value_any (xs := [1, -2]) (ys := [2, 0]) (-2) h (lit_ints (xs := [2, 0]) hg rfl (by decide) (by decide))
theorem formatK {w : World} {b : Nat} (hg : w.heap[b]? = some (.cells #[.int .i64 2, .int .i64 (-1), .int .i64 0] 3 (0, 0))) :
    Calls Tryd.prog 41 #[.agg #[.slice (some ⟨b, 0, none⟩) 3 3, .int .i64 (-3)]] w fun e w' => e = .returned (.tuple #[.string ⟨#[50, 42, 120, 48, 32, 45, 32, 120, 49, 32, 45, 32, 51, 32, 62, 61, 32, 48]⟩, .int .i64 0]) ∧ Below w.heap.size w w' :=
  format_known b 0 3 w (Array.getElem?_eq_some_iff.1 hg).1 (lit_ints (xs := [2, -1, 0]) hg rfl (by decide) (by decide)) (by simp [World.cell?, hg]) (by simp [World.cell?, hg]) (by simp [World.cell?, hg])
theorem satK {w : World} {b p : Nat} {u : Value} (h : IsInts 0 w u [1, -2]) (hg : w.heap[b]? = some (.cells #[u, .int .i64 (-2)] 24 (0, 0))) (hp : w.heap[p]? = some (.cells #[.int .i64 2, .int .i64 0] 3 (0, 0))) :
    Calls Tryd.prog 30 #[.agg #[.int .i64 2, .slice (some ⟨b, 0, none⟩) 1 1], .slice (some ⟨p, 0, none⟩) 2 2] w fun e w' => e = .returned (.bool true) ∧ Below w.heap.size w w' :=
  Satisfies_any (lo := 0) (lo' := 0) (rs := [([1, -2], -2)]) (ys := [2, 0]) 2 ⟨_, _, rfl, by decide, by unfold maxLen; decide, .inr ⟨b, 0, rfl, Nat.zero_le _, (Array.getElem?_eq_some_iff.1 hg).1, fun i hi => by
    obtain rfl : i = 0 := by simpa using hi
    exact ⟨u, by simp [World.cell?, hg], by simp [World.cell?, hg], h, by simp [I64]⟩⟩⟩ (lit_ints (xs := [2, 0]) hp rfl (by decide) (by decide))

set_option maxHeartbeats 1600000 in
theorem known_any (w : World) : Calls Tryd.prog 13 #[] w fun e w' => e = .returned (.bool true) ∧ Below w.heap.size w w' := by
  go_enter Tryd.func13, Tryd.ntmps13
  go_wp2_with (first | (go_at_call 40; refine (tightenK (heap_new _ _ (by go_size))).mono ?_; rintro e w1 ⟨g, rfl, hO, hb1⟩; have HO := hid0 hO.ints; have hB1 : Below w.heap.size w w1 := (thenBelow (allocBelow _ _) hb1); clear hO hb1) | (go_at_call 17; refine (valueK ((HO.out.mono (Nat.zero_le _)).below (by go_grown)) (heap_new _ _ (by go_size))).mono ?_; rintro e w2 ⟨rfl, hb2⟩; have hB2 : Below w1.heap.size w1 w2 := (Below.trans (by go_grown) (hb2.mono (by go_size))); obtain ⟨p1, p2⟩ := blk hb2 (n := w1.heap.size) (by go_size); have hz2 : w1.heap.size < w2.heap.size := (by have := hb2.size; simp at this; omega); clear hb2) | (go_at_call 41; refine (formatK (heap_new _ _ (by go_size))).mono ?_; rintro e w3 ⟨rfl, hb3⟩; have hB3 : Below w1.heap.size w1 w3 := (thenBelow hB2 (thenBelow (allocBelow _ _) hb3)); obtain ⟨q1, q2⟩ := blk hb3 (n := w1.heap.size) (by go_size); have hz3 : w1.heap.size < w3.heap.size := (by have := hb3.size; simp at this; omega); clear hb3))
  have HB3 : Below w.heap.size w w3 := thenBelow hB1 hB3
  refine (satK ((HO.out.mono (Nat.zero_le _)).below (Below.trans hB3 (by go_grown))) ((heap_old _ _ (by go_size)).trans (heap_new _ _ rfl)) (heap_new _ _ (by go_size))).mono ?_
  rintro e w4 ⟨rfl, hb4⟩
  have HB4 : Below w.heap.size w w4 := thenBelow HB3 (Below.trans (by go_grown) (hb4.mono (by go_size)))
  go_wp2_with fail
  go_ret
  exact ⟨rfl, HB4⟩
end Go.Proofs.YtbdnihjokndhaaaDoor
