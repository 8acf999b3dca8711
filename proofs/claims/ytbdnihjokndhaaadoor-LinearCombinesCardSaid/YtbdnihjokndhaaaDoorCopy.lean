/-
  COPIES AND COMPARISONS OF ROWS: CopyInts, CopyRow, SameInts, SameRow of the reference; spoil of the laws.
-/
import Derived.Test.YtbdnihjokndhaaaDoorRefSys
import Derived.Test.YtbdnihjokndhaaaDoorCopyInts
import Derived.Laws.AppendOwnNone
import Derived.Deep.RegionWith
import Derived.StillTailTactics
import Derived.Deep.RegionHeld3
namespace Go.Proofs.YtbdnihjokndhaaaDoor
open Go.RowKit Go.Deep

set_option maxHeartbeats 800000 in
theorem CopyRow_any {lo : Nat} {w : World} {v : Value} {xs : List Int} (c : Int) (h : IsInts lo w v xs) (hn : xs.length ≤ 1000) :
    Calls Tryd.prog 18 #[.agg #[v, .int .i64 c]] w fun e w' => ∃ v', e = .returned (.agg #[v', .int .i64 c]) ∧ OwnV w.heap.size w' v' xs ∧ Below w.heap.size w w' := by
  have H := hid0 h
  obtain ⟨a, cap, rfl⟩ := h.shape
  clear h
  go_enter Tryd.func18, Tryd.ntmps18
  go_wp2_with fail
  go_region_with (go_at_call 29; refine (CopyInts_any (H.out.below (by go_grown)) hn).mono ?_; rintro e w1 ⟨v', rfl, hO, hb1⟩; obtain ⟨p1, p2⟩ := blk hb1 (n := w.heap.size) (by go_size); obtain ⟨p3, p4⟩ := blk hb1 (n := w.heap.size + 1) (by go_size); obtain ⟨a', cap', rfl⟩ := hO.shape)
  all_goals
    go_wp2_with fail
    have d1 : w1.cell? ⟨w.heap.size + 1, 0, none⟩ = some (.slice none 0 0) := by rw [(blk hb1 (n := w.heap.size + 1) (by go_size)).1]; simp
    have d2 : w1.cell? ⟨w.heap.size + 1, 1, none⟩ = some (.int .i64 0) := by rw [(blk hb1 (n := w.heap.size + 1) (by go_size)).1]; simp
    have hB1 : Below w.heap.size w w1 := Below.trans (by go_grown) (hb1.mono (by go_size))
    refine bodyPost_ret (v := .agg #[.slice a' xs.length cap', .int .i64 c]) (by simp [results, Tryd.results18, go_sem, d1, d2]) rfl ⟨_, rfl, ?_, (hB1.setCell (by simp) _).setCell (by simp) _⟩
    have hO' := hO.mono (lo' := w.heap.size) (by go_size)
    have hne : ∀ g, OwnInts w.heap.size w1 g xs → OwnInts ((w.alloc (.cells #[.slice a xs.length cap, .int .i64 c] 24)).alloc (.cells #[.slice none 0 0, .int .i64 0] 24)).heap.size w1 g xs → OwnInts w.heap.size ((w1.setCell ⟨w.heap.size + 1, 0, none⟩ (.slice a' xs.length cap')).setCell ⟨w.heap.size + 1, 1, none⟩ (.int .i64 c)) g xs := fun g h1 h2 => by
      have hg := h2.1
      simp only [World.size_alloc] at hg
      exact (h1.setOther _ _ (by simp; omega)).setOther _ _ (by simp; omega)
    rcases hO with hv | ⟨g, cp, hv, hl, hm, hg⟩
    · exact .inl hv
    · exact .inr ⟨g, cp, hv, hl, hm, hne g (hg.mono (by go_size)) hg⟩

def sameR (r s : Rw) : Bool := decide (r = s)
set_option maxHeartbeats 800000 in
theorem SameRow_any {lo lo' : Nat} {w : World} {v v' : Value} {xs ys : List Int} (c d : Int) (h : IsInts lo w v xs) (h' : IsInts lo' w v' ys) :
    Calls Tryd.prog 16 #[.agg #[v, .int .i64 c], .agg #[v', .int .i64 d]] w fun e w' => e = .returned (.bool (sameR (xs, c) (ys, d))) ∧ Below w.heap.size w w' := by
  have H := hid0 h
  have H' := hid0 h'
  obtain ⟨a, cap, rfl⟩ := h.shape
  obtain ⟨a', cap', rfl⟩ := h'.shape
  clear h h'
  by_cases hcd : c = d
  · subst hcd
    have E : Hid (sameR (xs, c) (ys, c) = eqI xs ys) := by show _ = _; simp [sameR, eqI]
    go_enter Tryd.func16, Tryd.ntmps16
    go_wp2_with (go_at_call 44; refine (SameInts_any (H.out.below (by go_grown)) (H'.out.below (by go_grown))).mono ?_; rintro e w1 ⟨rfl, hb1⟩)
    go_ret
    exact ⟨ret_bool E.out.symm, Below.trans (by go_grown) (hb1.mono (by go_size))⟩
  · have E : Hid (sameR (xs, c) (ys, d) = false) := by show _ = _; simp [sameR, hcd]
    have hcd' : (c == d) = false := by simpa using hcd
    clear hcd
    go_enter Tryd.func16, Tryd.ntmps16
    go_wp2_with fail
    go_ret
    exact ⟨ret_bool E.out.symm, by go_grown⟩

set_option maxHeartbeats 800000 in
theorem spoil_row (lo g n cap : Nat) (w : World) (xs : List Int) (hx : xs.length = n) (hn : n ≤ 9223372036854775807) (h : OwnInts lo w g xs) :
    Calls Tryd.prog 21 #[.slice (some ⟨g, 0, none⟩) n cap] w fun e w' => e = .returned (.tuple #[]) ∧ Below lo w w' := by
  have H0 := hid0 h
  clear h
  go_enter Tryd.func21, Tryd.ntmps21
  go_wp2_with fail
  go_loopw [2] (fun v wr => ∃ (k : Nat) (ys : List Int), k ≤ n ∧ v = .int .i64 k ∧ ys.length = n ∧ OwnInts lo wr g ys ∧ Below lo w wr) (fun v _ => n - (intOf v).toNat)
  case atStart => exact ⟨0, xs, Nat.zero_le _, rfl, hx, H0.out, Below.refl _ _⟩
  case round =>
    obtain ⟨k, ys, hk, rfl, hy, hO, hB⟩ := hrel
    have HO := hid0 hO
    have HB := hid0 hB
    by_cases h1 : k < n
    · have g1 : wr.cell? ⟨g, k, none⟩ = some (.int .i64 (ys.getD k 0)) := hO.cell k (by omega)
      have g2 : wr.frozen? ⟨g, k, none⟩ = false := hO.frozen k
      clear hO hB
      go_wp2_with fail
      go_roundw
      case rel => exact ⟨k + 1, ys.set k (-77), by omega, by go_num, by simpa using hy, HO.out.set k _ (by simp [I64]), HB.out.setCell HO.out.1 _⟩
      case measure => simp [intOf]; omega
    · clear hO hB
      go_wp2_with fail
      go_end0
      exact ⟨rfl, HB.out⟩
theorem spoil_nil (w : World) : Calls Tryd.prog 21 #[.slice none 0 0] w fun e w' => e = .returned (.tuple #[]) ∧ w = w' := by
  go_enter Tryd.func21, Tryd.ntmps21
  go_wp2_with fail
  refine wp_loop_rounds 1 ?_
  rw [rounds_succ]
  go_wp2_with fail
  go_end0
  exact ⟨rfl, rfl⟩
theorem spoil_any {lo : Nat} {w : World} {v : Value} {xs : List Int} (h : OwnV lo w v xs) :
    Calls Tryd.prog 21 #[v] w fun e w' => e = .returned (.tuple #[]) ∧ Below lo w w' := by
  rcases h with ⟨rfl, rfl⟩ | ⟨g, cap, rfl, hl, hm, h⟩
  · exact (spoil_nil w).mono fun e w' hh => ⟨hh.1, by rw [hh.2]; exact Below.refl _ _⟩
  · exact spoil_row lo g _ cap w xs rfl (by unfold maxLen at hm; omega) h
end Go.Proofs.YtbdnihjokndhaaaDoor
