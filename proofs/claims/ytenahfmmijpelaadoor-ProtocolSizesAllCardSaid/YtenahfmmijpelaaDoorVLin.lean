/-
  slices.IndexFunc, slices.ContainsFunc OF EXPRESSIONS, with isLarge.
-/
import Derived.Test.YtenahfmmijpelaaDoorPNum
import Derived.Test.YtenahfmmijpelaaDoorFamBase
import Derived.Test.YtenahfmmijpelaaDoorVNames
namespace Go.Proofs.YtenahfmmijpelaaDoor
open Go.RowKit Go.Deep
def lrgL (l : Ln) : Bool := !smL l.c l.n l.t l.f
theorem any_succ {α : Type} {p : α → Bool} {xs : List α} {k : Nat} (h : k < xs.length) (hk : (xs.take k).any p = false) (e : p xs[k] = false) : (xs.take (k + 1)).any p = false := by
  rw [List.take_succ_eq_append_getElem h, List.any_append, hk]; simpa using e
theorem any_yes {α : Type} {p : α → Bool} {xs : List α} {k : Nat} (h : k < xs.length) (e : p xs[k] = true) : xs.any p = true := by
  rw [List.any_eq_true]; exact ⟨xs[k], List.getElem_mem h, e⟩
theorem any_end {α : Type} {p : α → Bool} {xs : List α} {k : Nat} (h : k = xs.length) (hk : (xs.take k).any p = false) : xs.any p = false := by
  rwa [List.take_of_length_le (by omega)] at hk
theorem lin_cells {lo : Nat} {w : World} {b off n cap : Nat} {xs : List Ln} (h : IsSl 4 LnEl lo w (.slice (some ⟨b, off, none⟩) n cap) xs) (k : Nat) (hk : k < xs.length) : w.cell? ⟨b, off + k * 4, none⟩ = some (.int .i64 xs[k].c) ∧ w.cell? ⟨b, off + k * 4 + 1, none⟩ = some (.int .i64 xs[k].n) ∧ w.cell? ⟨b, off + k * 4 + 2, none⟩ = some (.int .i64 xs[k].t) ∧ w.cell? ⟨b, off + k * 4 + 3, none⟩ = some (.int .i64 xs[k].f) := by
  obtain ⟨b', off', cs, ha, _, _, _, hc, hel⟩ := h.at k hk
  cases ha
  have h0 := hc 0 (by omega)
  have h1 := hc 1 (by omega)
  have h2 := hc 2 (by omega)
  have h3 := hc 3 (by omega)
  rw [hel.1] at h0 h1 h2 h3
  exact ⟨h0.trans rfl, h1.trans rfl, h2.trans rfl, h3.trans rfl⟩
set_option maxHeartbeats 1600000 in
theorem IndexLarge_any {lo : Nat} {w : World} {v : Value} {xs : List Ln} (h : IsSl 4 LnEl lo w v xs) :
    Calls Tryd.prog 64 #[v, .func (.func 34) #[] #[]] w fun e w' => ∃ i : Int, e = .returned (.int .i64 i) ∧ (decide (0 ≤ i)) = xs.any lrgL ∧ Below w.heap.size w w' := by
  have hn := h.bound
  have H := Lib.hid h
  rcases sl_cases h with ⟨rfl, a, c, rfl⟩ | ⟨b, off, c, rfl, hbw, _⟩
  · clear h
    go_enter Tryd.func64, Tryd.ntmps64
    go_wp2_with fail
    refine wp_loop_rounds 1 ?_
    rw [rounds_succ]
    go_wp2_with fail
    go_ret
    exact ⟨-1, rfl, rfl, Below.refl _ _⟩
  · generalize hN : xs.length = n at hn
    have HN := Lib.hid hN
    rw [hN] at H
    clear h hN
    go_enter Tryd.func64, Tryd.ntmps64
    go_wp2_with fail
    go_loopw [8] (fun u wr => ∃ k : Nat, k ≤ n ∧ u = .int .i64 k ∧ (xs.take k).any lrgL = false ∧ Below w.heap.size w wr) (fun u _ => n - (intOf u).toNat)
    case atStart => exact ⟨0, Nat.zero_le _, rfl, rfl, Below.refl _ _⟩
    case round =>
      obtain ⟨k, hk, rfl, hs, hB⟩ := hrel
      have HS := Lib.hid hs
      have HB := Lib.hid hB
      clear hs hB
      by_cases h1 : k < n
      · have hkx : k < xs.length := by rw [HN.out]; exact h1
        obtain ⟨g1, g2, g3, g4⟩ := lin_cells H.out k hkx
        have k1 := (HB.out.cell (p := ⟨b, off + k * 4, none⟩) hbw).trans g1
        have k2 := (HB.out.cell (p := ⟨b, off + k * 4 + 1, none⟩) hbw).trans g2
        have k3 := (HB.out.cell (p := ⟨b, off + k * 4 + 2, none⟩) hbw).trans g3
        have k4 := (HB.out.cell (p := ⟨b, off + k * 4 + 3, none⟩) hbw).trans g4
        have HYES := Lib.hid (fun h => any_yes (p := lrgL) hkx h)
        have HNO := Lib.hid (fun h => any_succ (p := lrgL) hkx HS.out h)
        generalize xs[k] = x at k1 k2 k3 k4 HYES HNO
        clear g1 g2 g3 g4
        cases he : smL x.c x.n x.t x.f with
        | false =>
          have HE := Lib.hid he
          clear he
          go_wp2_with (go_at_call 34; (with_reducible refine (isLarge_any _ _ _ _ _).mono ?_); rw [HE.out]; rintro e w1 ⟨rfl, hb1⟩; have HB1 := Lib.hid hb1; clear hb1)
          go_ret
          exact ⟨k, rfl, by rw [HYES.out (by unfold lrgL; rw [HE.out]; rfl)]; simp, thenBelow HB.out HB1.out⟩
        | true =>
          have HE := Lib.hid he
          clear he
          go_wp2_with (go_at_call 34; (with_reducible refine (isLarge_any _ _ _ _ _).mono ?_); rw [HE.out]; rintro e w1 ⟨rfl, hb1⟩; have HB1 := Lib.hid hb1; clear hb1)
          go_roundw
          case rel => exact ⟨k + 1, by omega, by go_num, HNO.out (by unfold lrgL; rw [HE.out]; rfl), thenBelow HB.out HB1.out⟩
          case measure => simp [intOf]; omega
      · have HE := Lib.hid (any_end (by rw [HN.out]; omega) HS.out)
        go_wp2_with fail
        go_ret
        exact ⟨-1, rfl, by rw [HE.out]; rfl, HB.out⟩
set_option maxHeartbeats 1600000 in
theorem ContainsLarge_any {lo : Nat} {w : World} {v : Value} {xs : List Ln} (h : IsSl 4 LnEl lo w v xs) :
    Calls Tryd.prog 33 #[v, .func (.func 34) #[] #[]] w fun e w' => e = .returned (.bool (xs.any fun l => !smL l.c l.n l.t l.f)) ∧ Below w.heap.size w w' := by
  have HI := Lib.hid (IndexLarge_any h)
  clear h
  go_enter Tryd.func33, Tryd.ntmps33
  go_wp2_with (go_at_call 64; refine Calls.mono (show Calls _ _ _ _ _ from HI.out) ?_; rintro e w1 ⟨i, rfl, hi, hb⟩; have HI2 := Lib.hid hi; have HB := Lib.hid hb; clear hi hb)
  go_ret
  exact ⟨ret_bool HI2.out, HB.out⟩
end Go.Proofs.YtenahfmmijpelaaDoor
