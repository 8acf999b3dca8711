/-
  THE WALK OF UnfoldShapesAll: each shape is listed once, and each listed list is one.
-/
import Derived.Test.YtbeadfagacndeaaZKnown
namespace Go.Proofs.Ytbeadfagacndeaa
open Go.RowKit Go.Deep
theorem rIsShape_is {lo : Nat} {w : World} {v : Value} {xs : List Int} (h : IsInts lo w v xs) (hn : xs.length ≤ 1000000) (b : Bool) (hb : shp xs = b) :
    Calls Try.prog 10 #[v] w fun e w' => e = .returned (.bool b) ∧ w = w' := by rw [← hb]; exact rIsShape_any h hn
theorem SameInts_is {lo lo' : Nat} {w : World} {v v' : Value} {xs ys : List Int} (h : IsInts lo w v xs) (h' : IsInts lo' w v' ys) (b : Bool) (hb : eqI xs ys = b) :
    Calls Try.prog 11 #[v, v'] w fun e w' => e = .returned (.bool b) ∧ Below w.heap.size w w' := by rw [← hb]; exact SameInts_any h h'
set_option maxHeartbeats 1600000 in
theorem walk_ShapesAll {v : Value} {xs : List Int} (w : World) (h : IsInts 0 w v xs) :
    Calls Try.prog 4 #[v] w fun e w' => e = .returned (.bool true) ∧ Below w.heap.size w w' := by
  have H := Lib.hid h
  obtain ⟨av, cv, rfl⟩ := h.shape
  have hbd : xs.length ≤ 9223372036854775807 := by obtain ⟨_, _, _, hh, hm, _⟩ := h; unfold maxLen at hm; omega
  clear h
  by_cases hl : 100 < xs.length
  · have hl' : (100 : Int) < (xs.length : Int) := by omega
    go_enter Try.func4, Try.ntmps4
    go_wp2_with (go_at_call 7; refine (zknown_any _).mono ?_; rintro e w1 ⟨rfl, hb1⟩)
    go_ret
    exact ⟨rfl, hb1⟩
  · have hl' : ¬ (100 : Int) < (xs.length : Int) := by omega
    by_cases h8 : xs.length = 0 ∨ 8 < xs.length
    · have h8' : ((xs.length : Int) == 0) = true ∨ ((xs.length : Int) == 0) = false ∧ (8 : Int) < (xs.length : Int) := by
        rcases h8 with h8 | h8
        · exact .inl (by simpa using h8)
        · exact .inr ⟨by rw [beq_eq_false_iff_ne]; omega, by omega⟩
      have HBad := Lib.hid (show (xs.length : Int) < 1 ∨ 8 < (xs.length : Int) by omega)
      clear h8
      rcases h8' with h8' | ⟨h8', h9⟩
      all_goals
        go_enter Try.func4, Try.ntmps4
        go_wp2_with (first | (go_at_call 9; refine (Shapes_bad _ HBad.out _).mono ?_; rintro e w1 ⟨rfl, rfl⟩) | (go_at_call 7; refine (zknown_any _).mono ?_; rintro e w2 ⟨rfl, hb2⟩))
        go_ret
        exact ⟨rfl, hb2⟩
    · have h1 : 1 ≤ xs.length := by omega
      have h2 : xs.length ≤ 8 := by omega
      have HC := Lib.hid (shL_count xs h2)
      obtain ⟨L, hL⟩ : ∃ L, L = shL xs.length := ⟨_, rfl⟩
      have HM := Lib.hid (show ∀ ys ∈ L, ys.length = xs.length ∧ shp ys = true by rw [hL]; exact fun ys hy => shK_mem hy)
      have HS := Lib.hid (show ∀ w : World, Calls Try.prog 9 #[.int .i64 xs.length] w fun e w' => ∃ u, e = .returned (.tuple #[u, .int .i64 0]) ∧ IsSl 1 IntsEl w.heap.size w' u L ∧ Below w.heap.size w w' by rw [hL]; exact Shapes_ok _ h1 h2)
      have HC2 := Lib.hid (show L.count xs = if shp xs = true then 1 else 0 by rw [hL]; exact HC.out)
      have hLb : L.length ≤ 256 := by
        rw [hL]; refine Nat.le_trans (shK_len _ _) ?_; exact Nat.pow_le_pow_right (by omega) h2
      clear h8 HC hL
      go_enter Try.func4, Try.ntmps4
      go_wp2_with (go_at_call 9; refine (HS.out _).mono ?_; rintro e w1 ⟨u, rfl, hu, hb1⟩; obtain ⟨au, cu, rfl⟩ := hu.shape; have HU := Lib.hid hu; have HB1 := Lib.hid hb1; clear hu hb1)
      go_loopw [5, 6] (fun c u wr => ∃ k : Nat, k ≤ L.length ∧ u = .int .i64 k ∧ c = .int .i64 (cntK L xs k) ∧ Below w1.heap.size w1 wr) (fun _ u _ => L.length - (intOf u).toNat)
      case atStart => exact ⟨0, Nat.zero_le _, rfl, rfl, Below.refl _ _⟩
      case round =>
        obtain ⟨k, hk, rfl, rfl, hB⟩ := hrel
        have HB := Lib.hid hB
        have HBw := Lib.hid (thenBelow HB1.out hB)
        have hcl := cntK_le L xs k
        by_cases hlt : k < L.length
        · obtain ⟨b, off, cs, rfl, _, hbw, _, hcell, v0, rfl, hv0⟩ := HU.out.at k hlt
          obtain ⟨a0, c0, rfl⟩ := hv0.shape
          have g0 := keep1 (hcell 0 (by omega)) hB
          simp only [Nat.mul_one, Nat.add_zero] at g0
          have HV := Lib.hid (hv0.below hB)
          have hm := HM.out _ (List.getElem_mem hlt)
          have HSP := Lib.hid hm.2
          have hlen : ((L[k]'hlt).length : Int) = (xs.length : Int) := by rw [hm.1]
          have hle : (((L[k]'hlt).length : Int) != (xs.length : Int)) = false := by rw [hm.1]; simp
          have HLK := Lib.hid (show (L[k]'hlt).length ≤ 1000000 by omega)
          have HCS := Lib.hid (cntK_succ (xs := xs) hlt)
          clear hB hcell hv0 hm hlen
          generalize L[k]'hlt = ys at g0 HV HSP hle HLK HCS
          cases he : eqI ys xs with
          | true =>
            have HE := Lib.hid he
            have HN := Lib.hid (show cntK L xs (k + 1) = cntK L xs k + 1 by rw [HCS.out, if_pos (by have := HE.out; unfold eqI at this; simpa using this)])
            clear he
            go_wp2_with (first | (go_at_call 10; refine (rIsShape_is HV.out HLK.out true HSP.out).mono ?_; rintro e w2 ⟨rfl, rfl⟩) | (go_at_call 11; refine (SameInts_is HV.out (H.out.below HBw.out) true HE.out).mono ?_; rintro e w3 ⟨rfl, hb3⟩))
            go_roundw
            case rel => exact ⟨k + 1, by omega, by go_num, by rw [HN.out]; go_num, thenBelow HB.out hb3⟩
            case measure => simp [intOf]; omega
          | false =>
            have HE := Lib.hid he
            have HN := Lib.hid (show cntK L xs (k + 1) = cntK L xs k by rw [HCS.out, if_neg (by have := HE.out; unfold eqI at this; simpa using this), Nat.add_zero])
            clear he
            go_wp2_with (first | (go_at_call 10; refine (rIsShape_is HV.out HLK.out true HSP.out).mono ?_; rintro e w2 ⟨rfl, rfl⟩) | (go_at_call 11; refine (SameInts_is HV.out (H.out.below HBw.out) false HE.out).mono ?_; rintro e w3 ⟨rfl, hb3⟩))
            go_roundw
            case rel => exact ⟨k + 1, by omega, by go_num, by rw [HN.out], thenBelow HB.out hb3⟩
            case measure => simp [intOf]; omega
        · have hkl : k = L.length := by omega
          have hcn : cntK L xs k = if shp xs = true then 1 else 0 := by rw [cntK_all hkl, HC2.out]
          have HX := Lib.hid (show xs.length ≤ 1000000 by omega)
          clear hB
          cases hs : shp xs with
          | true =>
            rw [hs, if_pos rfl] at hcn
            have HS1 := Lib.hid hs
            rw [hcn]
            clear hcn hs hcl
            go_wp2_with (first | (go_at_call 10; refine (rIsShape_is (H.out.below HBw.out) HX.out true HS1.out).mono ?_; rintro e w2 ⟨rfl, rfl⟩) | (go_at_call 7; refine (zknown_any _).mono ?_; rintro e w3 ⟨rfl, hb3⟩))
            go_ret
            exact ⟨rfl, thenBelow HBw.out hb3⟩
          | false =>
            rw [hs, if_neg (by simp)] at hcn
            have HS1 := Lib.hid hs
            rw [hcn]
            clear hcn hs hcl
            go_wp2_with (first | (go_at_call 10; refine (rIsShape_is (H.out.below HBw.out) HX.out false HS1.out).mono ?_; rintro e w2 ⟨rfl, rfl⟩) | (go_at_call 7; refine (zknown_any _).mono ?_; rintro e w3 ⟨rfl, hb3⟩))
            go_ret
            exact ⟨rfl, thenBelow HBw.out hb3⟩
end Go.Proofs.Ytbeadfagacndeaa
