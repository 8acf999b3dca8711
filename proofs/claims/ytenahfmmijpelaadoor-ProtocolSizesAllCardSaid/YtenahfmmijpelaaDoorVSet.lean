/-
  setError AND someSetError OF THE PROGRAM; Set OF THE REFERENCE.
-/
import Derived.Test.YtenahfmmijpelaaDoorVMath
import Derived.Deep.QuietTactic
import Derived.BigQuiet
namespace Go.Proofs.YtenahfmmijpelaaDoor
open Go.RowKit Go.Deep
theorem setE_bad {n : Nat} {xs : List Int} {k : Nat} (h : k < xs.length) (hp : ixB n xs[k] = false) : setE n xs = 5 := by unfold setE; rw [if_pos (allK_no h hp)]
theorem setE_asc {n : Nat} {xs : List Int} {k : Nat} (ha : allK n xs xs.length = true) (h : k < xs.length) (h0 : 0 < k) (hp : ¬ xs.getD (k - 1) 0 < xs.getD k 0) : setE n xs = 1 := by
  unfold setE; rw [if_neg (by rw [ha]; simp), if_pos (ascK_no h h0 hp)]
theorem setE_ok {n : Nat} {xs : List Int} (ha : allK n xs xs.length = true) (hb : ascK xs xs.length = true) : setE n xs = 0 := by
  unfold setE; rw [if_neg (by rw [ha]; simp), if_neg (by rw [hb]; simp)]
theorem ascK_le {xs : List Int} {k n : Nat} (h : ascK xs k = true) (hn : n ≤ k) : ascK xs n = true := by
  unfold ascK at *
  rw [List.all_eq_true] at *
  exact fun j hj => h j (List.mem_range.2 (by have := List.mem_range.1 hj; omega))
set_option maxHeartbeats 1600000 in
theorem setError_full (b off m cap n : Nat) (w : World) (xs : List Int) (hx : xs.length = m) (hm : m ≤ 9223372036854775807) (hn : n ≤ 9223372036854775807)
    (hc : ∀ i, i < m → w.cell? ⟨b, off + i, none⟩ = some (.int .i64 (xs.getD i 0))) :
    Calls Tryd.prog 37 #[.slice (some ⟨b, off, none⟩) m cap, .int .i64 n] w fun e w' => e = .returned (.int .i64 (setE n xs)) ∧ ∃ q, w' = w.drewN q := by
  have HC := Lib.hid hc
  have HX := Lib.hid hx
  clear hc hx
  go_enter Tryd.func37, Tryd.ntmps37
  go_wp2_with fail
  go_loop [10] (fun u => ∃ k : Nat, k ≤ m ∧ u = .int .i64 k ∧ allK n xs k = true) (fun u => m - (intOf u).toNat)
  case atStart => exact ⟨0, Nat.zero_le _, rfl, rfl⟩
  case round =>
    obtain ⟨k, hk, rfl, hs⟩ := hrel
    have HS := Lib.hid hs
    clear hs
    by_cases hlt : k < m
    · have g1 := HC.out k hlt
      have hkx : k < xs.length := by rw [HX.out]; exact hlt
      have ex : xs.getD k 0 = xs[k] := by simp [List.getD, List.getElem?_eq_getElem hkx]
      have HE := Lib.hid ex
      generalize hX : xs.getD k 0 = x at g1 HE
      clear ex hX
      cases hp : ixB n x with
      | true =>
        have HP := Lib.hid hp
        clear hp
        go_wp2_with (go_at_call 66; refine (isIndex_any x n hn _).mono ?_; rintro e w1 ⟨rfl, rfl⟩; rw [HP.out])
        go_round
        case rel => exact ⟨k + 1, by omega, by go_num, allK_succ hkx HS.out (by rw [← HE.out]; exact HP.out)⟩
        case measure => simp [intOf]; omega
      | false =>
        have HP := Lib.hid hp
        clear hp
        go_wp2_with (go_at_call 66; refine (isIndex_any x n hn _).mono ?_; rintro e w1 ⟨rfl, rfl⟩; rw [HP.out])
        go_ret
        exact ⟨ret_int (by rw [setE_bad hkx (by rw [← HE.out]; exact HP.out)]), 0, rfl⟩
    · have HA : Hid (allK n xs xs.length = true) := by show _ = _; rw [HX.out]; have : k = m := by omega
                                                       rw [← this]; exact HS.out
      go_wp2_with fail
      go_loopw [7] (fun u wr => ∃ (k q : Nat), 1 ≤ k ∧ u = .int .i64 k ∧ (k ≤ m ∨ k = 1) ∧ ascK xs k = true ∧ wr = w.drewN q) (fun u _ => m - (intOf u).toNat)
      case atStart => exact ⟨1, 0, Nat.le_refl _, rfl, .inr rfl, ascK_one xs, rfl⟩
      case round =>
        obtain ⟨k, q, hk1, rfl, hk2, hs, rfl⟩ := hrel
        have HS := Lib.hid hs
        have HK := Lib.hid hk2
        clear hs hk2
        by_cases hlt : k < m
        · have g1 := HC.out k hlt
          have g2 := HC.out (k - 1) (by omega)
          have e1 : off + (k - 1) = off + k - 1 := by omega
          have ei : ((k : Int) - 1).toNat = k - 1 := by omega
          have p1 : (0 : Int) ≤ (k : Int) - 1 := by omega
          have p2 : (k : Int) - 1 < (m : Int) := by omega
          have p3 : (k : Int) < (m : Int) := by omega
          have wn : IntKind.i64.wrap ((k : Int) - 1) = (k : Int) - 1 := IntWalk.i64_in _ (by omega)
          generalize hX : xs.getD k 0 = x at g1
          generalize hY : xs.getD (k - 1) 0 = y at g2
          have HX' := Lib.hid hX
          have HY' := Lib.hid hY
          clear hX hY e1
          by_cases hp : y < x
          · have b1 : decide (x ≤ y) = false := by simpa using hp
            have HP := Lib.hid hp
            clear hp
            go_wp2_with fail
            go_quiet (fail)
            go_wp2_with fail
            go_roundw
            case rel => exact ⟨k + 1, q + nq, by omega, by go_num, .inl (by omega), ascK_succ HS.out (by rw [HX'.out, HY'.out]; exact HP.out), by first | rfl | rw [World.drewN_drewN]⟩
            case measure => simp [intOf]; omega
          · have b1 : decide (x ≤ y) = true := by simp; omega
            have HP := Lib.hid hp
            clear hp
            go_wp2_with fail
            go_quiet (fail)
            go_wp2_with fail
            go_ret
            exact ⟨ret_int (by rw [setE_asc HA.out (k := k) (by rw [HX.out]; exact hlt) hk1 (by rw [HX'.out, HY'.out]; have := HP.out; omega)]), q + nq, by first | rfl | rw [World.drewN_drewN]⟩
        · have HE := Lib.hid (setE_ok HA.out (ascK_le HS.out (by rw [HX.out]; have := HK.out; omega)))
          go_wp2_with fail
          go_ret
          exact ⟨ret_int (by rw [HE.out]), q, rfl⟩
set_option maxHeartbeats 800000 in
theorem setError_empty (a : Option Addr) (cap n : Nat) (w : World) :
    Calls Tryd.prog 37 #[.slice a 0 cap, .int .i64 n] w fun e w' => e = .returned (.int .i64 (setE n [])) ∧ ∃ q, w' = w.drewN q := by
  rw [setE_nil]
  go_enter Tryd.func37, Tryd.ntmps37
  go_wp2_with fail
  refine wp_loop_rounds 1 ?_
  rw [rounds_succ]
  go_wp2_with fail
  refine wp_loop_rounds 1 ?_
  rw [rounds_succ]
  go_wp2_with fail
  go_ret
  exact ⟨rfl, 0, rfl⟩
/-- It only reads. -/
theorem setError_q {lo : Nat} {w : World} {v : Value} {xs : List Int} (n : Nat) (hn : n ≤ 9223372036854775807) (h : IsInts lo w v xs) :
    Calls Tryd.prog 37 #[v, .int .i64 n] w fun e w' => e = .returned (.int .i64 (setE n xs)) ∧ ∃ q, w' = w.drewN q := by
  obtain ⟨a, cap, rfl, hl, hm, hi, hc⟩ := h
  unfold maxLen at hm
  rcases hc with rfl | ⟨b, off, rfl, _, _, hc⟩
  · exact setError_empty _ _ _ _
  · exact setError_full _ _ _ _ _ _ _ rfl (by omega) hn hc
theorem setError_any {lo : Nat} {w : World} {v : Value} {xs : List Int} (n : Nat) (hn : n ≤ 9223372036854775807) (h : IsInts lo w v xs) :
    Calls Tryd.prog 37 #[v, .int .i64 n] w fun e w' => e = .returned (.int .i64 (setE n xs)) ∧ Below w.heap.size w w' :=
  (setError_q n hn h).mono fun _ _ ⟨h1, q, h2⟩ => ⟨h1, by rw [h2]; exact quietBelow (Below.refl _ _) q⟩
def someE (n : Nat) (xs : List Int) : Int := if xs.length = 0 then 1 else setE n xs
set_option maxHeartbeats 800000 in
theorem someSetError_any {lo : Nat} {w : World} {v : Value} {xs : List Int} (n : Nat) (hn : n ≤ 9223372036854775807) (h : IsInts lo w v xs) :
    Calls Tryd.prog 36 #[v, .int .i64 n] w fun e w' => e = .returned (.int .i64 (someE n xs)) ∧ Below w.heap.size w w' := by
  have H := Lib.hid h
  have hbd : xs.length ≤ 9223372036854775807 := by obtain ⟨_, _, _, hh, hm, _⟩ := h; unfold maxLen at hm; omega
  obtain ⟨a, cap, rfl⟩ := h.shape
  clear h
  by_cases h0 : xs.length = 0
  · have E := Lib.hid (show someE n xs = 1 from if_pos h0)
    have b0 : ((xs.length : Int) == 0) = true := by rw [h0]; rfl
    clear h0
    go_enter Tryd.func36, Tryd.ntmps36
    go_wp2_with fail
    go_ret
    exact ⟨ret_int (by rw [E.out]), Below.refl _ _⟩
  · have E := Lib.hid (show someE n xs = setE n xs from if_neg h0)
    have b0 : ((xs.length : Int) == 0) = false := by rw [beq_eq_false_iff_ne]; omega
    clear h0
    go_enter Tryd.func36, Tryd.ntmps36
    go_wp2_with (go_at_call 37; refine (setError_any n hn H.out).mono ?_; rintro e w1 ⟨rfl, hb1⟩)
    go_ret
    exact ⟨ret_int (by rw [E.out]), hb1⟩
end Go.Proofs.YtenahfmmijpelaaDoor
