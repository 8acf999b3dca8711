/-
  Shapes OF THE PROGRAM.
-/
import Derived.Test.YtbeadfagacndeaaNbr
import Derived.Test.YtbeadfagacndeaaShMath
import Derived.Test.YtbeadfagacndeaaOwnLL
import Derived.Test.YtbeadfagacndeaaClone
namespace Go.Proofs.Ytbeadfagacndeaa
open Go.RowKit Go.Deep
theorem info_int : (Try.prog.info? 3).map (fun i => (i.zero, i.size, i.bytes)) = some (some (.int .i64 0), 1, 8) := by kernel_rfl
theorem elInts : ElT Try.prog 29 22 (.slice none 0 0) 1 24 := ⟨Try.underlying29, by kernel_rfl, rfl, by decide⟩
theorem and_one : ∀ m, m < 256 → bits BinOp.and IntKind.i64 (m : Nat) 1 = ((m % 2 : Nat) : Int) := by decide +kernel
theorem own_ints {lo : Nat} {w : World} {g n : Nat} {f : Nat → Int} {xs : List Int} (h : OwnF lo w g n f) (hl : xs.length = n) (hn : n ≤ 1000) (hx : ∀ x ∈ xs, I64 x) (hf : ∀ j, j < n → f j = xs.getD j 0) : IsInts lo w (.slice (some ⟨g, 0, none⟩) n n) xs := by
  obtain ⟨h1, cur, t, hg, hc⟩ := h
  exact ints_of_block hg h1 hl (Nat.le_refl _) (by unfold maxLen; omega) hx (fun i hi => by rw [hc i hi, hf i hi])
theorem dig_small (n k : Nat) : ∀ x ∈ dig n k, I64 x := by
  intro x hx
  obtain ⟨j, _, rfl⟩ := List.mem_map.1 hx
  have := digF_small n k j
  constructor <;> omega
set_option maxHeartbeats 1600000 in
theorem Shapes_ok (n : Nat) (h0 : 1 ≤ n) (h1 : n ≤ 8) (w : World) :
    Calls Try.prog 9 #[.int .i64 n] w fun e w' => ∃ u, e = .returned (.tuple #[u, .int .i64 0]) ∧ IsSl 1 IntsEl w.heap.size w' u (shL n) ∧ Below w.heap.size w w' := by
  have hmk := make_n (P := Try.prog) 22 3 _ 1 8 Try.underlying22 info_int n (by omega) (by omega)
  obtain ⟨M, hM⟩ : ∃ M : Nat, M = 2 ^ n := ⟨_, rfl⟩
  have hM2 : M ≤ 256 := by rw [hM]; exact Nat.pow_le_pow_right (by omega) h1
  have hw : wrap64 ((2 : Int) ^ n) = (M : Int) := by
    have e : ((2 : Int) ^ n) = (M : Int) := by rw [hM]; simp
    rw [e]; unfold wrap64; omega
  have HM := Lib.hid hM
  clear hM
  go_enter Try.func9, Try.ntmps9
  go_wp2_with fail
  rw [hw]
  clear hw hmk
  obtain ⟨W, hW⟩ : ∃ W : World, W = w.alloc (.cells (madeCells #[Value.int IntKind.i64 0] n) 3) := ⟨_, rfl⟩
  rw [← hW]
  have HO0 := Lib.hid (show OwnF w.heap.size W w.heap.size n (fun _ => 0) by
    rw [hW]; exact ⟨Nat.le_refl _, _, _, heap_alloc_new _ _, fun j hj => made_get _ _ _ _ hj (by simp [Nat.mod_one])⟩)
  have HB0 := Lib.hid (show Below w.heap.size w W by rw [hW]; exact allocBelow _ _)
  clear hW
  go_loopw [4, 18] (fun v u wr => ∃ (k : Nat) (a : Option Addr) (c : Nat) (ps : List (Value × List Int)) (f : Nat → Int), k ≤ M ∧ u = .int .i64 k ∧ v = .slice a ps.length c ∧ ps.map (·.2) = shK n k ∧ OwnLL (w.heap.size + 1) wr (.slice a ps.length c) ps ∧ OwnF w.heap.size wr w.heap.size n f ∧ Below w.heap.size w wr) (fun _ u _ => M - (intOf u).toNat)
  case atStart => exact ⟨0, none, 0, [], fun _ => 0, Nat.zero_le _, rfl, rfl, rfl, OwnLL.nil _ _, HO0.out, HB0.out⟩
  case round =>
    obtain ⟨k, a, c, ps, f, hk, rfl, rfl, hps, hL, hF, hB⟩ := hrel
    have HPS := Lib.hid hps
    have HL := Lib.hid hL
    have HF := Lib.hid hF
    have HB := Lib.hid hB
    have hpl : ps.length ≤ k := by have := congrArg List.length hps; simp at this; have := shK_len n k; omega
    clear hps hL hF hB
    by_cases hlt : k < M
    · go_wp2_with fail
      go_loopw [23] (fun u w2 => ∃ (i : Nat) (f : Nat → Int), i ≤ n ∧ u = .int .i64 i ∧ (∀ j, j < i → f j = digF n k j) ∧ OwnLL (w.heap.size + 1) w2 (.slice a ps.length c) ps ∧ OwnF w.heap.size w2 w.heap.size n f ∧ Below w.heap.size w w2) (fun u _ => n - (intOf u).toNat)
      case atStart => exact ⟨0, f, Nat.zero_le _, rfl, fun _ h => by omega, HL.out, HF.out, HB.out⟩
      case round =>
        obtain ⟨i, f', hi, rfl, hd, hL2, hF2, hB2⟩ := hrel
        have HD := Lib.hid hd
        have HL2 := Lib.hid hL2
        have HF2 := Lib.hid hF2
        have HB2 := Lib.hid hB2
        have hgw := hF2.lt
        clear hd hL2 hB2
        by_cases hlt2 : i < n
        · have c1 := hF2.cell i hlt2
          have c2 := hF2.frozen i
          have HE := Lib.hid (show wrap64 (bits BinOp.and IntKind.i64 ((k : Int) / 2 ^ (n - 1 - i)) 1 * 2) = digF n k i by
            have e1 : ((k : Int) / 2 ^ (n - 1 - i)) = ((k / 2 ^ (n - 1 - i) : Nat) : Int) := by simp
            have e2 : k / 2 ^ (n - 1 - i) < 256 := by have := Nat.div_le_self k (2 ^ (n - 1 - i)); omega
            rw [e1, and_one _ e2]
            unfold digF wrap64; omega)
          clear hF2
          go_wp2_with fail
          go_roundw
          case rel =>
            refine ⟨i + 1, up f' i (digF n k i), by omega, by go_num, fun j hj => ?_, HL2.out.setOut _ (by simp) _, ?_, HB2.out.setCell (by simp) _⟩
            · by_cases e : j = i
              · subst e; exact up_same _ _ _
              · rw [up_ne _ _ e]; exact HD.out j (by omega)
            · rw [← HE.out]; exact HF2.out.set i _
          case measure => simp [intOf]; omega
        · obtain rfl : i = n := by omega
          have HI := Lib.hid (own_ints HF2.out (dig_length i k) (by omega) (dig_small i k) (fun j hj => by rw [HD.out j hj, dig_get _ _ _ hj]))
          clear hF2 hlt2
          have HS0 := Lib.hid (shK_succ i k)
          cases hs : isShp (dig i k) i with
          | false =>
            have HS : Hid (shK i (k + 1) = shK i k) := by
              show _ = _
              have h : shp (dig i k) = false := by unfold isShp at hs; simpa [dig_length] using hs
              rw [HS0.out, h]; rfl
            go_wp2_with (go_at_call 18; refine (isShape_any (i : Int) HI.out (by rw [dig_length]; omega)).mono ?_; rintro e w1 ⟨rfl, rfl⟩)
            go_roundw
            case rel => exact ⟨k + 1, a, c, ps, f', by omega, by go_num, rfl, by rw [HS.out]; exact HPS.out, HL2.out, HF2.out, HB2.out⟩
            case measure => simp [intOf]; omega
          | true =>
            have HS : Hid (shK i (k + 1) = shK i k ++ [dig i k]) := by
              show _ = _
              have h : shp (dig i k) = true := by unfold isShp at hs; simpa [dig_length] using hs
              rw [HS0.out, h]; rfl
            go_wp2_with (first | (go_at_call 18; refine (isShape_any (i : Int) HI.out (by rw [dig_length]; omega)).mono ?_; rintro e w1 ⟨rfl, rfl⟩) | (go_at_call 20; refine (Clone_any HI.out (by rw [dig_length]; omega)).mono ?_; rintro e w3 ⟨v', rfl, hv, hb⟩; have HV := Lib.hid hv; have HB3 := Lib.hid hb; have hs3 := hb.size; obtain ⟨av, cv, rfl⟩ := hv.shape; clear hv hb) | (at_builtin; refine append_one elInts (by rfl) (.tmp 41) (.tmp 44) (by rfl) (w.heap.size + 1) _ ps.length _ [.slice av (dig i k).length cv] w3.heap.size (by rfl) (by rfl) (by rfl) (HL2.out.below HB3.out).1 (by rfl) (by intro u hu; simp at hu; subst hu; rfl) (by omega) (by unfold maxLen; omega) (by omega) (by rfl) ?_; intro g cap w4 hown hgrow hat hlo hlt hsz))
            go_roundw
            case rel =>
              refine ⟨k + 1, some ⟨g, 0, none⟩, cap, ps ++ [(.slice av (dig i k).length cv, dig i k)], f', by omega, by go_num, by simp, ?_, ?_, ?_, ?_⟩
              · rw [HS.out, List.map_append, HPS.out]; rfl
              · rw [List.length_append]; exact OwnLL.snoc HL2.out HB3.out HV.out (by omega) hown hgrow hat
              · exact (HF2.out.below HB3.out).grown hgrow (fun e => by have := ((HL2.out.below HB3.out).1.lt _ e).1; omega)
              · exact (thenBelow HB2.out HB3.out).grown hgrow (by omega) (fun j hj => by have := ((HL2.out.below HB3.out).1.lt _ hj).1; omega)
            case measure => simp [intOf]; omega
    · obtain rfl : k = M := by omega
      go_wp2_with fail
      go_ret2
      refine ⟨_, rfl, ?_, HB.out⟩
      have := HL.out.reads
      rw [HPS.out, HM.out] at this
      exact this.mono IntsEl.mono (by omega)
end Go.Proofs.Ytbeadfagacndeaa
