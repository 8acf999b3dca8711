/-
  hasRule OF THE PROGRAM.
-/
import Derived.Test.YtenahfmmijpelaaDoorCls
import Derived.LoopTactic
import Derived.Lib.Hide
import Derived.Outline
namespace Go.Proofs.YtenahfmmijpelaaDoor
open Go.RowKit Go.Deep
theorem hasR_succ {rs : List Ru} {s : ByteArray} {k : Nat} (h : k < rs.length) (hk : hasR (rs.take k) s = false) (e : (rs[k].nm.toList == s.toList) = false) : hasR (rs.take (k + 1)) s = false := by
  unfold hasR at *; rw [List.take_succ_eq_append_getElem h, List.any_append, hk]; simpa using e
theorem hasR_yes {rs : List Ru} {s : ByteArray} {k : Nat} (h : k < rs.length) (e : (rs[k].nm.toList == s.toList) = true) : hasR rs s = true := by
  unfold hasR; rw [List.any_eq_true]; exact ⟨rs[k], List.getElem_mem h, e⟩
theorem hasR_end {rs : List Ru} {s : ByteArray} {k : Nat} (h : k = rs.length) (hk : hasR (rs.take k) s = false) : hasR rs s = false := by
  rwa [List.take_of_length_le (by omega)] at hk
theorem rule_cells {lo : Nat} {w : World} {cs : List Value} {r : Ru} (h : RuEl lo w cs r) : cs.length = 18 ∧ cs[0]? = some (.string r.nm) ∧ r.nm.size ≤ maxLen ∧ cs[1]? = some (.int .i64 r.kind) ∧ I64 r.kind ∧ ∀ v ∈ cs, v.oneCell' = true := by
  obtain ⟨v6, v7, v8, v9, v12, v14, v15, v16, rfl, h0, h1, h2, h3, h4, h5, h6, h7, h8, h9, h10, h11, h12, h13, h14, h15, h16, h17⟩ := h
  obtain ⟨a6, c6, rfl⟩ := h6.shape
  obtain ⟨a7, c7, rfl⟩ := h7.shape
  obtain ⟨a8, c8, rfl⟩ := h8.shape
  obtain ⟨a9, c9, rfl⟩ := h9.shape
  obtain ⟨a12, c12, rfl⟩ := h12.shape
  obtain ⟨a14, c14, rfl⟩ := h14.shape
  obtain ⟨a15, c15, rfl⟩ := h15.shape
  obtain ⟨a16, c16, rfl⟩ := h16.shape
  exact ⟨rfl, rfl, h0, rfl, h1, by simp [Value.oneCell']⟩
set_option maxHeartbeats 1600000 in
theorem hasRule_full (b off n cap : Nat) (w : World) (rs : List Ru) (s : ByteArray) (hx : rs.length = n) (hn : n ≤ 9223372036854775807)
    (hc : ∀ i (hi : i < rs.length), ∃ cs : List Value, cs.length = 18 ∧ (∀ j, j < 18 → w.cell? ⟨b, off + i * 18 + j, none⟩ = cs[j]?) ∧ RuEl 0 w cs rs[i]) :
    Calls Tryd.prog 67 #[.slice (some ⟨b, off, none⟩) n cap, .string s] w fun e w' => e = .returned (.bool (hasR rs s)) ∧ Below w.heap.size w w' := by
  have HC := Lib.hid hc
  have HX := Lib.hid hx
  clear hc hx
  go_enter Tryd.func67, Tryd.ntmps67
  go_wp2_with fail
  go_loopw [9] (fun v wr => ∃ k : Nat, k ≤ n ∧ v = .int .i64 k ∧ hasR (rs.take k) s = false ∧ Below w.heap.size w wr) (fun v _ => n - (intOf v).toNat)
  case atStart => exact ⟨0, Nat.zero_le _, rfl, rfl, Below.refl _ _⟩
  case round =>
    obtain ⟨k, hk, rfl, hs, hB⟩ := hrel
    have HS := Lib.hid hs
    have HB := Lib.hid hB
    clear hs hB
    by_cases h1 : k < n
    · have hkx : k < rs.length := by rw [HX.out]; exact h1
      obtain ⟨cs, hl, r1, hel⟩ := HC.out k hkx
      have HL := Lib.hid hl
      obtain ⟨-, p0, -, -, -, pc⟩ := rule_cells hel
      have P0 := Lib.hid p0
      have PC := Lib.hid pc
      have R1 := Lib.hid (rangeBelow (rangeOf hl r1) HB.out)
      clear r1 hel hl p0 pc
      go_upto_region 3 with (fail)
      refine wp_region_lit ?_
      refine wpList_step fun K hK => ?_
      go_simp
      refine hK _ _ ?_
      clear hK K
      refine ld_mid Tryd.underlying37 info_rule (by rfl) (.tmp 11) (by rfl) b (off + k * 18) cs (by rfl) HL.out R1.out ?_
      refine wpList_step fun K hK => ?_
      go_simp
      refine hK _ _ ?_
      clear hK K
      refine st_whole (T := 37) info_rule (by rfl) (.tmp 6) (.tmp 12) (by rfl) wr.heap.size cs (by rfl) (by rfl) HL.out (heap_new _ _ rfl) (by rfl) PC.out (fun Z hZ hbl hsz _ => ?_)
      have ZB := Lib.hid (show Below w.heap.size w Z from hbl _ _ HB.out.size (HB.out.trans ((allocBelow wr _).mono HB.out.size)))
      have z0 := Lib.hid (cellB hZ 0 (by simpa using P0.out))
      clear hZ hbl hsz
      by_cases he : (rs[k].nm.toList == s.toList) = true
      · have HE := Lib.hid he
        have z := z0.out
        go_wp2_with fail
        go_ret
        exact ⟨ret_bool (hasR_yes hkx HE.out).symm, ZB.out⟩
      · have he' : (rs[k].nm.toList == s.toList) = false := by simpa using he
        have HE := Lib.hid he'
        clear he
        have z := z0.out
        go_wp2_with fail
        go_roundw
        case rel => exact ⟨k + 1, by omega, by go_num, hasR_succ hkx HS.out HE.out, ZB.out⟩
        case measure => simp [intOf]; omega
    · go_wp2_with fail
      go_ret
      exact ⟨ret_bool (hasR_end (by rw [HX.out]; omega) HS.out).symm, HB.out⟩
theorem hasRule_any {lo : Nat} {w : World} {v : Value} {rs : List Ru} (s : ByteArray) (h : IsSl 18 RuEl lo w v rs) :
    Calls Tryd.prog 67 #[v, .string s] w fun e w' => e = .returned (.bool (hasR rs s)) ∧ Below w.heap.size w w' := by
  obtain ⟨a, cap, rfl, hl, hm, _, hc⟩ := h.mono RuEl.mono (Nat.zero_le lo)
  unfold maxLen at hm
  rcases hc with rfl | ⟨b, off, rfl, _, _, hc⟩
  · go_enter Tryd.func67, Tryd.ntmps67
    go_wp2_with fail
    refine wp_loop_rounds 1 ?_
    rw [rounds_succ]
    go_wp2_with fail
    go_ret
    exact ⟨rfl, Below.refl _ _⟩
  · exact hasRule_full _ _ _ _ _ _ _ rfl (by omega) hc
end Go.Proofs.YtenahfmmijpelaaDoor
