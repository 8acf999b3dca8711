/-
  slices.Concat OF LISTS OF NAMES, slices.Grow OF NOTHING.
-/
import Derived.Test.YtenahfmmijpelaaDoorCopyInts
import Derived.Test.YtenahfmmijpelaaDoorFamBase
import Derived.Lib.AppendZeros
import Derived.Laws.AppendOwnNone
import Derived.Lib.Hide
import Derived.Lib.Walk
import Derived.LoopTactic
import Derived.Outline
namespace Go.Proofs.YtenahfmmijpelaaDoor
open Go.RowKit Go.Deep
theorem row_still {w w' : World} {B e size n : Nat} {v : Value} {xs : List Value} (h : w.ownsRow B e size v n xs) (hb : Below w.heap.size w w') : w'.ownsRow B e size v n xs := by
  obtain ⟨h1, h2⟩ := h
  refine ⟨h1, ?_⟩
  rcases h2 with h2 | ⟨g, cap, cur, hv, hg, hh, r⟩
  · exact .inl h2
  · exact .inr ⟨g, cap, cur, hv, hg, by rw [hb.block g (Array.getElem?_eq_some_iff.1 hh).1]; exact hh, r⟩
theorem info_str4 : ∃ i : TypeInfo, Tryd.prog.info? 9 = some i ∧ i.zero = some (.string ⟨#[]⟩) ∧ i.size = 1 ∧ i.bytes = 16 := by
  have h : (Tryd.prog.info? 9).map (fun i => (i.zero, i.size, i.bytes)) = some (some (.string ⟨#[]⟩), 1, 16) := by kernel_rfl
  obtain ⟨i, hi, hz⟩ := Option.map_eq_some_iff.1 h
  simp only [Prod.mk.injEq] at hz
  exact ⟨i, hi, hz.1, hz.2.1, hz.2.2⟩
theorem grow_own (w : World) (n : Nat) (hn : n ≤ 1000) :
    (w.drew.alloc (.cells (Builtin.zeroCells (Value.string ⟨#[]⟩).cells n ++ Builtin.zeroCells (Value.string ⟨#[]⟩).cells (grownCap w n 0 9 - n)) 9)).ownsRow w.heap.size 9 1 (.slice (some ⟨w.heap.size, 0, none⟩) 0 (grownCap w n 0 9)) 0 [] := by
  have h1 := grownCap_ge w n 0 9
  have h2 := grownCap_le_maxLen w n 0 9 (by unfold maxLen; omega)
  refine ⟨rfl, .inr ⟨w.heap.size, _, _, rfl, Nat.le_refl _, heap_alloc_new w.drew _, Nat.zero_le _, h2, ?_, by simp⟩⟩
  rw [Array.size_append, size_zeroCells, size_zeroCells]
  show n * 1 + (_ - n) * 1 = _ * 1
  omega
set_option maxRecDepth 100000 in
set_option maxHeartbeats 1600000 in
theorem Grow_nil (n : Nat) (hn : n ≤ 1000) (w : World) :
    Calls Tryd.prog 83 #[.slice none 0 0, .int .i64 n] w fun e w' => ∃ a c, e = .returned (.slice a 0 c) ∧ w'.ownsRow w.heap.size 9 1 (.slice a 0 c) 0 [] ∧ Below w.heap.size w w' := by
  by_cases h0 : n = 0
  · subst h0
    go_enter Tryd.func83, Tryd.ntmps83
    go_wp2_with fail
    go_ret
    exact ⟨_, _, rfl, World.ownsRow_nil _ _ _ _, Below.refl _ _⟩
  · have g1 : (0 : Int) < (n : Int) := by omega
    obtain ⟨i0, hi0, hz0, hz1, hz2⟩ := info_str4
    have R := Lib.hid (Lib.run_append_nil_zeros (P := Tryd.prog) w 22 3 22 9 i0 (.string ⟨#[]⟩) .i64 .i64 Tryd.underlying22 Tryd.underlying3 hi0 hz0 n (by omega) (by omega) (by omega) (by rw [hz2]; omega))
    clear hi0 hz0 hz1 hz2
    go_enter Tryd.func83, Tryd.ntmps83
    go_wp2_with (at_builtin; refine Lib.wpList_append_run _ rfl (.tmp 20) (.tmp 21) 22 3 rfl _ _ rfl rfl _ _ R.out ?_)
    go_ret
    exact ⟨_, _, rfl, grow_own w n hn, (drewBelow w).trans ((allocBelow w.drew _).mono (by simp))⟩
/-- A list of names in a list of lists. -/
def SlEl (lo : Nat) (w : World) (cs : List Value) (xs : List ByteArray) : Prop := ∃ u, cs = [u] ∧ IsSl 1 StrEl lo w u xs
theorem sl_src {lo : Nat} {w : World} {ad : Addr} {n c : Nat} {xs : List ByteArray} (h : IsSl 1 StrEl lo w (.slice (some ad) n c) xs) (w' : World) (hb : Below w.heap.size w w') (j : Nat) (u : Value) (hj : (xs.map Value.string)[j]? = some u) : w'.cell? (ad.add j) = some u := by
  have hjl : j < xs.length := by have := (List.getElem?_eq_some_iff.1 hj).1; simpa using this
  obtain ⟨b, off, cs, ha, _, hbk, hl, hc, hel⟩ := h.at j hjl
  cases ha
  have h0 := hc 0 (by omega)
  rw [hel.1] at h0
  have : (xs.map Value.string)[j]? = some (.string xs[j]) := by simp [hjl]
  rw [this] at hj
  cases hj
  simp only [Nat.add_zero, Nat.mul_one] at h0
  have e := (hb.cell (p := ⟨b, off + j, none⟩) hbk).trans h0
  by_cases j0 : j = 0
  · subst j0; simpa [Addr.add] using e
  · simpa [Addr.add, j0] using e
theorem row_sl {lo : Nat} {w : World} {v : Value} {n : Nat} {xs : List ByteArray} (h : w.ownsRow lo 9 1 v n (xs.map Value.string)) (hs : ∀ s ∈ xs, s.size ≤ maxLen) : IsSl 1 StrEl lo w v xs := by
  obtain ⟨hl, h2⟩ := h
  have hn : n = xs.length := by simpa using hl.symm
  subst hn
  rcases h2 with ⟨rfl, h0⟩ | ⟨g, cap, cur, rfl, hb, hg, hn, hm, hc, ht⟩
  · exact ⟨none, 0, by rw [h0], by omega, by simp [maxLen], fun _ => rfl, .inl (List.eq_nil_of_length_eq_zero h0)⟩
  · refine ⟨_, _, rfl, hn, hm, by simp, .inr ⟨g, 0, rfl, hb, (Array.getElem?_eq_some_iff.1 hg).1, fun i hi => ⟨[.string xs[i]], rfl, fun j hj => ?_, rfl, hs _ (List.getElem_mem hi)⟩⟩⟩
    obtain rfl : j = 0 := by omega
    have hcell : w.cell? ⟨g, 0 + i * 1 + 0, none⟩ = cur[i]? := by
      simp only [World.cell?, hg]; simp
    rw [hcell, ← Array.getElem?_toList, show cur.toList[i]? = (cur.toList.take (xs.length * 1))[i]? by rw [List.getElem?_take_of_lt (by omega)], ht]
    simp [hi]
def lens (xss : List (List ByteArray)) (k : Nat) : Nat := (xss.take k).flatten.length
theorem take_flat {xss : List (List ByteArray)} {k : Nat} (h : k < xss.length) : (xss.take (k + 1)).flatten = (xss.take k).flatten ++ xss[k] := by
  rw [List.take_succ_eq_append_getElem h, List.flatten_append]; simp
theorem lens_succ {xss : List (List ByteArray)} {k : Nat} (h : k < xss.length) : lens xss (k + 1) = lens xss k + xss[k].length := by
  unfold lens; rw [take_flat h, List.length_append]
theorem lens_le (xss : List (List ByteArray)) (k : Nat) : lens xss k ≤ xss.flatten.length := by
  unfold lens
  conv => rhs; rw [← List.take_append_drop k xss, List.flatten_append, List.length_append]
  omega
theorem lens_all {xss : List (List ByteArray)} {k : Nat} (h : k = xss.length) : lens xss k = xss.flatten.length := by
  unfold lens; rw [List.take_of_length_le (by omega)]
theorem rows_shape3 {w : World} {base : Nat} {e : TypeId} {size : Nat} {v : Value} {n : Nat} {xs : List Value} (h : w.ownsRow base e size v n xs) : ∃ a c, v = .slice a n c := by
  rcases h.2 with ⟨rfl, rfl⟩ | ⟨g, cap, _, rfl, _⟩
  · exact ⟨_, _, rfl⟩
  · exact ⟨_, _, rfl⟩
theorem row_above {w : World} {base : Nat} {e : TypeId} {size : Nat} {v : Value} {n : Nat} {xs : List Value} (h : w.ownsRow base e size v n xs) (k : Nat) (hk : v.ownBlock = some k) : base ≤ k := by
  rcases h.2 with ⟨rfl, _⟩ | ⟨g, cap, _, rfl, hb, _⟩
  · cases hk
  · have : g = k := by simpa [Value.ownBlock] using hk
    omega
set_option maxRecDepth 100000 in
set_option maxHeartbeats 3200000 in
theorem Concat_full {lo : Nat} (b off k cap : Nat) (w : World) (xss : List (List ByteArray)) (hx : xss.length = k) (hk : k ≤ 1000) (ht : xss.flatten.length ≤ 1000) (hb : b < w.heap.size) (hz : ∀ s ∈ xss.flatten, s.size ≤ maxLen)
    (hc : ∀ i (hi : i < xss.length), ∃ u, w.cell? ⟨b, off + i, none⟩ = some u ∧ IsSl 1 StrEl lo w u xss[i]) :
    Calls Tryd.prog 62 #[.slice (some ⟨b, off, none⟩) k cap] w fun e w' => ∃ v', e = .returned v' ∧ IsSl 1 StrEl w.heap.size w' v' xss.flatten ∧ Below w.heap.size w w' := by
  have HC := Lib.hid hc
  have HX := Lib.hid hx
  have HT := Lib.hid ht
  have HZ := Lib.hid hz
  obtain ⟨i0, hi0, hz0, hz1, hz2⟩ := info_str4
  clear hc hx ht hz
  go_enter Tryd.func62, Tryd.ntmps62
  go_wp2_with fail
  go_loop [3, 11] (fun v u => ∃ j : Nat, j ≤ k ∧ u = .int .i64 j ∧ v = .int .i64 (lens xss j)) (fun _ u => k - (intOf u).toNat)
  case atStart => exact ⟨0, Nat.zero_le _, rfl, rfl⟩
  case round =>
    obtain ⟨j, hj, rfl, rfl⟩ := hrel
    by_cases h1 : j < k
    · have hjx : j < xss.length := by rw [HX.out]; exact h1
      obtain ⟨u, c1, hu⟩ := HC.out j hjx
      obtain ⟨au, cu, rfl⟩ := hu.shape
      have LS := Lib.hid (lens_succ hjx)
      have hle : lens xss j + xss[j].length ≤ 1000 := by have := lens_le xss (j + 1); rw [LS.out] at this; have := HT.out; omega
      clear hu
      go_wp2_with fail
      go_round
      case rel => exact ⟨j + 1, by omega, by go_num, by rw [LS.out]; go_num⟩
      case measure => simp [intOf]; omega
    · obtain rfl : j = k := by omega
      have LA := Lib.hid (lens_all HX.out.symm)
      go_wp2_with (go_at_call 83; (with_reducible refine (Grow_nil (lens xss j) (by rw [LA.out]; exact HT.out) _).mono ?_); rintro e w1 ⟨a1, c1, rfl, hO, hb1⟩; have HO := Lib.hid hO; have HB1 := Lib.hid hb1; clear hO)
      go_loopw [6, 27] (fun v u wr => ∃ (i : Nat) (a : Option Addr) (c : Nat), i ≤ j ∧ u = .int .i64 i ∧ v = .slice a (lens xss i) c ∧ wr.ownsRow w.heap.size 9 1 (.slice a (lens xss i) c) (lens xss i) ((xss.take i).flatten.map Value.string) ∧ Below w.heap.size w wr) (fun _ u _ => j - (intOf u).toNat)
      case atStart => exact ⟨0, a1, c1, Nat.zero_le _, rfl, rfl, HO.out, HB1.out⟩
      case round =>
        obtain ⟨i, a, c, hi, rfl, rfl, hown, hB⟩ := hrel
        have HOW := Lib.hid hown
        have HB := Lib.hid hB
        clear hown hB
        by_cases h2 : i < j
        · have hix : i < xss.length := by rw [HX.out]; exact h2
          obtain ⟨u, g1, hu⟩ := HC.out i hix
          have g2 := (HB.out.cell (p := ⟨b, off + i, none⟩) hb).trans g1
          have LS := Lib.hid (lens_succ hix)
          have hle : lens xss i + xss[i].length ≤ 1000 := by have := lens_le xss (i + 1); rw [LS.out] at this; have := HT.out; omega
          have TF := Lib.hid (take_flat hix)
          obtain ⟨au, cu, rfl⟩ := hu.shape
          have HU := Lib.hid hu
          have hcu : au = none → xss[i].length = 0 ∧ cu = 0 := by
            obtain ⟨_, _, e, q1, _, q2, _⟩ := hu
            simp only [Value.slice.injEq] at e
            obtain ⟨rfl, _, rfl⟩ := e
            exact fun h => by have := q2 h; omega
          have HCU := Lib.hid hcu
          clear hu hcu g1
          cases au with
          | none =>
            obtain ⟨l0, rfl⟩ := HCU.out rfl
            have L0 := Lib.hid l0
            rw [l0] at g2
            clear l0
            go_wp2_with (at_builtin; refine wpList_append_own_none rfl (.tmp 31) (.tmp 32) 22 rfl w.heap.size 9 i0 1 Tryd.underlying22 hi0 _ _ _ rfl HOW.out rfl ?_)
            go_roundw
            case rel =>
              have e1 : lens xss (i + 1) = lens xss i := by rw [LS.out, L0.out]; rfl
              have e2 : (xss.take (i + 1)).flatten = (xss.take i).flatten := by rw [TF.out, List.eq_nil_of_length_eq_zero L0.out, List.append_nil]
              exact ⟨i + 1, a, c, by omega, by go_num, by rw [e1], by rw [e1, e2]; exact HOW.out, HB.out⟩
            case measure => simp [intOf]; omega
          | some ad =>
            have hmx : lens xss i + xss[i].length ≤ maxLen := by unfold maxLen; omega
            go_wp2_with (at_builtin; refine wpList_append_own _ rfl (.tmp 31) (.tmp 32) 22 rfl w.heap.size 9 i0 (.string ⟨#[]⟩) 1 16 Tryd.underlying22 hi0 hz0 hz1 hz2 rfl (by decide) _ _ _ rfl HOW.out ad xss[i].length cu (xss[i].map Value.string) rfl (by simp) (sl_src HU.out wr HB.out) (by simp [Value.oneCell']) hmx (by omega) HB.out.size ?_; intro v' w3 hown1 hgrow1 _; obtain ⟨a3, c3, rfl⟩ := rows_shape3 hown1; have HO3 := Lib.hid hown1; have HB3 := Lib.hid (HB.out.grown hgrow1 HB.out.size (row_above HOW.out)); clear hown1 hgrow1)
            go_roundw
            case rel => exact ⟨i + 1, a3, c3, by omega, by go_num, by rw [LS.out], by rw [LS.out, TF.out, List.map_append]; exact HO3.out, HB3.out⟩
            case measure => simp [intOf]; omega
        · obtain rfl : i = j := by omega
          go_wp2_with fail
          go_ret
          refine ⟨_, rfl, row_sl (n := lens xss i) (xs := xss.flatten) ?_ HZ.out, HB.out⟩
          have e2 : (xss.take i).flatten = xss.flatten := by rw [List.take_of_length_le (by rw [HX.out]; exact Nat.le_refl _)]
          rw [← e2]
          exact HOW.out
end Go.Proofs.YtenahfmmijpelaaDoor
