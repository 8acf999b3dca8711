import Derived.Lib.SliceRun
import Derived.Shelf.SlSortCmp.NoneTotal
import Derived.Shelf.Lay
import Derived.Shelf.SlGeneric
import Derived.Ground.SlsfProg
import Derived.Test.YtpadmggccpgajaaDoorGrpoholaele
import Derived.Test.YtpadmggccpgajaaDoorGrppealnncj
set_option linter.all false
namespace Go.Proofs.YtpadmggccpgajaaDoor
open Go.RowKit Go.Deep
structure CInv (els : List El) (j kk : Nat) (dk : List El) : Prop where
  len : dk.length = els.length
  low : dk.take kk = keptE els j
  high : dk.drop (j - 1) = els.drop (j - 1)
  lt : kk < j
  le : j ≤ els.length
theorem CInv.start {els : List El} {k : Nat} (hk : k < els.length) (hall : ∀ i, i < k → keepE els i = true) (hno : keepE els k = false) : CInv els (k + 1) k els :=
  ⟨rfl, by rw [keptE, keptE_all els k (by omega) hall, if_neg (by rw [hno]; decide), List.append_nil], rfl, by omega, by omega⟩
theorem CInv.skip {els dk : List El} {j kk : Nat} (h : CInv els j kk dk) (hj : j < els.length) (hno : keepE els j = false) : CInv els (j + 1) kk dk := by
  obtain ⟨h1, h2, h3, h4, h5⟩ := h
  refine ⟨h1, by rw [keptE, if_neg (by rw [hno]; decide), List.append_nil, h2], ?_, by omega, by omega⟩
  have e : j + 1 - 1 = j - 1 + 1 := by omega
  rw [e, ← List.drop_drop, ← List.drop_drop, h3]
theorem CInv.keep {els dk : List El} {j kk : Nat} (h : CInv els j kk dk) (hj : j < els.length) (hy : keepE els j = true) : CInv els (j + 1) (kk + 1) (dk.set kk (els.getD j zEl)) := by
  obtain ⟨h1, h2, h3, h4, h5⟩ := h
  refine ⟨by simpa using h1, ?_, ?_, by omega, by omega⟩
  · rw [keptE, if_pos hy, ← h2, List.take_succ_eq_append_getElem (by simp; omega), List.take_set_of_le (by omega)]
    simp
  · have e : j + 1 - 1 = j - 1 + 1 := by omega
    rw [e, List.drop_set_of_lt (by omega), ← List.drop_drop, ← List.drop_drop, h3]
theorem CInv.get {els dk : List El} {j kk i : Nat} (h : CInv els j kk dk) (hi : j - 1 ≤ i) (hl : i < els.length) : dk[i]'(by rw [h.len]; exact hl) = els[i] := by
  have e := congrArg (fun l => l[i - (j - 1)]?) h.high
  simp only [List.getElem?_drop, Nat.add_sub_cancel' hi] at e
  rw [List.getElem?_eq_getElem (by rw [h.len]; exact hl), List.getElem?_eq_getElem hl] at e
  exact Option.some.inj e
theorem keepE_pair {els : List El} {i : Nat} (hi : i + 1 < els.length) : keepE els (i + 1) = !eqI els[i + 1].2.1 els[i].2.1 := by
  unfold keepE
  simp [List.getD_eq_getElem?_getD, List.getElem?_eq_getElem hi, List.getElem?_eq_getElem (show i < els.length by omega)]
theorem CW.store2 {w W : World} {blk sz : Nat} {T : TypeId} {dk : List El} (h : CW w blk T sz dk W) {k : Nat} (hk : k < dk.length) {x : El} {v : Value} {c : Int} (hv : x.1 = v) (hc : x.2.2 = c) : CW w blk T sz (dk.set k x) ((W.setCell ⟨blk, k * 2, none⟩ v).setCell ⟨blk, k * 2 + 1, none⟩ (.int .i64 c)) := by
  subst hv hc
  exact h.store hk x
/-- The cells of n rows that say nothing. -/
def zs (n : Nat) : List Value := (Builtin.zeroCells #[.slice none 0 0, .int .i64 0] n).toList
theorem zs_len (n : Nat) : (zs n).length = n * 2 := by simp [zs, Builtin.zeroCells]
theorem zs_get {n i : Nat} (h : i < n) : (zs n)[i * 2]? = some (.slice none 0 0) ∧ (zs n)[i * 2 + 1]? = some (.int .i64 0) := by
  have a : i * 2 < n * 2 := by omega
  have b : i * 2 + 1 < n * 2 := by omega
  have e : (i * 2 + 1) % 2 = 1 := by omega
  have e' : i * 2 % 2 = 0 := by omega
  unfold zs Builtin.zeroCells
  constructor
  · rw [Array.getElem?_toList, Array.getElem?_map, Array.getElem?_range, if_pos (by simpa using a)]
    simp [e']
  · rw [Array.getElem?_toList, Array.getElem?_map, Array.getElem?_range, if_pos (by simpa using b)]
    simp [e]
theorem run_clear_rows (w : World) (ty : TypeId) (b o n c : Nat) (hn : 0 < n) (hc : ∀ j, j < n * 2 → (w.cell? ⟨b, o + j, none⟩).isSome = true) (hf : ∀ j, j < n * 2 → w.frozen? ⟨b, o + j, none⟩ = false) :
    (Builtin.clear_ #[50] ty #[.slice (some ⟨b, o, none⟩) n c]).run Tryd.prog w = .ok (.tuple #[]) (w.setCells b o (zs n)) := by
  have hst := run_storeCells_cells (P := Tryd.prog) b o (zs n) 0 w (by rw [zs_len]; simpa using hc) (by rw [zs_len]; simpa using hf) (by
    intro v hv
    simp only [zs, Builtin.zeroCells, Array.toList_map, List.mem_map] at hv
    obtain ⟨i, _, rfl⟩ := hv
    have : i % 2 = 0 ∨ i % 2 = 1 := by omega
    rcases this with h | h <;> simp [h, Value.oneCell'])
  simp only [Nat.add_zero] at hst
  obtain ⟨m, rfl⟩ : ∃ m, n = m + 1 := ⟨n - 1, by omega⟩
  have hz : ∀ w, (zeroValue 54).run Tryd.prog w = .ok (.agg #[.slice none 0 0, .int .i64 0]) w := Tryd.zeroValue54
  have hcl : (Value.agg #[.slice none 0 0, .int .i64 0]).cells = #[.slice none 0 0, .int .i64 0] := by simp [Value.cells]
  simp [Builtin.clear_, run_underlying Tryd.underlying50, hz, hcl, show (Builtin.zeroCells #[.slice none 0 0, .int .i64 0] (m + 1)).toList = zs (m + 1) from rfl, hst]
theorem CW.clear {w W : World} {blk sz : Nat} {T : TypeId} {dk : List El} (h : CW w blk T sz dk W) {k : Nat} (hk : k ≤ dk.length) : CW w blk T sz (dk.take k ++ List.replicate (dk.length - k) zEl) (W.setCells blk (k * 2) (zs (dk.length - k))) := by
  have hl := h.lt
  have hcell := fun i (hi : i < dk.length) => h.cell hi
  obtain ⟨⟨a, b, c, d, e⟩, cur, h1, h2, h3⟩ := h
  have hsz : k * 2 + (zs (dk.length - k)).length ≤ cur.size := by
    rw [zs_len]
    by_cases h0 : dk.length = 0
    · have : k = 0 := by omega
      omega
    · have := (Array.getElem?_eq_some_iff.1 (h3 (dk.length - 1) (by omega)).2).1
      omega
  obtain ⟨cur', g1, g2, g3⟩ := setCells_block (zs (dk.length - k)) (k * 2) W cur h1 hsz
  obtain ⟨q1, q2, q3⟩ := setCells_os blk (zs (dk.length - k)) (k * 2) W
  rw [zs_len] at g3
  refine ⟨⟨q1.trans a, q2.trans b, q3.trans c, by rw [setCells_size]; exact d, fun b' hb hne => (setCells_other hne _ _ _).trans (e b' hb hne)⟩, cur', g1, g2.trans h2, fun i hi => ?_⟩
  have hi' : i < dk.length := by simp at hi; omega
  rw [g3, g3]
  by_cases e : i < k
  · rw [if_neg (by omega), if_neg (by omega), List.getElem_append_left (by simp; omega), List.getElem_take]
    exact h3 i hi'
  · rw [if_pos (by omega), if_pos (by omega), List.getElem_append_right (by simp; omega), List.getElem_replicate]
    have := zs_get (n := dk.length - k) (i := i - k) (by omega)
    rw [show i * 2 - k * 2 = (i - k) * 2 by omega, show i * 2 + 1 - k * 2 = (i - k) * 2 + 1 by omega]
    exact this
theorem CInv.length {els dk : List El} {kk n : Nat} (h : CInv els n kk dk) (hl : els.length = n) : (keptE els n).length = kk := by
  rw [← h.low, List.length_take, h.len, hl]
  have := h.lt
  omega
set_option maxHeartbeats 4000000 in
theorem compact_short (b n cap : Nat) (w : World) (fv : Value) (h : n < 2) :
    Calls Tryd.prog 126 #[.slice (some ⟨b, 0, none⟩) n cap, fv] w fun e w' => e = .returned (.slice (some ⟨b, 0, none⟩) n cap) ∧ w = w' := by
  go_enter Tryd.func126, Tryd.ntmps126
  go_wp2_with fail
  go_ret
  exact ⟨rfl, rfl⟩
theorem compact_nil (cap : Nat) (w : World) (fv : Value) (a : Option Addr) :
    Calls Tryd.prog 126 #[.slice a 0 cap, fv] w fun e w' => e = .returned (.slice a 0 cap) ∧ w = w' := by
  go_enter Tryd.func126, Tryd.ntmps126
  go_wp2_with fail
  go_ret
  exact ⟨rfl, rfl⟩
set_option maxHeartbeats 4000000 in
theorem compact_full (b n cap sz : Nat) (T : TypeId) (w : World) (els : List El) (hx : els.length = n) (hn : n ≤ 4611686018427387904) (hnc : n ≤ cap) (h2 : ¬ n < 2) (hW : CW w b T sz els w) (HI : ∀ W, Oth w b W → ∀ x ∈ els, IsInts 0 W x.1 x.2.1) :
    Calls Tryd.prog 126 #[.slice (some ⟨b, 0, none⟩) n cap, .func (.func 127) #[] #[]] w fun e w' => e = .returned (.slice (some ⟨b, 0, none⟩) (keptE els n).length cap) ∧ CW w b T sz (keptE els n ++ List.replicate (n - (keptE els n).length) zEl) w' := by
  have HW := hid0 hW
  have HH := hid0 HI
  clear hW HI
  go_enter Tryd.func126, Tryd.ntmps126
  go_wp2_with fail
  go_loopw [5] (fun v wr => ∃ k : Nat, 1 ≤ k ∧ k ≤ n ∧ v = .int .i64 k ∧ (∀ i, i < k → keepE els i = true) ∧ CW w b T sz els wr) (fun v _ => n - (intOf v).toNat)
  case atStart => exact ⟨1, Nat.le_refl _, by omega, rfl, fun i hi => by obtain rfl : i = 0 := (by omega); rfl, HW.out⟩
  case round =>
    obtain ⟨k, hk1, hk, rfl, hall, hB⟩ := hrel
    have HA := hid0 hall
    have HB := hid0 hB
    clear hall hB
    by_cases h1 : k < n
    · obtain ⟨p, rfl⟩ : ∃ p, k = p + 1 := ⟨k - 1, by omega⟩
      have hp1 : p + 1 < els.length := by omega
      have i1 := HH.out wr HB.out.oth els[p + 1] (List.getElem_mem _)
      have i0 := HH.out wr HB.out.oth els[p] (List.getElem_mem _)
      obtain ⟨c1, c2⟩ := HB.out.cell hp1
      obtain ⟨c3, c4⟩ := HB.out.cell (i := p) (by omega)
      have hK := hid0 (keepE_pair hp1)
      have I1 := hid0 i1
      have I0 := hid0 i0
      obtain ⟨a1, k1, e1⟩ := i1.shape
      obtain ⟨a0, k0, e0⟩ := i0.shape
      rw [e1] at c1
      rw [e0] at c3
      rw [e1] at I1
      rw [e0] at I0
      have z1 : ((p : Int) + 1).toNat = p + 1 := by omega
      have z2 : IntKind.i64.wrap (p : Int) = (p : Int) := by rw [IntKind.wrap_i64]; omega
      have z3 : (p : Int) + 1 < (n : Int) := by omega
      have z4 : (p : Int) < (n : Int) := by omega
      have z5 : (0 : Int) ≤ (p : Int) + 1 := by omega
      clear e1 e0 i1 i0
      go_wp2_with fail
      have HZ := hid0 z3
      go_region_held3 (fun w' => w'.cell? ⟨b, (p + 1) * 2, none⟩ = some (.slice a1 (els[p + 1]'(by omega)).2.1.length k1) ∧ w'.cell? ⟨b, (p + 1) * 2 + 1, none⟩ = some (.int .i64 (els[p + 1]'(by omega)).2.2) ∧ w'.cell? ⟨b, p * 2, none⟩ = some (.slice a0 (els[p]'(by omega)).2.1.length k0) ∧ w'.cell? ⟨b, p * 2 + 1, none⟩ = some (.int .i64 (els[p]'(by omega)).2.2) ∧ Below wr.heap.size wr w') (first | exact ⟨c1, c2, c3, c4, Below.refl _ _⟩ | exact keepF ⟨c1, c2, c3, c4, Below.refl _ _⟩ (drewBelow _) | assumption | exact keepF (by assumption) (by assumption)) (first | (go_at_call 127; refine (sameCoef_any _ _ (I1.out.below (heldF (by assumption))) (I0.out.below (heldF (by assumption)))).mono ?_; rintro e w' ⟨rfl, hb1⟩))
      have hE := heldF (by assumption : _ ∧ _ ∧ _ ∧ _ ∧ Below wr.heap.size wr _)
      have HC := hid0 (HB.out.below hE)
      clear hE
      obtain ⟨q, hq⟩ : ∃ q, q = eqI (els[p + 1]'(by omega)).2.1 (els[p]'(by omega)).2.1 := ⟨_, rfl⟩
      rw [← hq]
      have hk2 : keepE els (p + 1) = !q := by rw [hK.out, hq]
      have HQ := hid0 hk2
      clear hq hk2
      cases q with
      | true =>
        go_wp2_with fail
        go_loopw [5, 7] (fun v u wr2 => ∃ (kk k2 : Nat) (dk : List El), v = .int .i64 kk ∧ u = .int .i64 k2 ∧ 1 ≤ k2 ∧ CInv els (p + 1 + k2) kk dk ∧ CW w b T sz dk wr2) (fun _ u _ => n - (intOf u).toNat)
        case atStart => exact ⟨p + 1, 1, els, rfl, rfl, Nat.le_refl _, CInv.start hp1 HA.out HQ.out, HC.out⟩
        case round =>
          obtain ⟨kk, k2, dk, rfl, rfl, h3, hI, hB2⟩ := hrel
          have HI2 := hid0 hI
          have HB2 := hid0 hB2
          have hdl : dk.length = n := hI.len.trans hx
          have hkk := hI.lt
          clear hI hB2
          by_cases h4 : p + 1 + k2 < n
          · obtain ⟨m, rfl⟩ : ∃ m, k2 = m + 1 := ⟨k2 - 1, by omega⟩
            have hp2 : p + 1 + m + 1 < els.length := by omega
            have i1 := HH.out wr HB2.out.oth (els[p + 1 + m + 1]'hp2) (List.getElem_mem _)
            have i0 := HH.out wr HB2.out.oth (els[p + 1 + m]'(by omega)) (List.getElem_mem _)
            obtain ⟨d1, d2⟩ := HB2.out.cell (i := p + 1 + m + 1) (by omega)
            obtain ⟨d3, d4⟩ := HB2.out.cell (i := p + 1 + m) (by omega)
            rw [HI2.out.get (i := p + 1 + m + 1) (by omega) hp2] at d1 d2
            rw [HI2.out.get (i := p + 1 + m) (by omega) (by omega)] at d3 d4
            have hK2 := hid0 (keepE_pair hp2)
            have J1 := hid0 i1
            have J0 := hid0 i0
            obtain ⟨a3, k3, e3⟩ := i1.shape
            obtain ⟨a4, k4, e4⟩ := i0.shape
            rw [e3] at d1 J1
            rw [e4] at d3 J0
            have y1 : ((m : Int) + 1).toNat = m + 1 := by omega
            have y2 : IntKind.i64.wrap (m : Int) = (m : Int) := by rw [IntKind.wrap_i64]; omega
            have y3 : (m : Int) + 1 < ((n - (p + 1) : Nat) : Int) := by omega
            have y4 : (m : Int) < ((n - (p + 1) : Nat) : Int) := by omega
            have y5 : (0 : Int) ≤ (m : Int) + 1 := by omega
            rw [show (p + 1 + m + 1) * 2 = (p + 1) * 2 + (m + 1) * 2 by omega] at d1 d2
            rw [show (p + 1 + m) * 2 = (p + 1) * 2 + m * 2 by omega] at d3 d4
            have HE3 := hid0 e3
            clear e3 e4 i1 i0 c1 c2 c3 c4
            go_wp2_with fail
            go_region_held3 (fun w' => w'.cell? ⟨b, (p + 1) * 2 + (m + 1) * 2, none⟩ = some (.slice a3 (els[p + 1 + m + 1]'(by omega)).2.1.length k3) ∧ w'.cell? ⟨b, (p + 1) * 2 + (m + 1) * 2 + 1, none⟩ = some (.int .i64 (els[p + 1 + m + 1]'(by omega)).2.2) ∧ w'.cell? ⟨b, (p + 1) * 2 + m * 2, none⟩ = some (.slice a4 (els[p + 1 + m]'(by omega)).2.1.length k4) ∧ w'.cell? ⟨b, (p + 1) * 2 + m * 2 + 1, none⟩ = some (.int .i64 (els[p + 1 + m]'(by omega)).2.2) ∧ Below wr.heap.size wr w') (first | exact ⟨d1, d2, d3, d4, Below.refl _ _⟩ | exact keepF ⟨d1, d2, d3, d4, Below.refl _ _⟩ (drewBelow _) | assumption | exact keepF (by assumption) (by assumption)) (first | (go_at_call 127; refine (sameCoef_any _ _ (J1.out.below (heldF (by assumption))) (J0.out.below (heldF (by assumption)))).mono ?_; rintro e w' ⟨rfl, hb1⟩))
            have hE := heldF (by assumption : _ ∧ _ ∧ _ ∧ _ ∧ Below wr.heap.size wr _)
            have HC2 := hid0 (HB2.out.below hE)
            clear hE
            obtain ⟨q, hq⟩ : ∃ q, q = eqI (els[p + 1 + m + 1]'(by omega)).2.1 (els[p + 1 + m]'(by omega)).2.1 := ⟨_, rfl⟩
            rw [← hq]
            have hk2 : keepE els (p + 1 + m + 1) = !q := by rw [hK2.out, hq]
            have HQ2 := hid0 hk2
            clear hq hk2
            cases q with
            | true =>
              go_wp2_with fail
              go_roundw
              case rel => exact ⟨kk, m + 1 + 1, dk, rfl, by go_num, by omega, HI2.out.skip (by omega) HQ2.out, HC2.out⟩
              case measure => simp [intOf]; omega
            | false =>
              have hkd : kk < dk.length := by omega
              obtain ⟨f1, f2⟩ := HC2.out.cell (i := p + 1 + m + 1) (by omega)
              rw [HI2.out.get (i := p + 1 + m + 1) (by omega) hp2] at f1 f2
              rw [HE3.out] at f1
              rw [show (p + 1 + m + 1) * 2 = (p + 1) * 2 + (m + 1) * 2 by omega] at f1 f2
              obtain ⟨g1, g2⟩ := HC2.out.cell (i := kk) hkd
              have r1 := HC2.out.free (kk * 2)
              have r2 := HC2.out.free (kk * 2 + 1)
              generalize dk[kk].1 = o1 at g1
              generalize dk[kk].2.2 = o2 at g2
              have hgd : (els.getD (p + 1 + m + 1) zEl) = els[p + 1 + m + 1]'hp2 := by rw [List.getD_eq_getElem?_getD, List.getElem?_eq_getElem hp2]; rfl
              have HG := hid0 hgd
              have y6 : (kk : Int) < (n : Int) := by omega
              clear hgd d1 d2 d3 d4
              go_wp2_with fail
              go_roundw
              case rel => exact ⟨kk + 1, m + 1 + 1, dk.set kk (els.getD (p + 1 + m + 1) zEl), by go_num, by go_num, by omega, HI2.out.keep (by omega) HQ2.out, HC2.out.store2 hkd (by rw [HG.out]; exact HE3.out) (by rw [HG.out])⟩
              case measure => simp [intOf]; omega
          · have hend : p + 1 + k2 = n := by have := HI2.out.le; omega
            have hII := hid0 (hend ▸ HI2.out)
            have hlt : kk < n := by have := HI2.out.lt; omega
            have hcl : ∀ ty, (Builtin.clear_ #[50] ty #[.slice (some ⟨b, kk * 2, none⟩) (n - kk) (cap - kk)]).run Tryd.prog wr = .ok (.tuple #[]) (wr.setCells b (kk * 2) (zs (n - kk))) := fun ty =>
              run_clear_rows wr ty b (kk * 2) (n - kk) (cap - kk) (by omega) (fun j hj => by
                rcases Nat.mod_two_eq_zero_or_one j with h0 | h0
                · have := (HB2.out.cell (i := kk + j / 2) (by omega)).1
                  rw [show (kk + j / 2) * 2 = kk * 2 + j by omega] at this
                  rw [this]; rfl
                · have := (HB2.out.cell (i := kk + j / 2) (by omega)).2
                  rw [show (kk + j / 2) * 2 + 1 = kk * 2 + j by omega] at this
                  rw [this]; rfl) (fun j _ => HB2.out.free _)
            have y6 : (kk : Int) < (n : Int) := by omega
            clear c1 c2 c3 c4
            go_wp2_with fail
            go_ret
            have e1 := hII.out.length hx
            have e2 := HB2.out.clear (k := kk) (by omega)
            rw [hdl, hII.out.low] at e2
            exact ⟨by rw [e1]; rfl, by rw [e1]; exact e2⟩
      | false =>
        go_wp2_with fail
        go_roundw
        case rel => exact ⟨p + 1 + 1, by omega, by omega, by go_num, fun i hi => by
          by_cases e : i = p + 1
          · subst e; exact HQ.out
          · exact HA.out i (by omega), HC.out⟩
        case measure => simp [intOf]; omega
    · go_wp2_with fail
      go_ret
      have hkn : k = n := by omega
      subst hkn
      have e : keptE els k = els := by rw [keptE_all els k (by omega) HA.out, ← hx, List.take_length]
      refine ⟨?_, ?_⟩
      · rw [e, hx]; rfl
      · rw [e, hx]; simpa using HB.out
end Go.Proofs.YtpadmggccpgajaaDoor

namespace Go.Proofs
open Go.Shelf
shelf_lay_g SlLaysF0.n6 Slsf 6 at Tryd 124 as Tryd.sortRo
end Go.Proofs
namespace Go.Proofs.YtpadmggccpgajaaDoor
open Go.RowKit Go.Deep Go.Shelf
open Go.Sort (SWO PermIn SortedIn HoldsK grow putRowK putRow mapBlock flatK get_flatK putCells)
variable {J : World → Prop}
/-- A row as it lies in w. -/
structure SRow (B : Nat) (w : World) (ok : Nat → Prop) where
  v : Value
  r : Rw
  pu : Pu (B ≤ ·) w ok (intsA r.1) v
  good : RwOk r
section
variable {B : Nat} {w : World} {ok : Nat → Prop}
instance sRowInh : Inhabited (SRow B w ok) := ⟨⟨.slice none 0 0, ([], 0), .sl0 (Nat.zero_le _) (fun _ => rfl), ⟨fun x hx => (List.not_mem_nil hx).elim, by unfold I64; omega⟩⟩⟩
def SRow.enc (x : SRow B w ok) : List Value := [x.v, .int .i64 x.r.2]
def SRow.cf (x y : SRow B w ok) : Int := cmpR x.r y.r
theorem sortWorld_other {α : Type} [Inhabited α] (enc : α → List Value) (blk off m b : Nat) (dk : Array α) (os : Array Obj) (hb : b < w.heap.size) (hne : b ≠ blk) : (sortWorldK enc 2 w blk off m dk os).heap[b]? = w.heap[b]? := by
  unfold sortWorldK grow putRowK putRow mapBlock
  show ((Go.Sort.ahead w m).heap.modify blk _ ++ os)[b]? = _
  have : (Go.Sort.ahead w m).heap = w.heap := rfl
  rw [this, Array.getElem?_append_left (by simpa using hb), Array.getElem?_modify, if_neg (Ne.symm hne)]
theorem sortWorld_here {α : Type} [Inhabited α] (enc : α → List Value) (blk m : Nat) (dk : Array α) (os : Array Obj) {cur : Array Value} {e : TypeId} {fz : Nat × Nat} (hg : w.heap[blk]? = some (.cells cur e fz)) : (sortWorldK enc 2 w blk 0 m dk os).heap[blk]? = some (.cells (putCells id 0 (flatK enc 2 dk) cur) e fz) := by
  have hb : blk < w.heap.size := (Array.getElem?_eq_some_iff.1 hg).1
  unfold sortWorldK grow putRowK putRow mapBlock
  show ((Go.Sort.ahead w m).heap.modify blk _ ++ os)[blk]? = _
  have : (Go.Sort.ahead w m).heap = w.heap := rfl
  rw [this, Array.getElem?_append_left (by simpa using hb), Array.getElem?_modify, if_pos rfl, hg]
  rfl
theorem sortWorld_size {α : Type} [Inhabited α] (enc : α → List Value) (blk off m : Nat) (dk : Array α) (os : Array Obj) : w.heap.size ≤ (sortWorldK enc 2 w blk off m dk os).heap.size := by
  unfold sortWorldK grow putRowK putRow mapBlock
  show _ ≤ ((Go.Sort.ahead w m).heap.modify blk _ ++ os).size
  have : (Go.Sort.ahead w m).heap = w.heap := rfl
  rw [this]
  simp
theorem sort_cmp {blk : Nat} (off size : Nat) (hok : ∀ b, ok b → b ≠ blk) : CmpLays Tryd.prog 125 #[] (SRow.enc (B := B) (w := w) (ok := ok)) 2 SRow.cf blk off size w := fun m os dk _ x y => by
  have key : ∀ z : SRow B w ok, IsInts 0 (sortWorldK SRow.enc 2 w blk off m dk os) z.v z.r.1 := fun z =>
    pu_ints (F := fun _ => True) (ok := fun _ => True) (lo := 0) z.good.coef (fun _ _ => Nat.zero_le _) (z.pu.mono (fun b hb hw => ⟨trivial, Nat.lt_of_lt_of_le hw (sortWorld_size _ _ _ _ _ _), sortWorld_other _ _ _ _ _ _ _ hw (hok b hb)⟩) fun _ _ _ => trivial)
  refine (Compare_gro x.r.2 y.r.2 (key x) (key y)).mono fun e w' ⟨he, hg⟩ => ⟨he, ?_⟩
  exact hg.grow
end
theorem lenFlat (rs : List Rw) : (rs.flatMap cRo).length = rs.length * 2 := by
  induction rs with
  | nil => rfl
  | cons r rs ih => rw [List.flatMap_cons, List.length_append, ih, lenRo, List.length_cons]; omega
theorem sp_sortRo {o : Oper} {c x y : Operand} {ats : Array TypeId} {e n k : Nat} {fr : Bool} {ds : List Rw} (ho : o.op = .call { callee := .value c, args := #[x, y], argTypes := ats }) (hI : ∀ r ∈ ds, RwOk r) (hsz : ds.length < 4611686018427387904) :
    ASpec Tryd.prog J o [(c, .v (.func (.func 124) #[] #[])), (x, .own k), (y, .v (.func (.func 125) #[] #[]))] [(k, .row fr e 2 n (ds.flatMap cRo))] (.v (.tuple #[])) (.st k (.row fr e 2 n ((srt ds).flatMap cRo))) := by
  intro ρ B a w K Q hwf hB hJ ha hr _ hk
  obtain ⟨nm, hk1, hx⟩ := (ha (x, .own k) (by simp)).own_inv
  have hy := (ha (y, .v (.func (.func 125) #[] #[])) (by simp)).v_inv
  obtain ⟨nm', hk1', xs, ⟨hlen, hcase⟩, hxl, hrel⟩ := hr (k, .row fr e 2 n (ds.flatMap cRo)) (by simp)
  rw [hk1] at hk1'; cases hk1'
  have hn : n = ds.length := by
    have h1 : (ds.flatMap cRo).length = ds.length * 2 := lenFlat ds
    omega
  subst hn
  refine upon_call ho (ha (c, .v (.func (.func 124) #[] #[])) (by simp)).v_inv (by kernel_rfl) ?_
  rw [Array.append_empty]
  have hargs : (#[x, y] : Array Operand).map a.eval = #[nm.val, .func (.func 125) #[] #[]] := by simp [hx, hy]
  rw [hargs]
  have hflat : ∀ (rs : List Rw) (t i j : Nat) (_ : t = i * 2 + j) (hi : i < rs.length) (hj : j < 2) (hl : t < (rs.flatMap cRo).length), (rs.flatMap cRo)[t] = (cRo rs[i])[j]'hj := fun rs t i j e hi hj hl => by
    subst e
    have := eflat_get lenRo rs i j hi hj
    rw [List.getElem?_eq_getElem hl] at this
    rw [List.getElem?_eq_getElem hj] at this
    exact Option.some.inj this
  rcases hcase with ⟨hv, hn0⟩ | ⟨g, cap, cur, hv, hBg, hg, hnc, hm, hs, ht⟩
  · have hd : ds = [] := List.eq_nil_of_length_eq_zero hn0
    subst hd
    rw [hv]
    have hcon := AnyF.slices_SortFunc_none { Tryd.sortRo with } none 0 (.func (.func 125) #[] #[]) w
    refine Calls.mono hcon fun e' w' ⟨he, hw⟩ => ⟨_, he, ?_⟩
    subst hw
    rw [show srt ([] : List Rw) = [] by simp [srt]] at hk
    exact hk ρ w' _ ⟨rfl, rfl, rfl, rfl, Nat.le_refl _, fun _ _ _ => rfl, fun _ _ => rfl, fun _ _ _ => rfl, fun k' X' he' => by cases he'; exact ⟨nm, hk1, fun b' c' n' e => by subst e; exact ⟨(hwf.lo _ _ _ _ hk1).2, (hwf.lo _ _ _ _ hk1).1, .inr ⟨_, _, hk1⟩⟩, xs, ⟨hlen, .inl ⟨hv, rfl⟩⟩, hxl, hrel⟩, .pu (.v _)⟩
  · have hnm : nm = .at g cap ds.length := by
      cases nm with
      | nil => cases hv
      | «at» b c m =>
        simp only [Nm.val, Value.slice.injEq, Option.some.injEq, Addr.mk.injEq, and_true] at hv
        obtain ⟨rfl, rfl, rfl⟩ := hv
        rfl
    subst hnm
    have hfl : (ds.flatMap cRo).length = ds.length * 2 := by omega
    have hpu : ∀ i (hi : i < ds.length), Pu (B ≤ ·) w (okR ρ fr B w) (intsA ds[i].1) (xs.getD (i * 2) undef) := fun i hi => by
      have h := hrel (i * 2) (by omega)
      rwa [show (ds.flatMap cRo)[i * 2]'(by omega) = intsA ds[i].1 from hflat ds _ i 0 rfl hi (by omega) (by omega)] at h
    have hpc : ∀ i (hi : i < ds.length), xs.getD (i * 2 + 1) undef = .int .i64 ds[i].2 := fun i hi => by
      have h := hrel (i * 2 + 1) (by omega)
      rw [show (ds.flatMap cRo)[i * 2 + 1]'(by omega) = iv ds[i].2 from hflat ds _ i 1 rfl hi (by omega) (by omega)] at h
      exact h.v_inv
    obtain ⟨d, hd⟩ : ∃ d : Array (SRow B w (okR ρ fr B w)), d = Array.ofFn (n := ds.length) fun i => ⟨xs.getD (i.1 * 2) undef, ds[i.1], hpu i.1 i.2, hI _ (List.getElem_mem _)⟩ := ⟨_, rfl⟩
    have hds : d.size = ds.length := by rw [hd]; simp
    have hdg : ∀ i (hi : i < ds.length), d[i]! = ⟨xs.getD (i * 2) undef, ds[i], hpu i hi, hI _ (List.getElem_mem _)⟩ := fun i hi => by
      rw [getElem!_pos d i (by omega)]
      subst hd
      simp
    have hdr : d.toList.map SRow.r = ds := by
      refine List.ext_getElem (by simp [hds]) fun i h1 h2 => ?_
      have := hdg i h2
      rw [getElem!_pos d i (by omega)] at this
      simp [this]
    have hcur : ∀ t, t < ds.length * 2 → cur[t]? = some (xs.getD t undef) := fun t h => by
      have : xs[t]? = cur.toList[t]? := by rw [← ht, List.getElem?_take, if_pos h]
      have h3 : xs[t]? = some (xs.getD t undef) := by
        rw [List.getD_eq_getElem?_getD, List.getElem?_eq_getElem (by omega)]
        rfl
      rw [← Array.getElem?_toList, ← this]; exact h3
    have hok : ∀ b, okR ρ fr B w b → b ≠ g := fun b hb e => by subst e; exact hb.1 _ _ _ hk1
    have hH : HoldsK SRow.enc 2 w g 0 d := fun t h => by
      have ht2 : t < ds.length * 2 := by simpa [hds] using h
      refine ⟨?_, frozenB hg _⟩
      have hi : t / 2 < ds.length := by omega
      show w.cell? ⟨g, 0 + t, none⟩ = some (flatK SRow.enc 2 d)[t]!
      rw [get_flatK _ _ _ _ (by omega), hdg _ hi, Nat.zero_add]
      simp only [World.cell?, hg, Option.isSome_none, Bool.false_eq_true, if_false]
      rw [hcur t ht2]
      rcases Nat.mod_two_eq_zero_or_one t with h0 | h0
      · rw [h0]
        show some (xs.getD t undef) = some (xs.getD (t / 2 * 2) undef)
        rw [show t / 2 * 2 = t by omega]
      · rw [h0]
        have e : xs.getD t undef = .int .i64 ds[t / 2].2 := by rw [← hpc _ hi]; congr 1; omega
        rw [e]
        rfl
    have hcon := AnyQ.slices_SortFunc Tryd.sortRo 2 Tryd.isAgg54 Tryd.sizeOf54 SRow.enc (fun _ => rfl) (fun z v hv => by
      obtain ⟨zv, zr, zp, zg⟩ := z
      simp only [SRow.enc, List.mem_cons, List.not_mem_nil, or_false] at hv
      rcases hv with rfl | rfl
      · unfold intsA at zp
        generalize zr.1.length = n1 at zp
        generalize zr.1.map iv = l1 at zp
        cases zp <;> rfl
      · rfl) SRow.cf ⟨fun _ => swoR.irrefl _, fun _ _ _ => swoR.trans _ _ _, fun _ _ _ => swoR.ntrans _ _ _⟩ 125 #[] g 0 cap d w (enters_of Tryd.func125 (by kernel_rfl) rfl) (sort_cmp 0 d.size hok) hH (hwf.lo _ _ _ _ hk1).2 (by omega)
    rw [hds] at hcon
    refine Calls.mono hcon fun e' w' ⟨he, d', m, os, hp, hso, hw⟩ => ⟨_, he, ?_⟩
    have hl : d'.toList.map SRow.r = srt ds := by
      rw [← hds] at hp hso
      rw [← hdr]
      exact srt_of SRow.r d d' hp hso
    have hd's : d'.size = ds.length := hp.1.trans hds
    subst hw
    have hhere := sortWorld_here SRow.enc g m d' os hg
    have hoth : ∀ b, b < w.heap.size → b ≠ g → (sortWorldK SRow.enc 2 w g 0 m d' os).heap[b]? = w.heap[b]? := fun b hb hne => sortWorld_other _ _ _ _ _ _ _ hb hne
    have hwsz := sortWorld_size (w := w) SRow.enc g 0 m d' os
    generalize hW : sortWorldK SRow.enc 2 w g 0 m d' os = W at hhere hoth hwsz ⊢
    have hos : W.os = w.os := by rw [← hW]; rfl
    have htp : W.tape = w.tape := by rw [← hW]; rfl
    have hou : W.output = w.output := by rw [← hW]; rfl
    clear hW
    refine hk ρ W _ ⟨rfl, hos, htp, hou, hwsz, fun b' h1 h2 => hoth b' h1 fun e => by subst e; exact h2 k _ _ rfl hk1, fun _ _ => rfl, fun _ _ _ => rfl, fun k' X' he' => ?_, .pu (.v _)⟩
    cases he'
    have hfs : (flatK SRow.enc 2 d').size = ds.length * 2 := by simp [hd's]
    refine ⟨_, hk1, fun b' c' n' e => by cases e; exact ⟨Nat.lt_of_lt_of_le (hwf.lo _ _ _ _ hk1).2 hwsz, (hwf.lo _ _ _ _ hk1).1, .inr ⟨_, _, hk1⟩⟩, (flatK SRow.enc 2 d').toList, ⟨by simpa using hfs, .inr ⟨g, cap, _, rfl, hBg, hhere, hnc, hm, by simpa [putCells] using hs, ?_⟩⟩, ?_, fun j hj => ?_⟩
    · refine List.ext_getElem? fun t => ?_
      rw [List.getElem?_take]
      by_cases h : t < ds.length * 2
      · have h3 : t < cur.size := (Array.getElem?_eq_some_iff.1 (hcur t h)).1
        rw [if_pos h, Array.getElem?_toList, Array.getElem?_toList]
        simp [putCells, hfs, h, h3, hd's]
      · rw [if_neg h, List.getElem?_eq_none (by simp; omega)]
    · have := srt_len ds
      have h1 : ((srt ds).flatMap cRo).length = (srt ds).length * 2 := lenFlat _
      simp only [Array.length_toList, hfs]; omega
    · have hsl := srt_len ds
      have h1 : ((srt ds).flatMap cRo).length = (srt ds).length * 2 := lenFlat _
      have hj2 : j < ds.length * 2 := by omega
      have hi : j / 2 < (srt ds).length := by omega
      have hi' : j / 2 < d'.size := by omega
      have hz : (srt ds)[j / 2] = d'[j / 2].r := by
        have : (d'.toList.map SRow.r)[j / 2]? = (srt ds)[j / 2]? := by rw [hl]
        rw [List.getElem?_eq_getElem hi, List.getElem?_map, List.getElem?_eq_getElem (by simpa using hi')] at this
        simpa using this.symm
      have hxj : (flatK SRow.enc 2 d').toList.getD j undef = (SRow.enc d'[j / 2]!)[j % 2]! := by
        rw [List.getD_eq_getElem?_getD, Array.getElem?_toList, Array.getElem?_eq_getElem (by omega), Option.getD_some, ← get_flatK _ _ _ _ (by omega), getElem!_pos _ j (by omega)]
      rw [hxj, getElem!_pos d' _ hi']
      have hpz := d'[j / 2].pu.mono (F' := (B ≤ ·)) (w' := W) (ok' := okR ρ fr B W) (fun b hb hw => by
        have e := hoth b hw (hok b hb)
        exact ⟨⟨hb.1, fun h => ⟨(hb.2 h).1, soft_eq e (hb.2 h).2⟩⟩, Nat.lt_of_lt_of_le hw hwsz, e⟩) (fun _ _ h => h)
      rcases Nat.mod_two_eq_zero_or_one j with h0 | h0
      · have e1 : ((srt ds).flatMap cRo)[j] = intsA (srt ds)[j / 2].1 := hflat (srt ds) j (j / 2) 0 (by omega) hi (by omega) hj
        rw [e1, hz, h0]
        exact hpz
      · have e1 : ((srt ds).flatMap cRo)[j] = iv (srt ds)[j / 2].2 := hflat (srt ds) j (j / 2) 1 (by omega) hi (by omega) hj
        rw [e1, hz, h0]
        exact .v _
end Go.Proofs.YtpadmggccpgajaaDoor

namespace Go.Proofs.YtpadmggccpgajaaDoor
open Go.RowKit Go.Deep
variable {J : World → Prop}
theorem compact_all (b n cap sz : Nat) (T : TypeId) (w : World) (els : List El) (hx : els.length = n) (hn : n ≤ 4611686018427387904) (hnc : n ≤ cap) (hW : CW w b T sz els w) (HI : ∀ W, Oth w b W → ∀ x ∈ els, IsInts 0 W x.1 x.2.1) :
    Calls Tryd.prog 126 #[.slice (some ⟨b, 0, none⟩) n cap, .func (.func 127) #[] #[]] w fun e w' => e = .returned (.slice (some ⟨b, 0, none⟩) (keptE els n).length cap) ∧ CW w b T sz (keptE els n ++ List.replicate (n - (keptE els n).length) zEl) w' := by
  by_cases h2 : n < 2
  · have e : keptE els n = els := by
      rw [keptE_all els n (by omega) (fun i hi => by obtain rfl : i = 0 := (by omega); rfl), ← hx, List.take_length]
    rw [e, hx]
    refine (compact_short b n cap w _ h2).mono fun e' w' ⟨he, hw⟩ => ⟨he, ?_⟩
    subst hw
    simpa using hW
  · exact compact_full b n cap sz T w els hx hn hnc h2 hW HI
/-- What is left of rows in their order: of those with the same coefficients the first. -/
def keepR (rs : List Rw) (i : Nat) : Bool := decide (i = 0) || !eqI (rs.getD i ([], 0)).1 (rs.getD (i - 1) ([], 0)).1
def keptR (rs : List Rw) : Nat → List Rw
  | 0 => []
  | m + 1 => keptR rs m ++ (if keepR rs m then [rs.getD m ([], 0)] else [])
def cmpt (rs : List Rw) : List Rw := keptR rs rs.length
theorem getD_map_snd (els : List El) (i : Nat) : (els.map (·.2)).getD i ([], 0) = (els.getD i zEl).2 := by
  simp only [List.getD_eq_getElem?_getD, List.getElem?_map]
  cases els[i]? <;> rfl
theorem keptE_map (els : List El) : ∀ m, (keptE els m).map (·.2) = keptR (els.map (·.2)) m
  | 0 => rfl
  | m + 1 => by
    have e : keepR (els.map (·.2)) m = keepE els m := by unfold keepR keepE; rw [getD_map_snd, getD_map_snd]
    rw [keptE, keptR, List.map_append, keptE_map els m, e, getD_map_snd]
    split <;> rfl
theorem keptE_mem {els : List El} : ∀ m, m ≤ els.length → ∀ x ∈ keptE els m, x ∈ els
  | 0, _, x, h => by simp [keptE] at h
  | m + 1, hm, x, h => by
    rw [keptE, List.mem_append] at h
    rcases h with h | h
    · exact keptE_mem m (by omega) x h
    · split at h
      · rw [List.mem_singleton] at h
        rw [h, List.getD_eq_getElem?_getD, List.getElem?_eq_getElem (by omega)]
        exact List.getElem_mem _
      · cases h
set_option maxHeartbeats 800000 in
theorem sp_compactRo {o : Oper} {c x y : Operand} {ats : Array TypeId} {e n k : Nat} {fr : Bool} {ds : List Rw} (ho : o.op = .call { callee := .value c, args := #[x, y], argTypes := ats }) (hI : ∀ r ∈ ds, RwOk r) (hsz : ds.length ≤ 4611686018427387904) {m : Nat} (hm : (cmpt ds).length = m) :
    ASpec Tryd.prog J o [(c, .v (.func (.func 126) #[] #[])), (x, .own k), (y, .v (.func (.func 127) #[] #[]))] [(k, .row fr e 2 n (ds.flatMap cRo))] (.own k) (.ap k (.row fr e 2 m ((cmpt ds).flatMap cRo))) := by
  subst hm
  intro ρ B a w K Q hwf hB hJ ha hr _ hk
  obtain ⟨nm, hk1, hx⟩ := (ha (x, .own k) (by simp)).own_inv
  have hy := (ha (y, .v (.func (.func 127) #[] #[])) (by simp)).v_inv
  obtain ⟨nm', hk1', xs, ⟨hlen, hcase⟩, hxl, hrel⟩ := hr (k, .row fr e 2 n (ds.flatMap cRo)) (by simp)
  rw [hk1] at hk1'; cases hk1'
  have hn : n = ds.length := by
    have h1 : (ds.flatMap cRo).length = ds.length * 2 := lenFlat ds
    omega
  subst hn
  refine upon_call ho (ha (c, .v (.func (.func 126) #[] #[])) (by simp)).v_inv (by kernel_rfl) ?_
  rw [Array.append_empty]
  have hargs : (#[x, y] : Array Operand).map a.eval = #[nm.val, .func (.func 127) #[] #[]] := by simp [hx, hy]
  rw [hargs]
  have hflat : ∀ (rs : List Rw) (t i j : Nat) (_ : t = i * 2 + j) (hi : i < rs.length) (hj : j < 2) (hl : t < (rs.flatMap cRo).length), (rs.flatMap cRo)[t] = (cRo rs[i])[j]'hj := fun rs t i j e hi hj hl => by
    subst e
    have := eflat_get lenRo rs i j hi hj
    rw [List.getElem?_eq_getElem hl] at this
    rw [List.getElem?_eq_getElem hj] at this
    exact Option.some.inj this
  rcases hcase with ⟨hv, hn0⟩ | ⟨g, cap, cur, hv, hBg, hg, hnc, hmx, hs, ht⟩
  · have hd : ds = [] := List.eq_nil_of_length_eq_zero hn0
    subst hd
    rw [hv]
    refine Calls.mono (compact_nil 0 w (.func (.func 127) #[] #[]) none) fun e' w' ⟨he, hw⟩ => ⟨_, he, ?_⟩
    subst hw
    have hup : (upd ρ k nm).f = ρ.f := by
      funext j
      by_cases e : j = k
      · subst e; exact (upd_same ρ j nm).trans hk1.symm
      · exact upd_other e
    have hup2 : upd ρ k nm = ρ := by
      obtain ⟨f, H⟩ := ρ
      exact congrArg (fun g => Names.mk g H) hup
    rw [show (cmpt ([] : List Rw)) = [] from rfl] at hk
    refine hk ρ w _ ⟨rfl, rfl, rfl, rfl, Nat.le_refl _, fun _ _ _ => rfl, fun _ _ => rfl, fun _ _ _ => rfl, fun k' X' he' => ?_, ?_⟩
    · cases he'
      exact ⟨nm, hk1, fun b' c' n' e => by subst e; exact ⟨(hwf.lo _ _ _ _ hk1).2, (hwf.lo _ _ _ _ hk1).1, .inr ⟨_, _, hk1⟩⟩, xs, ⟨hlen, .inl ⟨hv, rfl⟩⟩, hxl, hrel⟩
    · have : Nm.val nm = .slice none 0 0 := hv
      rw [← this]
      exact .own hk1
  · have hnm : nm = .at g cap ds.length := by
      cases nm with
      | nil => cases hv
      | «at» b c m =>
        simp only [Nm.val, Value.slice.injEq, Option.some.injEq, Addr.mk.injEq, and_true] at hv
        obtain ⟨rfl, rfl, rfl⟩ := hv
        rfl
    subst hnm
    have hfl : (ds.flatMap cRo).length = ds.length * 2 := by omega
    have hpu : ∀ i (hi : i < ds.length), Pu (B ≤ ·) w (okR ρ fr B w) (intsA ds[i].1) (xs.getD (i * 2) undef) := fun i hi => by
      have h := hrel (i * 2) (by omega)
      rwa [show (ds.flatMap cRo)[i * 2]'(by omega) = intsA ds[i].1 from hflat ds _ i 0 rfl hi (by omega) (by omega)] at h
    have hpc : ∀ i (hi : i < ds.length), xs.getD (i * 2 + 1) undef = .int .i64 ds[i].2 := fun i hi => by
      have h := hrel (i * 2 + 1) (by omega)
      rw [show (ds.flatMap cRo)[i * 2 + 1]'(by omega) = iv ds[i].2 from hflat ds _ i 1 rfl hi (by omega) (by omega)] at h
      exact h.v_inv
    obtain ⟨els, hel⟩ : ∃ els : List El, els = ds.zipIdx.map fun p => (xs.getD (p.2 * 2) undef, p.1) := ⟨_, rfl⟩
    have hes : els.length = ds.length := by rw [hel]; simp
    have heg : ∀ i (hi : i < els.length), els[i] = (xs.getD (i * 2) undef, ds[i]'(by omega)) := fun i hi => by subst hel; simp
    have her : els.map (·.2) = ds := by
      refine List.ext_getElem (by simp [hes]) fun i h1 h2 => ?_
      rw [List.getElem_map, heg i (by omega)]
    have hepu : ∀ z ∈ els, Pu (B ≤ ·) w (okR ρ fr B w) (intsA z.2.1) z.1 ∧ RwOk z.2 := fun z hz => by
      obtain ⟨i, hi, rfl⟩ := List.getElem_of_mem hz
      rw [heg i hi]
      exact ⟨hpu i (by omega), hI _ (List.getElem_mem _)⟩
    have hcur : ∀ t, t < ds.length * 2 → cur[t]? = some (xs.getD t undef) := fun t h => by
      have : xs[t]? = cur.toList[t]? := by rw [← ht, List.getElem?_take, if_pos h]
      have h3 : xs[t]? = some (xs.getD t undef) := by
        rw [List.getD_eq_getElem?_getD, List.getElem?_eq_getElem (by omega)]
        rfl
      rw [← Array.getElem?_toList, ← this]; exact h3
    have hok : ∀ b, okR ρ fr B w b → b ≠ g := fun b hb e => by subst e; exact hb.1 _ _ _ hk1
    have hCW : CW w g e (cap * 2) els w := ⟨⟨rfl, rfl, rfl, Nat.le_refl _, fun _ _ _ => rfl⟩, cur, hg, hs, fun i hi => by
      rw [heg i hi]
      refine ⟨hcur _ (by omega), ?_⟩
      rw [hcur _ (by omega), hpc i (by omega)]⟩
    have hIn : ∀ W, Oth w g W → ∀ z ∈ els, IsInts 0 W z.1 z.2.1 := fun W hW z hz =>
      pu_ints (F := fun _ => True) (ok := fun _ => True) (lo := 0) (hepu z hz).2.coef (fun _ _ => Nat.zero_le _) ((hepu z hz).1.mono (fun b hb hw => ⟨trivial, Nat.lt_of_lt_of_le hw hW.size, hW.block b hw (hok b hb)⟩) fun _ _ _ => trivial)
    refine Calls.mono (compact_all g ds.length cap (cap * 2) e w els hes hsz hnc hCW hIn) fun e' w' ⟨he, hW⟩ => ⟨_, he, ?_⟩
    have hkm : (keptE els ds.length).map (·.2) = cmpt ds := by
      rw [keptE_map, her]; rfl
    have hkl : (keptE els ds.length).length = (cmpt ds).length := by rw [← hkm, List.length_map]
    have hkle : (cmpt ds).length ≤ ds.length := by rw [← hkl]; exact keptE_len _ _
    obtain ⟨⟨hos, htp, hou, hwsz, hoth⟩, cur', h1, h2, h3⟩ := hW
    rw [hkl] at h3 ⊢
    have hup : ∀ b c' n', upd ρ k (.at g cap (cmpt ds).length) k = some (.at b c' n') → b = g := fun b c' n' h => by
      rw [upd_same] at h; cases h; rfl
    have hok2 : ∀ b, okOf ρ b → okOf (upd ρ k (.at g cap (cmpt ds).length)) b := fun b hb j c' n' h => by
      by_cases e : j = k
      · subst e
        have := hup _ _ _ h
        subst this
        exact hb _ _ _ hk1
      · rw [upd_other e] at h; exact hb _ _ _ h
    refine hk (upd ρ k (.at g cap (cmpt ds).length)) w' _ ⟨rfl, hos, htp, hou, hwsz, fun b' q1 q2 => hoth b' q1 fun e => by subst e; exact q2 k _ _ rfl hk1, fun j hj => upd_other fun e => hj (by rw [e]; rfl), (fun _ _ h => by cases h), fun k' X' he' => ?_, .own (upd_same _ _ _)⟩
    cases he'
    have hc2 : (cmpt ds).length * 2 ≤ cur'.size := by rw [h2]; omega
    refine ⟨_, upd_same _ _ _, fun b' c' n' e => by cases e; exact ⟨Nat.lt_of_lt_of_le (hwf.lo _ _ _ _ hk1).2 hwsz, (hwf.lo _ _ _ _ hk1).1, .inr ⟨_, _, hk1⟩⟩, cur'.toList.take ((cmpt ds).length * 2), ⟨by simp; omega, .inr ⟨g, cap, cur', rfl, hBg, h1, by omega, hmx, h2, rfl⟩⟩, ?_, fun j hj => ?_⟩
    · rw [lenFlat]; simp; omega
    · rw [lenFlat] at hj
      have hi : j / 2 < (keptE els ds.length).length := by omega
      obtain ⟨q1, q2⟩ := h3 (j / 2) (by simp; omega)
      rw [List.getElem_append_left hi] at q1 q2
      have hz : (cmpt ds)[j / 2]'(by omega) = ((keptE els ds.length)[j / 2]).2 := by
        have : ((keptE els ds.length).map (·.2))[j / 2]? = (cmpt ds)[j / 2]? := by rw [hkm]
        rw [List.getElem?_map, List.getElem?_eq_getElem hi, List.getElem?_eq_getElem (by omega)] at this
        exact (Option.some.inj this).symm
      have hmem := keptE_mem ds.length (by omega) _ (List.getElem_mem hi)
      have hval : (cur'.toList.take ((cmpt ds).length * 2)).getD j undef = (cur'[j]?).getD undef := by
        rw [List.getD_eq_getElem?_getD, List.getElem?_take, if_pos hj, Array.getElem?_toList]
      rw [hval]
      rcases Nat.mod_two_eq_zero_or_one j with h0 | h0
      · rw [hflat (cmpt ds) j (j / 2) 0 (by omega) (by omega) (by omega) (by rw [lenFlat]; exact hj), hz]
        rw [show j / 2 * 2 = j by omega] at q1
        rw [q1]
        exact (hepu _ hmem).1.mono (F' := (B ≤ ·)) (w' := w') (fun b hb hw => by
          have e := hoth b hw (hok b hb)
          exact ⟨⟨hok2 b hb.1, fun h => ⟨(hb.2 h).1, soft_eq e (hb.2 h).2⟩⟩, Nat.lt_of_lt_of_le hw hwsz, e⟩) (fun _ _ h => h)
      · rw [hflat (cmpt ds) j (j / 2) 1 (by omega) (by omega) (by omega) (by rw [lenFlat]; exact hj), hz]
        rw [show j / 2 * 2 + 1 = j by omega] at q2
        rw [q2]
        exact .v _
end Go.Proofs.YtpadmggccpgajaaDoor

namespace Go.Proofs.YtpadmggccpgajaaDoor
open Go.RowKit Go.Deep
variable {J : World → Prop}
set_option linter.unusedSimpArgs false in
set_option linter.unusedVariables false in
set_option maxRecDepth 100000 in
set_option maxHeartbeats 6400000 in
theorem CopyRow_w {r : Rw} (hn : r.1.length ≤ 1000) : Ctr Tryd.prog J 28 [.agg (cRo r)] (.agg (cRo r)) := by
 refine ctr_of_tri Tryd.func28 rfl (by intro X hX; simp only [List.mem_cons, List.not_mem_nil, or_false] at hX; rcases hX with rfl; exact plain_agg (plain_ro r)) (n := 9) rfl (by simp) (fun w0 => ?_)
 refine kW 9 [] [(0, .agg (cRo r))] ?_
 refine tri_seq ?_
 refine tri_region ?_
 refine t_op rfl (sp_box (X := .agg (cRo r)) (k := 1) (.tmp 0) rfl rfl) ⟨I0, T0⟩ T0 rfl ?_
 refine t_op rfl (sp_alloc (z := .agg #[.slice none 0 0, .int .i64 0]) (k := 2) rfl (by kernel_rfl)) T0 T0 rfl ?_
 refine kN 9 [(1, .box 54 (cRo r)), (2, .box 54 [.v (.slice none 0 0), iv 0])] [(1, .box 1 0), (2, .box 2 0)] ?_
 refine t_then ?_
 refine tri_seq ?_
 refine tri_draw [⟨[(.tmp 1, .box 1 0)], [], .box 1 0, .no⟩, ⟨[(.tmp 3, .box 1 0)], [(1, .box 54 (cRo r))], intsA r.1, .no⟩, ⟨[(.func 39, .v (.func (.func 39) #[] #[])), (.tmp 4, intsA r.1)], [], .fr (intsA r.1), .no⟩, ⟨[(.tmp 1, .box 1 0)], [], .box 1 1, .no⟩, ⟨[(.tmp 6, .box 1 1)], [(1, .box 54 (cRo r))], iv r.2, .no⟩, ⟨[(.tmp 5, .fr (intsA r.1)), (.tmp 7, iv r.2)], [], .agg [.fr (intsA r.1), iv r.2], .no⟩, ⟨[(.tmp 2, .box 2 0), (.tmp 8, .agg [.fr (intsA r.1), iv r.2])], [(2, .box 54 [.v (.slice none 0 0), iv 0])], .v undef, .st 2 (.box 54 [.fr (intsA r.1), iv r.2])⟩] (by kernel_rfl) (by kernel_rfl) ?_
 refine ⟨app_yes rfl (fB 0 (.tmp 1) rfl Tryd.underlying54 rfl 1 rfl) ⟨I0, T0⟩ T0 T0, ?_⟩
 refine ⟨app_yes rfl (lB (.box 54 (cRo r)) (intsA r.1) (.tmp 3) rfl Tryd.underlying24 rfl rfl) ⟨I0, T0⟩ ⟨rfl, T0⟩ T0, ?_⟩
 refine ⟨app_yes rfl (sp_call (c := .func 39) (xs := #[.tmp 4]) [] (CopyInts_c r.1 (Nat.le_trans hn (by decide))) rfl (by kernel_rfl) rfl (Xs := [intsA r.1]) rfl rfl rfl) ⟨I0, I0, T0⟩ T0 T0, ?_⟩
 refine ⟨app_yes rfl (fB 1 (.tmp 1) rfl Tryd.underlying54 rfl 1 rfl) ⟨I0, T0⟩ T0 T0, ?_⟩
 refine ⟨app_yes rfl (lB (.box 54 (cRo r)) (iv r.2) (.tmp 6) rfl Tryd.underlying3 rfl rfl) ⟨I0, T0⟩ ⟨rfl, T0⟩ T0, ?_⟩
 refine ⟨app_yes rfl (sp_bldSI (X := .fr (intsA r.1)) rfl rfl (fun _ _ _ => by kernel_rfl)) ⟨I0, I0, T0⟩ T0 T0, ?_⟩
 refine ⟨app_yes rfl (sp_storeBox (T0 := 54) (X := .agg [.fr (intsA r.1), iv r.2]) (cs := [.v (.slice none 0 0), iv 0]) (ds := [.fr (intsA r.1), iv r.2]) (z := 2) (.tmp 2) (.tmp 8) rfl (by kernel_rfl) (by kernel_rfl) (by kernel_rfl) (of_decide_eq_true (by kernel_rfl)) (by kernel_rfl)) ⟨I0, I0, T0⟩ ⟨rfl, T0⟩ rfl, ?_⟩
 show ETri J w0 _ _ _
 refine kW 9 [(2, .box 54 [.fr (intsA r.1), iv r.2])] [(2, .box 2 0)] ?_
 refine t_then ?_
 refine tri_ret ?_
 refine tri_end1 Tryd.results28 (.cellS rfl rfl Tryd.underlying54 rfl (z := 2) (by kernel_rfl) rfl (by decide)) ?_
 exact rfl
set_option linter.unusedSimpArgs false in
set_option linter.unusedVariables false in
set_option maxRecDepth 100000 in
set_option maxHeartbeats 6400000 in
theorem CopySystem_o {n : Int} {rs : List Rw} (hl : rs.length ≤ 250) (hs : ∀ r ∈ rs, r.1.length ≤ 1000) (k : Nat) : CtrO Tryd.prog J 27 [.agg (cSy n rs)] k (.row true 54 2 rs.length (rs.flatMap cRo)) (.agg [iv n, .own k]) := by
 refine ctrO_of_tri Tryd.func27 rfl (by intro X hX; simp only [List.mem_cons, List.not_mem_nil, or_false] at hX; rcases hX with rfl; exact plain_agg (plain_sy n rs)) (n := 27) rfl (by simp) (fun w0 => ?_)
 refine kW 27 [] [(0, .agg (cSy n rs))] ?_
 refine tri_seq ?_
 refine tri_region ?_
 refine t_op rfl (sp_box (X := .agg (cSy n rs)) (k := 1) (.tmp 0) rfl rfl) ⟨I0, T0⟩ T0 rfl ?_
 refine t_op rfl (sp_alloc (z := .agg #[.int .i64 0, .slice none 0 0]) (k := 2) rfl (by kernel_rfl)) T0 T0 rfl ?_
 refine kN 27 [(1, .box 52 (cSy n rs)), (2, .box 52 [iv 0, .v (.slice none 0 0)])] [(1, .box 1 0), (2, .box 2 0)] ?_
 refine t_then ?_
 refine tri_seq ?_
 refine tri_region ?_
 refine oA (fB 0 (.tmp 1) rfl Tryd.underlying52 rfl 1 rfl) I0 ?_
 refine oB (lB (.box 52 (cSy n rs)) (iv n) (.tmp 5) rfl Tryd.underlying3 rfl rfl) I0 rfl ?_
 refine oA (sp_bld [(.tmp 6, .int .i64 n)] #[.int .i64 n, .slice none 0 0] rfl rfl (by kernel_rfl) rfl) I0 ?_
 refine t_op rfl (sp_alloc (z := .agg #[.int .i64 0, .slice none 0 0]) (k := 3) rfl (by kernel_rfl)) T0 T0 rfl ?_
 refine t_op rfl (sp_storeBox (T0 := 52) (X := .agg [iv n, .v (.slice none 0 0)]) (cs := [iv 0, .v (.slice none 0 0)]) (ds := [iv n, .v (.slice none 0 0)]) (z := 2) (.tmp 3) (.tmp 7) rfl (by kernel_rfl) (by kernel_rfl) (by kernel_rfl) (of_decide_eq_true (by kernel_rfl)) (by kernel_rfl)) ⟨I0, I0, T0⟩ ⟨rfl, T0⟩ rfl ?_
 refine kN 27 [(1, .box 52 (cSy n rs)), (2, .box 52 [iv 0, .v (.slice none 0 0)]), (3, .box 52 [iv n, .v (.slice none 0 0)])] [(1, .box 1 0), (2, .box 2 0), (3, .box 3 0)] ?_
 refine t_then ?_
 refine tri_seq ?_
 refine tri_seq ?_
 refine tri_region ?_
 refine oA (sp_assign (.const (.int .i64 0)) (iv 0) rfl) I0 ?_
 refine kN 27 [(1, .box 52 (cSy n rs)), (2, .box 52 [iv 0, .v (.slice none 0 0)]), (3, .box 52 [iv n, .v (.slice none 0 0)])] [(1, .box 1 0), (2, .box 2 0), (3, .box 3 0), (4, iv 0)] ?_
 refine t_then ?_
 refine tri_block ?_
 refine tri_wk (wk_adoptB 3 1 4 true 54 2 rfl rfl rfl rfl) ?_
 refine tri_loop (σ := {k : Nat // k ≤ rs.length}) (fun s => (ofL [(1, .box 52 (cSy n rs)), (2, .box 52 [iv 0, .v (.slice none 0 0)]), (3, .box 52 [iv n, .own 4]), (4, .row true 54 2 s.1 ((rs.take s.1).flatMap cRo))], ofT 27 [(1, .box 1 0), (2, .box 2 0), (3, .box 3 0), (4, iv s.1)])) (fun s => rs.length - s.1) ⟨0, Nat.zero_le _⟩ (wk_keep _ _ rfl (by kernel_rfl) (by kernel_rfl)) (fun s => ?_)
 obtain ⟨j, hj0⟩ := s
 show ETri J w0 (ofL [(1, .box 52 (cSy n rs)), (2, .box 52 [iv 0, .v (.slice none 0 0)]), (3, .box 52 [iv n, .own 4]), (4, .row true 54 2 j ((rs.take j).flatMap cRo))]) (ofT 27 [(1, .box 1 0), (2, .box 2 0), (3, .box 3 0), (4, iv j)]) _
 refine tri_seq ?_
 refine tri_seq ?_
 by_cases hs1 : ((j : Nat) : Int) < ((rs.length : Nat) : Int)
 refine tri_region ?_
 refine oA (sp_move (.tmp 4) (iv j) rfl) I0 ?_
 refine oA (fB 1 (.tmp 1) rfl Tryd.underlying52 rfl 1 rfl) I0 ?_
 refine oB (lB (.box 52 (cSy n rs)) (slA 2 cRo rs) (.tmp 9) rfl Tryd.underlying50 rfl rfl) I0 rfl ?_
 refine oA (sp_lenSl (.tmp 10) rfl Tryd.underlying50) I0 ?_
 refine oC (sp_lss rfl (dT hs1)) I0 I0 ?_
 refine kN 27 [(1, .box 52 (cSy n rs)), (2, .box 52 [iv 0, .v (.slice none 0 0)]), (3, .box 52 [iv n, .own 4]), (4, .row true 54 2 j ((rs.take j).flatMap cRo))] [(1, .box 1 0), (2, .box 2 0), (3, .box 3 0), (4, iv j), (12, bv true)] ?_
 refine t_then ?_
 refine t_condT rfl ?_
 refine tri_skip ?_
 refine t_then ?_
 refine tri_seq ?_
 refine tri_block ?_
 refine tri_draw [⟨[(.tmp 3, .box 3 0)], [], .box 3 1, .no⟩, ⟨[(.tmp 15, .box 3 1)], [(3, .box 52 [iv n, .own 4])], .own 4, .no⟩, ⟨[(.tmp 1, .box 1 0)], [], .box 1 1, .no⟩, ⟨[(.tmp 17, .box 1 1)], [(1, .box 52 (cSy n rs))], slA 2 cRo rs, .no⟩, ⟨[(.tmp 4, iv j)], [], iv j, .no⟩, ⟨[(.tmp 18, slA 2 cRo rs), (.tmp 19, iv j)], [], .el (rs.flatMap cRo) (j * 2), .no⟩, ⟨[(.tmp 20, .el (rs.flatMap cRo) (j * 2))], [], .agg (cRo rs[j]), .no⟩, ⟨[(.func 28, .v (.func (.func 28) #[] #[])), (.tmp 21, .agg (cRo rs[j]))], [], .fr (.agg (cRo rs[j])), .no⟩, ⟨[(.tmp 22, .agg [.fr (intsA rs[j].1), iv rs[j].2])], [], .own 5, .new 5 (.row false 54 2 1 ([.fr (intsA rs[j].1), iv rs[j].2]))⟩, ⟨[(.tmp 16, .own 4), (.tmp 23, .own 5)], [(4, .row true 54 2 j ((rs.take j).flatMap cRo)), (5, .row false 54 2 1 ([.fr (intsA rs[j].1), iv rs[j].2]))], .own 4, .ap 4 (.row true 54 2 (j + 1) ((rs.take (j + 1)).flatMap cRo))⟩, ⟨[(.tmp 3, .box 3 0)], [], .box 3 1, .no⟩, ⟨[(.tmp 25, .box 3 1), (.tmp 24, .own 4)], [(3, .box 52 [iv n, .any])], .v undef, .st 3 (.box 52 [iv n, .own 4])⟩] (by kernel_rfl) (by kernel_rfl) ?_
 refine ⟨app_yes rfl (fB 1 (.tmp 3) rfl Tryd.underlying52 rfl 1 rfl) ⟨I0, T0⟩ T0 T0, ?_⟩
 refine ⟨app_yes rfl (lB (.box 52 [iv n, .own 4]) (.own 4) (.tmp 15) rfl Tryd.underlying50 rfl rfl) ⟨I0, T0⟩ ⟨rfl, T0⟩ T0, ?_⟩
 refine ⟨app_yes rfl (fB 1 (.tmp 1) rfl Tryd.underlying52 rfl 1 rfl) ⟨I0, T0⟩ T0 T0, ?_⟩
 refine ⟨app_yes rfl (lB (.box 52 (cSy n rs)) (slA 2 cRo rs) (.tmp 17) rfl Tryd.underlying50 rfl rfl) ⟨I0, T0⟩ ⟨rfl, T0⟩ T0, ?_⟩
 refine ⟨app_yes rfl (sp_move (.tmp 4) (iv j) rfl) ⟨I0, T0⟩ T0 T0, ?_⟩
 refine ⟨app_yes rfl (sp_indexSl (off := j * 2) (.tmp 18) (.tmp 19) rfl Tryd.underlying50 (by kernel_rfl) (by omega) (by omega) rfl) ⟨I0, I0, T0⟩ T0 T0, ?_⟩
 refine ⟨app_yes rfl (sp_loadElS (z := 2) (.tmp 20) rfl Tryd.underlying54 rfl (by kernel_rfl) (flat_take lenRo rs j (by omega)) rfl) ⟨I0, T0⟩ T0 T0, ?_⟩
 refine ⟨app_yes rfl (sp_call (c := .func 28) (xs := #[.tmp 21]) [] (CopyRow_w (hs rs[j] (List.getElem_mem (by omega)))) rfl (by kernel_rfl) rfl (Xs := [.agg (cRo rs[j])]) rfl rfl rfl) ⟨I0, I0, T0⟩ T0 T0, ?_⟩
 refine ⟨app_yes rfl (sp_build (z := 2) (k := 5) (fr := false) (cs := [.fr (intsA rs[j].1), iv rs[j].2]) [.tmp 22] [.agg [.fr (intsA rs[j].1), iv rs[j].2]] rfl Tryd.underlying50 (by kernel_rfl) (by decide) (by decide) rfl rfl rfl (by kernel_rfl) (by decide) (fun h => Bool.noConfusion h) (by kernel_rfl)) ⟨.inr (.inr (.inl ⟨_, rfl, rfl⟩)), T0⟩ T0 rfl, ?_⟩
 refine ⟨app_yes rfl (sp_appendOwn (n := j) (cs := ((rs.take j).flatMap cRo)) (fr := true) (m := 1) (ds := [.fr (intsA rs[j].1), iv rs[j].2]) (⟨Tryd.underlying50, by kernel_rfl, by decide⟩ : Elt Tryd.prog 50 54 2 32) (.tmp 16) (.tmp 23) rfl (fun _ => newRo rs[j]) (by unfold maxLen; omega) (by omega) (cellRo rs[j]) (es := ((rs.take (j + 1)).flatMap cRo)) (snocRo (by omega))) ⟨I0, I0, T0⟩ ⟨rfl, rfl, T0⟩ rfl, ?_⟩
 refine ⟨app_yes rfl (fB 1 (.tmp 3) rfl Tryd.underlying52 rfl 1 rfl) ⟨I0, T0⟩ T0 T0, ?_⟩
 refine ⟨app_yes rfl (sp_storeBox (T0 := 52) (X := .own 4) (cs := [iv n, .any]) (ds := [iv n, .own 4]) (z := 1) (.tmp 25) (.tmp 24) rfl (by kernel_rfl) (by kernel_rfl) (by kernel_rfl) (of_decide_eq_true (by kernel_rfl)) (by kernel_rfl)) ⟨I0, I0, T0⟩ ⟨rfl, T0⟩ rfl, ?_⟩
 show ETri J w0 _ _ _
 refine kW 27 [(1, .box 52 (cSy n rs)), (2, .box 52 [iv 0, .v (.slice none 0 0)]), (3, .box 52 [iv n, .own 4]), (4, .row true 54 2 (j + 1) ((rs.take (j + 1)).flatMap cRo))] [(1, .box 1 0), (2, .box 2 0), (3, .box 3 0), (4, iv j), (12, bv true)] ?_
 refine t_block ?_
 refine t_then ?_
 refine tri_region ?_
 refine oA (sp_move (.tmp 4) (iv j) rfl) I0 ?_
 refine oC (sp_add (c := ((j + 1 : Nat) : Int)) rfl (w64 (by omega) (by omega) (by omega))) I0 I0 ?_
 refine oA (sp_assign (.tmp 14) (iv (j + 1 : Nat)) rfl) I0 ?_
 refine kN 27 [(1, .box 52 (cSy n rs)), (2, .box 52 [iv 0, .v (.slice none 0 0)]), (3, .box 52 [iv n, .own 4]), (4, .row true 54 2 (j + 1) ((rs.take (j + 1)).flatMap cRo))] [(1, .box 1 0), (2, .box 2 0), (3, .box 3 0), (4, iv (j + 1 : Nat)), (12, bv true)] ?_
 refine t_then ?_
 refine tri_again ⟨j + 1, by omega⟩ (show rs.length - (j + 1) < rs.length - j by omega) ?_
 exact wk_keep _ _ rfl (by kernel_rfl) (by kernel_rfl)
 refine tri_region ?_
 refine oA (sp_move (.tmp 4) (iv j) rfl) I0 ?_
 refine oA (fB 1 (.tmp 1) rfl Tryd.underlying52 rfl 1 rfl) I0 ?_
 refine oB (lB (.box 52 (cSy n rs)) (slA 2 cRo rs) (.tmp 9) rfl Tryd.underlying50 rfl rfl) I0 rfl ?_
 refine oA (sp_lenSl (.tmp 10) rfl Tryd.underlying50) I0 ?_
 refine oC (sp_lss rfl (dF hs1)) I0 I0 ?_
 refine kN 27 [(1, .box 52 (cSy n rs)), (2, .box 52 [iv 0, .v (.slice none 0 0)]), (3, .box 52 [iv n, .own 4]), (4, .row true 54 2 j ((rs.take j).flatMap cRo))] [(1, .box 1 0), (2, .box 2 0), (3, .box 3 0), (4, iv j), (12, bv false)] ?_
 refine t_then ?_
 refine t_condF rfl ?_
 refine tri_exit ?_
 refine t_then_exit ?_
 refine t_then_exit ?_
 refine t_hit ?_
 refine t_then ?_
 refine tri_seq ?_
 refine tri_region ?_
 refine oB (sp_loadBoxS (Y := .box 52 [iv n, .own 4]) (ds := [iv n, .own 4]) (z := 2) (.tmp 3) rfl Tryd.underlying52 rfl (by kernel_rfl) (by decide) (by kernel_rfl) (by kernel_rfl)) I0 rfl ?_
 refine t_op rfl (sp_storeBox (T0 := 52) (X := .agg [iv n, .own 4]) (cs := [iv 0, .v (.slice none 0 0)]) (ds := [iv n, .own 4]) (z := 2) (.tmp 2) (.tmp 26) rfl (by kernel_rfl) (by kernel_rfl) (by kernel_rfl) (of_decide_eq_true (by kernel_rfl)) (by kernel_rfl)) ⟨I0, I0, T0⟩ ⟨rfl, T0⟩ rfl ?_
 refine kN 27 [(2, .box 52 [iv n, .own 4]), (4, .row true 54 2 j ((rs.take j).flatMap cRo))] [(2, .box 2 0)] ?_
 refine t_then ?_
 refine tri_ret ?_
 have hj : j = rs.length := by omega
 subst hj
 refine tri_give1 4 Tryd.results27 (.cellS rfl rfl Tryd.underlying52 rfl (z := 2) (by kernel_rfl) rfl (by decide)) ?_ rfl
 show some (ABlk.row true _ 2 _ _) = _
 rw [List.take_length]
end Go.Proofs.YtpadmggccpgajaaDoor

namespace Go.Proofs.YtpadmggccpgajaaDoor
open Go.RowKit Go.Deep

def negB (x : Int) : Bool := decide (x < 0)
def triB (xs : List Int) (c : Int) : Bool := decide (0 ≤ c) && !xs.any negB

theorem isNegative_any (x : Int) (w : World) : Calls Tryd.prog 156 #[.int .i64 x] w fun e w' => e = .returned (.bool (negB x)) ∧ w = w' := by
  have E : Hid (negB x = decide (x < 0)) := (rfl : negB x = _)
  by_cases h : x < 0
  · go_enter Tryd.func156, Tryd.ntmps156
    go_wp2
    go_ret
    exact ⟨ret_bool (by rw [E.out]; symm; first | (rw [decide_eq_true_iff]; omega) | (rw [decide_eq_false_iff_not]; omega)), rfl⟩
  · go_enter Tryd.func156, Tryd.ntmps156
    go_wp2
    go_ret
    exact ⟨ret_bool (by rw [E.out]; symm; first | (rw [decide_eq_true_iff]; omega) | (rw [decide_eq_false_iff_not]; omega)), rfl⟩

/-- Where the first such number stands, -1 if there is none. -/
theorem find_negB (xs : List Int) (k : Nat) (h : k < xs.length) (hp : negB xs[k] = true) : xs.any negB = true := List.any_eq_true.2 ⟨_, List.getElem_mem h, hp⟩

set_option maxHeartbeats 800000 in
theorem index_negB_full (b off n cap : Nat) (w : World) (xs : List Int) (hx : xs.length = n) (hn : n ≤ 9223372036854775807)
    (hc : ∀ i, i < n → w.cell? ⟨b, off + i, none⟩ = some (.int .i64 (xs.getD i 0))) :
    Calls Tryd.prog 176 #[.slice (some ⟨b, off, none⟩) n cap, .func (.func 156) #[] #[]] w fun e w' => ∃ r : Int, e = .returned (.int .i64 r) ∧ (decide (0 ≤ r) = xs.any negB) ∧ w = w' := by
  go_enter Tryd.func176, Tryd.ntmps176
  go_wp2_with fail
  go_loop [8] (fun v => ∃ k : Nat, k ≤ n ∧ v = .int .i64 k ∧ (xs.take k).any negB = false) (fun v => n - (intOf v).toNat)
  case atStart => exact ⟨0, Nat.zero_le _, rfl, rfl⟩
  case round =>
    obtain ⟨k, hk, rfl, hall⟩ := hrel
    have HA := hid0 hall
    clear hall
    by_cases h1 : k < n
    · have g1 : w.cell? ⟨b, off + k, none⟩ = some (.int .i64 (xs.getD k 0)) := hc k h1
      cases hp : negB (xs[k]'(by omega)) with
      | true =>
        have E := hid0 (find_negB xs k (by omega) hp)
        go_wp2_with (go_at_call 156; refine (isNegative_any _ _).mono ?_; rintro e w' ⟨rfl, rfl⟩)
        go_ret
        exact ⟨_, rfl, by rw [E.out]; simp, rfl⟩
      | false =>
        go_wp2_with (go_at_call 156; refine (isNegative_any _ _).mono ?_; rintro e w' ⟨rfl, rfl⟩)
        go_round
        case rel => exact ⟨k + 1, by omega, by go_num, by rw [List.take_succ_eq_append_getElem (by omega), List.any_append, HA.out]; simp [hp]⟩
        case measure => simp [intOf]; omega
    · have e1 : xs.take k = xs := List.take_of_length_le (by omega)
      have HA' : Hid (xs.any negB = false) := by rw [← e1]; exact HA.out
      clear e1
      go_wp2_with fail
      go_ret
      exact ⟨-1, rfl, by rw [HA'.out]; simp, rfl⟩
theorem index_negB_empty (a : Option Addr) (cap : Nat) (w : World) :
    Calls Tryd.prog 176 #[.slice a 0 cap, .func (.func 156) #[] #[]] w fun e w' => ∃ r : Int, e = .returned (.int .i64 r) ∧ (decide (0 ≤ r) = ([] : List Int).any negB) ∧ w = w' := by
  go_enter Tryd.func176, Tryd.ntmps176
  go_wp2_with fail
  refine wp_loop_rounds 1 ?_
  rw [rounds_succ]
  go_wp2_with fail
  go_ret
  exact ⟨-1, rfl, rfl, rfl⟩
theorem contains_negB {lo : Nat} {w : World} {v : Value} {xs : List Int} (h : IsInts lo w v xs) :
    Calls Tryd.prog 155 #[v, .func (.func 156) #[] #[]] w fun e w' => e = .returned (.bool (xs.any negB)) ∧ w = w' := by
  have hI : Calls Tryd.prog 176 #[v, .func (.func 156) #[] #[]] w fun e w' => ∃ r : Int, e = .returned (.int .i64 r) ∧ (decide (0 ≤ r) = xs.any negB) ∧ w = w' := by
    obtain ⟨a, cap, rfl, hl, hm, _, hc⟩ := h
    unfold maxLen at hm
    rcases hc with rfl | ⟨b, off, rfl, _, _, hc⟩
    · exact index_negB_empty _ _ _
    · exact index_negB_full _ _ _ _ _ _ rfl (by omega) hc
  obtain ⟨a, cap, rfl⟩ := h.shape
  have HI := hid0 hI
  clear hI h
  go_enter Tryd.func155, Tryd.ntmps155
  go_wp2_with (go_at_call 176; refine Calls.mono (show Calls _ _ _ _ _ from HI.out) ?_; rintro e w' ⟨r, rfl, hr, rfl⟩; have HR := hid0 hr; clear hr)
  go_ret
  exact ⟨ret_bool HR.out, rfl⟩

theorem Trivial_any {lo : Nat} {w : World} {v : Value} {xs : List Int} (c : Int) (h : IsInts lo w v xs) :
    Calls Tryd.prog 123 #[.agg #[v, .int .i64 c]] w fun e w' => e = .returned (.bool (triB xs c)) ∧ Below w.heap.size w w' := by
  have H := hid0 h
  obtain ⟨a, cap, rfl⟩ := h.shape
  clear h
  by_cases hc : 0 ≤ c
  · have E : Hid (triB xs c = !xs.any negB) := by show _ = _; simp [triB, hc]
    go_enter Tryd.func123, Tryd.ntmps123
    go_wp2_with (go_at_call 155; refine (contains_negB (H.out.below (by go_grown))).mono ?_; rintro e w' ⟨rfl, rfl⟩)
    go_ret
    exact ⟨ret_bool E.out.symm, allocBelow _ _⟩
  · have E : Hid (triB xs c = false) := by show _ = _; simp [triB, hc]
    go_enter Tryd.func123, Tryd.ntmps123
    go_wp2_with fail
    go_ret
    exact ⟨ret_bool E.out.symm, allocBelow _ _⟩

set_option maxHeartbeats 400000 in
theorem rTrivial_full (b off n cap : Nat) (c : Int) (w : World) (xs : List Int) (hx : xs.length = n) (hn : n ≤ 9223372036854775807) (hb : b < w.heap.size)
    (hc : ∀ i, i < n → w.cell? ⟨b, off + i, none⟩ = some (.int .i64 (xs.getD i 0))) :
    Calls Tryd.prog 129 #[.agg #[.slice (some ⟨b, off, none⟩) n cap, .int .i64 c]] w fun e w' => e = .returned (.bool (triB xs c)) ∧ Below w.heap.size w w' := by
  have E1 : Hid (triB xs c = (decide (0 ≤ c) && !xs.any negB)) := (rfl : triB xs c = _)
  go_enter Tryd.func129, Tryd.ntmps129
  go_wp2_with fail
  go_loop [3] (fun v => ∃ k : Nat, k ≤ n ∧ v = .int .i64 k ∧ (xs.take k).any negB = false) (fun v => n - (intOf v).toNat)
  case atStart => exact ⟨0, Nat.zero_le _, rfl, rfl⟩
  case round =>
    obtain ⟨k, hk, rfl, hall⟩ := hrel
    have HA := hid0 hall
    clear hall
    by_cases h1 : k < n
    · have g1 : (w.alloc (.cells #[.slice (some ⟨b, off, none⟩) n cap, .int .i64 c] 54)).cell? ⟨b, off + k, none⟩ = some (.int .i64 (xs.getD k 0)) := (World.cell?_alloc_past _ _ _ (by simpa using hb)).trans (hc k h1)
      by_cases hp : (xs[k]'(by omega)) < 0
      · have E := hid0 (find_negB xs k (by omega) (by simpa [negB] using hp))
        go_wp2_with fail
        go_ret
        exact ⟨ret_bool (by rw [E1.out, E.out]; simp), allocBelow _ _⟩
      · have hp' := hid0 hp
        go_wp2_with fail
        go_round
        case rel => exact ⟨k + 1, by omega, by go_num, by rw [List.take_succ_eq_append_getElem (by omega), List.any_append, HA.out]; simpa [negB] using hp'.out⟩
        case measure => simp [intOf]; omega
    · have e1 : xs.take k = xs := List.take_of_length_le (by omega)
      have HA' : Hid (xs.any negB = false) := by rw [← e1]; exact HA.out
      clear e1
      go_wp2_with fail
      go_ret
      exact ⟨ret_bool (by rw [E1.out, HA'.out]; simp), allocBelow _ _⟩
theorem rTrivial_empty (a : Option Addr) (cap : Nat) (c : Int) (w : World) :
    Calls Tryd.prog 129 #[.agg #[.slice a 0 cap, .int .i64 c]] w fun e w' => e = .returned (.bool (triB [] c)) ∧ Below w.heap.size w w' := by
  have E1 : Hid (triB [] c = (decide (0 ≤ c) && !([] : List Int).any negB)) := (rfl : triB [] c = _)
  go_enter Tryd.func129, Tryd.ntmps129
  go_wp2_with fail
  refine wp_loop_rounds 1 ?_
  rw [rounds_succ]
  go_wp2_with fail
  go_ret
  exact ⟨ret_bool (by rw [E1.out]; simp), allocBelow _ _⟩
theorem rTrivial_any {lo : Nat} {w : World} {v : Value} {xs : List Int} (c : Int) (h : IsInts lo w v xs) :
    Calls Tryd.prog 129 #[.agg #[v, .int .i64 c]] w fun e w' => e = .returned (.bool (triB xs c)) ∧ Below w.heap.size w w' := by
  obtain ⟨a, cap, rfl, hl, hm, hi, hc⟩ := h
  unfold maxLen at hm
  rcases hc with rfl | ⟨b, off, rfl, _, hb, hc⟩
  · exact rTrivial_empty _ _ _ _
  · exact rTrivial_full _ _ _ _ _ _ _ rfl (by omega) hb hc
end Go.Proofs.YtpadmggccpgajaaDoor

namespace Go.Proofs.YtpadmggccpgajaaDoor
open Go.RowKit Go.Deep
variable {J : World → Prop}
def tR (r : Rw) : Rw := (tX r.1 r.2, tC r.1 r.2)
theorem smB_I64 {x : Int} (h : smB x = true) : I64 x := by rw [smB_true] at h; unfold I64; omega
theorem tR_small {xs : List Int} {c : Int} (h : smR (xs, c) = true) : smR (tX xs c, tC xs c) = true := by
  unfold tX tC
  split
  · rename_i hh
    obtain ⟨h1, h2⟩ := smR_true.1 h
    have hg : (1 : Int) ≤ gcdL xs 0 := by have := hh.2; omega
    rw [smR_true]
    constructor
    · rw [List.all_eq_true]
      intro y hy
      obtain ⟨x, hx, rfl⟩ := List.mem_map.1 hy
      rw [smB_true]
      exact tdiv_small (List.all_eq_true.1 h1 x hx)
    · rw [smB_true] at h2 ⊢
      obtain ⟨a, b⟩ := h2
      generalize ((gcdL xs 0 : Nat) : Int) = g at hg
      constructor
      · exact (Int.le_ediv_iff_mul_le (a := -68719476736) (b := c) (by omega : 0 < g)).2 (by omega)
      · by_cases hc : 0 ≤ c
        · exact Int.le_trans (Int.ediv_le_self _ hc) b
        · have h3 : c / g ≤ 0 := by
            have := Int.ediv_le_ediv (by omega : 0 < g) (by omega : c ≤ 0)
            simpa using this
          omega
  · exact h
theorem tR_ok {r : Rw} (h : RwOk r) : RwOk (tR r) := by
  by_cases hs : smR (r.1, r.2) = true
  · obtain ⟨h1, h2⟩ := smR_true.1 (tR_small hs)
    exact ⟨fun x hx => smB_I64 (List.all_eq_true.1 h1 x hx), smB_I64 h2⟩
  · have e1 : tX r.1 r.2 = r.1 := by unfold tX; rw [if_neg fun h => hs h.1]
    have e2 : tC r.1 r.2 = r.2 := by unfold tC; rw [if_neg fun h => hs h.1]
    have : tR r = r := Prod.ext e1 e2
    rw [this]; exact h
theorem Tighten_c {r : Rw} (H : RwOk r) (hn : r.1.length ≤ 1000) : Ctr Tryd.prog J 63 [.agg (cRo r)] (.agg (cRo (tR r))) := ctr1 fun w v _ h => by
  obtain ⟨u, rfl, hu⟩ := row_args h
  exact (Tighten_every r.2 (pu_ints H.coef lo00 hu) hn).mono fun _ _ ⟨g, he, ho, hb⟩ => ⟨_, he, .agg rfl fun j hj => (match j, hj with
    | 0, _ => ownI' ho (tX_length _ _).symm
    | 1, _ => .v _), hb⟩
theorem Trivial_c {r : Rw} (H : RwOk r) : Ctr Tryd.prog J 123 [.agg (cRo r)] (bv (triB r.1 r.2)) := ctr1 fun w v _ h => by
  obtain ⟨u, rfl, hu⟩ := row_args h
  exact (Trivial_any r.2 (pu_ints H.coef lo00 hu)).mono fun _ _ ⟨he, hb⟩ => ⟨_, he, .v _, hb⟩
/-- The rows that say something, tightened. -/
def tgs (rs : List Rw) : List Rw := (rs.map tR).filter fun t => !triB t.1 t.2
section
variable {rs : List Rw} {k : Nat}
theorem tgs_yes (hk : k < rs.length) (h : triB (tR rs[k]).1 (tR rs[k]).2 = false) : tgs (rs.take (k + 1)) = tgs (rs.take k) ++ [tR rs[k]] := by
  unfold tgs
  rw [List.take_succ_eq_append_getElem hk, List.map_append, List.filter_append]
  simp [h]
theorem tgs_no (hk : k < rs.length) (h : triB (tR rs[k]).1 (tR rs[k]).2 = true) : tgs (rs.take (k + 1)) = tgs (rs.take k) := by
  unfold tgs
  rw [List.take_succ_eq_append_getElem hk, List.map_append, List.filter_append]
  simp [h]
theorem tgs_ok {ss : List Rw} (h : ∀ r ∈ ss, RwOk r) : ∀ r ∈ tgs ss, RwOk r := fun r hr => by
  unfold tgs at hr
  obtain ⟨x, hx, rfl⟩ := List.mem_map.1 (List.mem_filter.1 hr).1
  exact tR_ok (h x hx)
theorem srt_ok {ss : List Rw} (h : ∀ r ∈ ss, RwOk r) : ∀ r ∈ srt ss, RwOk r := fun r hr => h r ((srt_perm ss).mem_iff.1 hr)
end
/-- The rows of a system in their normal form. -/
def nrm (rs : List Rw) : List Rw := cmpt (srt (tgs rs))
def nmE (n : Int) (rs : List Rw) : Int := valS n rs
def nmR (n : Int) (rs : List Rw) : List Rw := if valS n rs = 0 then nrm rs else []
def nmN (n : Int) (rs : List Rw) : Int := if valS n rs = 0 then n else 0
section
variable {n : Int} {rs : List Rw}
theorem cmpt_sub {ss : List Rw} : ∀ r ∈ cmpt ss, r ∈ ss := by
  have key : ∀ m, m ≤ ss.length → ∀ r ∈ keptR ss m, r ∈ ss := by
    intro m
    induction m with
    | zero => intro _ r h; simp [keptR] at h
    | succ m ih =>
      intro hm r h
      rw [keptR, List.mem_append] at h
      rcases h with h | h
      · exact ih (by omega) r h
      · split at h
        · rw [List.mem_singleton] at h
          rw [h, List.getD_eq_getElem?_getD, List.getElem?_eq_getElem (by omega)]
          exact List.getElem_mem _
        · cases h
  exact key _ (Nat.le_refl _)
theorem keptR_len (ss : List Rw) : ∀ m, (keptR ss m).length ≤ m
  | 0 => Nat.le_refl _
  | m + 1 => by
    have := keptR_len ss m
    rw [keptR, List.length_append]
    split <;> simp <;> omega
theorem nrm_ok (H : SyOk rs) : ∀ r ∈ nrm rs, RwOk r := fun r hr => srt_ok (tgs_ok H.rows) r (cmpt_sub r hr)
theorem nrm_len : (nrm rs).length ≤ rs.length := by
  unfold nrm cmpt
  have h1 := keptR_len (srt (tgs rs)) (srt (tgs rs)).length
  have h2 := srt_len (tgs rs)
  have h3 : (tgs rs).length ≤ rs.length := by
    unfold tgs
    exact Nat.le_trans (List.length_filter_le _ _) (by simp)
  omega
theorem nmR_ok (H : SyOk rs) : SyOk (nmR n rs) := by
  unfold nmR
  split
  · exact ⟨nrm_ok H, Nat.le_trans nrm_len H.len⟩
  · exact ⟨fun x hx => by simp at hx, by simp⟩
theorem nmR_len (hl : rs.length ≤ 250) : (nmR n rs).length ≤ 251 := by
  unfold nmR
  split
  · have := nrm_len (rs := rs); omega
  · simp
theorem nm_e1 (h : ¬ valS n rs = 0) : AV.tup [.agg [iv 0, .sl 2 0 []], iv (valS n rs)] = .tup [.agg (cSy (nmN n rs) (nmR n rs)), iv (nmE n rs)] := by
  unfold nmN nmR nmE; rw [if_neg h, if_neg h]; rfl
theorem nm_ok (h : valS n rs = 0) : AV.tup [.agg [iv n, .sl 2 (nrm rs).length ((nrm rs).flatMap cRo)], iv 0] = .tup [.agg (cSy (nmN n rs) (nmR n rs)), iv (nmE n rs)] := by
  unfold nmN nmR nmE; rw [if_pos h, if_pos h, h]; rfl
end
end Go.Proofs.YtpadmggccpgajaaDoor

namespace Go.Proofs.YtpadmggccpgajaaDoor
theorem eqI_iff {xs ys : List Int} : eqI xs ys = true ↔ xs = ys := by unfold eqI; exact decide_eq_true_iff
/-- One more row is put in. -/
def insT (t : Rw) : List Rw → List Rw
  | [] => [t]
  | x :: xs => if cmpI x.1 t.1 < 0 then x :: insT t xs else if eqI x.1 t.1 then (if t.2 < x.2 then (x.1, t.2) :: xs else x :: xs) else t :: x :: xs
def tdy (ts : List Rw) : List Rw := ts.foldl (fun o t => insT t o) []
def Asc (L : List Rw) : Prop := L.Pairwise fun a b => cmpI a.1 b.1 < 0
/-- A smallest one of its coefficients. -/
def Least (ts : List Rw) (r : Rw) : Prop := r ∈ ts ∧ ∀ s ∈ ts, s.1 = r.1 → r.2 ≤ s.2
theorem asc_ext : ∀ {L M : List Rw}, Asc L → Asc M → (∀ r, r ∈ L ↔ r ∈ M) → L = M
  | [], [], _, _, _ => rfl
  | [], b :: M, _, _, h => absurd ((h b).2 (by simp)) (by simp)
  | a :: L, [], _, _, h => absurd ((h a).1 (by simp)) (by simp)
  | a :: L, b :: M, h1, h2, h => by
    obtain ⟨a1, a2⟩ := List.pairwise_cons.1 h1
    obtain ⟨b1, b2⟩ := List.pairwise_cons.1 h2
    have hab : a = b := by
      rcases List.mem_cons.1 ((h a).1 (by simp)) with e | e
      · exact e
      · rcases List.mem_cons.1 ((h b).2 (by simp)) with e' | e'
        · exact e'.symm
        · have := b1 a e; have := a1 b e'; have := ordI_neg a.1 b.1; omega
    subst hab
    rw [asc_ext a2 b2 fun r => ⟨fun hr => ?_, fun hr => ?_⟩]
    · rcases List.mem_cons.1 ((h r).1 (List.mem_cons_of_mem _ hr)) with e | e
      · subst e; have := a1 r hr; rw [cmpI_self] at this; omega
      · exact e
    · rcases List.mem_cons.1 ((h r).2 (List.mem_cons_of_mem _ hr)) with e | e
      · subst e; have := b1 r hr; rw [cmpI_self] at this; omega
      · exact e
theorem insT_from (t : Rw) : ∀ L : List Rw, ∀ y ∈ insT t L, y.1 = t.1 ∨ ∃ x ∈ L, x.1 = y.1
  | [], y, h => by simp only [insT, List.mem_singleton] at h; subst h; exact .inl rfl
  | x :: xs, y, h => by
    simp only [insT] at h
    split at h
    · rcases List.mem_cons.1 h with rfl | h
      · exact .inr ⟨y, by simp, rfl⟩
      · rcases insT_from t xs y h with h | ⟨z, h1, h2⟩
        · exact .inl h
        · exact .inr ⟨z, List.mem_cons_of_mem _ h1, h2⟩
    · split at h
      · split at h
        · rcases List.mem_cons.1 h with rfl | h
          · exact .inr ⟨x, by simp, rfl⟩
          · exact .inr ⟨y, List.mem_cons_of_mem _ h, rfl⟩
        · exact .inr ⟨y, h, rfl⟩
      · rcases List.mem_cons.1 h with rfl | h
        · exact .inl rfl
        · exact .inr ⟨y, h, rfl⟩
theorem insT_asc (t : Rw) : ∀ L : List Rw, Asc L → Asc (insT t L)
  | [], _ => List.pairwise_singleton _ _
  | x :: xs, h => by
    obtain ⟨h1, h2⟩ := List.pairwise_cons.1 h
    simp only [insT]
    split
    · rename_i hx
      refine List.pairwise_cons.2 ⟨fun y hy => ?_, insT_asc t xs h2⟩
      rcases insT_from t xs y hy with e | ⟨z, hz, e⟩
      · rw [e]; exact hx
      · rw [← e]; exact h1 z hz
    · rename_i hx
      split
      · split
        · exact List.pairwise_cons.2 ⟨fun y hy => h1 y hy, h2⟩
        · exact h
      · rename_i he
        have hlt : cmpI t.1 x.1 < 0 := by
          have a := ordI_neg x.1 t.1
          have b : cmpI x.1 t.1 ≠ 0 := fun e => he (eqI_iff.2 (ordI_eq _ _ e))
          omega
        refine List.pairwise_cons.2 ⟨fun y hy => ?_, h⟩
        rcases List.mem_cons.1 hy with rfl | hy
        · exact hlt
        · exact ordI_trans _ _ _ hlt (h1 y hy)
theorem lt_ne {x y : List Int} (h : cmpI x y < 0) : x ≠ y := fun e => by subst e; rw [cmpI_self] at h; omega
theorem insT_mem (t : Rw) : ∀ L : List Rw, Asc L → ∀ r, r ∈ insT t L ↔ (r ∈ L ∧ (r.1 = t.1 → r.2 ≤ t.2)) ∨ (r = t ∧ ∀ x ∈ L, x.1 = t.1 → t.2 < x.2)
  | [], _, r => by simp [insT]
  | x :: xs, h, r => by
    obtain ⟨h1, h2⟩ := List.pairwise_cons.1 h
    simp only [insT]
    split
    · rename_i hx
      have hne := lt_ne hx
      rw [List.mem_cons, insT_mem t xs h2 r]
      constructor
      · rintro (rfl | ⟨a, b⟩ | ⟨a, b⟩)
        · exact .inl ⟨by simp, fun e => absurd e hne⟩
        · exact .inl ⟨List.mem_cons_of_mem _ a, b⟩
        · refine .inr ⟨a, fun y hy e => ?_⟩
          rcases List.mem_cons.1 hy with rfl | hy
          · exact absurd e hne
          · exact b y hy e
      · rintro (⟨a, b⟩ | ⟨a, b⟩)
        · rcases List.mem_cons.1 a with rfl | a
          · exact .inl rfl
          · exact .inr (.inl ⟨a, b⟩)
        · exact .inr (.inr ⟨a, fun y hy => b y (List.mem_cons_of_mem _ hy)⟩)
    · rename_i hx
      split
      · rename_i he
        have he := eqI_iff.1 he
        have hxs : ∀ y ∈ xs, y.1 ≠ t.1 := fun y hy e => lt_ne (h1 y hy) (by rw [e, he])
        split
        · rename_i hc
          have ht : (x.1, t.2) = t := Prod.ext he rfl
          rw [ht, List.mem_cons]
          constructor
          · rintro (rfl | a)
            · refine .inr ⟨rfl, fun y hy e => ?_⟩
              rcases List.mem_cons.1 hy with rfl | hy
              · exact hc
              · exact absurd e (hxs y hy)
            · exact .inl ⟨List.mem_cons_of_mem _ a, fun e => absurd e (hxs r a)⟩
          · rintro (⟨a, b⟩ | ⟨a, b⟩)
            · rcases List.mem_cons.1 a with rfl | a
              · have := b he; omega
              · exact .inr a
            · exact .inl a
        · rename_i hc
          constructor
          · intro a
            refine .inl ⟨a, fun e => ?_⟩
            rcases List.mem_cons.1 a with rfl | a
            · omega
            · exact absurd e (hxs r a)
          · rintro (⟨a, b⟩ | ⟨a, b⟩)
            · exact a
            · have := b x (by simp) he; omega
      · rename_i he
        have hlt : cmpI t.1 x.1 < 0 := by
          have a := ordI_neg x.1 t.1
          have b : cmpI x.1 t.1 ≠ 0 := fun e => he (eqI_iff.2 (ordI_eq _ _ e))
          omega
        have hall : ∀ y ∈ x :: xs, y.1 ≠ t.1 := fun y hy e => by
          rcases List.mem_cons.1 hy with rfl | hy
          · exact lt_ne hlt e.symm
          · exact lt_ne (ordI_trans _ _ _ hlt (h1 y hy)) e.symm
        rw [List.mem_cons]
        constructor
        · rintro (rfl | a)
          · exact .inr ⟨rfl, fun y hy e => absurd e (hall y hy)⟩
          · exact .inl ⟨a, fun e => absurd e (hall r a)⟩
        · rintro (⟨a, b⟩ | ⟨a, b⟩)
          · exact .inr a
          · exact .inl a
theorem has_least : ∀ (ts : List Rw) (s : Rw), s ∈ ts → ∃ x, Least ts x ∧ x.1 = s.1 ∧ x.2 ≤ s.2
  | [], s, h => by simp at h
  | t :: ts, s, h => by
    have key : ∀ y : Rw, y ∈ t :: ts → (∀ z ∈ ts, z.1 = y.1 → y.2 ≤ z.2) → ∃ x, Least (t :: ts) x ∧ x.1 = y.1 ∧ x.2 ≤ y.2 := fun y hy hz => by
      by_cases e : t.1 = y.1 ∧ t.2 < y.2
      · refine ⟨t, ⟨by simp, fun z hz' e' => ?_⟩, e.1, by omega⟩
        rcases List.mem_cons.1 hz' with rfl | hz'
        · exact Int.le_refl _
        · have := hz z hz' (e'.trans e.1); omega
      · refine ⟨y, ⟨hy, fun z hz' e' => ?_⟩, rfl, Int.le_refl _⟩
        rcases List.mem_cons.1 hz' with rfl | hz'
        · by_cases h2 : z.2 < y.2
          · exact absurd ⟨e', h2⟩ e
          · omega
        · exact hz z hz' e'
    by_cases hm : ∃ z ∈ ts, z.1 = s.1
    · obtain ⟨z, hz, e⟩ := hm
      obtain ⟨x, ⟨x1, x2⟩, x3, x4⟩ := has_least ts z hz
      obtain ⟨y, y1, y2, y3⟩ := key x (List.mem_cons_of_mem _ x1) x2
      refine ⟨y, y1, y2.trans (x3.trans e), y1.2 s h (by rw [y2, x3, e])⟩
    · obtain ⟨y, y1, y2, y3⟩ := key s h fun z hz e => absurd ⟨z, hz, e⟩ hm
      exact ⟨y, y1, y2, y3⟩
theorem insT_inv {L pre : List Rw} {t : Rw} (hL : Asc L) (h : ∀ r, r ∈ L ↔ Least pre r) (r : Rw) : r ∈ insT t L ↔ Least (pre ++ [t]) r := by
  rw [insT_mem t L hL r]
  constructor
  · rintro (⟨a, b⟩ | ⟨rfl, b⟩)
    · obtain ⟨c, d⟩ := (h r).1 a
      refine ⟨by simp [c], fun s hs e => ?_⟩
      rcases List.mem_append.1 hs with hs | hs
      · exact d s hs e
      · rw [List.mem_singleton] at hs; subst hs; exact b e.symm
    · refine ⟨by simp, fun s hs e => ?_⟩
      rcases List.mem_append.1 hs with hs | hs
      · obtain ⟨x, x1, x2, x3⟩ := has_least pre s hs
        have := b x ((h x).2 x1) (x2.trans e)
        omega
      · rw [List.mem_singleton] at hs; subst hs; exact Int.le_refl _
  · rintro ⟨a, b⟩
    by_cases hp : r ∈ pre
    · exact .inl ⟨(h r).2 ⟨hp, fun s hs e => b s (by simp [hs]) e⟩, fun e => b t (by simp) e.symm⟩
    · have e : r = t := by simpa [hp] using a
      subst e
      refine .inr ⟨rfl, fun x hx e => ?_⟩
      have hx := (h x).1 hx
      have h1 := b x (by simp [hx.1]) e
      by_cases h2 : x.2 = r.2
      · exact absurd hx.1 (by rw [Prod.ext e h2]; exact hp)
      · omega
theorem tdy_inv (ts : List Rw) : Asc (tdy ts) ∧ ∀ r, r ∈ tdy ts ↔ Least ts r := by
  have key : ∀ (ts L pre : List Rw), Asc L → (∀ r, r ∈ L ↔ Least pre r) → Asc (ts.foldl (fun o t => insT t o) L) ∧ ∀ r, r ∈ ts.foldl (fun o t => insT t o) L ↔ Least (pre ++ ts) r := by
    intro ts
    induction ts with
    | nil => intro L pre h1 h2; rw [List.append_nil]; exact ⟨h1, h2⟩
    | cons t ts ih =>
      intro L pre h1 h2
      have := ih (insT t L) (pre ++ [t]) (insT_asc t L h1) (insT_inv h1 h2)
      rw [List.append_assoc] at this
      exact this
  exact key ts [] [] List.Pairwise.nil fun r => by simp [Least]
/-- The i-th and the one ahead of it differ. -/
theorem keepR_succ {S : List Rw} {i : Nat} (h : i + 1 < S.length) : keepR S (i + 1) = !eqI S[i + 1].1 S[i].1 := by
  unfold keepR
  simp [List.getD_eq_getElem?_getD, List.getElem?_eq_getElem h, List.getElem?_eq_getElem (show i < S.length by omega)]
theorem keptR_mem {S : List Rw} : ∀ m, m ≤ S.length → ∀ r, r ∈ keptR S m ↔ ∃ i, ∃ h : i < S.length, i < m ∧ keepR S i = true ∧ S[i] = r
  | 0, _, r => by simp [keptR]
  | m + 1, hm, r => by
    have e : S.getD m ([], 0) = S[m]'(by omega) := by rw [List.getD_eq_getElem?_getD, List.getElem?_eq_getElem (by omega)]; rfl
    rw [keptR, List.mem_append, keptR_mem m (by omega) r, e]
    constructor
    · rintro (⟨i, h, a, b, c⟩ | h)
      · exact ⟨i, h, by omega, b, c⟩
      · split at h
        · rename_i hk
          rw [List.mem_singleton] at h
          exact ⟨m, by omega, by omega, hk, h.symm⟩
        · cases h
    · rintro ⟨i, h, a, b, c⟩
      by_cases hi : i = m
      · subst hi
        rw [if_pos b]
        exact .inr (by simp [c])
      · exact .inl ⟨i, h, by omega, b, c⟩
section
variable {S : List Rw}
/-- In their order. -/
def Srtd (S : List Rw) : Prop := ∀ i j, (h : i < S.length) → (h' : j < S.length) → i ≤ j → cmpR S[i] S[j] ≤ 0
theorem cmpR_fst {x y : Rw} (h : cmpR x y ≤ 0) : cmpI x.1 y.1 ≤ 0 := by
  unfold cmpR at h
  by_cases e : cmpI x.1 y.1 = 0
  · omega
  · rw [if_pos e] at h; exact h
theorem cmpR_snd {x y : Rw} (h : cmpR x y ≤ 0) (e : x.1 = y.1) : x.2 ≤ y.2 := by
  unfold cmpR cmpN at h
  rw [e, cmpI_self, if_neg (by simp)] at h
  by_cases h1 : x.2 < y.2
  · omega
  · rw [if_neg h1] at h
    by_cases h2 : y.2 < x.2
    · rw [if_pos h2] at h; omega
    · omega
theorem between_eq {x y z : List Int} (h : cmpI x y ≤ 0) (h' : cmpI y z ≤ 0) (e : x = z) : y = z := by
  subst e
  have := ordI_neg x y
  exact (ordI_eq x y (by omega)).symm
theorem kept_new (hS : Srtd S) {i j : Nat} (hi : i < S.length) (hk : keepR S i = true) (hj : j < i) : S[j].1 ≠ S[i].1 := fun e => by
  obtain ⟨p, rfl⟩ : ∃ p, i = p + 1 := ⟨i - 1, by omega⟩
  rw [keepR_succ hi] at hk
  have h1 := cmpR_fst (hS j p (by omega) (by omega) (by omega))
  have h2 := cmpR_fst (hS p (p + 1) (by omega) (by omega) (by omega))
  have h3 := between_eq h1 h2 e
  rw [h3] at hk
  have : eqI S[p + 1].1 S[p + 1].1 = true := eqI_iff.2 rfl
  rw [this] at hk
  cases hk
theorem kept_asc (hS : Srtd S) : ∀ m, m ≤ S.length → Asc (keptR S m)
  | 0, _ => List.Pairwise.nil
  | m + 1, hm => by
    have e : S.getD m ([], 0) = S[m]'(by omega) := by rw [List.getD_eq_getElem?_getD, List.getElem?_eq_getElem (by omega)]; rfl
    rw [keptR, e]
    refine List.pairwise_append.2 ⟨kept_asc hS m (by omega), ?_, fun a ha b hb => ?_⟩
    · split
      · exact List.pairwise_singleton _ _
      · exact List.Pairwise.nil
    · split at hb
      · rename_i hk
        rw [List.mem_singleton] at hb
        subst hb
        obtain ⟨i, h, h1, h2, rfl⟩ := (keptR_mem m (by omega) a).1 ha
        have h3 := cmpR_fst (hS i m h (by omega) (by omega))
        have h4 : cmpI S[i].1 S[m].1 ≠ 0 := fun e => kept_new hS (by omega) hk h1 (ordI_eq _ _ e)
        omega
      · cases hb
theorem kept_least (hS : Srtd S) (r : Rw) : r ∈ keptR S S.length ↔ Least S r := by
  rw [keptR_mem S.length (Nat.le_refl _) r]
  constructor
  · rintro ⟨i, h, _, hk, rfl⟩
    refine ⟨List.getElem_mem _, fun s hs e => ?_⟩
    obtain ⟨j, hj, rfl⟩ := List.getElem_of_mem hs
    by_cases hij : i ≤ j
    · exact cmpR_snd (hS i j h hj hij) e.symm
    · exact absurd e (kept_new hS h hk (by omega))
  · rintro ⟨a, b⟩
    obtain ⟨j, hj, rfl⟩ := List.getElem_of_mem a
    have key : ∀ n i, i ≤ n → (h : i < S.length) → S[i] = S[j] → ∃ i, ∃ h : i < S.length, i < S.length ∧ keepR S i = true ∧ S[i] = S[j] := by
      intro n
      induction n with
      | zero => intro i hi h e; obtain rfl : i = 0 := (by omega); exact ⟨0, h, h, rfl, e⟩
      | succ n ih =>
        intro i hi h e
        by_cases hk : keepR S i = true
        · exact ⟨i, h, h, hk, e⟩
        · by_cases h0 : i = 0
          · subst h0; exact absurd rfl hk
          · obtain ⟨p, rfl⟩ : ∃ p, i = p + 1 := ⟨i - 1, by omega⟩
            rw [keepR_succ h] at hk
            have h1 : S[p + 1].1 = S[p].1 := eqI_iff.1 (by simpa using hk)
            have h2 := cmpR_snd (hS p (p + 1) (by omega) h (by omega)) h1.symm
            have h3 := b S[p] (List.getElem_mem _) (by rw [← h1, e])
            rw [← e] at h3
            exact ih p (by omega) (by omega) ((Prod.ext h1.symm (by omega)).trans e)
    exact key j j (Nat.le_refl _) hj rfl
end
theorem srt_srtd (ts : List Rw) : Srtd (srt ts) := fun i j h h' hij => by
  rcases Nat.lt_or_ge i j with hlt | hge
  · have hp : (srt ts).Pairwise fun a b => (!ltR b a) = true := List.pairwise_mergeSort (le := fun x y => !ltR y x) (fun a b c h1 h2 => by
      simp only [Bool.not_eq_true'] at h1 h2 ⊢
      exact swoR.ntrans _ _ _ h2 h1) (fun a b => by
      cases e : ltR b a with
      | false => rfl
      | true =>
        cases e' : ltR a b with
        | false => rfl
        | true => have := swoR.trans _ _ _ e e'; rw [swoR.irrefl] at this; cases this) ts
    have := List.pairwise_iff_getElem.1 hp i j h h' hlt
    simp only [Bool.not_eq_true'] at this
    unfold ltR at this
    simp only [decide_eq_false_iff_not, Int.not_lt] at this
    have := ordR_neg (srt ts)[i] (srt ts)[j]
    omega
  · obtain rfl : i = j := by omega
    rw [ordR_self]; omega
/-- THE ONE AND THE OTHER ARE THE SAME. -/
theorem tdy_cmpt (ts : List Rw) : tdy ts = cmpt (srt ts) := by
  obtain ⟨h1, h2⟩ := tdy_inv ts
  refine asc_ext h1 (kept_asc (srt_srtd ts) _ (Nat.le_refl _)) fun r => ?_
  rw [h2 r, show (r ∈ cmpt (srt ts)) = (r ∈ keptR (srt ts) (srt ts).length) from rfl, kept_least (srt_srtd ts) r]
  unfold Least
  simp only [(srt_perm ts).mem_iff]
theorem nrm_tdy (rs : List Rw) : nrm rs = tdy (tgs rs) := (tdy_cmpt _).symm
end Go.Proofs.YtpadmggccpgajaaDoor
