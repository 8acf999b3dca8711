/-
  THE WALK OF ProtocolSizesAll.
-/
import Derived.Test.YtenahfmmijpelaaDoorVSizes
import Derived.Test.YtenahfmmijpelaaDoorBigFam
import Derived.Test.YtenahfmmijpelaaDoorPKnown
import Derived.Test.YtenahfmmijpelaaDoorPOrder
namespace Go.Proofs.YtenahfmmijpelaaDoor
open Go.RowKit Go.Deep
theorem szE_zero {q : Fm} {n : Int} (h : szE q n = 0) : valE q = 0 ∧ inB 1 8 n = true := by
  unfold szE at h
  split at h
  · rename_i h1; exact absurd h h1
  · rename_i h1
    split at h
    · cases h
    · rename_i h2; exact ⟨by omega, by simpa using h2⟩
theorem szL_zero {q : Fm} {n : Int} (h : szE q n = 0) : szL q n = allS q n (n.toNat + 1) (n.toNat + 1) := by unfold szL; rw [if_pos h]
theorem szL_err {q : Fm} {n : Int} (h : szE q n ≠ 0) : szL q n = [] := by unfold szL; rw [if_neg h]
theorem mem_row {q : Fm} {n f : Int} {T : Nat} {s : Sz} : s ∈ rowS q n f T ↔ s.n = n ∧ s.f = f ∧ 0 ≤ s.t ∧ s.t < T ∧ admB q s.n s.t s.f = true := by
  unfold rowS
  rw [List.mem_filter, List.mem_map]
  constructor
  · rintro ⟨⟨t, ht, rfl⟩, h⟩
    have := List.mem_range.1 ht
    exact ⟨rfl, rfl, by show (0 : Int) ≤ t; omega, by show (t : Int) < T; omega, h⟩
  · rintro ⟨h1, h2, h3, h4, h5⟩
    refine ⟨⟨s.t.toNat, List.mem_range.2 (by omega), ?_⟩, h5⟩
    cases s
    simp only [Sz.mk.injEq]
    dsimp only at h1 h2 h3
    exact ⟨h1.symm, by omega, h2.symm⟩
theorem mem_all {q : Fm} {n t f : Int} (h : szE q n = 0) : decide ((⟨n, t, f⟩ : Sz) ∈ szL q n) = admB q n t f := by
  have hn := (szE_zero h).2
  unfold inB at hn
  simp only [Bool.and_eq_true, decide_eq_true_eq] at hn
  rw [szL_zero h]
  have key : (⟨n, t, f⟩ : Sz) ∈ allS q n (n.toNat + 1) (n.toNat + 1) ↔ admB q n t f = true := by
    unfold allS
    rw [List.mem_flatMap]
    constructor
    · rintro ⟨g, _, h⟩
      exact (mem_row.1 h).2.2.2.2
    · intro h
      have h' := h
      unfold admB inB at h'
      simp only [Bool.and_eq_true, decide_eq_true_eq] at h'
      obtain ⟨⟨⟨⟨⟨-, h1⟩, h2⟩, -⟩, -⟩, -⟩ := h'
      exact ⟨f.toNat, List.mem_range.2 (by omega), mem_row.2 ⟨rfl, by show f = _; omega, h1.1, by show t < _; omega, h⟩⟩
  cases hb : admB q n t f with
  | true => exact decide_eq_true (key.2 hb)
  | false => exact decide_eq_false fun hh => by rw [key.1 hh] at hb; cases hb
theorem mem_take_succ {α : Type} [DecidableEq α] {s : α} {xs : List α} {k : Nat} (h : k < xs.length) : decide (s ∈ xs.take (k + 1)) = (decide (s ∈ xs.take k) || decide (xs[k] = s)) := by
  rw [List.take_succ_eq_append_getElem h, Bool.eq_iff_iff]
  simp only [List.mem_append, List.mem_singleton, Bool.or_eq_true, decide_eq_true_eq]
  constructor
  · rintro (h | h)
    · exact .inl h
    · exact .inr h.symm
  · rintro (h | h)
    · exact .inl h
    · exact .inr h.symm
theorem quiet_eqSz {o : Oper} {a : Act} {C : World → Prop} {K : Act → Prop} (x y : Operand) (ho : o.op = .binOp .eql 43 x y 43) (a1 a2 a3 b1 b2 b3 : Int)
    (hx : a.eval x = .agg #[.int .i64 a1, .int .i64 a2, .int .i64 a3]) (hy : a.eval y = .agg #[.int .i64 b1, .int .i64 b2, .int .i64 b3])
    (h : K (a.put o.dst (.bool (decide (a1 = b1) && (decide (a2 = b2) && decide (a3 = b3)))))) : o.quiet Tryd.prog a C K :=
  ⟨.bool (decide (a1 = b1) && (decide (a2 = b2) && decide (a3 = b3))), fun w hw => by
    unfold Oper.quietAt execOp
    simp only [ho, hx, hy]
    clear ho hx hy h
    go_simp
    by_cases h1 : a1 = b1
    · by_cases h2 : a2 = b2
      · by_cases h3 : a3 = b3
        · rw [if_pos h1, if_pos h2, if_pos h3]; exact ⟨rfl, by simp [h1, h2, h3]⟩
        · rw [if_pos h1, if_pos h2, if_neg h3]; exact ⟨rfl, by simp [h3]⟩
      · rw [if_pos h1, if_neg h2]; exact ⟨rfl, by simp [h2]⟩
    · rw [if_neg h1]; exact ⟨rfl, by simp [h1]⟩, h⟩
theorem szeq (a : Sz) (n t f : Int) : (decide (a.n = n) && (decide (a.t = t) && decide (a.f = f))) = decide (a = (⟨n, t, f⟩ : Sz)) := by
  cases a; rw [Bool.eq_iff_iff]; simp
def ltS (a b : Sz) : Prop := a.n = b.n ∧ (a.f < b.f ∨ (a.f = b.f ∧ a.t < b.t))
theorem row_asc (q : Fm) (n f : Int) (T : Nat) : (rowS q n f T).Pairwise ltS := by
  unfold rowS
  refine List.Pairwise.filter _ ?_
  rw [List.pairwise_map]
  exact List.pairwise_lt_range.imp fun {a b} h => ⟨rfl, .inr ⟨rfl, by show (a : Int) < b; omega⟩⟩
theorem all_asc (q : Fm) (n : Int) (m F : Nat) : (allS q n m F).Pairwise ltS := by
  unfold allS
  rw [List.pairwise_flatMap]
  refine ⟨fun f _ => row_asc q n f m, List.pairwise_lt_range.imp fun {a b} h x hx y hy => ?_⟩
  obtain ⟨x1, x2, -⟩ := mem_row.1 hx
  obtain ⟨y1, y2, -⟩ := mem_row.1 hy
  exact ⟨by omega, .inl (by omega)⟩
theorem cmpN_eq {x y : Int} (h : x = y) : cmpN x y = 0 := by unfold cmpN; rw [if_neg (by omega), if_neg (by omega)]
theorem cmpN_lt {x y : Int} (h : x < y) : cmpN x y = -1 := by unfold cmpN; rw [if_pos h]
theorem ord_lt {a b : Sz} (h : ltS a b) : ordS a.n a.t a.f b.n b.t b.f < 0 := by
  obtain ⟨h1, h2⟩ := h
  unfold ordS
  rw [cmpN_eq h1]
  rcases h2 with h2 | ⟨h2, h3⟩
  · rw [cmpN_lt h2]; simp [orI]
  · rw [cmpN_eq h2, cmpN_lt h3]; simp [orI]
theorem szl_asc {q : Fm} {n : Int} (h : szE q n = 0) (k : Nat) (a b : Sz) (ha : (szL q n)[k]? = some a) (hb : (szL q n)[k + 1]? = some b) : ordS a.n a.t a.f b.n b.t b.f < 0 := by
  have := all_asc q n (n.toNat + 1) (n.toNat + 1)
  rw [← szL_zero h, List.pairwise_iff_getElem] at this
  obtain ⟨h1, rfl⟩ := List.getElem?_eq_some_iff.1 ha
  obtain ⟨h2, rfl⟩ := List.getElem?_eq_some_iff.1 hb
  exact ord_lt (this k (k + 1) h1 h2 (by omega))
theorem szl_adm {q : Fm} {n : Int} (h : szE q n = 0) (a : Sz) (ha : a ∈ szL q n) : (decide (valE q = 0) && admB q a.n a.t a.f) = true := by
  have h2 := ha
  rw [szL_zero h] at h2
  unfold allS at h2
  obtain ⟨g, _, hg⟩ := List.mem_flatMap.1 h2
  rw [decide_eq_true (szE_zero h).1, Bool.true_and]
  exact (mem_row.1 hg).2.2.2.2
set_option maxRecDepth 100000 in
set_option maxHeartbeats 12800000 in
theorem walk_SizesAll {v : Value} {q : Fm} {n t f : Int} (w : World) (hq : IsFam 0 w v q) (_bn : I64 n) (_bt : I64 t) (_bf : I64 f) (ht : TabW w) :
    Calls Tryd.prog 5 #[v, .agg #[.int .i64 n, .int .i64 t, .int .i64 f]] w fun e w' => e = .returned (.bool true) ∧ Below w.heap.size w w' := by
  clear _bn _bt _bf
  have HT := Lib.hid ht
  clear ht
  have HQ := Lib.hid hq
  obtain ⟨v2, v3, v4, v6, v7, v8, v9, rfl, hnm, _, h2, h3, h4, _, h6, h7, h8, h9⟩ := hq
  obtain ⟨a2, c2, rfl⟩ := h2.shape
  obtain ⟨a3, c3, rfl⟩ := h3.shape
  obtain ⟨a4, c4, rfl⟩ := h4.shape
  obtain ⟨a6, c6, rfl⟩ := h6.shape
  obtain ⟨a7, c7, rfl⟩ := h7.shape
  obtain ⟨a8, c8, rfl⟩ := h8.shape
  obtain ⟨a9, c9, rfl⟩ := h9.shape
  have H9 := Lib.hid h9
  clear hnm h2 h3 h4 h6 h7 h8 h9
  go_enter Tryd.func5, Tryd.ntmps5
  go_upto_region 1 with (fail)
  obtain ⟨W, hW⟩ : ∃ W : World, W = (w.alloc (.cells #[.string q.nm, .int .i64 q.top, .slice a2 q.states.length c2, .slice a3 q.msgs.length c3, .slice a4 q.vals.length c4, .int .i64 q.fault, .slice a6 q.res.length c6, .slice a7 q.init.length c7, .slice a8 q.leader.length c8, .slice a9 q.rules.length c9] 27)).alloc (.cells #[.int .i64 n, .int .i64 t, .int .i64 f] 43) := ⟨_, rfl⟩
  rw [← hW]
  have WB := Lib.hid (show Below w.heap.size w W by rw [hW]; go_grown)
  have WP := Lib.hid (show W.heap[w.heap.size]? = some (.cells #[.string q.nm, .int .i64 q.top, .slice a2 q.states.length c2, .slice a3 q.msgs.length c3, .slice a4 q.vals.length c4, .int .i64 q.fault, .slice a6 q.res.length c6, .slice a7 q.init.length c7, .slice a8 q.leader.length c8, .slice a9 q.rules.length c9] 27 (0, 0)) by rw [hW]; exact (heap_old _ _ (by simp)).trans (heap_new _ _ rfl))
  have WS := Lib.hid (show W.heap[w.heap.size + 1]? = some (.cells #[.int .i64 n, .int .i64 t, .int .i64 f] 43 (0, 0)) by rw [hW]; exact heap_new _ _ (by simp))
  clear hW
  have WPn := Lib.hid (show ∀ n : WIn (Below W.heap.size W), n.val.heap[w.heap.size]? = some (.cells #[.string q.nm, .int .i64 q.top, .slice a2 q.states.length c2, .slice a3 q.msgs.length c3, .slice a4 q.vals.length c4, .int .i64 q.fault, .slice a6 q.res.length c6, .slice a7 q.init.length c7, .slice a8 q.leader.length c8, .slice a9 q.rules.length c9] 27 (0, 0)) from fun n => keepB WP.out n.ok)
  have WBn := Lib.hid (show ∀ n : WIn (Below W.heap.size W), Below w.heap.size w n.val from fun n => thenBelow WB.out n.ok)
  have WSn := Lib.hid (show ∀ n' : WIn (Below W.heap.size W), n'.val.heap[w.heap.size + 1]? = some (.cells #[.int .i64 n, .int .i64 t, .int .i64 f] 43 (0, 0)) from fun n' => keepB WS.out n'.ok)
  refine wp_cls_seq ?_
  refine BigFrame.wpQuiet_want (by rfl) (fun K hK => ?_)
  refine quiet_ld Tryd.underlying27 info_prot (.tmp 2) (by rfl) w.heap.size 0 [.string q.nm, .int .i64 q.top, .slice a2 q.states.length c2, .slice a3 q.msgs.length c3, .slice a4 q.vals.length c4, .int .i64 q.fault, .slice a6 q.res.length c6, .slice a7 q.init.length c7, .slice a8 q.leader.length c8, .slice a9 q.rules.length c9] (by rfl) (by rfl) (by rintro _ ⟨n', rfl⟩; exact rangeBlock (WPn.out n')) (hK _ ?_)
  clear hK K
  simp only [Act.put, List.setIfInBounds_toArray, List.set_cons_succ, List.set_cons_zero]
  go_big_quiet_step (((with_reducible refine (Big_any (HQ.out.below (WBn.out _))).mono ?_); rintro e w1 ⟨rfl, hb⟩; exact ⟨rfl, ⟨w1, thenBelow (WIn.ok _) hb⟩, rfl⟩))
  refine wpQuiet_nil ?_
  intro n'
  have YS := Lib.hid (WSn.out n')
  have YP := Lib.hid (WPn.out n')
  have YB := Lib.hid (WBn.out n')
  generalize n'.val = Y at YP YB YS ⊢
  clear n' WPn WBn WSn
  clear WB WP WS
  cases hB : bigF q with
  | true =>
    clear hB
    go_wp2_with (go_at_call 10; refine (vknown_any _ (HT.out.below YB.out)).mono ?_; rintro e wk ⟨rfl, hbk⟩)
    go_ret
    exact ⟨rfl, thenBelow YB.out hbk⟩
  | false =>
    clear hB
    have y0 : Y.cell? ⟨w.heap.size + 1, 0, none⟩ = some (.int .i64 n) := cellB YS.out 0 rfl
    go_upto_region 3 with (fail)
    refine wp_region_lit ?_
    refine ld_mid Tryd.underlying27 info_prot (by rfl) (.tmp 2) (by rfl) w.heap.size 0 [.string q.nm, .int .i64 q.top, .slice a2 q.states.length c2, .slice a3 q.msgs.length c3, .slice a4 q.vals.length c4, .int .i64 q.fault, .slice a6 q.res.length c6, .slice a7 q.init.length c7, .slice a8 q.leader.length c8, .slice a9 q.rules.length c9] (by rfl) (by rfl) (rangeBlock YP.out) ?_
    iterate 2
      refine wpList_step fun K hK => ?_
      go_simp
      refine hK _ _ ?_
      clear hK K
    refine wpList_step fun K hK => ?_
    go_simp
    go_at_call 14
    (with_reducible refine (Sizes_any n (HQ.out.below YB.out)).mono ?_)
    rintro e Z ⟨v', rfl, hO, hb⟩
    have ZB := Lib.hid (thenBelow YB.out hb)
    have ZP := Lib.hid (keepB YP.out hb)
    have ZS := Lib.hid (keepB YS.out hb)
    obtain ⟨a, c, rfl⟩ := rows_shape hO.1
    have HO := Lib.hid hO
    clear hO
    go_simp
    refine hK _ _ ?_
    clear hK K hb YP YB YS y0
    by_cases v0 : szE q n = 0
    rotate_left
    · have V0 := Lib.hid v0
      have i0 : (szE q n != 0) = true := by simpa using v0
      rw [szL_err v0] at HO ⊢
      clear v0
      have i1 : ((([] : List Sz).length : Nat) : Int) = 0 := rfl
      go_wp2_with (go_at_call 10; refine (vknown_any _ (HT.out.below ZB.out)).mono ?_; rintro e wk ⟨rfl, hbk⟩)
      go_ret
      exact ⟨rfl, thenBelow ZB.out hbk⟩
    · have V0 := Lib.hid v0
      rw [v0]
      have HM := Lib.hid (mem_all (t := t) (f := f) v0)
      have HA := Lib.hid (szl_asc v0)
      have HD := Lib.hid (szl_adm v0)
      have hlb := HO.out.sl.bound
      clear v0
      obtain ⟨l, hl⟩ : ∃ l, l = szL q n := ⟨_, rfl⟩
      rw [← hl] at HO HM HA HD hlb ⊢
      clear hl
      have HLB := Lib.hid hlb
      go_wp2_with fail
      go_loopw [7, 8] (fun v u wr => ∃ k : Nat, k ≤ l.length ∧ u = .int .i64 k ∧ v = .bool (decide ((⟨n, t, f⟩ : Sz) ∈ l.take k)) ∧ Below Z.heap.size Z wr) (fun _ u _ => l.length - (intOf u).toNat)
      case atStart => exact ⟨0, Nat.zero_le _, rfl, by simp, Below.refl _ _⟩
      case round =>
        obtain ⟨k, hk, rfl, rfl, hB⟩ := hrel
        have XO := Lib.hid (HO.out.still hB)
        have XZ := Lib.hid hB
        have XB := Lib.hid (thenBelow ZB.out hB)
        have XP := Lib.hid (keepB ZP.out hB)
        have XS := Lib.hid (keepB ZS.out hB)
        clear hB
        generalize hX : wr = X at XO XZ XB XP XS ⊢
        clear hX
        by_cases h1 : k < l.length
        · obtain ⟨g, o, cs, hab, -, hlt, hcl, hcc, hel⟩ := XO.out.sl.at k h1
          cases hab
          have HR0 := Lib.hid (rangeOf hcl hcc)
          rw [hel.1] at HR0
          have HADM := Lib.hid (HD.out _ (List.getElem_mem h1))
          have HASC := Lib.hid (fun (j : Nat) (a : Sz) (hj : j + 1 = k) (ha : l[j]? = some a) => HA.out j a l[k] ha (by rw [hj]; exact List.getElem?_eq_getElem h1))
          have HMEM := Lib.hid (mem_take_succ (s := (⟨n, t, f⟩ : Sz)) h1)
          clear hcl hcc hel
          have XPn := Lib.hid (show ∀ n : WIn (Below X.heap.size X), n.val.heap[w.heap.size]? = some (.cells #[.string q.nm, .int .i64 q.top, .slice a2 q.states.length c2, .slice a3 q.msgs.length c3, .slice a4 q.vals.length c4, .int .i64 q.fault, .slice a6 q.res.length c6, .slice a7 q.init.length c7, .slice a8 q.leader.length c8, .slice a9 q.rules.length c9] 27 (0, 0)) from fun n => keepB XP.out n.ok)
          have XBn := Lib.hid (show ∀ n : WIn (Below X.heap.size X), Below w.heap.size w n.val from fun n => thenBelow XB.out n.ok)
          have XSn := Lib.hid (show ∀ n' : WIn (Below X.heap.size X), n'.val.heap[w.heap.size + 1]? = some (.cells #[.int .i64 n, .int .i64 t, .int .i64 f] 43 (0, 0)) from fun n' => keepB XS.out n'.ok)
          generalize l[k] = x at HR0 HADM HASC HMEM
          have XR := Lib.hid (fun n' : WIn (Below X.heap.size X) => rangeBelow HR0.out n'.ok)
          go_upto_region 10 with (fail)
          cases hm : decide ((⟨n, t, f⟩ : Sz) ∈ l.take k) with
          | true =>
            have HM1 := Lib.hid hm
            clear hm
            refine wp_cls (by kernel_rfl) (by kernel_rfl) ?_
            iterate 10 go_big_quiet_step (fail)
            refine wpQuiet_nil ?_
            intro n'
            have VO := Lib.hid (XO.out.still n'.ok)
            have VZ := Lib.hid (thenBelow XZ.out n'.ok)
            have VB := Lib.hid (XBn.out n')
            have VP := Lib.hid (XPn.out n')
            have VR0 := Lib.hid (XR.out n')
            generalize n'.val = V at VO VZ VB VP VR0 ⊢
            clear n' XPn XBn XSn XR XP XS XB XO XZ HR0
            have VPn := Lib.hid (show ∀ n : WIn (Below V.heap.size V), n.val.heap[w.heap.size]? = some (.cells #[.string q.nm, .int .i64 q.top, .slice a2 q.states.length c2, .slice a3 q.msgs.length c3, .slice a4 q.vals.length c4, .int .i64 q.fault, .slice a6 q.res.length c6, .slice a7 q.init.length c7, .slice a8 q.leader.length c8, .slice a9 q.rules.length c9] 27 (0, 0)) from fun n => keepB VP.out n.ok)
            have VBn := Lib.hid (show ∀ n : WIn (Below V.heap.size V), Below w.heap.size w n.val from fun n => thenBelow VB.out n.ok)
            have VR := Lib.hid (fun n' : WIn (Below V.heap.size V) => rangeBelow VR0.out n'.ok)
            go_upto_region 11 with (fail)
            by_cases hk0 : k = 0
            · have hk2 : decide ((0 : Int) < ((k : Nat) : Int)) = false := decide_eq_false (by omega)
              have hk4 : decide (0 < k) = false := decide_eq_false (by omega)
              clear hk0
              refine wp_cls (by kernel_rfl) (by kernel_rfl) ?_
              iterate 16 go_big_quiet_step (fail)
              refine BigFrame.wpQuiet_want (by rfl) (fun K hK => ?_)
              refine quiet_ld Tryd.underlying27 info_prot (.tmp 2) (by rfl) w.heap.size 0 [.string q.nm, .int .i64 q.top, .slice a2 q.states.length c2, .slice a3 q.msgs.length c3, .slice a4 q.vals.length c4, .int .i64 q.fault, .slice a6 q.res.length c6, .slice a7 q.init.length c7, .slice a8 q.leader.length c8, .slice a9 q.rules.length c9] (by rfl) (by rfl) (by rintro _ ⟨n', rfl⟩; exact rangeBlock (VPn.out n')) (hK _ ?_)
              clear hK K
              simp only [Act.put, List.setIfInBounds_toArray, List.set_cons_succ, List.set_cons_zero]
              iterate 3 go_big_quiet_step (fail)
              refine BigFrame.wpQuiet_want (by rfl) (fun K hK => ?_)
              refine quiet_ld Tryd.underlying43 info_sz (.tmp 61) (by rfl) g (o + k * 3) [.int .i64 x.n, .int .i64 x.t, .int .i64 x.f] (by rfl) (by rfl) (by rintro _ ⟨n', rfl⟩; exact VR.out n') (hK _ ?_)
              clear hK K
              simp only [Act.put, List.setIfInBounds_toArray, List.set_cons_succ, List.set_cons_zero]
              go_big_quiet_step (((with_reducible refine (Admissible_any x.n x.t x.f (HQ.out.below (VBn.out _))).mono ?_); rw [HADM.out]; rintro e w1 ⟨rfl, hb⟩; exact ⟨rfl, ⟨w1, thenBelow (WIn.ok _) hb⟩, rfl⟩))
              iterate 2 go_big_quiet_step (fail)
              refine wpQuiet_nil ?_
              intro n'
              go_wp2_with fail
              go_roundw
              case rel => exact ⟨k + 1, by omega, by go_num, by rw [HMEM.out, HM1.out]; rfl, thenBelow VZ.out n'.ok⟩
              case measure => simp [intOf]; omega
            · obtain ⟨j, rfl⟩ : ∃ j, k = j + 1 := ⟨k - 1, by omega⟩
              have hj : j < l.length := by omega
              obtain ⟨g', o', cs', hab', -, hlt', hcl', hcc', hel'⟩ := VO.out.sl.at j hj
              cases hab'
              have VJ0 := Lib.hid (rangeOf hcl' hcc')
              rw [hel'.1] at VJ0
              have VJ := Lib.hid (fun n' : WIn (Below V.heap.size V) => rangeBelow VJ0.out n'.ok)
              have hord := HASC.out j l[j] rfl (List.getElem?_eq_getElem hj)
              clear hcl' hcc' hel' VJ0
              generalize l[j] = y at VJ hord
              generalize hcc : ordS y.n y.t y.f x.n x.t x.f = cc at hord
              have HCC := Lib.hid hcc
              clear hcc
              have hk2 : (0 : Int) < ((j + 1 : Nat) : Int) := by omega
              have hk3 : ¬ (0 : Int) ≤ cc := by omega
              refine wp_cls (by kernel_rfl) (by kernel_rfl) ?_
              iterate 7 go_big_quiet_step (fail)
              refine BigFrame.wpQuiet_want (by rfl) (fun K hK => ?_)
              refine quiet_ld Tryd.underlying43 info_sz (.tmp 48) (by rfl) g (o + j * 3) [.int .i64 y.n, .int .i64 y.t, .int .i64 y.f] (by rfl) (by rfl) (by rintro _ ⟨n', rfl⟩; exact VJ.out n') (hK _ ?_)
              clear hK K
              simp only [Act.put, List.setIfInBounds_toArray, List.set_cons_succ, List.set_cons_zero]
              iterate 3 go_big_quiet_step (fail)
              refine BigFrame.wpQuiet_want (by rfl) (fun K hK => ?_)
              refine quiet_ld Tryd.underlying43 info_sz (.tmp 52) (by rfl) g (o + (j + 1) * 3) [.int .i64 x.n, .int .i64 x.t, .int .i64 x.f] (by rfl) (by rfl) (by rintro _ ⟨n', rfl⟩; exact VR.out n') (hK _ ?_)
              clear hK K
              simp only [Act.put, List.setIfInBounds_toArray, List.set_cons_succ, List.set_cons_zero]
              go_big_quiet_step (((with_reducible refine (sizeCompare_any y.n y.t y.f x.n x.t x.f _).mono ?_); rw [HCC.out]; rintro e w1 ⟨rfl, hb⟩; exact ⟨rfl, ⟨w1, thenBelow (WIn.ok _) hb⟩, rfl⟩))
              iterate 3 go_big_quiet_step (fail)
              refine BigFrame.wpQuiet_want (by rfl) (fun K hK => ?_)
              refine quiet_ld Tryd.underlying27 info_prot (.tmp 2) (by rfl) w.heap.size 0 [.string q.nm, .int .i64 q.top, .slice a2 q.states.length c2, .slice a3 q.msgs.length c3, .slice a4 q.vals.length c4, .int .i64 q.fault, .slice a6 q.res.length c6, .slice a7 q.init.length c7, .slice a8 q.leader.length c8, .slice a9 q.rules.length c9] (by rfl) (by rfl) (by rintro _ ⟨n', rfl⟩; exact rangeBlock (VPn.out n')) (hK _ ?_)
              clear hK K
              simp only [Act.put, List.setIfInBounds_toArray, List.set_cons_succ, List.set_cons_zero]
              iterate 3 go_big_quiet_step (fail)
              refine BigFrame.wpQuiet_want (by rfl) (fun K hK => ?_)
              refine quiet_ld Tryd.underlying43 info_sz (.tmp 61) (by rfl) g (o + (j + 1) * 3) [.int .i64 x.n, .int .i64 x.t, .int .i64 x.f] (by rfl) (by rfl) (by rintro _ ⟨n', rfl⟩; exact VR.out n') (hK _ ?_)
              clear hK K
              simp only [Act.put, List.setIfInBounds_toArray, List.set_cons_succ, List.set_cons_zero]
              go_big_quiet_step (((with_reducible refine (Admissible_any x.n x.t x.f (HQ.out.below (VBn.out _))).mono ?_); rw [HADM.out]; rintro e w1 ⟨rfl, hb⟩; exact ⟨rfl, ⟨w1, thenBelow (WIn.ok _) hb⟩, rfl⟩))
              iterate 2 go_big_quiet_step (fail)
              refine wpQuiet_nil ?_
              intro n'
              go_wp2_with fail
              go_roundw
              case rel => exact ⟨j + 1 + 1, by omega, by go_num, by rw [HMEM.out, HM1.out]; rfl, thenBelow VZ.out n'.ok⟩
              case measure => simp [intOf]; omega
          | false =>
            have HM1 := Lib.hid hm
            clear hm
            refine wp_cls (by kernel_rfl) (by kernel_rfl) ?_
            iterate 5 go_big_quiet_step (fail)
            refine BigFrame.wpQuiet_want (by rfl) (fun K hK => ?_)
            refine quiet_ld Tryd.underlying43 info_sz (.tmp 37) (by rfl) g (o + k * 3) [.int .i64 x.n, .int .i64 x.t, .int .i64 x.f] (by rfl) (by rfl) (by rintro _ ⟨n', rfl⟩; exact XR.out n') (hK _ ?_)
            clear hK K
            simp only [Act.put, List.setIfInBounds_toArray, List.set_cons_succ, List.set_cons_zero]
            refine BigFrame.wpQuiet_want (by rfl) (fun K hK => ?_)
            refine quiet_ld Tryd.underlying43 info_sz (.tmp 3) (by rfl) (w.heap.size + 1) (0) [.int .i64 n, .int .i64 t, .int .i64 f] (by rfl) (by rfl) (by rintro _ ⟨n', rfl⟩; exact rangeBlock (XSn.out n')) (hK _ ?_)
            clear hK K
            simp only [Act.put, List.setIfInBounds_toArray, List.set_cons_succ, List.set_cons_zero]
            refine BigFrame.wpQuiet_want (by rfl) (fun K hK => ?_)
            refine quiet_eqSz (.tmp 38) (.tmp 39) (by rfl) x.n x.t x.f n t f (by rfl) (by rfl) (hK _ ?_)
            clear hK K
            simp only [Act.put, List.setIfInBounds_toArray, List.set_cons_succ, List.set_cons_zero]
            iterate 2 go_big_quiet_step (fail)
            refine wpQuiet_nil ?_
            intro n'
            have VO := Lib.hid (XO.out.still n'.ok)
            have VZ := Lib.hid (thenBelow XZ.out n'.ok)
            have VB := Lib.hid (XBn.out n')
            have VP := Lib.hid (XPn.out n')
            have VR0 := Lib.hid (XR.out n')
            generalize n'.val = V at VO VZ VB VP VR0 ⊢
            clear n' XPn XBn XSn XR XP XS XB XO XZ HR0
            have VPn := Lib.hid (show ∀ n : WIn (Below V.heap.size V), n.val.heap[w.heap.size]? = some (.cells #[.string q.nm, .int .i64 q.top, .slice a2 q.states.length c2, .slice a3 q.msgs.length c3, .slice a4 q.vals.length c4, .int .i64 q.fault, .slice a6 q.res.length c6, .slice a7 q.init.length c7, .slice a8 q.leader.length c8, .slice a9 q.rules.length c9] 27 (0, 0)) from fun n => keepB VP.out n.ok)
            have VBn := Lib.hid (show ∀ n : WIn (Below V.heap.size V), Below w.heap.size w n.val from fun n => thenBelow VB.out n.ok)
            have VR := Lib.hid (fun n' : WIn (Below V.heap.size V) => rangeBelow VR0.out n'.ok)
            go_upto_region 11 with (fail)
            by_cases hk0 : k = 0
            · have hk2 : decide ((0 : Int) < ((k : Nat) : Int)) = false := decide_eq_false (by omega)
              have hk4 : decide (0 < k) = false := decide_eq_false (by omega)
              clear hk0
              refine wp_cls (by kernel_rfl) (by kernel_rfl) ?_
              iterate 16 go_big_quiet_step (fail)
              refine BigFrame.wpQuiet_want (by rfl) (fun K hK => ?_)
              refine quiet_ld Tryd.underlying27 info_prot (.tmp 2) (by rfl) w.heap.size 0 [.string q.nm, .int .i64 q.top, .slice a2 q.states.length c2, .slice a3 q.msgs.length c3, .slice a4 q.vals.length c4, .int .i64 q.fault, .slice a6 q.res.length c6, .slice a7 q.init.length c7, .slice a8 q.leader.length c8, .slice a9 q.rules.length c9] (by rfl) (by rfl) (by rintro _ ⟨n', rfl⟩; exact rangeBlock (VPn.out n')) (hK _ ?_)
              clear hK K
              simp only [Act.put, List.setIfInBounds_toArray, List.set_cons_succ, List.set_cons_zero]
              iterate 3 go_big_quiet_step (fail)
              refine BigFrame.wpQuiet_want (by rfl) (fun K hK => ?_)
              refine quiet_ld Tryd.underlying43 info_sz (.tmp 61) (by rfl) g (o + k * 3) [.int .i64 x.n, .int .i64 x.t, .int .i64 x.f] (by rfl) (by rfl) (by rintro _ ⟨n', rfl⟩; exact VR.out n') (hK _ ?_)
              clear hK K
              simp only [Act.put, List.setIfInBounds_toArray, List.set_cons_succ, List.set_cons_zero]
              go_big_quiet_step (((with_reducible refine (Admissible_any x.n x.t x.f (HQ.out.below (VBn.out _))).mono ?_); rw [HADM.out]; rintro e w1 ⟨rfl, hb⟩; exact ⟨rfl, ⟨w1, thenBelow (WIn.ok _) hb⟩, rfl⟩))
              iterate 2 go_big_quiet_step (fail)
              refine wpQuiet_nil ?_
              intro n'
              go_wp2_with fail
              go_roundw
              case rel => exact ⟨k + 1, by omega, by go_num, by rw [HMEM.out, HM1.out, ← szeq]; rfl, thenBelow VZ.out n'.ok⟩
              case measure => simp [intOf]; omega
            · obtain ⟨j, rfl⟩ : ∃ j, k = j + 1 := ⟨k - 1, by omega⟩
              have hj : j < l.length := by omega
              obtain ⟨g', o', cs', hab', -, hlt', hcl', hcc', hel'⟩ := VO.out.sl.at j hj
              cases hab'
              have VJ0 := Lib.hid (rangeOf hcl' hcc')
              rw [hel'.1] at VJ0
              have VJ := Lib.hid (fun n' : WIn (Below V.heap.size V) => rangeBelow VJ0.out n'.ok)
              have hord := HASC.out j l[j] rfl (List.getElem?_eq_getElem hj)
              clear hcl' hcc' hel' VJ0
              generalize l[j] = y at VJ hord
              generalize hcc : ordS y.n y.t y.f x.n x.t x.f = cc at hord
              have HCC := Lib.hid hcc
              clear hcc
              have hk2 : (0 : Int) < ((j + 1 : Nat) : Int) := by omega
              have hk3 : ¬ (0 : Int) ≤ cc := by omega
              refine wp_cls (by kernel_rfl) (by kernel_rfl) ?_
              iterate 7 go_big_quiet_step (fail)
              refine BigFrame.wpQuiet_want (by rfl) (fun K hK => ?_)
              refine quiet_ld Tryd.underlying43 info_sz (.tmp 48) (by rfl) g (o + j * 3) [.int .i64 y.n, .int .i64 y.t, .int .i64 y.f] (by rfl) (by rfl) (by rintro _ ⟨n', rfl⟩; exact VJ.out n') (hK _ ?_)
              clear hK K
              simp only [Act.put, List.setIfInBounds_toArray, List.set_cons_succ, List.set_cons_zero]
              iterate 3 go_big_quiet_step (fail)
              refine BigFrame.wpQuiet_want (by rfl) (fun K hK => ?_)
              refine quiet_ld Tryd.underlying43 info_sz (.tmp 52) (by rfl) g (o + (j + 1) * 3) [.int .i64 x.n, .int .i64 x.t, .int .i64 x.f] (by rfl) (by rfl) (by rintro _ ⟨n', rfl⟩; exact VR.out n') (hK _ ?_)
              clear hK K
              simp only [Act.put, List.setIfInBounds_toArray, List.set_cons_succ, List.set_cons_zero]
              go_big_quiet_step (((with_reducible refine (sizeCompare_any y.n y.t y.f x.n x.t x.f _).mono ?_); rw [HCC.out]; rintro e w1 ⟨rfl, hb⟩; exact ⟨rfl, ⟨w1, thenBelow (WIn.ok _) hb⟩, rfl⟩))
              iterate 3 go_big_quiet_step (fail)
              refine BigFrame.wpQuiet_want (by rfl) (fun K hK => ?_)
              refine quiet_ld Tryd.underlying27 info_prot (.tmp 2) (by rfl) w.heap.size 0 [.string q.nm, .int .i64 q.top, .slice a2 q.states.length c2, .slice a3 q.msgs.length c3, .slice a4 q.vals.length c4, .int .i64 q.fault, .slice a6 q.res.length c6, .slice a7 q.init.length c7, .slice a8 q.leader.length c8, .slice a9 q.rules.length c9] (by rfl) (by rfl) (by rintro _ ⟨n', rfl⟩; exact rangeBlock (VPn.out n')) (hK _ ?_)
              clear hK K
              simp only [Act.put, List.setIfInBounds_toArray, List.set_cons_succ, List.set_cons_zero]
              iterate 3 go_big_quiet_step (fail)
              refine BigFrame.wpQuiet_want (by rfl) (fun K hK => ?_)
              refine quiet_ld Tryd.underlying43 info_sz (.tmp 61) (by rfl) g (o + (j + 1) * 3) [.int .i64 x.n, .int .i64 x.t, .int .i64 x.f] (by rfl) (by rfl) (by rintro _ ⟨n', rfl⟩; exact VR.out n') (hK _ ?_)
              clear hK K
              simp only [Act.put, List.setIfInBounds_toArray, List.set_cons_succ, List.set_cons_zero]
              go_big_quiet_step (((with_reducible refine (Admissible_any x.n x.t x.f (HQ.out.below (VBn.out _))).mono ?_); rw [HADM.out]; rintro e w1 ⟨rfl, hb⟩; exact ⟨rfl, ⟨w1, thenBelow (WIn.ok _) hb⟩, rfl⟩))
              iterate 2 go_big_quiet_step (fail)
              refine wpQuiet_nil ?_
              intro n'
              go_wp2_with fail
              go_roundw
              case rel => exact ⟨j + 1 + 1, by omega, by go_num, by rw [HMEM.out, HM1.out, ← szeq]; rfl, thenBelow VZ.out n'.ok⟩
              case measure => simp [intOf]; omega
        · obtain rfl : k = l.length := by omega
          rw [List.take_length, HM.out]
          have HADM := Lib.hid (show (decide (valE q = 0) && admB q n t f) = admB q n t f by rw [decide_eq_true (szE_zero V0.out).1, Bool.true_and])
          go_upto_region 13 with (fail)
          cases ha : admB q n t f with
          | true =>
            have HAD := Lib.hid (HADM.out.trans ha)
            refine wp_region_lit ?_
            refine wpList_step fun K hK => ?_
            go_simp
            refine hK _ _ ?_
            clear hK K
            refine ld_mid Tryd.underlying27 info_prot (by rfl) (.tmp 2) (by rfl) w.heap.size 0 [.string q.nm, .int .i64 q.top, .slice a2 q.states.length c2, .slice a3 q.msgs.length c3, .slice a4 q.vals.length c4, .int .i64 q.fault, .slice a6 q.res.length c6, .slice a7 q.init.length c7, .slice a8 q.leader.length c8, .slice a9 q.rules.length c9] (by rfl) (by rfl) (rangeBlock XP.out) ?_
            refine ld_mid Tryd.underlying43 info_sz (by rfl) (.tmp 3) (by rfl) (w.heap.size + 1) 0 [.int .i64 n, .int .i64 t, .int .i64 f] (by rfl) (by rfl) (rangeBlock XS.out) ?_
            go_wp2_with (first | (go_at_call 16; (with_reducible refine (Admissible_any n t f (HQ.out.below XB.out)).mono ?_); rw [HAD.out]; rintro e U ⟨rfl, hb⟩; have UB := Lib.hid (thenBelow XB.out hb); clear hb) | (go_at_call 10; refine (vknown_any _ (HT.out.below UB.out)).mono ?_; rintro e wk ⟨rfl, hbk⟩))
            go_ret
            exact ⟨rfl, thenBelow UB.out hbk⟩
          | false =>
            have HAD := Lib.hid (HADM.out.trans ha)
            refine wp_region_lit ?_
            refine wpList_step fun K hK => ?_
            go_simp
            refine hK _ _ ?_
            clear hK K
            refine ld_mid Tryd.underlying27 info_prot (by rfl) (.tmp 2) (by rfl) w.heap.size 0 [.string q.nm, .int .i64 q.top, .slice a2 q.states.length c2, .slice a3 q.msgs.length c3, .slice a4 q.vals.length c4, .int .i64 q.fault, .slice a6 q.res.length c6, .slice a7 q.init.length c7, .slice a8 q.leader.length c8, .slice a9 q.rules.length c9] (by rfl) (by rfl) (rangeBlock XP.out) ?_
            refine ld_mid Tryd.underlying43 info_sz (by rfl) (.tmp 3) (by rfl) (w.heap.size + 1) 0 [.int .i64 n, .int .i64 t, .int .i64 f] (by rfl) (by rfl) (rangeBlock XS.out) ?_
            go_wp2_with (first | (go_at_call 16; (with_reducible refine (Admissible_any n t f (HQ.out.below XB.out)).mono ?_); rw [HAD.out]; rintro e U ⟨rfl, hb⟩; have UB := Lib.hid (thenBelow XB.out hb); clear hb) | (go_at_call 10; refine (vknown_any _ (HT.out.below UB.out)).mono ?_; rintro e wk ⟨rfl, hbk⟩))
            go_ret
            exact ⟨rfl, thenBelow UB.out hbk⟩
end Go.Proofs.YtenahfmmijpelaaDoor
