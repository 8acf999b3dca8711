/-
  ruleError OF THE PROGRAM.
-/
import Derived.Test.YtenahfmmijpelaaDoorVPart
import Derived.Test.YtenahfmmijpelaaDoorPNames
namespace Go.Proofs.YtenahfmmijpelaaDoor
open Go.RowKit Go.Deep
theorem IsSl.take {α : Type} {size : Nat} {P : Nat → World → List Value → α → Prop} {lo : Nat} {w : World} {a : Option Addr} {n cap : Nat} {xs : List α} (h : IsSl size P lo w (.slice a n cap) xs) (k : Nat) (hk : k ≤ xs.length) : IsSl size P lo w (.slice a k cap) (xs.take k) := by
  obtain ⟨a', cap', hv, h1, hm, hn, hc⟩ := h
  simp only [Value.slice.injEq] at hv
  obtain ⟨rfl, rfl, rfl⟩ := hv
  have e : (xs.take k).length = k := by simp; omega
  refine ⟨a, cap, by rw [e], by omega, hm, hn, ?_⟩
  rcases hc with rfl | ⟨b, off, ha, hlo, hb, hc⟩
  · exact .inl (by simp)
  · refine .inr ⟨b, off, ha, hlo, hb, fun i hi => ?_⟩
    obtain ⟨cs, g1, g2, g3⟩ := hc i (by omega)
    exact ⟨cs, g1, g2, by simpa using g3⟩
theorem info_prot : (Tryd.prog.info? 27).map (·.size) = some 10 := by kernel_rfl
theorem ruleE_nm {q : Fm} {i : Nat} {r : Ru} (h : nameB r.nm.toList = false ∨ hasR (q.rules.take i) r.nm = true) : ruleE q i r = 2 := if_pos h
theorem ruleE_rule {q : Fm} {i : Nat} {r : Ru} (h : nameB r.nm.toList = true) (h' : hasR (q.rules.take i) r.nm = false) (hf : fitB r.kind q.top = false ∨ othB r q.top = false) : ruleE q i r = 6 := by
  unfold ruleE; rw [if_neg (by rw [h, h']; simp), if_pos hf]
theorem ruleE_state {q : Fm} {i : Nat} {r : Ru} (h : nameB r.nm.toList = true) (h' : hasR (q.rules.take i) r.nm = false) (hf : fitB r.kind q.top = true) (ho : othB r q.top = true) (hs : stB r q.states.length = false) : ruleE q i r = 5 := by
  unfold ruleE; rw [if_neg (by rw [h, h']; simp), if_neg (by rw [hf, ho]; simp), if_pos hs]
theorem ruleE_part {q : Fm} {i : Nat} {r : Ru} (h : nameB r.nm.toList = true) (h' : hasR (q.rules.take i) r.nm = false) (hf : fitB r.kind q.top = true) (ho : othB r q.top = true) (hs : stB r q.states.length = true) : ruleE q i r = partE q r := by
  unfold ruleE; rw [if_neg (by rw [h, h']; simp), if_neg (by rw [hf, ho]; simp), if_neg (by rw [hs]; simp)]
set_option maxHeartbeats 3200000 in
theorem ruleError_any {lo : Nat} {w : World} {v : Value} {q : Fm} (i : Nat) (hi : i < q.rules.length) (hq : IsFam lo w v q) :
    Calls Tryd.prog 38 #[v, .int .i64 i] w fun e w' => e = .returned (.int .i64 (ruleE q i q.rules[i])) ∧ Below w.heap.size w w' := by
  have HQ := Lib.hid hq
  obtain ⟨v2, v3, v4, v6, v7, v8, v9, rfl, _, _, h2, h3, h4, _, h6, h7, h8, h9⟩ := hq
  have hnn := h2.bound
  have HN := Lib.hid hnn
  have h9b := h9.bound
  obtain ⟨a2, c2, rfl⟩ := h2.shape
  obtain ⟨a3, c3, rfl⟩ := h3.shape
  obtain ⟨a4, c4, rfl⟩ := h4.shape
  obtain ⟨a9, c9, rfl⟩ := h9.shape
  obtain ⟨b, off, cs, rfl, _, hb, hl, hc, hel⟩ := h9.at i hi
  have H9 := Lib.hid h9
  have HC9 := Lib.hid (show q.rules.length ≤ c9 by obtain ⟨_, _, e, h, _⟩ := h9; simp only [Value.slice.injEq] at e; omega)
  obtain ⟨-, p0, hnm, p1, hkI, pc⟩ := rule_cells hel
  have HL := Lib.hid hl
  have HR := Lib.hid (rangeOf hl hc)
  generalize hr : q.rules[i] = r at hel p0 hnm p1 hkI
  have HE := Lib.hid hel
  have P0 := Lib.hid p0
  have P1 := Lib.hid p1
  have PC := Lib.hid pc
  have HNM := Lib.hid hnm
  have HI := Lib.hid hkI
  have hb1 := hb
  clear h2 h3 h4 h6 h7 h8 h9 hc hl hel p0 p1 pc hr hnm hkI hb
  go_enter Tryd.func38, Tryd.ntmps38
  go_upto_region 1 with (fail)
  obtain ⟨W, hW⟩ : ∃ W : World, W = w.alloc (.cells #[.string q.nm, .int .i64 q.top, .slice a2 q.states.length c2, .slice a3 q.msgs.length c3, .slice a4 q.vals.length c4, .int .i64 q.fault, v6, v7, v8, .slice (some ⟨b, off, none⟩) q.rules.length c9] 27) := ⟨_, rfl⟩
  have hs : W.heap.size = w.heap.size + 1 := by rw [hW]; simp
  have HSZ := Lib.hid hs
  rw [← hW]
  have HB := Lib.hid (show Below w.heap.size w W by rw [hW]; exact allocBelow _ _)
  have HP := Lib.hid (show W.heap[w.heap.size]? = some (.cells #[.string q.nm, .int .i64 q.top, .slice a2 q.states.length c2, .slice a3 q.msgs.length c3, .slice a4 q.vals.length c4, .int .i64 q.fault, v6, v7, v8, .slice (some ⟨b, off, none⟩) q.rules.length c9] 27 (0, 0)) by rw [hW]; exact heap_new _ _ rfl)
  clear hW
  have x9 : W.cell? ⟨w.heap.size, 9, none⟩ = some (.slice (some ⟨b, off, none⟩) q.rules.length c9) := cellB HP.out 9 rfl
  refine wp_region_lit ?_
  iterate 4
    refine wpList_step fun K hK => ?_
    go_simp
    refine hK _ _ ?_
    clear hK K
  refine ld_mid Tryd.underlying37 info_rule (by rfl) (.tmp 9) (by rfl) b (off + i * 18) cs (by rfl) HL.out (rangeBelow HR.out HB.out) ?_
  refine wpList_step fun K hK => ?_
  go_simp
  refine hK _ _ ?_
  clear hK K
  refine st_whole (T := 37) info_rule (by rfl) (.tmp 5) (.tmp 10) (by rfl) (w.heap.size + 1) cs (by rfl) (by rfl) HL.out (heap_new W _ hs.symm) (by rfl) PC.out (fun Z hZ hbl hsz hoth => ?_)
  have ZB := Lib.hid (show Below w.heap.size w Z from hbl _ _ (by omega) (HB.out.trans ((allocBelow W _).mono HB.out.size)))
  have ZP := Lib.hid (show Z.heap[w.heap.size]? = some (.cells #[.string q.nm, .int .i64 q.top, .slice a2 q.states.length c2, .slice a3 q.msgs.length c3, .slice a4 q.vals.length c4, .int .i64 q.fault, v6, v7, v8, .slice (some ⟨b, off, none⟩) q.rules.length c9] 27 (0, 0)) from (hoth _ (by omega)).trans ((heap_old W _ (by omega)).trans HP.out))
  have ZG := Lib.hid (show Z.heap[w.heap.size + 1]? = some (.cells cs.toArray 37 (0, 0)) from hZ)
  clear hZ hbl hsz hoth x9
  clear hs
  refine wpList_nil ?_
  simp only [Act.put]
  go_upto_region 2 with (fail)
  have ZGn := Lib.hid (show ∀ n : WIn (Below Z.heap.size Z), n.val.heap[w.heap.size + 1]? = some (.cells cs.toArray 37 (0, 0)) from fun n => keepB ZG.out n.ok)
  have ZPn := Lib.hid (show ∀ n : WIn (Below Z.heap.size Z), n.val.heap[w.heap.size]? = some (.cells #[.string q.nm, .int .i64 q.top, .slice a2 q.states.length c2, .slice a3 q.msgs.length c3, .slice a4 q.vals.length c4, .int .i64 q.fault, v6, v7, v8, .slice (some ⟨b, off, none⟩) q.rules.length c9] 27 (0, 0)) from fun n => keepB ZP.out n.ok)
  have ZBn := Lib.hid (show ∀ n : WIn (Below Z.heap.size Z), Below w.heap.size w n.val from fun n => thenBelow ZB.out n.ok)
  have c0 : ∀ n : WIn (Below Z.heap.size Z), n.val.cell? ⟨w.heap.size + 1, 0, none⟩ = some (.string r.nm) := fun n => cellB (ZGn.out n) 0 (by simpa using P0.out)
  have hic : i ≤ c9 := by have := HC9.out; omega
  have cc9 : ∀ n : WIn (Below Z.heap.size Z), n.val.cell? ⟨w.heap.size, 9, none⟩ = some (.slice (some ⟨b, off, none⟩) q.rules.length c9) := fun n => cellB (ZPn.out n) 9 rfl
  cases n0 : nameB r.nm.toList with
  | false =>
    have N0 := Lib.hid n0
    clear n0
    refine wp_cls (by kernel_rfl) (by kernel_rfl) ?_
    iterate 2 go_big_quiet_step (fail)
    go_big_quiet_step (((with_reducible refine (ValidName_any r.nm _ HNM.out).mono ?_); rw [N0.out]; rintro e w1 ⟨rfl, hb⟩; exact ⟨rfl, ⟨w1, thenBelow (WIn.ok _) hb⟩, rfl⟩))
    repeat (go_big_quiet_step (fail))
    refine wpQuiet_nil ?_
    intro n
    go_wp2_with fail
    go_ret
    exact ⟨ret_int (ruleE_nm (.inl N0.out)).symm, ZBn.out n⟩
  | true =>
    have N0 := Lib.hid n0
    clear n0
    cases h0 : hasR (q.rules.take i) r.nm with
    | true =>
      have H0 := Lib.hid h0
      clear h0
      refine wp_cls (by kernel_rfl) (by kernel_rfl) ?_
      iterate 2 go_big_quiet_step (fail)
      go_big_quiet_step (((with_reducible refine (ValidName_any r.nm _ HNM.out).mono ?_); rw [N0.out]; rintro e w1 ⟨rfl, hb⟩; exact ⟨rfl, ⟨w1, thenBelow (WIn.ok _) hb⟩, rfl⟩))
      iterate 8 go_big_quiet_step (fail)
      go_big_quiet_step (((with_reducible refine (hasRule_any r.nm ((H9.out.below RuEl.stays (ZBn.out _)).take i (by omega))).mono ?_); rw [H0.out]; rintro e w1 ⟨rfl, hb⟩; exact ⟨rfl, ⟨w1, thenBelow (WIn.ok _) hb⟩, rfl⟩))
      repeat (go_big_quiet_step (fail))
      refine wpQuiet_nil ?_
      intro n
      go_wp2_with fail
      go_ret
      exact ⟨ret_int (ruleE_nm (.inr H0.out)).symm, ZBn.out n⟩
    | false =>
      have H0 := Lib.hid h0
      clear h0
      refine wp_cls (by kernel_rfl) (by kernel_rfl) ?_
      iterate 2 go_big_quiet_step (fail)
      go_big_quiet_step (((with_reducible refine (ValidName_any r.nm _ HNM.out).mono ?_); rw [N0.out]; rintro e w1 ⟨rfl, hb⟩; exact ⟨rfl, ⟨w1, thenBelow (WIn.ok _) hb⟩, rfl⟩))
      iterate 8 go_big_quiet_step (fail)
      go_big_quiet_step (((with_reducible refine (hasRule_any r.nm ((H9.out.below RuEl.stays (ZBn.out _)).take i (by omega))).mono ?_); rw [H0.out]; rintro e w1 ⟨rfl, hb⟩; exact ⟨rfl, ⟨w1, thenBelow (WIn.ok _) hb⟩, rfl⟩))
      repeat (go_big_quiet_step (fail))
      refine wpQuiet_nil ?_
      intro n
      have YG := Lib.hid (ZGn.out n)
      have YP := Lib.hid (ZPn.out n)
      have YB := Lib.hid (ZBn.out n)
      generalize n.val = Y at YG YP YB ⊢
      clear n
      have YGn := Lib.hid (show ∀ n : WIn (Below Y.heap.size Y), n.val.heap[w.heap.size + 1]? = some (.cells cs.toArray 37 (0, 0)) from fun n => keepB YG.out n.ok)
      have YPn := Lib.hid (show ∀ n : WIn (Below Y.heap.size Y), n.val.heap[w.heap.size]? = some (.cells #[.string q.nm, .int .i64 q.top, .slice a2 q.states.length c2, .slice a3 q.msgs.length c3, .slice a4 q.vals.length c4, .int .i64 q.fault, v6, v7, v8, .slice (some ⟨b, off, none⟩) q.rules.length c9] 27 (0, 0)) from fun n => keepB YP.out n.ok)
      have YBn := Lib.hid (show ∀ n : WIn (Below Y.heap.size Y), Below w.heap.size w n.val from fun n => thenBelow YB.out n.ok)
      have d1 : ∀ n : WIn (Below Y.heap.size Y), n.val.cell? ⟨w.heap.size + 1, 1, none⟩ = some (.int .i64 r.kind) := fun n => cellB (YGn.out n) 1 (by simpa using P1.out)
      have e1 : ∀ n : WIn (Below Y.heap.size Y), n.val.cell? ⟨w.heap.size, 1, none⟩ = some (.int .i64 q.top) := fun n => cellB (YPn.out n) 1 rfl
      go_upto_region 4 with (fail)
      cases f0 : fitB r.kind q.top with
      | false =>
        have F0 := Lib.hid f0
        clear f0
        refine wp_cls_seq ?_
        iterate 4 go_big_quiet_step (fail)
        go_big_quiet_step (((with_reducible refine (kindFits_any r.kind q.top _).mono ?_); rw [F0.out]; rintro e w1 ⟨rfl, hb⟩; subst hb; exact ⟨rfl, ⟨_, WIn.ok _⟩, rfl⟩))
        repeat (go_big_quiet_step (fail))
        refine wpQuiet_nil ?_
        intro n
        go_wp2_with fail
        go_ret
        exact ⟨ret_int (ruleE_rule N0.out H0.out (.inl F0.out)).symm, YBn.out n⟩
      | true =>
        have F0 := Lib.hid f0
        clear f0
        cases o0 : othB r q.top with
        | false =>
          have O0 := Lib.hid o0
          clear o0
          refine wp_cls_seq ?_
          iterate 4 go_big_quiet_step (fail)
          go_big_quiet_step (((with_reducible refine (kindFits_any r.kind q.top _).mono ?_); rw [F0.out]; rintro e w1 ⟨rfl, hb⟩; subst hb; exact ⟨rfl, ⟨_, WIn.ok _⟩, rfl⟩))
          iterate 2 go_big_quiet_step (fail)
          refine BigFrame.wpQuiet_want (by rfl) (fun K hK => ?_)
          refine quiet_ld Tryd.underlying37 info_rule (.tmp 5) (by rfl) (w.heap.size + 1) 0 cs (by rfl) HL.out (by rintro _ ⟨n, rfl⟩; exact rangeBlock (YGn.out n)) (hK _ ?_)
          clear hK K
          simp only [Act.put, List.setIfInBounds_toArray, List.set_cons_succ, List.set_cons_zero]
          iterate 2 go_big_quiet_step (fail)
          go_big_quiet_step (((with_reducible refine (othersEmpty_any q.top (kind_of_fit F0.out) (HE.out.below (YBn.out _))).mono ?_); rw [O0.out]; rintro e w1 ⟨rfl, hb⟩; exact ⟨rfl, ⟨w1, thenBelow (WIn.ok _) hb⟩, rfl⟩))
          repeat (go_big_quiet_step (fail))
          refine wpQuiet_nil ?_
          intro n
          go_wp2_with fail
          go_ret
          exact ⟨ret_int (ruleE_rule N0.out H0.out (.inr O0.out)).symm, YBn.out n⟩
        | true =>
          have O0 := Lib.hid o0
          clear o0
          refine wp_cls_seq ?_
          iterate 4 go_big_quiet_step (fail)
          go_big_quiet_step (((with_reducible refine (kindFits_any r.kind q.top _).mono ?_); rw [F0.out]; rintro e w1 ⟨rfl, hb⟩; subst hb; exact ⟨rfl, ⟨_, WIn.ok _⟩, rfl⟩))
          iterate 2 go_big_quiet_step (fail)
          refine BigFrame.wpQuiet_want (by rfl) (fun K hK => ?_)
          refine quiet_ld Tryd.underlying37 info_rule (.tmp 5) (by rfl) (w.heap.size + 1) 0 cs (by rfl) HL.out (by rintro _ ⟨n, rfl⟩; exact rangeBlock (YGn.out n)) (hK _ ?_)
          clear hK K
          simp only [Act.put, List.setIfInBounds_toArray, List.set_cons_succ, List.set_cons_zero]
          iterate 2 go_big_quiet_step (fail)
          go_big_quiet_step (((with_reducible refine (othersEmpty_any q.top (kind_of_fit F0.out) (HE.out.below (YBn.out _))).mono ?_); rw [O0.out]; rintro e w1 ⟨rfl, hb⟩; exact ⟨rfl, ⟨w1, thenBelow (WIn.ok _) hb⟩, rfl⟩))
          repeat (go_big_quiet_step (fail))
          refine wpQuiet_nil ?_
          intro n
          clear d1 e1
          have XG := Lib.hid (YGn.out n)
          have XP := Lib.hid (YPn.out n)
          have XB := Lib.hid (YBn.out n)
          generalize n.val = X at XG XP XB ⊢
          clear n
          have XGn := Lib.hid (show ∀ n : WIn (Below X.heap.size X), n.val.heap[w.heap.size + 1]? = some (.cells cs.toArray 37 (0, 0)) from fun n => keepB XG.out n.ok)
          have XPn := Lib.hid (show ∀ n : WIn (Below X.heap.size X), n.val.heap[w.heap.size]? = some (.cells #[.string q.nm, .int .i64 q.top, .slice a2 q.states.length c2, .slice a3 q.msgs.length c3, .slice a4 q.vals.length c4, .int .i64 q.fault, v6, v7, v8, .slice (some ⟨b, off, none⟩) q.rules.length c9] 27 (0, 0)) from fun n => keepB XP.out n.ok)
          have XBn := Lib.hid (show ∀ n : WIn (Below X.heap.size X), Below w.heap.size w n.val from fun n => thenBelow XB.out n.ok)
          have f2 : ∀ n : WIn (Below X.heap.size X), n.val.cell? ⟨w.heap.size, 2, none⟩ = some (.slice a2 q.states.length c2) := fun n => cellB (XPn.out n) 2 rfl
          go_upto_region 6 with (fail)
          cases s0 : stB r q.states.length with
          | false =>
            have S0 := Lib.hid s0
            clear s0
            refine wp_cls_seq ?_
            refine BigFrame.wpQuiet_want (by rfl) (fun K hK => ?_)
            refine quiet_ld Tryd.underlying37 info_rule (.tmp 5) (by rfl) (w.heap.size + 1) 0 cs (by rfl) HL.out (by rintro _ ⟨n, rfl⟩; exact rangeBlock (XGn.out n)) (hK _ ?_)
            clear hK K
            simp only [Act.put, List.setIfInBounds_toArray, List.set_cons_succ, List.set_cons_zero]
            iterate 3 go_big_quiet_step (fail)
            go_big_quiet_step (((with_reducible refine (statesExist_any q.states.length HN.out (HE.out.below (XBn.out _))).mono ?_); rw [S0.out]; rintro e w1 ⟨rfl, hb⟩; exact ⟨rfl, ⟨w1, thenBelow (WIn.ok _) hb⟩, rfl⟩))
            repeat (go_big_quiet_step (fail))
            refine wpQuiet_nil ?_
            intro n
            go_wp2_with fail
            go_ret
            exact ⟨ret_int (ruleE_state N0.out H0.out F0.out O0.out S0.out).symm, XBn.out n⟩
          | true =>
            have S0 := Lib.hid s0
            clear s0
            refine wp_cls_seq ?_
            refine BigFrame.wpQuiet_want (by rfl) (fun K hK => ?_)
            refine quiet_ld Tryd.underlying37 info_rule (.tmp 5) (by rfl) (w.heap.size + 1) 0 cs (by rfl) HL.out (by rintro _ ⟨n, rfl⟩; exact rangeBlock (XGn.out n)) (hK _ ?_)
            clear hK K
            simp only [Act.put, List.setIfInBounds_toArray, List.set_cons_succ, List.set_cons_zero]
            iterate 3 go_big_quiet_step (fail)
            go_big_quiet_step (((with_reducible refine (statesExist_any q.states.length HN.out (HE.out.below (XBn.out _))).mono ?_); rw [S0.out]; rintro e w1 ⟨rfl, hb⟩; exact ⟨rfl, ⟨w1, thenBelow (WIn.ok _) hb⟩, rfl⟩))
            repeat (go_big_quiet_step (fail))
            refine wpQuiet_nil ?_
            intro n
            clear f2
            have VG := Lib.hid (XGn.out n)
            have VP := Lib.hid (XPn.out n)
            have VB := Lib.hid (XBn.out n)
            generalize n.val = V at VG VP VB ⊢
            clear n
            have VGn := Lib.hid (show ∀ n : WIn (Below V.heap.size V), n.val.heap[w.heap.size + 1]? = some (.cells cs.toArray 37 (0, 0)) from fun n => keepB VG.out n.ok)
            have VPn := Lib.hid (show ∀ n : WIn (Below V.heap.size V), n.val.heap[w.heap.size]? = some (.cells #[.string q.nm, .int .i64 q.top, .slice a2 q.states.length c2, .slice a3 q.msgs.length c3, .slice a4 q.vals.length c4, .int .i64 q.fault, v6, v7, v8, .slice (some ⟨b, off, none⟩) q.rules.length c9] 27 (0, 0)) from fun n => keepB VP.out n.ok)
            have VBn := Lib.hid (show ∀ n : WIn (Below V.heap.size V), Below w.heap.size w n.val from fun n => thenBelow VB.out n.ok)
            go_upto_region 8 with (fail)
            refine wp_cls_seq ?_
            refine BigFrame.wpQuiet_want (by rfl) (fun K hK => ?_)
            refine quiet_ld Tryd.underlying27 info_prot (.tmp 2) (by rfl) w.heap.size 0 [.string q.nm, .int .i64 q.top, .slice a2 q.states.length c2, .slice a3 q.msgs.length c3, .slice a4 q.vals.length c4, .int .i64 q.fault, v6, v7, v8, .slice (some ⟨b, off, none⟩) q.rules.length c9] (by rfl) (by rfl) (by rintro _ ⟨n, rfl⟩; exact rangeBlock (VPn.out n)) (hK _ ?_)
            clear hK K
            simp only [Act.put, List.setIfInBounds_toArray, List.set_cons_succ, List.set_cons_zero]
            refine BigFrame.wpQuiet_want (by rfl) (fun K hK => ?_)
            refine quiet_ld Tryd.underlying37 info_rule (.tmp 5) (by rfl) (w.heap.size + 1) 0 cs (by rfl) HL.out (by rintro _ ⟨n, rfl⟩; exact rangeBlock (VGn.out n)) (hK _ ?_)
            clear hK K
            simp only [Act.put, List.setIfInBounds_toArray, List.set_cons_succ, List.set_cons_zero]
            go_big_quiet_step (((with_reducible refine (partsError_any (HQ.out.below (VBn.out _)) (HE.out.below (VBn.out _))).mono ?_); skip; rintro e w1 ⟨rfl, hb⟩; exact ⟨rfl, ⟨w1, thenBelow (WIn.ok _) hb⟩, rfl⟩))
            repeat (go_big_quiet_step (fail))
            refine wpQuiet_nil ?_
            intro n
            go_wp2_with fail
            go_ret
            exact ⟨ret_int (ruleE_part N0.out H0.out F0.out O0.out S0.out).symm, VBn.out n⟩
end Go.Proofs.YtenahfmmijpelaaDoor
