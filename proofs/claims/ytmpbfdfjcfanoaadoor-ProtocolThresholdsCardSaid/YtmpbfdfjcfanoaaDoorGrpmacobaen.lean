import Derived.Test.YtmpbfdfjcfanoaaDoorGrpifhckiho
import Derived.Test.YtmpbfdfjcfanoaaDoorGrppalbkohp
import Derived.Test.YtmpbfdfjcfanoaaDoorGrphjepnclk
set_option linter.all false
/-
  Validate OF THE PROGRAM.
-/
namespace Go.Proofs.YtmpbfdfjcfanoaaDoor
open Go.RowKit Go.Deep
theorem orE_zero_left {a b : Int} (h : orE a b = 0) : a = 0 ∧ b = 0 := by
  unfold orE at h; split at h
  · exact ⟨by assumption, h⟩
  · exact absurd h (by assumption)
theorem orE_assoc (a b c : Int) : orE (orE a b) c = orE a (orE b c) := by
  by_cases h : a = 0
  · rw [h, orE_zero, orE_zero]
  · rw [orE_ne _ h, orE_ne _ h, orE_ne _ h]
/-- A rule without an error has at most two guards. -/
theorem rule_guards {q : Fm} {i : Nat} {r : Ru} (h : ruleE q i r = 0) : r.guards.length ≤ 2 := by
  unfold ruleE at h
  split at h
  · cases h
  split at h
  · cases h
  rename_i h2
  split at h
  · cases h
  simp only [not_or, Bool.not_eq_false] at h2
  have hk := kind_of_fit h2.1
  have he := (oth_emp r q.top hk).1 h2.2
  by_cases k1 : r.kind = 1
  · unfold partE at h
    rw [if_neg (by omega), if_neg (by omega), if_pos k1] at h
    have h3 := (orE_zero_left h).1
    unfold guardE at h3
    split at h3
    · split at h3
      · cases h3
      · omega
    · exact absurd h3 (by assumption)
  · rw [(he.g k1).1]; simp
theorem too_rules {q : Fm} (h : tooB q = false) : q.rules.length ≤ 8 ∧ q.states.length ≤ 6 ∧ q.msgs.length ≤ 3 ∧ q.vals.length ≤ 3 := by
  unfold tooB at h
  simp only [Bool.or_eq_false_iff, decide_eq_false_iff_not] at h
  omega
theorem str_sizes {lo : Nat} {w : World} {v : Value} {xs : List ByteArray} (h : IsSl 1 StrEl lo w v xs) : ∀ s ∈ xs, s.size ≤ maxLen := by
  intro s hs
  obtain ⟨i, hi, rfl⟩ := List.getElem_of_mem hs
  obtain ⟨a, cap, rfl⟩ := h.shape
  obtain ⟨_, _, _, _, _, _, _, _, hel⟩ := h.at i hi
  exact hel.2
theorem val_sets {q : Fm} {X : Int} (h : orL [someE q.states.length q.init, setE q.states.length q.leader] ≠ 0) : orE (if q.init.length = 0 then 1 else setE q.states.length q.init) (orE (setE q.states.length q.leader) X) = orL [someE q.states.length q.init, setE q.states.length q.leader] := by
  show orE (someE q.states.length q.init) _ = _
  rw [orL_or, orL_or] at h ⊢
  rw [show orL [] = 0 from rfl, orE_right] at h ⊢
  by_cases h1 : someE q.states.length q.init = 0
  · rw [h1, orE_zero] at h ⊢
    rw [orE_zero, orE_ne _ h]
  · rw [orE_ne _ h1, orE_ne _ h1]
theorem val_zero {q : Fm} {X : Int} (h : orL [someE q.states.length q.init, setE q.states.length q.leader] = 0) : orE (if q.init.length = 0 then 1 else setE q.states.length q.init) (orE (setE q.states.length q.leader) X) = X := by
  show orE (someE q.states.length q.init) _ = _
  rw [orL_or, orL_or, show orL [] = 0 from rfl, orE_right] at h
  obtain ⟨h1, h2⟩ := orE_zero_left h
  rw [h1, h2, orE_zero, orE_zero]
theorem val_rules {q : Fm} {e X : Int} (h : orL [someE q.states.length q.init, setE q.states.length q.leader] = 0) (hr : rulesE q 0 q.rules.length = e) (he : e ≠ 0) : orE (if q.init.length = 0 then 1 else setE q.states.length q.init) (orE (setE q.states.length q.leader) (orE (rulesE q 0 q.rules.length) X)) = e := by
  rw [val_zero h, hr, orE_ne _ he]
theorem val_end {q : Fm} {X : Int} (h : orL [someE q.states.length q.init, setE q.states.length q.leader] = 0) (hr : rulesE q 0 q.rules.length = 0) : orE (if q.init.length = 0 then 1 else setE q.states.length q.init) (orE (setE q.states.length q.leader) (orE (rulesE q 0 q.rules.length) X)) = X := by
  rw [val_zero h, hr, orE_zero]
theorem three_flat {α : Type} (a b c : List α) : [a, b, c].flatten = a ++ (b ++ c) := by simp
theorem three_cells {lo g : Nat} {w : World} {u1 u2 u3 : Value} {xs ys zs : List ByteArray} {x1 x2 x3 : Option Value} (h1 : w.cell? ⟨g, 0, none⟩ = x1) (h2 : w.cell? ⟨g, 1, none⟩ = x2) (h3 : w.cell? ⟨g, 2, none⟩ = x3) (k1 : IsSl 1 StrEl lo w u1 xs) (k2 : IsSl 1 StrEl lo w u2 ys) (k3 : IsSl 1 StrEl lo w u3 zs)
    (e1 : x1 = some u1 := by rfl) (e2 : x2 = some u2 := by rfl) (e3 : x3 = some u3 := by rfl) :
    ∀ i (hi : i < [xs, ys, zs].length), ∃ u, w.cell? ⟨g, 0 + i, none⟩ = some u ∧ IsSl 1 StrEl lo w u [xs, ys, zs][i] := by
  intro i hi
  match i, hi with
  | 0, _ => exact ⟨u1, h1.trans e1, k1⟩
  | 1, _ => exact ⟨u2, h2.trans e2, k2⟩
  | 2, _ => exact ⟨u3, h3.trans e3, k3⟩
/-- The first error of the rules, from i on. -/
theorem rulesE_next {q : Fm} {i n : Nat} (h : i < n) (hn : q.rules.length = n) (h0 : ruleE q i (q.rules[i]'(by omega)) = 0) : rulesE q i (n - i) = rulesE q (i + 1) (n - (i + 1)) := by
  rw [show n - i = (n - (i + 1)) + 1 by omega, rulesE]
  have e : q.rules.getD i default = q.rules[i]'(by omega) := by simp [List.getD, List.getElem?_eq_getElem (show i < q.rules.length by omega)]
  rw [e, if_pos h0]
theorem rulesE_here {q : Fm} {i n : Nat} (h : i < n) (hn : q.rules.length = n) (h0 : ruleE q i (q.rules[i]'(by omega)) ≠ 0) : rulesE q i (n - i) = ruleE q i (q.rules[i]'(by omega)) := by
  rw [show n - i = (n - (i + 1)) + 1 by omega, rulesE]
  have e : q.rules.getD i default = q.rules[i]'(by omega) := by simp [List.getD, List.getElem?_eq_getElem (show i < q.rules.length by omega)]
  rw [e, if_neg h0]
set_option maxRecDepth 100000 in
set_option maxHeartbeats 12800000 in
theorem Validate_any {lo : Nat} {w : World} {v : Value} {q : Fm} (hq : IsFam lo w v q) :
    Calls Tryd.prog 16 #[v] w fun e w' => e = .returned (.int .i64 (valE q)) ∧ Below w.heap.size w w' := by
  have HQ := Lib.hid hq
  obtain ⟨v2, v3, v4, v6, v7, v8, v9, rfl, hnm, _, h2, h3, h4, _, h6, h7, h8, h9⟩ := hq
  obtain ⟨a2, c2, rfl⟩ := h2.shape
  obtain ⟨a3, c3, rfl⟩ := h3.shape
  obtain ⟨a4, c4, rfl⟩ := h4.shape
  obtain ⟨a6, c6, rfl⟩ := h6.shape
  obtain ⟨a7, c7, rfl⟩ := h7.shape
  obtain ⟨a8, c8, rfl⟩ := h8.shape
  obtain ⟨a9, c9, rfl⟩ := h9.shape
  have HNM := Lib.hid hnm
  have H2 := Lib.hid h2
  have H3 := Lib.hid h3
  have H4 := Lib.hid h4
  have H6 := Lib.hid h6
  have H7 := Lib.hid h7
  have H8 := Lib.hid h8
  have H9 := Lib.hid h9
  have HN := Lib.hid h2.bound
  clear hnm h2 h3 h4 h6 h7 h8 h9
  go_enter Tryd.func16, Tryd.ntmps16
  go_upto_region 1 with (fail)
  obtain ⟨W, hW⟩ : ∃ W : World, W = w.alloc (.cells #[.string q.nm, .int .i64 q.top, .slice a2 q.states.length c2, .slice a3 q.msgs.length c3, .slice a4 q.vals.length c4, .int .i64 q.fault, .slice a6 q.res.length c6, .slice a7 q.init.length c7, .slice a8 q.leader.length c8, .slice a9 q.rules.length c9] 27) := ⟨_, rfl⟩
  rw [← hW]
  have WB := Lib.hid (show Below w.heap.size w W by rw [hW]; exact allocBelow _ _)
  have WP := Lib.hid (show W.heap[w.heap.size]? = some (.cells #[.string q.nm, .int .i64 q.top, .slice a2 q.states.length c2, .slice a3 q.msgs.length c3, .slice a4 q.vals.length c4, .int .i64 q.fault, .slice a6 q.res.length c6, .slice a7 q.init.length c7, .slice a8 q.leader.length c8, .slice a9 q.rules.length c9] 27 (0, 0)) by rw [hW]; exact heap_new _ _ rfl)
  clear hW
  have WPn := Lib.hid (show ∀ n : WIn (Below W.heap.size W), n.val.heap[w.heap.size]? = some (.cells #[.string q.nm, .int .i64 q.top, .slice a2 q.states.length c2, .slice a3 q.msgs.length c3, .slice a4 q.vals.length c4, .int .i64 q.fault, .slice a6 q.res.length c6, .slice a7 q.init.length c7, .slice a8 q.leader.length c8, .slice a9 q.rules.length c9] 27 (0, 0)) from fun n => keepB WP.out n.ok)
  have WBn := Lib.hid (show ∀ n : WIn (Below W.heap.size W), Below w.heap.size w n.val from fun n => thenBelow WB.out n.ok)
  have x0 : ∀ n : WIn (Below W.heap.size W), n.val.cell? ⟨w.heap.size, 0, none⟩ = some (.string q.nm) := fun n => cellB (WPn.out n) 0 rfl
  go_upto_region 1 with (fail)
  cases en : nameB q.nm.toList with
  | false =>
    have En := Lib.hid en
    clear en
    refine wp_cls_seq ?_
    iterate 2 go_big_quiet_step (fail)
    go_big_quiet_step (((with_reducible refine (ValidName_any q.nm _ HNM.out).mono ?_); rw [En.out]; rintro e w1 ⟨rfl, hb⟩; exact ⟨rfl, ⟨w1, thenBelow (WIn.ok _) hb⟩, rfl⟩))
    repeat (go_big_quiet_step (fail))
    refine wpQuiet_nil ?_
    intro n
    go_wp2_with fail
    go_ret
    exact ⟨ret_int (by unfold valE; rw [if_pos En.out]), WBn.out n⟩
  | true =>
    have En := Lib.hid en
    clear en
    refine wp_cls_seq ?_
    iterate 2 go_big_quiet_step (fail)
    go_big_quiet_step (((with_reducible refine (ValidName_any q.nm _ HNM.out).mono ?_); rw [En.out]; rintro e w1 ⟨rfl, hb⟩; exact ⟨rfl, ⟨w1, thenBelow (WIn.ok _) hb⟩, rfl⟩))
    repeat (go_big_quiet_step (fail))
    refine wpQuiet_nil ?_
    intro n
    clear x0
    have Z1P := Lib.hid (WPn.out n)
    have Z1B := Lib.hid (WBn.out n)
    generalize n.val = Z1 at Z1P Z1B ⊢
    clear n
    have Z1Pn := Lib.hid (show ∀ n : WIn (Below Z1.heap.size Z1), n.val.heap[w.heap.size]? = some (.cells #[.string q.nm, .int .i64 q.top, .slice a2 q.states.length c2, .slice a3 q.msgs.length c3, .slice a4 q.vals.length c4, .int .i64 q.fault, .slice a6 q.res.length c6, .slice a7 q.init.length c7, .slice a8 q.leader.length c8, .slice a9 q.rules.length c9] 27 (0, 0)) from fun n => keepB Z1P.out n.ok)
    have Z1Bn := Lib.hid (show ∀ n : WIn (Below Z1.heap.size Z1), Below w.heap.size w n.val from fun n => thenBelow Z1B.out n.ok)
    have x1 : ∀ n : WIn (Below Z1.heap.size Z1), n.val.cell? ⟨w.heap.size, 1, none⟩ = some (.int .i64 q.top) := fun n => cellB (Z1Pn.out n) 1 rfl
    have x5 : ∀ n : WIn (Below Z1.heap.size Z1), n.val.cell? ⟨w.heap.size, 5, none⟩ = some (.int .i64 q.fault) := fun n => cellB (Z1Pn.out n) 5 rfl
    go_upto_region 3 with (fail)
    cases et : inB 1 4 q.top with
    | false =>
      have Et := Lib.hid et
      clear et
      refine wp_cls_seq ?_
      iterate 2 go_big_quiet_step (fail)
      go_big_quiet_step (((with_reducible refine (between_any q.top 1 4 _).mono ?_); rw [Et.out]; rintro e w1 ⟨rfl, hb⟩; subst hb; exact ⟨rfl, ⟨_, WIn.ok _⟩, rfl⟩))
      repeat (go_big_quiet_step (fail))
      refine wpQuiet_nil ?_
      intro n
      go_wp2_with fail
      go_ret
      exact ⟨ret_int (by unfold valE; rw [if_neg (by rw [En.out]; simp), if_pos (.inl Et.out)]), Z1Bn.out n⟩
    | true =>
      have Et := Lib.hid et
      clear et
      cases ef : inB 0 3 q.fault with
      | false =>
        have Ef := Lib.hid ef
        clear ef
        refine wp_cls_seq ?_
        iterate 2 go_big_quiet_step (fail)
        go_big_quiet_step (((with_reducible refine (between_any q.top 1 4 _).mono ?_); rw [Et.out]; rintro e w1 ⟨rfl, hb⟩; subst hb; exact ⟨rfl, ⟨_, WIn.ok _⟩, rfl⟩))
        iterate 4 go_big_quiet_step (fail)
        go_big_quiet_step (((with_reducible refine (between_any q.fault 0 3 _).mono ?_); rw [Ef.out]; rintro e w1 ⟨rfl, hb⟩; subst hb; exact ⟨rfl, ⟨_, WIn.ok _⟩, rfl⟩))
        repeat (go_big_quiet_step (fail))
        refine wpQuiet_nil ?_
        intro n
        go_wp2_with fail
        go_ret
        exact ⟨ret_int (by unfold valE; rw [if_neg (by rw [En.out]; simp), if_pos (.inr Ef.out)]), Z1Bn.out n⟩
      | true =>
        have Ef := Lib.hid ef
        clear ef
        refine wp_cls_seq ?_
        iterate 2 go_big_quiet_step (fail)
        go_big_quiet_step (((with_reducible refine (between_any q.top 1 4 _).mono ?_); rw [Et.out]; rintro e w1 ⟨rfl, hb⟩; subst hb; exact ⟨rfl, ⟨_, WIn.ok _⟩, rfl⟩))
        iterate 4 go_big_quiet_step (fail)
        go_big_quiet_step (((with_reducible refine (between_any q.fault 0 3 _).mono ?_); rw [Ef.out]; rintro e w1 ⟨rfl, hb⟩; subst hb; exact ⟨rfl, ⟨_, WIn.ok _⟩, rfl⟩))
        repeat (go_big_quiet_step (fail))
        refine wpQuiet_nil ?_
        intro n
        clear x1 x5
        have Z2P := Lib.hid (Z1Pn.out n)
        have Z2B := Lib.hid (Z1Bn.out n)
        generalize n.val = Z2 at Z2P Z2B ⊢
        clear n
        have y2 : Z2.cell? ⟨w.heap.size, 2, none⟩ = some (.slice a2 q.states.length c2) := cellB Z2P.out 2 rfl
        by_cases e0 : q.states.length = 0
        · have i0 : ((q.states.length : Nat) : Int) = 0 := by omega
          have E0 := Lib.hid e0
          clear e0
          go_wp2_with fail
          go_ret
          exact ⟨ret_int (by unfold valE; rw [if_neg (by rw [En.out]; simp), if_neg (by rw [Et.out, Ef.out]; simp), if_pos E0.out]), Z2B.out⟩
        · have i0 : (((q.states.length : Nat) : Int) == 0) = false := by simpa using e0
          have E0 := Lib.hid e0
          clear e0
          go_upto_region 7 with (fail)
          clear y2 i0
          have Z2Pn := Lib.hid (show ∀ n : WIn (Below Z2.heap.size Z2), n.val.heap[w.heap.size]? = some (.cells #[.string q.nm, .int .i64 q.top, .slice a2 q.states.length c2, .slice a3 q.msgs.length c3, .slice a4 q.vals.length c4, .int .i64 q.fault, .slice a6 q.res.length c6, .slice a7 q.init.length c7, .slice a8 q.leader.length c8, .slice a9 q.rules.length c9] 27 (0, 0)) from fun n => keepB Z2P.out n.ok)
          have Z2Bn := Lib.hid (show ∀ n : WIn (Below Z2.heap.size Z2), Below w.heap.size w n.val from fun n => thenBelow Z2B.out n.ok)
          go_upto_region 7 with (fail)
          cases eb : tooB q with
          | true =>
            have Eb := Lib.hid eb
            clear eb
            refine wp_cls_seq ?_
            refine BigFrame.wpQuiet_want (by rfl) (fun K hK => ?_)
            refine quiet_ld Tryd.underlying27 info_prot (.tmp 1) (by rfl) w.heap.size 0 [.string q.nm, .int .i64 q.top, .slice a2 q.states.length c2, .slice a3 q.msgs.length c3, .slice a4 q.vals.length c4, .int .i64 q.fault, .slice a6 q.res.length c6, .slice a7 q.init.length c7, .slice a8 q.leader.length c8, .slice a9 q.rules.length c9] (by rfl) (by rfl) (by rintro _ ⟨n, rfl⟩; exact rangeBlock (Z2Pn.out n)) (hK _ ?_)
            clear hK K
            simp only [Act.put, List.setIfInBounds_toArray, List.set_cons_succ, List.set_cons_zero]
            go_big_quiet_step (((with_reducible refine (hasTooMany_any (HQ.out.below (Z2Bn.out _))).mono ?_); rw [Eb.out]; rintro e w1 ⟨rfl, hb⟩; exact ⟨rfl, ⟨w1, thenBelow (WIn.ok _) hb⟩, rfl⟩))
            repeat (go_big_quiet_step (fail))
            refine wpQuiet_nil ?_
            intro n
            go_wp2_with fail
            go_ret
            exact ⟨ret_int (by unfold valE; rw [if_neg (by rw [En.out]; simp), if_neg (by rw [Et.out, Ef.out]; simp), if_neg E0.out, if_pos Eb.out]), Z2Bn.out n⟩
          | false =>
            have Eb := Lib.hid eb
            clear eb
            refine wp_cls_seq ?_
            refine BigFrame.wpQuiet_want (by rfl) (fun K hK => ?_)
            refine quiet_ld Tryd.underlying27 info_prot (.tmp 1) (by rfl) w.heap.size 0 [.string q.nm, .int .i64 q.top, .slice a2 q.states.length c2, .slice a3 q.msgs.length c3, .slice a4 q.vals.length c4, .int .i64 q.fault, .slice a6 q.res.length c6, .slice a7 q.init.length c7, .slice a8 q.leader.length c8, .slice a9 q.rules.length c9] (by rfl) (by rfl) (by rintro _ ⟨n, rfl⟩; exact rangeBlock (Z2Pn.out n)) (hK _ ?_)
            clear hK K
            simp only [Act.put, List.setIfInBounds_toArray, List.set_cons_succ, List.set_cons_zero]
            go_big_quiet_step (((with_reducible refine (hasTooMany_any (HQ.out.below (Z2Bn.out _))).mono ?_); rw [Eb.out]; rintro e w1 ⟨rfl, hb⟩; exact ⟨rfl, ⟨w1, thenBelow (WIn.ok _) hb⟩, rfl⟩))
            repeat (go_big_quiet_step (fail))
            refine wpQuiet_nil ?_
            intro n
            have Z3P := Lib.hid (Z2Pn.out n)
            have Z3B := Lib.hid (Z2Bn.out n)
            generalize n.val = Z3 at Z3P Z3B ⊢
            clear n
            have TR := Lib.hid (too_rules Eb.out)
            go_upto_region 9 with (fail)
            have y2 : Z3.cell? ⟨w.heap.size, 2, none⟩ = some (.slice a2 q.states.length c2) := cellB Z3P.out 2 rfl
            have y3 : Z3.cell? ⟨w.heap.size, 3, none⟩ = some (.slice a3 q.msgs.length c3) := cellB Z3P.out 3 rfl
            have y4 : Z3.cell? ⟨w.heap.size, 4, none⟩ = some (.slice a4 q.vals.length c4) := cellB Z3P.out 4 rfl
            cases em : nmOk (q.states ++ (q.msgs ++ q.vals)) (q.states ++ (q.msgs ++ q.vals)).length with
            | false =>
              have Em := Lib.hid em
              clear em
              go_wp2_with (go_at_call 46; (refine (areNames_any (lo := lo) (k := 3) [q.states, q.msgs, q.vals] (by rfl) (by omega) (by rw [three_flat, List.length_append, List.length_append]; have := TR.out; omega) (by simp) (by intro s hs; rw [three_flat, List.mem_append, List.mem_append] at hs; rcases hs with hs | hs | hs; exact str_sizes H2.out s hs; exact str_sizes H3.out s hs; exact str_sizes H4.out s hs) (three_cells (new_cell Z3 _ _ 0 rfl) (new_cell Z3 _ _ 1 rfl) (new_cell Z3 _ _ 2 rfl) (H2.out.below StrEl.stays (thenBelow Z3B.out (allocBelow _ _))) (H3.out.below StrEl.stays (thenBelow Z3B.out (allocBelow _ _))) (H4.out.below StrEl.stays (thenBelow Z3B.out (allocBelow _ _))))).mono ?_); rw [three_flat, Em.out]; rintro e w1 ⟨rfl, hb⟩; have HB1 := Lib.hid (thenBelow (allocBelow Z3 _) hb); clear hb)
              go_ret
              exact ⟨ret_int (by unfold valE; rw [if_neg (by rw [En.out]; simp), if_neg (by rw [Et.out, Ef.out]; simp), if_neg E0.out, if_neg (by rw [Eb.out]; simp), if_pos Em.out]), thenBelow Z3B.out HB1.out⟩
            | true =>
              have Em := Lib.hid em
              clear em
              go_upto_region 11 with (go_at_call 46; (refine (areNames_any (lo := lo) (k := 3) [q.states, q.msgs, q.vals] (by rfl) (by omega) (by rw [three_flat, List.length_append, List.length_append]; have := TR.out; omega) (by simp) (by intro s hs; rw [three_flat, List.mem_append, List.mem_append] at hs; rcases hs with hs | hs | hs; exact str_sizes H2.out s hs; exact str_sizes H3.out s hs; exact str_sizes H4.out s hs) (three_cells (new_cell Z3 _ _ 0 rfl) (new_cell Z3 _ _ 1 rfl) (new_cell Z3 _ _ 2 rfl) (H2.out.below StrEl.stays (thenBelow Z3B.out (allocBelow _ _))) (H3.out.below StrEl.stays (thenBelow Z3B.out (allocBelow _ _))) (H4.out.below StrEl.stays (thenBelow Z3B.out (allocBelow _ _))))).mono ?_); rw [three_flat, Em.out]; rintro e w1 ⟨rfl, hb⟩; have HB1 := Lib.hid (thenBelow (allocBelow Z3 _) hb); clear hb)
              have VP := Lib.hid (keepB Z3P.out HB1.out)
              have VB := Lib.hid (thenBelow Z3B.out HB1.out)
              generalize w1 = V at VP VB ⊢
              clear y2 y3 y4
              have VPn := Lib.hid (show ∀ n : WIn (Below V.heap.size V), n.val.heap[w.heap.size]? = some (.cells #[.string q.nm, .int .i64 q.top, .slice a2 q.states.length c2, .slice a3 q.msgs.length c3, .slice a4 q.vals.length c4, .int .i64 q.fault, .slice a6 q.res.length c6, .slice a7 q.init.length c7, .slice a8 q.leader.length c8, .slice a9 q.rules.length c9] 27 (0, 0)) from fun n => keepB VP.out n.ok)
              have VBn := Lib.hid (show ∀ n : WIn (Below V.heap.size V), Below w.heap.size w n.val from fun n => thenBelow VB.out n.ok)
              have x1 : ∀ n : WIn (Below V.heap.size V), n.val.cell? ⟨w.heap.size, 1, none⟩ = some (.int .i64 q.top) := fun n => cellB (VPn.out n) 1 rfl
              by_cases t1 : q.top = 1
              · have t2 : (q.top == 1) = true := by simp [t1]
                have t3 : (q.top != 1) = false := by simp [t1]
                have T1 := Lib.hid t1
                clear t1
                refine wp_cls_seq ?_
                repeat (go_big_quiet_step (fail))
                refine wpQuiet_nil ?_
                intro n
                clear x1
                have V2P := Lib.hid (VPn.out n)
                have V2B := Lib.hid (VBn.out n)
                generalize n.val = V2 at V2P V2B ⊢
                clear n
                clear VP VB VPn VBn
                have V2Pn := Lib.hid (show ∀ n : WIn (Below V2.heap.size V2), n.val.heap[w.heap.size]? = some (.cells #[.string q.nm, .int .i64 q.top, .slice a2 q.states.length c2, .slice a3 q.msgs.length c3, .slice a4 q.vals.length c4, .int .i64 q.fault, .slice a6 q.res.length c6, .slice a7 q.init.length c7, .slice a8 q.leader.length c8, .slice a9 q.rules.length c9] 27 (0, 0)) from fun n => keepB V2P.out n.ok)
                have V2Bn := Lib.hid (show ∀ n : WIn (Below V2.heap.size V2), Below w.heap.size w n.val from fun n => thenBelow V2B.out n.ok)
                have x1 : ∀ n : WIn (Below V2.heap.size V2), n.val.cell? ⟨w.heap.size, 1, none⟩ = some (.int .i64 q.top) := fun n => cellB (V2Pn.out n) 1 rfl
                have x8 : ∀ n : WIn (Below V2.heap.size V2), n.val.cell? ⟨w.heap.size, 8, none⟩ = some (.slice a8 q.leader.length c8) := fun n => cellB (V2Pn.out n) 8 rfl
                go_upto_region 12 with (fail)
                by_cases hl : 0 < q.leader.length
                · have hl1 : (0 : Int) < ((q.leader.length : Nat) : Int) := by omega
                  refine wp_cls_seq ?_
                  repeat (go_big_quiet_step (fail))
                  refine wpQuiet_nil ?_
                  intro n
                  go_wp2_with fail
                  go_ret
                  exact ⟨ret_int (by unfold valE; rw [if_neg (by rw [En.out]; simp), if_neg (by rw [Et.out, Ef.out]; simp), if_neg E0.out, if_neg (by rw [Eb.out]; simp), if_neg (by rw [Em.out]; simp), if_pos (.inr ⟨T1.out, hl⟩)]), V2Bn.out n⟩
                · have hl1 : ¬ (0 : Int) < ((q.leader.length : Nat) : Int) := by omega
                  refine wp_cls_seq ?_
                  repeat (go_big_quiet_step (fail))
                  refine wpQuiet_nil ?_
                  intro n
                  have HLL := Lib.hid hl
                  clear x1 x8 hl1 hl t2 t3
                  have VP := Lib.hid (V2Pn.out n)
                  have VB := Lib.hid (V2Bn.out n)
                  generalize n.val = V at VP VB ⊢
                  clear n
                  clear V2P V2B V2Pn V2Bn
                  have VPn := Lib.hid (show ∀ n : WIn (Below V.heap.size V), n.val.heap[w.heap.size]? = some (.cells #[.string q.nm, .int .i64 q.top, .slice a2 q.states.length c2, .slice a3 q.msgs.length c3, .slice a4 q.vals.length c4, .int .i64 q.fault, .slice a6 q.res.length c6, .slice a7 q.init.length c7, .slice a8 q.leader.length c8, .slice a9 q.rules.length c9] 27 (0, 0)) from fun n => keepB VP.out n.ok)
                  have VBn := Lib.hid (show ∀ n : WIn (Below V.heap.size V), Below w.heap.size w n.val from fun n => thenBelow VB.out n.ok)
                  have x6 : ∀ n : WIn (Below V.heap.size V), n.val.cell? ⟨w.heap.size, 6, none⟩ = some (.slice a6 q.res.length c6) := fun n => cellB (VPn.out n) 6 rfl
                  go_upto_region 14 with (fail)
                  cases er : (q.res.any fun l => !smL l.c l.n l.t l.f) with
                  | true =>
                    have Er := Lib.hid er
                    clear er
                    refine wp_cls_seq ?_
                    iterate 2 go_big_quiet_step (fail)
                    go_big_quiet_step (((with_reducible refine (ContainsLarge_any (H6.out.below LnEl.stays (VBn.out _))).mono ?_); rw [Er.out]; rintro e w1 ⟨rfl, hb⟩; exact ⟨rfl, ⟨w1, thenBelow (WIn.ok _) hb⟩, rfl⟩))
                    repeat (go_big_quiet_step (fail))
                    refine wpQuiet_nil ?_
                    intro n
                    go_wp2_with fail
                    go_ret
                    exact ⟨ret_int (by unfold valE; rw [if_neg (by rw [En.out]; simp), if_neg (by rw [Et.out, Ef.out]; simp), if_neg E0.out, if_neg (by rw [Eb.out]; simp), if_neg (by rw [Em.out]; simp), if_neg (by rintro (h | h); exact h.1 T1.out; exact HLL.out h.2), if_pos Er.out]), VBn.out n⟩
                  | false =>
                    have Er := Lib.hid er
                    clear er
                    refine wp_cls_seq ?_
                    iterate 2 go_big_quiet_step (fail)
                    go_big_quiet_step (((with_reducible refine (ContainsLarge_any (H6.out.below LnEl.stays (VBn.out _))).mono ?_); rw [Er.out]; rintro e w1 ⟨rfl, hb⟩; exact ⟨rfl, ⟨w1, thenBelow (WIn.ok _) hb⟩, rfl⟩))
                    repeat (go_big_quiet_step (fail))
                    refine wpQuiet_nil ?_
                    intro n
                    clear x6
                    have UP := Lib.hid (VPn.out n)
                    have UB := Lib.hid (VBn.out n)
                    generalize n.val = U at UP UB ⊢
                    clear n
                    have UPn := Lib.hid (show ∀ n : WIn (Below U.heap.size U), n.val.heap[w.heap.size]? = some (.cells #[.string q.nm, .int .i64 q.top, .slice a2 q.states.length c2, .slice a3 q.msgs.length c3, .slice a4 q.vals.length c4, .int .i64 q.fault, .slice a6 q.res.length c6, .slice a7 q.init.length c7, .slice a8 q.leader.length c8, .slice a9 q.rules.length c9] 27 (0, 0)) from fun n => keepB UP.out n.ok)
                    have UBn := Lib.hid (show ∀ n : WIn (Below U.heap.size U), Below w.heap.size w n.val from fun n => thenBelow UB.out n.ok)
                    have x2 : ∀ n : WIn (Below U.heap.size U), n.val.cell? ⟨w.heap.size, 2, none⟩ = some (.slice a2 q.states.length c2) := fun n => cellB (UPn.out n) 2 rfl
                    have x7 : ∀ n : WIn (Below U.heap.size U), n.val.cell? ⟨w.heap.size, 7, none⟩ = some (.slice a7 q.init.length c7) := fun n => cellB (UPn.out n) 7 rfl
                    have x8 : ∀ n : WIn (Below U.heap.size U), n.val.cell? ⟨w.heap.size, 8, none⟩ = some (.slice a8 q.leader.length c8) := fun n => cellB (UPn.out n) 8 rfl
                    go_upto_region 16 with (fail)
                    refine wp_cls_tail 12 (by kernel_rfl) (by kernel_rfl) ?_
                    simp only [List.take_succ_cons, List.take_zero]
                    iterate 5 go_big_quiet_step (fail)
                    go_big_quiet_step (((with_reducible refine ((someSetError_any q.states.length HN.out (H7.out.below (UBn.out _)))).mono ?_); skip; rintro e w1 ⟨rfl, hb⟩; exact ⟨rfl, ⟨w1, thenBelow (WIn.ok _) hb⟩, rfl⟩))
                    iterate 5 go_big_quiet_step (fail)
                    go_big_quiet_step (((with_reducible refine ((setError_any q.states.length HN.out (H8.out.below (UBn.out _)))).mono ?_); skip; rintro e w1 ⟨rfl, hb⟩; exact ⟨rfl, ⟨w1, thenBelow (WIn.ok _) hb⟩, rfl⟩))
                    refine wpQuiet_nil ?_
                    intro m
                    simp only [List.drop_succ_cons, List.drop_zero]
                    clear x2 x7 x8
                    by_cases eo : orL [someE q.states.length q.init, setE q.states.length q.leader] = 0
                    · have Eo := Lib.hid eo
                      have MP := Lib.hid (UPn.out m)
                      have MB := Lib.hid (UBn.out m)
                      go_upto_region 17 with (go_at_call 50; refine (OrE_block [someE q.states.length q.init, setE q.states.length q.leader] (by exact heap_new m.val _ rfl) (by rfl) (by rfl) (by simp)).mono ?_; rintro e w1 ⟨rfl, rfl⟩)
                      clear eo
                      have SP := Lib.hid (keepB MP.out (allocBelow m.val (.cells #[.int .i64 (someE q.states.length q.init), .int .i64 (setE q.states.length q.leader)] 31)))
                      have SB := Lib.hid (thenBelow MB.out (allocBelow m.val (.cells #[.int .i64 (someE q.states.length q.init), .int .i64 (setE q.states.length q.leader)] 31)))
                      generalize m.val.alloc (.cells #[.int .i64 (someE q.states.length q.init), .int .i64 (setE q.states.length q.leader)] 31) = S at SP SB ⊢
                      have s9 : S.cell? ⟨w.heap.size, 9, none⟩ = some (.slice a9 q.rules.length c9) := cellB SP.out 9 rfl
                      generalize hn : q.rules.length = n at s9
                      have HRN := Lib.hid hn
                      clear hn
                      go_wp2_with fail
                      go_loopw [81] (fun u wr => ∃ i : Nat, i ≤ n ∧ u = .int .i64 i ∧ (∀ j (hj : j < q.rules.length), j < i → ruleE q j q.rules[j] = 0) ∧ rulesE q 0 n = rulesE q i (n - i) ∧ wr.heap[w.heap.size]? = some (.cells #[.string q.nm, .int .i64 q.top, .slice a2 q.states.length c2, .slice a3 q.msgs.length c3, .slice a4 q.vals.length c4, .int .i64 q.fault, .slice a6 q.res.length c6, .slice a7 q.init.length c7, .slice a8 q.leader.length c8, .slice a9 q.rules.length c9] 27 (0, 0)) ∧ Below w.heap.size w wr) (fun u _ => n - (intOf u).toNat)
                      case atStart => exact ⟨0, Nat.zero_le _, rfl, fun _ _ h => absurd h (by omega), rfl, SP.out, SB.out⟩
                      case round =>
                        obtain ⟨i, hi, rfl, hz, hre, hP, hB⟩ := hrel
                        obtain ⟨R, hR⟩ : ∃ R : World, R = wr := ⟨_, rfl⟩
                        rw [← hR] at hP hB ⊢
                        clear hR
                        have HZ := Lib.hid hz
                        have HRE := Lib.hid hre
                        have RP := Lib.hid hP
                        have RB := Lib.hid hB
                        clear hz hre hP hB
                        by_cases h1 : i < n
                        · have hix : i < q.rules.length := by rw [HRN.out]; exact h1
                          have hi8 : i < 8 := by have := TR.out; omega
                          go_upto_region 22 with (fail)
                          have RPn := Lib.hid (show ∀ n : WIn (Below R.heap.size R), n.val.heap[w.heap.size]? = some (.cells #[.string q.nm, .int .i64 q.top, .slice a2 q.states.length c2, .slice a3 q.msgs.length c3, .slice a4 q.vals.length c4, .int .i64 q.fault, .slice a6 q.res.length c6, .slice a7 q.init.length c7, .slice a8 q.leader.length c8, .slice a9 q.rules.length c9] 27 (0, 0)) from fun n => keepB RP.out n.ok)
                          have RBn := Lib.hid (show ∀ n : WIn (Below R.heap.size R), Below w.heap.size w n.val from fun n => thenBelow RB.out n.ok)
                          by_cases er : ruleE q i q.rules[i] = 0
                          · have Er0 := Lib.hid er
                            clear er
                            refine wp_cls_seq ?_
                            refine BigFrame.wpQuiet_want (by rfl) (fun K hK => ?_)
                            refine quiet_ld Tryd.underlying27 info_prot (.tmp 1) (by rfl) w.heap.size 0 [.string q.nm, .int .i64 q.top, .slice a2 q.states.length c2, .slice a3 q.msgs.length c3, .slice a4 q.vals.length c4, .int .i64 q.fault, .slice a6 q.res.length c6, .slice a7 q.init.length c7, .slice a8 q.leader.length c8, .slice a9 q.rules.length c9] (by rfl) (by rfl) (by rintro _ ⟨n, rfl⟩; exact rangeBlock (RPn.out n)) (hK _ ?_)
                            clear hK K
                            simp only [Act.put, List.setIfInBounds_toArray, List.set_cons_succ, List.set_cons_zero]
                            iterate 1 go_big_quiet_step (fail)
                            go_big_quiet_step (((with_reducible refine (ruleError_any i hix (HQ.out.below (RBn.out _))).mono ?_); rw [Er0.out]; rintro e w1 ⟨rfl, hb⟩; exact ⟨rfl, ⟨w1, thenBelow (WIn.ok _) hb⟩, rfl⟩))
                            repeat (go_big_quiet_step (fail))
                            refine wpQuiet_nil ?_
                            intro N
                            have TP := Lib.hid (RPn.out N)
                            have TB := Lib.hid (RBn.out N)
                            go_wp2_with fail
                            go_roundw
                            case rel =>
                              refine ⟨i + 1, by omega, by go_num, fun j hj hji => ?_, by rw [HRE.out]; exact rulesE_next h1 HRN.out Er0.out, TP.out, TB.out⟩
                              by_cases hj2 : j < i
                              · exact HZ.out j hj hj2
                              · obtain rfl : j = i := by omega
                                exact Er0.out
                            case measure => simp [intOf]; omega
                          · have Er0 := Lib.hid er
                            have er1 : (ruleE q i q.rules[i] != 0) = true := by simpa using er
                            clear er
                            refine wp_cls_seq ?_
                            refine BigFrame.wpQuiet_want (by rfl) (fun K hK => ?_)
                            refine quiet_ld Tryd.underlying27 info_prot (.tmp 1) (by rfl) w.heap.size 0 [.string q.nm, .int .i64 q.top, .slice a2 q.states.length c2, .slice a3 q.msgs.length c3, .slice a4 q.vals.length c4, .int .i64 q.fault, .slice a6 q.res.length c6, .slice a7 q.init.length c7, .slice a8 q.leader.length c8, .slice a9 q.rules.length c9] (by rfl) (by rfl) (by rintro _ ⟨n, rfl⟩; exact rangeBlock (RPn.out n)) (hK _ ?_)
                            clear hK K
                            simp only [Act.put, List.setIfInBounds_toArray, List.set_cons_succ, List.set_cons_zero]
                            iterate 1 go_big_quiet_step (fail)
                            go_big_quiet_step (((with_reducible refine (ruleError_any i hix (HQ.out.below (RBn.out _))).mono ?_); skip; rintro e w1 ⟨rfl, hb⟩; exact ⟨rfl, ⟨w1, thenBelow (WIn.ok _) hb⟩, rfl⟩))
                            repeat (go_big_quiet_step (fail))
                            refine wpQuiet_nil ?_
                            intro N
                            go_wp2_with fail
                            go_ret
                            exact ⟨ret_int (by unfold valE; rw [if_neg (by rw [En.out]; simp), if_neg (by rw [Et.out, Ef.out]; simp), if_neg E0.out, if_neg (by rw [Eb.out]; simp), if_neg (by rw [Em.out]; simp), if_neg (by rintro (h | h); exact h.1 T1.out; exact HLL.out h.2), if_neg (by rw [Er.out]; simp)]; exact (val_rules Eo.out (by rw [HRN.out, HRE.out]; exact rulesE_here h1 HRN.out Er0.out) Er0.out).symm), RBn.out N⟩
                        · obtain rfl : i = n := by omega
                          have HALL := Lib.hid (show ∀ r ∈ q.rules, r.guards.length ≤ 2 from fun r hr => by obtain ⟨j, hj, rfl⟩ := List.getElem_of_mem hr; exact rule_guards (HZ.out j hj (by rw [← HRN.out]; exact hj)))
                          have HR0 := Lib.hid (show rulesE q 0 q.rules.length = 0 by rw [HRN.out, HRE.out, Nat.sub_self]; rfl)
                          have r9 : R.cell? ⟨w.heap.size, 9, none⟩ = some (.slice a9 i c9) := by have := cellB RP.out 9 (v := .slice a9 q.rules.length c9) rfl; rwa [HRN.out] at this
                          have H9i := Lib.hid (show IsSl 18 RuEl lo R (.slice a9 i c9) q.rules by have := H9.out.below RuEl.stays RB.out; rwa [HRN.out] at this)
                          by_cases hd : 3 < (diffG q.rules).length
                          · have hd1 : (3 : Int) < (((diffG q.rules).length : Nat) : Int) := by omega
                            go_wp2_with (go_at_call 54; (with_reducible refine (differentGuards_any H9i.out (by have := TR.out; omega) HALL.out).mono ?_); rintro e w1 ⟨v', rfl, hO, hb⟩; obtain ⟨av, cv, rfl⟩ := rows_shape hO.1; have HB1 := Lib.hid (thenBelow RB.out hb); clear hb hO)
                            go_ret
                            exact ⟨ret_int (by unfold valE; rw [if_neg (by rw [En.out]; simp), if_neg (by rw [Et.out, Ef.out]; simp), if_neg E0.out, if_neg (by rw [Eb.out]; simp), if_neg (by rw [Em.out]; simp), if_neg (by rintro (h | h); exact h.1 T1.out; exact HLL.out h.2), if_neg (by rw [Er.out]; simp)]; exact (val_end Eo.out HR0.out).trans (if_pos hd) |>.symm), HB1.out⟩
                          · have hd1 : ¬ (3 : Int) < (((diffG q.rules).length : Nat) : Int) := by omega
                            go_wp2_with (go_at_call 54; (with_reducible refine (differentGuards_any H9i.out (by have := TR.out; omega) HALL.out).mono ?_); rintro e w1 ⟨v', rfl, hO, hb⟩; obtain ⟨av, cv, rfl⟩ := rows_shape hO.1; have HB1 := Lib.hid (thenBelow RB.out hb); clear hb hO)
                            go_ret
                            exact ⟨ret_int (by unfold valE; rw [if_neg (by rw [En.out]; simp), if_neg (by rw [Et.out, Ef.out]; simp), if_neg E0.out, if_neg (by rw [Eb.out]; simp), if_neg (by rw [Em.out]; simp), if_neg (by rintro (h | h); exact h.1 T1.out; exact HLL.out h.2), if_neg (by rw [Er.out]; simp)]; exact (val_end Eo.out HR0.out).trans (if_neg hd) |>.symm), HB1.out⟩
                    · have eo1 : (orL [someE q.states.length q.init, setE q.states.length q.leader] != 0) = true := by simpa using eo
                      have Eo := Lib.hid eo
                      have MB := Lib.hid (UBn.out m)
                      clear eo
                      go_wp2_with (go_at_call 50; refine (OrE_block [someE q.states.length q.init, setE q.states.length q.leader] (by exact heap_new m.val _ rfl) (by rfl) (by rfl) (by simp)).mono ?_; rintro e w1 ⟨rfl, rfl⟩)
                      go_ret
                      exact ⟨ret_int (by unfold valE; rw [if_neg (by rw [En.out]; simp), if_neg (by rw [Et.out, Ef.out]; simp), if_neg E0.out, if_neg (by rw [Eb.out]; simp), if_neg (by rw [Em.out]; simp), if_neg (by rintro (h | h); exact h.1 T1.out; exact HLL.out h.2), if_neg (by rw [Er.out]; simp)]; exact (val_sets Eo.out).symm), thenBelow MB.out (allocBelow m.val _)⟩
              · have t2 : (q.top == 1) = false := by simp [t1]
                have t3 : (q.top != 1) = true := by simpa using t1
                have T1 := Lib.hid t1
                clear t1
                cases ec : cliB q with
                | true =>
                  have Ec := Lib.hid ec
                  clear ec
                  refine wp_cls_seq ?_
                  iterate 4 go_big_quiet_step (fail)
                  refine BigFrame.wpQuiet_want (by rfl) (fun K hK => ?_)
                  refine quiet_ld Tryd.underlying27 info_prot (.tmp 1) (by rfl) w.heap.size 0 [.string q.nm, .int .i64 q.top, .slice a2 q.states.length c2, .slice a3 q.msgs.length c3, .slice a4 q.vals.length c4, .int .i64 q.fault, .slice a6 q.res.length c6, .slice a7 q.init.length c7, .slice a8 q.leader.length c8, .slice a9 q.rules.length c9] (by rfl) (by rfl) (by rintro _ ⟨n, rfl⟩; exact rangeBlock (VPn.out n)) (hK _ ?_)
                  clear hK K
                  simp only [Act.put, List.setIfInBounds_toArray, List.set_cons_succ, List.set_cons_zero]
                  go_big_quiet_step (((with_reducible refine (hasCliqueParts_any (HQ.out.below (VBn.out _))).mono ?_); rw [Ec.out]; rintro e w1 ⟨rfl, hb⟩; exact ⟨rfl, ⟨w1, thenBelow (WIn.ok _) hb⟩, rfl⟩))
                  repeat (go_big_quiet_step (fail))
                  refine wpQuiet_nil ?_
                  intro n
                  go_wp2_with fail
                  go_ret
                  exact ⟨ret_int (by unfold valE; rw [if_neg (by rw [En.out]; simp), if_neg (by rw [Et.out, Ef.out]; simp), if_neg E0.out, if_neg (by rw [Eb.out]; simp), if_neg (by rw [Em.out]; simp), if_pos (.inl ⟨T1.out, Ec.out⟩)]), VBn.out n⟩
                | false =>
                  have Ec := Lib.hid ec
                  clear ec
                  refine wp_cls_seq ?_
                  iterate 4 go_big_quiet_step (fail)
                  refine BigFrame.wpQuiet_want (by rfl) (fun K hK => ?_)
                  refine quiet_ld Tryd.underlying27 info_prot (.tmp 1) (by rfl) w.heap.size 0 [.string q.nm, .int .i64 q.top, .slice a2 q.states.length c2, .slice a3 q.msgs.length c3, .slice a4 q.vals.length c4, .int .i64 q.fault, .slice a6 q.res.length c6, .slice a7 q.init.length c7, .slice a8 q.leader.length c8, .slice a9 q.rules.length c9] (by rfl) (by rfl) (by rintro _ ⟨n, rfl⟩; exact rangeBlock (VPn.out n)) (hK _ ?_)
                  clear hK K
                  simp only [Act.put, List.setIfInBounds_toArray, List.set_cons_succ, List.set_cons_zero]
                  go_big_quiet_step (((with_reducible refine (hasCliqueParts_any (HQ.out.below (VBn.out _))).mono ?_); rw [Ec.out]; rintro e w1 ⟨rfl, hb⟩; exact ⟨rfl, ⟨w1, thenBelow (WIn.ok _) hb⟩, rfl⟩))
                  repeat (go_big_quiet_step (fail))
                  refine wpQuiet_nil ?_
                  intro n
                  clear x1
                  have V2P := Lib.hid (VPn.out n)
                  have V2B := Lib.hid (VBn.out n)
                  generalize n.val = V2 at V2P V2B ⊢
                  clear n
                  clear VP VB VPn VBn
                  have V2Pn := Lib.hid (show ∀ n : WIn (Below V2.heap.size V2), n.val.heap[w.heap.size]? = some (.cells #[.string q.nm, .int .i64 q.top, .slice a2 q.states.length c2, .slice a3 q.msgs.length c3, .slice a4 q.vals.length c4, .int .i64 q.fault, .slice a6 q.res.length c6, .slice a7 q.init.length c7, .slice a8 q.leader.length c8, .slice a9 q.rules.length c9] 27 (0, 0)) from fun n => keepB V2P.out n.ok)
                  have V2Bn := Lib.hid (show ∀ n : WIn (Below V2.heap.size V2), Below w.heap.size w n.val from fun n => thenBelow V2B.out n.ok)
                  have x1 : ∀ n : WIn (Below V2.heap.size V2), n.val.cell? ⟨w.heap.size, 1, none⟩ = some (.int .i64 q.top) := fun n => cellB (V2Pn.out n) 1 rfl
                  go_upto_region 12 with (fail)
                  refine wp_cls_seq ?_
                  repeat (go_big_quiet_step (fail))
                  refine wpQuiet_nil ?_
                  intro n
                  clear x1 t2 t3
                  have VP := Lib.hid (V2Pn.out n)
                  have VB := Lib.hid (V2Bn.out n)
                  generalize n.val = V at VP VB ⊢
                  clear n
                  clear V2P V2B V2Pn V2Bn
                  have VPn := Lib.hid (show ∀ n : WIn (Below V.heap.size V), n.val.heap[w.heap.size]? = some (.cells #[.string q.nm, .int .i64 q.top, .slice a2 q.states.length c2, .slice a3 q.msgs.length c3, .slice a4 q.vals.length c4, .int .i64 q.fault, .slice a6 q.res.length c6, .slice a7 q.init.length c7, .slice a8 q.leader.length c8, .slice a9 q.rules.length c9] 27 (0, 0)) from fun n => keepB VP.out n.ok)
                  have VBn := Lib.hid (show ∀ n : WIn (Below V.heap.size V), Below w.heap.size w n.val from fun n => thenBelow VB.out n.ok)
                  have x6 : ∀ n : WIn (Below V.heap.size V), n.val.cell? ⟨w.heap.size, 6, none⟩ = some (.slice a6 q.res.length c6) := fun n => cellB (VPn.out n) 6 rfl
                  go_upto_region 14 with (fail)
                  cases er : (q.res.any fun l => !smL l.c l.n l.t l.f) with
                  | true =>
                    have Er := Lib.hid er
                    clear er
                    refine wp_cls_seq ?_
                    iterate 2 go_big_quiet_step (fail)
                    go_big_quiet_step (((with_reducible refine (ContainsLarge_any (H6.out.below LnEl.stays (VBn.out _))).mono ?_); rw [Er.out]; rintro e w1 ⟨rfl, hb⟩; exact ⟨rfl, ⟨w1, thenBelow (WIn.ok _) hb⟩, rfl⟩))
                    repeat (go_big_quiet_step (fail))
                    refine wpQuiet_nil ?_
                    intro n
                    go_wp2_with fail
                    go_ret
                    exact ⟨ret_int (by unfold valE; rw [if_neg (by rw [En.out]; simp), if_neg (by rw [Et.out, Ef.out]; simp), if_neg E0.out, if_neg (by rw [Eb.out]; simp), if_neg (by rw [Em.out]; simp), if_neg (by rintro (h | h); exact absurd h.2 (by rw [Ec.out]; simp); exact T1.out h.1), if_pos Er.out]), VBn.out n⟩
                  | false =>
                    have Er := Lib.hid er
                    clear er
                    refine wp_cls_seq ?_
                    iterate 2 go_big_quiet_step (fail)
                    go_big_quiet_step (((with_reducible refine (ContainsLarge_any (H6.out.below LnEl.stays (VBn.out _))).mono ?_); rw [Er.out]; rintro e w1 ⟨rfl, hb⟩; exact ⟨rfl, ⟨w1, thenBelow (WIn.ok _) hb⟩, rfl⟩))
                    repeat (go_big_quiet_step (fail))
                    refine wpQuiet_nil ?_
                    intro n
                    clear x6
                    have UP := Lib.hid (VPn.out n)
                    have UB := Lib.hid (VBn.out n)
                    generalize n.val = U at UP UB ⊢
                    clear n
                    have UPn := Lib.hid (show ∀ n : WIn (Below U.heap.size U), n.val.heap[w.heap.size]? = some (.cells #[.string q.nm, .int .i64 q.top, .slice a2 q.states.length c2, .slice a3 q.msgs.length c3, .slice a4 q.vals.length c4, .int .i64 q.fault, .slice a6 q.res.length c6, .slice a7 q.init.length c7, .slice a8 q.leader.length c8, .slice a9 q.rules.length c9] 27 (0, 0)) from fun n => keepB UP.out n.ok)
                    have UBn := Lib.hid (show ∀ n : WIn (Below U.heap.size U), Below w.heap.size w n.val from fun n => thenBelow UB.out n.ok)
                    have x2 : ∀ n : WIn (Below U.heap.size U), n.val.cell? ⟨w.heap.size, 2, none⟩ = some (.slice a2 q.states.length c2) := fun n => cellB (UPn.out n) 2 rfl
                    have x7 : ∀ n : WIn (Below U.heap.size U), n.val.cell? ⟨w.heap.size, 7, none⟩ = some (.slice a7 q.init.length c7) := fun n => cellB (UPn.out n) 7 rfl
                    have x8 : ∀ n : WIn (Below U.heap.size U), n.val.cell? ⟨w.heap.size, 8, none⟩ = some (.slice a8 q.leader.length c8) := fun n => cellB (UPn.out n) 8 rfl
                    go_upto_region 16 with (fail)
                    refine wp_cls_tail 12 (by kernel_rfl) (by kernel_rfl) ?_
                    simp only [List.take_succ_cons, List.take_zero]
                    iterate 5 go_big_quiet_step (fail)
                    go_big_quiet_step (((with_reducible refine ((someSetError_any q.states.length HN.out (H7.out.below (UBn.out _)))).mono ?_); skip; rintro e w1 ⟨rfl, hb⟩; exact ⟨rfl, ⟨w1, thenBelow (WIn.ok _) hb⟩, rfl⟩))
                    iterate 5 go_big_quiet_step (fail)
                    go_big_quiet_step (((with_reducible refine ((setError_any q.states.length HN.out (H8.out.below (UBn.out _)))).mono ?_); skip; rintro e w1 ⟨rfl, hb⟩; exact ⟨rfl, ⟨w1, thenBelow (WIn.ok _) hb⟩, rfl⟩))
                    refine wpQuiet_nil ?_
                    intro m
                    simp only [List.drop_succ_cons, List.drop_zero]
                    clear x2 x7 x8
                    by_cases eo : orL [someE q.states.length q.init, setE q.states.length q.leader] = 0
                    · have Eo := Lib.hid eo
                      have MP := Lib.hid (UPn.out m)
                      have MB := Lib.hid (UBn.out m)
                      go_upto_region 17 with (go_at_call 50; refine (OrE_block [someE q.states.length q.init, setE q.states.length q.leader] (by exact heap_new m.val _ rfl) (by rfl) (by rfl) (by simp)).mono ?_; rintro e w1 ⟨rfl, rfl⟩)
                      clear eo
                      have SP := Lib.hid (keepB MP.out (allocBelow m.val (.cells #[.int .i64 (someE q.states.length q.init), .int .i64 (setE q.states.length q.leader)] 31)))
                      have SB := Lib.hid (thenBelow MB.out (allocBelow m.val (.cells #[.int .i64 (someE q.states.length q.init), .int .i64 (setE q.states.length q.leader)] 31)))
                      generalize m.val.alloc (.cells #[.int .i64 (someE q.states.length q.init), .int .i64 (setE q.states.length q.leader)] 31) = S at SP SB ⊢
                      have s9 : S.cell? ⟨w.heap.size, 9, none⟩ = some (.slice a9 q.rules.length c9) := cellB SP.out 9 rfl
                      generalize hn : q.rules.length = n at s9
                      have HRN := Lib.hid hn
                      clear hn
                      go_wp2_with fail
                      go_loopw [81] (fun u wr => ∃ i : Nat, i ≤ n ∧ u = .int .i64 i ∧ (∀ j (hj : j < q.rules.length), j < i → ruleE q j q.rules[j] = 0) ∧ rulesE q 0 n = rulesE q i (n - i) ∧ wr.heap[w.heap.size]? = some (.cells #[.string q.nm, .int .i64 q.top, .slice a2 q.states.length c2, .slice a3 q.msgs.length c3, .slice a4 q.vals.length c4, .int .i64 q.fault, .slice a6 q.res.length c6, .slice a7 q.init.length c7, .slice a8 q.leader.length c8, .slice a9 q.rules.length c9] 27 (0, 0)) ∧ Below w.heap.size w wr) (fun u _ => n - (intOf u).toNat)
                      case atStart => exact ⟨0, Nat.zero_le _, rfl, fun _ _ h => absurd h (by omega), rfl, SP.out, SB.out⟩
                      case round =>
                        obtain ⟨i, hi, rfl, hz, hre, hP, hB⟩ := hrel
                        obtain ⟨R, hR⟩ : ∃ R : World, R = wr := ⟨_, rfl⟩
                        rw [← hR] at hP hB ⊢
                        clear hR
                        have HZ := Lib.hid hz
                        have HRE := Lib.hid hre
                        have RP := Lib.hid hP
                        have RB := Lib.hid hB
                        clear hz hre hP hB
                        by_cases h1 : i < n
                        · have hix : i < q.rules.length := by rw [HRN.out]; exact h1
                          have hi8 : i < 8 := by have := TR.out; omega
                          go_upto_region 22 with (fail)
                          have RPn := Lib.hid (show ∀ n : WIn (Below R.heap.size R), n.val.heap[w.heap.size]? = some (.cells #[.string q.nm, .int .i64 q.top, .slice a2 q.states.length c2, .slice a3 q.msgs.length c3, .slice a4 q.vals.length c4, .int .i64 q.fault, .slice a6 q.res.length c6, .slice a7 q.init.length c7, .slice a8 q.leader.length c8, .slice a9 q.rules.length c9] 27 (0, 0)) from fun n => keepB RP.out n.ok)
                          have RBn := Lib.hid (show ∀ n : WIn (Below R.heap.size R), Below w.heap.size w n.val from fun n => thenBelow RB.out n.ok)
                          by_cases er : ruleE q i q.rules[i] = 0
                          · have Er0 := Lib.hid er
                            clear er
                            refine wp_cls_seq ?_
                            refine BigFrame.wpQuiet_want (by rfl) (fun K hK => ?_)
                            refine quiet_ld Tryd.underlying27 info_prot (.tmp 1) (by rfl) w.heap.size 0 [.string q.nm, .int .i64 q.top, .slice a2 q.states.length c2, .slice a3 q.msgs.length c3, .slice a4 q.vals.length c4, .int .i64 q.fault, .slice a6 q.res.length c6, .slice a7 q.init.length c7, .slice a8 q.leader.length c8, .slice a9 q.rules.length c9] (by rfl) (by rfl) (by rintro _ ⟨n, rfl⟩; exact rangeBlock (RPn.out n)) (hK _ ?_)
                            clear hK K
                            simp only [Act.put, List.setIfInBounds_toArray, List.set_cons_succ, List.set_cons_zero]
                            iterate 1 go_big_quiet_step (fail)
                            go_big_quiet_step (((with_reducible refine (ruleError_any i hix (HQ.out.below (RBn.out _))).mono ?_); rw [Er0.out]; rintro e w1 ⟨rfl, hb⟩; exact ⟨rfl, ⟨w1, thenBelow (WIn.ok _) hb⟩, rfl⟩))
                            repeat (go_big_quiet_step (fail))
                            refine wpQuiet_nil ?_
                            intro N
                            have TP := Lib.hid (RPn.out N)
                            have TB := Lib.hid (RBn.out N)
                            go_wp2_with fail
                            go_roundw
                            case rel =>
                              refine ⟨i + 1, by omega, by go_num, fun j hj hji => ?_, by rw [HRE.out]; exact rulesE_next h1 HRN.out Er0.out, TP.out, TB.out⟩
                              by_cases hj2 : j < i
                              · exact HZ.out j hj hj2
                              · obtain rfl : j = i := by omega
                                exact Er0.out
                            case measure => simp [intOf]; omega
                          · have Er0 := Lib.hid er
                            have er1 : (ruleE q i q.rules[i] != 0) = true := by simpa using er
                            clear er
                            refine wp_cls_seq ?_
                            refine BigFrame.wpQuiet_want (by rfl) (fun K hK => ?_)
                            refine quiet_ld Tryd.underlying27 info_prot (.tmp 1) (by rfl) w.heap.size 0 [.string q.nm, .int .i64 q.top, .slice a2 q.states.length c2, .slice a3 q.msgs.length c3, .slice a4 q.vals.length c4, .int .i64 q.fault, .slice a6 q.res.length c6, .slice a7 q.init.length c7, .slice a8 q.leader.length c8, .slice a9 q.rules.length c9] (by rfl) (by rfl) (by rintro _ ⟨n, rfl⟩; exact rangeBlock (RPn.out n)) (hK _ ?_)
                            clear hK K
                            simp only [Act.put, List.setIfInBounds_toArray, List.set_cons_succ, List.set_cons_zero]
                            iterate 1 go_big_quiet_step (fail)
                            go_big_quiet_step (((with_reducible refine (ruleError_any i hix (HQ.out.below (RBn.out _))).mono ?_); skip; rintro e w1 ⟨rfl, hb⟩; exact ⟨rfl, ⟨w1, thenBelow (WIn.ok _) hb⟩, rfl⟩))
                            repeat (go_big_quiet_step (fail))
                            refine wpQuiet_nil ?_
                            intro N
                            go_wp2_with fail
                            go_ret
                            exact ⟨ret_int (by unfold valE; rw [if_neg (by rw [En.out]; simp), if_neg (by rw [Et.out, Ef.out]; simp), if_neg E0.out, if_neg (by rw [Eb.out]; simp), if_neg (by rw [Em.out]; simp), if_neg (by rintro (h | h); exact absurd h.2 (by rw [Ec.out]; simp); exact T1.out h.1), if_neg (by rw [Er.out]; simp)]; exact (val_rules Eo.out (by rw [HRN.out, HRE.out]; exact rulesE_here h1 HRN.out Er0.out) Er0.out).symm), RBn.out N⟩
                        · obtain rfl : i = n := by omega
                          have HALL := Lib.hid (show ∀ r ∈ q.rules, r.guards.length ≤ 2 from fun r hr => by obtain ⟨j, hj, rfl⟩ := List.getElem_of_mem hr; exact rule_guards (HZ.out j hj (by rw [← HRN.out]; exact hj)))
                          have HR0 := Lib.hid (show rulesE q 0 q.rules.length = 0 by rw [HRN.out, HRE.out, Nat.sub_self]; rfl)
                          have r9 : R.cell? ⟨w.heap.size, 9, none⟩ = some (.slice a9 i c9) := by have := cellB RP.out 9 (v := .slice a9 q.rules.length c9) rfl; rwa [HRN.out] at this
                          have H9i := Lib.hid (show IsSl 18 RuEl lo R (.slice a9 i c9) q.rules by have := H9.out.below RuEl.stays RB.out; rwa [HRN.out] at this)
                          by_cases hd : 3 < (diffG q.rules).length
                          · have hd1 : (3 : Int) < (((diffG q.rules).length : Nat) : Int) := by omega
                            go_wp2_with (go_at_call 54; (with_reducible refine (differentGuards_any H9i.out (by have := TR.out; omega) HALL.out).mono ?_); rintro e w1 ⟨v', rfl, hO, hb⟩; obtain ⟨av, cv, rfl⟩ := rows_shape hO.1; have HB1 := Lib.hid (thenBelow RB.out hb); clear hb hO)
                            go_ret
                            exact ⟨ret_int (by unfold valE; rw [if_neg (by rw [En.out]; simp), if_neg (by rw [Et.out, Ef.out]; simp), if_neg E0.out, if_neg (by rw [Eb.out]; simp), if_neg (by rw [Em.out]; simp), if_neg (by rintro (h | h); exact absurd h.2 (by rw [Ec.out]; simp); exact T1.out h.1), if_neg (by rw [Er.out]; simp)]; exact (val_end Eo.out HR0.out).trans (if_pos hd) |>.symm), HB1.out⟩
                          · have hd1 : ¬ (3 : Int) < (((diffG q.rules).length : Nat) : Int) := by omega
                            go_wp2_with (go_at_call 54; (with_reducible refine (differentGuards_any H9i.out (by have := TR.out; omega) HALL.out).mono ?_); rintro e w1 ⟨v', rfl, hO, hb⟩; obtain ⟨av, cv, rfl⟩ := rows_shape hO.1; have HB1 := Lib.hid (thenBelow RB.out hb); clear hb hO)
                            go_ret
                            exact ⟨ret_int (by unfold valE; rw [if_neg (by rw [En.out]; simp), if_neg (by rw [Et.out, Ef.out]; simp), if_neg E0.out, if_neg (by rw [Eb.out]; simp), if_neg (by rw [Em.out]; simp), if_neg (by rintro (h | h); exact absurd h.2 (by rw [Ec.out]; simp); exact T1.out h.1), if_neg (by rw [Er.out]; simp)]; exact (val_end Eo.out HR0.out).trans (if_neg hd) |>.symm), HB1.out⟩
                    · have eo1 : (orL [someE q.states.length q.init, setE q.states.length q.leader] != 0) = true := by simpa using eo
                      have Eo := Lib.hid eo
                      have MB := Lib.hid (UBn.out m)
                      clear eo
                      go_wp2_with (go_at_call 50; refine (OrE_block [someE q.states.length q.init, setE q.states.length q.leader] (by exact heap_new m.val _ rfl) (by rfl) (by rfl) (by simp)).mono ?_; rintro e w1 ⟨rfl, rfl⟩)
                      go_ret
                      exact ⟨ret_int (by unfold valE; rw [if_neg (by rw [En.out]; simp), if_neg (by rw [Et.out, Ef.out]; simp), if_neg E0.out, if_neg (by rw [Eb.out]; simp), if_neg (by rw [Em.out]; simp), if_neg (by rintro (h | h); exact absurd h.2 (by rw [Ec.out]; simp); exact T1.out h.1), if_neg (by rw [Er.out]; simp)]; exact (val_sets Eo.out).symm), thenBelow MB.out (allocBelow m.val _)⟩
end Go.Proofs.YtmpbfdfjcfanoaaDoor

/-
  THE ELDER CONTRACTS IN THE NEW FORM.
-/
namespace Go.Proofs.YtmpbfdfjcfanoaaDoor
open Go.RowKit Go.Deep
variable {J : World → Prop}
theorem lo0 {w : World} : ∀ b, b < w.heap.size → 0 ≤ b := fun _ _ => Nat.zero_le _
theorem within_c (n lo hi : Int) : Ctr Tryd.prog J 56 [iv n, iv lo, iv hi] (bv (inB lo hi n)) := ctr3 fun w v v' v'' _ h h' h'' => by
  rw [h.v_inv, h'.v_inv, h''.v_inv]; exact (swithin_any n lo hi w).mono fun _ _ => ret_eq
theorem few_c (l : Ln) : Ctr Tryd.prog J 58 [.agg (cLn l)] (bv (smL l.c l.n l.t l.f)) := ctr1 fun w v _ h => by
  obtain ⟨vs, rfl, hl, hv⟩ := agg_cells h
  have e : vs = [.int .i64 l.c, .int .i64 l.n, .int .i64 l.t, .int .i64 l.f] := by
    rw [cells4 hl, (hv 0 (by simp [cLn])).v_inv, (hv 1 (by simp [cLn])).v_inv, (hv 2 (by simp [cLn])).v_inv, (hv 3 (by simp [cLn])).v_inv]
  subst e
  exact (few_any l.c l.n l.t l.f w).mono fun _ _ => ret_sc
theorem rValidName_c (s : ByteArray) (hs : s.size ≤ maxLen) : Ctr Tryd.prog J 55 [sv s] (bv (nameB s.toList)) := ctr1 fun w v _ h => by
  rw [h.v_inv]; exact (rValidName_any s w hs).mono fun _ _ => ret_sc
theorem rSet_c (n : Nat) (hn : n ≤ 9223372036854775807) (xs : List Int) (hx : InOk xs) : Ctr Tryd.prog J 59 [intsA xs, iv n] (iv (setE n xs)) := ctr2 fun w v v' _ h h' => by
  rw [h'.v_inv]; exact (rSet_any n hn (pu_ints hx lo0 h)).mono fun _ _ => ret_sc
theorem unused_c {q : Fm} {r : Ru} (hk : r.kind = 1 ∨ r.kind = 2 ∨ r.kind = 3 ∨ r.kind = 4 ∨ r.kind = 5) (hq : FmOk q) (hr : RuOk r) : Ctr Tryd.prog J 101 [.agg (cFm q), .agg (cRu r)] (bv (unusedB r q.top)) := ctr2 fun w v v' _ h h' => by
  obtain ⟨vs, rfl, hl, hv⟩ := agg_cells h'
  exact (unused_any hk (fam_of hq lo0 h) (ru_of (lo := 0) hr lo0 hl hv)).mono fun _ _ => ret_sc
theorem qValidate_c {q : Fm} (hq : FmOk q) : Ctr Tryd.prog J 16 [.agg (cFm q)] (iv (valE q)) := ctr1 fun w v _ h => (Validate_any (fam_of hq lo0 h)).mono fun _ _ => ret_sc
theorem Big_c {q : Fm} (hq : FmOk q) : Ctr Tryd.prog J 13 [.agg (cFm q)] (bv (bigF q)) := ctr1 fun w v _ h => (Big_any (fam_of hq lo0 h)).mono fun _ _ => ret_sc
theorem known_c : Ctr Tryd.prog TabW 14 [] (bv true) := fun w vs hJ hl _ => by
  obtain rfl : vs = #[] := by cases vs; simp at hl; subst hl; rfl
  exact (vknown_any w (hJ w (Below.refl _ _))).mono fun _ _ => ret_sc
end Go.Proofs.YtmpbfdfjcfanoaaDoor

/-
  WHICH ERROR A RULE HAS, by the reference's order: plain facts.
-/
namespace Go.Proofs.YtmpbfdfjcfanoaaDoor
open Go.RowKit Go.Deep
theorem rruleE_nm {q : Fm} {i : Nat} {r : Ru} (h : nameB r.nm.toList = false ∨ hasR (q.rules.take i) r.nm = true) : rruleE q i r = 2 := if_pos h
theorem rruleE_kind {q : Fm} {i : Nat} {r : Ru} (h : nameB r.nm.toList = true) (h' : hasR (q.rules.take i) r.nm = false) (hf : rkindB r q.top = false) : rruleE q i r = 6 := by
  unfold rruleE; rw [if_neg (by rw [h, h']; simp), if_pos hf]
theorem rruleE_state {q : Fm} {i : Nat} {r : Ru} (h : nameB r.nm.toList = true) (h' : hasR (q.rules.take i) r.nm = false) (hf : rkindB r q.top = true) (hs : rstB r q.states.length = false) : rruleE q i r = 5 := by
  unfold rruleE; rw [if_neg (by rw [h, h']; simp), if_neg (by rw [hf]; simp), if_pos hs]
theorem rruleE_part {q : Fm} {i : Nat} {r : Ru} (h : nameB r.nm.toList = true) (h' : hasR (q.rules.take i) r.nm = false) (hf : rkindB r q.top = true) (hs : rstB r q.states.length = true) : rruleE q i r = rpartE q r := by
  unfold rruleE; rw [if_neg (by rw [h, h']; simp), if_neg (by rw [hf]; simp), if_neg (by rw [hs]; simp)]
def twoB (r : Ru) : Bool := decide (r.kind = 2) || decide (r.kind = 5)
theorem hasR_take {rs : List Ru} {s : ByteArray} {k i : Nat} (hk : k < i) (hi : i < rs.length) (e : (rs[k].nm.toList == s.toList) = true) : hasR (rs.take i) s = true := by
  unfold hasR; rw [List.any_eq_true]
  exact ⟨rs[k], List.mem_take_iff_getElem.2 ⟨k, by omega, rfl⟩, e⟩
theorem gusE_succ {m : Nat} {gs : List Th} {k : Nat} (h : k < gs.length) (hk : gusE m (gs.take k) = 0) (e : guE m gs[k] = 0) : gusE m (gs.take (k + 1)) = 0 := by
  induction gs generalizing k with
  | nil => simp at h
  | cons x xs ih =>
    cases k with
    | zero => simp only [List.take_succ_cons, List.take_zero, gusE]; simp only [List.getElem_cons_zero] at e; rw [if_pos e]
    | succ k =>
      simp only [List.take_succ_cons, gusE] at hk ⊢
      by_cases hx : guE m x = 0
      · rw [if_pos hx] at hk ⊢
        exact ih (by simpa using h) hk (by simpa using e)
      · rw [if_neg hx] at hk; exact absurd hk hx
theorem gusE_no {m : Nat} {gs : List Th} {k : Nat} (h : k < gs.length) (hk : gusE m (gs.take k) = 0) (e : guE m gs[k] ≠ 0) : guardE m gs = guE m gs[k] := by
  have key : gusE m gs = guE m gs[k] := by
    induction gs generalizing k with
    | nil => simp at h
    | cons x xs ih =>
      cases k with
      | zero => simp only [gusE]; simp only [List.getElem_cons_zero] at e ⊢; rw [if_neg e]
      | succ k =>
        simp only [List.take_succ_cons, gusE] at hk ⊢
        by_cases hx : guE m x = 0
        · rw [if_pos hx] at hk ⊢
          exact ih (by simpa using h) hk (by simpa using e)
        · rw [if_neg hx] at hk; exact absurd hk hx
  unfold guardE; rw [key, if_neg e]
theorem guE_1 {m : Nat} {g : Th} (h : ixB m g.msg = false) : guE m g = 5 := if_pos h
theorem guE_2 {m : Nat} {g : Th} (h : ixB m g.msg = true) (h2 : inB 1 100 g.coef = false) : guE m g = 1 := by unfold guE; rw [if_neg (by rw [h]; simp), if_pos h2]
theorem guE_3 {m : Nat} {g : Th} (h : ixB m g.msg = true) (h2 : inB 1 100 g.coef = true) (h3 : smL g.bd.c g.bd.n g.bd.t g.bd.f = false) : guE m g = 4 := by unfold guE; rw [if_neg (by rw [h]; simp), if_neg (by rw [h2]; simp), if_pos h3]
theorem guE_4 {m : Nat} {g : Th} (h : ixB m g.msg = true) (h2 : inB 1 100 g.coef = true) (h3 : smL g.bd.c g.bd.n g.bd.t g.bd.f = true) : guE m g = 0 := by unfold guE; rw [if_neg (by rw [h]; simp), if_neg (by rw [h2]; simp), if_neg (by rw [h3]; simp)]
theorem guardE_end {m : Nat} {gs : List Th} {k : Nat} (h : k = gs.length) (hk : gusE m (gs.take k) = 0) : guardE m gs = if 2 < gs.length then 4 else 0 := by
  rw [List.take_of_length_le (by omega)] at hk
  unfold guardE; rw [if_pos hk]
theorem reE_len {n : Nat} {xs : List Int} (h : xs.length ≠ n) : reE n xs = 1 := if_pos h
theorem reE_ix {n : Nat} {xs : List Int} (h : xs.length = n) {k : Nat} (hk : k < xs.length) (e : ixB n xs[k] = false) : reE n xs = 5 := by unfold reE; rw [if_neg (by omega), if_pos (allK_no hk e)]
theorem reE_ok {n : Nat} {xs : List Int} (h : xs.length = n) (e : allK n xs xs.length = true) : reE n xs = 0 := by unfold reE; rw [if_neg (by omega), if_neg (by rw [e]; simp)]
theorem kind_in {k : Int} (h : inB 1 5 k = true) : k = 1 ∨ k = 2 ∨ k = 3 ∨ k = 4 ∨ k = 5 := by
  unfold inB at h; simp only [Bool.and_eq_true, decide_eq_true_eq] at h; omega
theorem rstB_two (r : Ru) (n : Nat) : rstB r n = (ixB n r.frm && ixB n r.to && (!twoB r || (ixB n r.pf && ixB n r.pt))) := rfl
/-- The error of a rule's parts, one behind the other. -/
def reX (q : Fm) (r : Ru) : Int := if r.kind = 3 then reE q.states.length r.resp else 0
def poX (q : Fm) (r : Ru) : Int := if r.kind = 4 then posE r.pos q.top else 0
def diX (q : Fm) (r : Ru) : Int := if r.kind = 5 then dirE r.dir q.top else 0
theorem part_1 {q : Fm} {r : Ru} (h : reX q r ≠ 0) : rpartE q r = reX q r := orE_ne _ h
theorem part_2 {q : Fm} {r : Ru} (h1 : reX q r = 0) (h : guardE q.msgs.length r.guards ≠ 0) : rpartE q r = guardE q.msgs.length r.guards := by
  unfold rpartE; rw [show (if r.kind = 3 then reE q.states.length r.resp else 0) = 0 from h1, orE_zero, orE_ne _ h]
structure Pre2 (q : Fm) (r : Ru) : Prop where
  a : reX q r = 0
  b : guardE q.msgs.length r.guards = 0
theorem part_3 {q : Fm} {r : Ru} (h : Pre2 q r) (e : setE q.states.length r.ex ≠ 0) : rpartE q r = setE q.states.length r.ex := by
  unfold rpartE; rw [show (if r.kind = 3 then reE q.states.length r.resp else 0) = 0 from h.a, orE_zero, h.b, orE_zero, orE_ne _ e]
structure Pre3 (q : Fm) (r : Ru) : Prop where
  p : Pre2 q r
  c : setE q.states.length r.ex = 0
theorem part_4 {q : Fm} {r : Ru} (h : Pre3 q r) (e : setE q.states.length r.fa ≠ 0) : rpartE q r = setE q.states.length r.fa := by
  unfold rpartE; rw [show (if r.kind = 3 then reE q.states.length r.resp else 0) = 0 from h.p.a, orE_zero, h.p.b, orE_zero, h.c, orE_zero, orE_ne _ e]
structure Pre4 (q : Fm) (r : Ru) : Prop where
  p : Pre3 q r
  c : setE q.states.length r.fa = 0
def restE (q : Fm) (r : Ru) : Int := orE (shE q.vals.length r.rd r.wr) <| orE (setE q.msgs.length r.send) <| orE (setE q.states.length r.left) <| orE (setE q.states.length r.right) <| orE (setE q.states.length r.parent) <| orE (poX q r) (diX q r)
theorem part_rest {q : Fm} {r : Ru} (h : Pre4 q r) : rpartE q r = restE q r := by
  unfold rpartE; rw [show (if r.kind = 3 then reE q.states.length r.resp else 0) = 0 from h.p.p.a, orE_zero, h.p.p.b, orE_zero, h.p.c, orE_zero, h.c, orE_zero]; rfl
theorem rest_1 {q : Fm} {r : Ru} (h : shE q.vals.length r.rd r.wr ≠ 0) : restE q r = shE q.vals.length r.rd r.wr := orE_ne _ h
theorem rest_2 {q : Fm} {r : Ru} (h1 : shE q.vals.length r.rd r.wr = 0) (h : setE q.msgs.length r.send ≠ 0) : restE q r = setE q.msgs.length r.send := by
  unfold restE; rw [h1, orE_zero, orE_ne _ h]
theorem rest_3 {q : Fm} {r : Ru} (h1 : shE q.vals.length r.rd r.wr = 0) (h2 : setE q.msgs.length r.send = 0) (h : setE q.states.length r.left ≠ 0) : restE q r = setE q.states.length r.left := by
  unfold restE; rw [h1, orE_zero, h2, orE_zero, orE_ne _ h]
theorem rest_4 {q : Fm} {r : Ru} (h1 : shE q.vals.length r.rd r.wr = 0) (h2 : setE q.msgs.length r.send = 0) (h3 : setE q.states.length r.left = 0) (h : setE q.states.length r.right ≠ 0) : restE q r = setE q.states.length r.right := by
  unfold restE; rw [h1, orE_zero, h2, orE_zero, h3, orE_zero, orE_ne _ h]
theorem rest_5 {q : Fm} {r : Ru} (h1 : shE q.vals.length r.rd r.wr = 0) (h2 : setE q.msgs.length r.send = 0) (h3 : setE q.states.length r.left = 0) (h4 : setE q.states.length r.right = 0) (h : setE q.states.length r.parent ≠ 0) : restE q r = setE q.states.length r.parent := by
  unfold restE; rw [h1, orE_zero, h2, orE_zero, h3, orE_zero, h4, orE_zero, orE_ne _ h]
theorem rest_6 {q : Fm} {r : Ru} (h1 : shE q.vals.length r.rd r.wr = 0) (h2 : setE q.msgs.length r.send = 0) (h3 : setE q.states.length r.left = 0) (h4 : setE q.states.length r.right = 0) (h5 : setE q.states.length r.parent = 0) : restE q r = orE (poX q r) (diX q r) := by
  unfold restE; rw [h1, orE_zero, h2, orE_zero, h3, orE_zero, h4, orE_zero, h5, orE_zero]
theorem shE_yes {v : Nat} {rd wr : Int} (h : (rd ≠ -1 ∧ ixB v rd = false) ∨ (wr ≠ -1 ∧ ixB v wr = false)) : shE v rd wr = 5 := if_pos h
theorem shE_no {v : Nat} {rd wr : Int} (h : ¬ ((rd ≠ -1 ∧ ixB v rd = false) ∨ (wr ≠ -1 ∧ ixB v wr = false))) : shE v rd wr = 0 := if_neg h
theorem shE_five {v : Nat} {rd wr : Int} (h : shE v rd wr ≠ 0) : shE v rd wr = 5 := by
  unfold shE at *; split
  · rfl
  · rename_i h1; rw [if_neg h1] at h; exact absurd rfl h
theorem poX_no {q : Fm} {r : Ru} (h : r.kind ≠ 4) : poX q r = 0 := if_neg h
theorem poX_yes {q : Fm} {r : Ru} (h : r.kind = 4) : poX q r = posE r.pos q.top := if_pos h
theorem posE_1 {p t : Int} (h : inB 0 2 p = false) : posE p t = 1 := if_pos (.inl h)
theorem posE_2 {p t : Int} (h : inB 0 2 p = true) (h2 : p = 0 ∨ t ≠ 3) : posE p t = 0 := by
  unfold posE; rw [if_neg (by rw [h]; rintro (h3 | h3); exact Bool.noConfusion h3; omega)]
theorem posE_3 {p t : Int} (h : p ≠ 0) (h2 : t = 3) : posE p t = 1 := if_pos (.inr ⟨h, h2⟩)
theorem poX_one {q : Fm} {r : Ru} (h : poX q r ≠ 0) : poX q r = 1 := by
  unfold poX at *
  split at h
  · rename_i h1; rw [if_pos h1]; unfold posE at *; split at h
    · rename_i h2; rw [if_pos h2]
    · exact absurd rfl h
  · exact absurd rfl h
def dir4 (q : Fm) (r : Ru) : Bool := decide (r.kind = 5) && decide (q.top = 4) && !inB 3 4 r.dir
def dirO (q : Fm) (r : Ru) : Bool := decide (r.kind = 5) && decide (q.top ≠ 4) && !inB 1 2 r.dir
theorem dir4_n {q : Fm} {r : Ru} (h : r.kind ≠ 5 ∨ q.top ≠ 4) : dir4 q r = false := by unfold dir4; rcases h with h | h <;> simp [h]
theorem dir4_t {q : Fm} {r : Ru} (h : r.kind = 5) (h2 : q.top = 4) : dir4 q r = !inB 3 4 r.dir := by unfold dir4; simp [h, h2]
theorem dirO_n {q : Fm} {r : Ru} (h : r.kind ≠ 5 ∨ q.top = 4) : dirO q r = false := by unfold dirO; rcases h with h | h <;> simp [h]
theorem dirO_t {q : Fm} {r : Ru} (h : r.kind = 5) (h2 : q.top ≠ 4) : dirO q r = !inB 1 2 r.dir := by unfold dirO; simp [h, h2]
theorem diX_4 {q : Fm} {r : Ru} (h : dir4 q r = true) : diX q r = 1 := by
  unfold dir4 inB at h; simp only [Bool.and_eq_true, decide_eq_true_eq, Bool.not_eq_true', Bool.and_eq_false_iff, decide_eq_false_iff_not] at h
  unfold diX dirE; rw [if_pos h.1.1, if_pos h.1.2, if_neg (by omega)]
theorem diX_O {q : Fm} {r : Ru} (h : dirO q r = true) : diX q r = 1 := by
  unfold dirO inB at h; simp only [Bool.and_eq_true, decide_eq_true_eq, Bool.not_eq_true', Bool.and_eq_false_iff, decide_eq_false_iff_not] at h
  unfold diX dirE; rw [if_pos h.1.1, if_neg h.1.2, if_neg (by omega)]
theorem diX_0 {q : Fm} {r : Ru} (h : dir4 q r = false) (h2 : dirO q r = false) : diX q r = 0 := by
  unfold diX
  by_cases k : r.kind = 5
  · rw [if_pos k]
    unfold dirE
    by_cases t : q.top = 4
    · rw [dir4_t k t] at h
      unfold inB at h; simp only [Bool.and_eq_true, decide_eq_true_eq, Bool.not_eq_false'] at h
      rw [if_pos t, if_pos (by omega)]
    · rw [dirO_t k t] at h2
      unfold inB at h2; simp only [Bool.and_eq_true, decide_eq_true_eq, Bool.not_eq_false'] at h2
      rw [if_neg t, if_pos (by omega)]
  · rw [if_neg k]
theorem hasR_next {rs : List Ru} {s : ByteArray} {k : Nat} (h : k < rs.length) (hk : hasR (rs.take k) s = false) (e : (rs[k].nm.toList == s.toList) = false) : hasR (rs.take (k + 1)) s = false := by
  unfold hasR at *
  rw [List.take_succ_eq_append_getElem h, List.any_append, hk]; simp only [List.any_cons, List.any_nil, e, Bool.or_self]
theorem part_1a {q : Fm} {r : Ru} (h3 : r.kind = 3) (h : r.resp.length ≠ q.states.length) : rpartE q r = 1 := by
  have : reX q r = 1 := by unfold reX; rw [if_pos h3, reE_len h]
  rw [part_1 (by omega), this]
theorem part_1b {q : Fm} {r : Ru} (h3 : r.kind = 3) (h : r.resp.length = q.states.length) {k : Nat} (hk : k < r.resp.length) (e : ixB q.states.length r.resp[k] = false) : rpartE q r = 5 := by
  have : reX q r = 5 := by unfold reX; rw [if_pos h3, reE_ix h hk e]
  rw [part_1 (by omega), this]
theorem reX_no {q : Fm} {r : Ru} (h3 : ¬ r.kind = 3) : reX q r = 0 := if_neg h3
theorem reX_ok {q : Fm} {r : Ru} (h3 : r.kind = 3) (h : r.resp.length = q.states.length) (e : allK q.states.length r.resp q.states.length = true) : reX q r = 0 := by
  unfold reX; rw [if_pos h3, reE_ok h (by rw [h]; exact e)]
theorem part_2g {q : Fm} {r : Ru} (h1 : reX q r = 0) {k : Nat} (hk : k < r.guards.length) (hs : gusE q.msgs.length (r.guards.take k) = 0) {v : Int} (e : guE q.msgs.length r.guards[k] = v) (hv : v ≠ 0) : rpartE q r = v := by
  have h2 := gusE_no hk hs (by rw [e]; exact hv)
  rw [part_2 h1 (by rw [h2, e]; exact hv), h2, e]
theorem part_2l {q : Fm} {r : Ru} (h1 : reX q r = 0) (h : gusE q.msgs.length r.guards = 0) (hl : 2 < r.guards.length) : rpartE q r = 4 := by
  have h2 : guardE q.msgs.length r.guards = 4 := by unfold guardE; rw [if_pos h, if_pos hl]
  rw [part_2 h1 (by omega), h2]
theorem guardE_fin {m : Nat} {gs : List Th} (h : gusE m gs = 0) (hl : ¬ 2 < gs.length) : guardE m gs = 0 := by unfold guardE; rw [if_pos h, if_neg hl]
end Go.Proofs.YtmpbfdfjcfanoaaDoor

/-
  rule OF THE REFERENCE.
-/
namespace Go.Proofs.YtmpbfdfjcfanoaaDoor
open Go.RowKit Go.Deep
variable {J : World → Prop}
set_option linter.unusedSimpArgs false in
set_option linter.unusedVariables false in
set_option maxRecDepth 100000 in
set_option maxHeartbeats 6400000 in
theorem rrule_c {q : Fm} (HQ : FmOk q) {i : Nat} (hi : i < q.rules.length) : Ctr Tryd.prog J 60 [.agg (cFm q), iv i] (iv (rruleE q i q.rules[i])) := by
 have HR := HQ.rules q.rules[i] (List.getElem_mem hi)
 have l1 := HQ.lstates
 have l2 := HQ.lmsgs
 have l3 := HQ.lvals
 have l4 := HQ.lrules
 have l5 := HR.lresp
 have l6 := HR.lguards
 refine ctr_of_tri Tryd.func60 rfl (by intro X hX; simp only [List.mem_cons, List.not_mem_nil, or_false] at hX; rcases hX with rfl | rfl; exact plain_agg (plain_fm q); exact .v _) (n := 276) rfl (by simp) (fun w0 => ?_)
 refine tri_wk (wk_keep [] [(0, .agg (cFm q)), (1, iv i)] (n := 276) rfl (by kernel_rfl) (by kernel_rfl)) ?_
 refine tri_seq ?_
 refine tri_region ?_
 refine t_op rfl (sp_box (X := .agg (cFm q)) (k := 1) (.tmp 0) rfl rfl) ⟨.inl rfl, trivial⟩ trivial rfl ?_
 refine t_op rfl (sp_assign (.const (.int .i64 0)) (iv 0) rfl) ⟨.inl rfl, trivial⟩ trivial trivial ?_
 refine tri_nil ?_
 refine tri_wk (wk_keep [(1, .box 27 (cFm q))] [(1, iv i), (2, .box 1 0), (4, iv 0)] (n := 276) rfl (by kernel_rfl) (by kernel_rfl)) ?_
 refine t_then ?_
 refine tri_seq ?_
 refine tri_draw [⟨[(.tmp 2, .box 1 0)], [], .box 1 9, .no⟩, ⟨[(.tmp 18, .box 1 9)], [(1, .box 27 (cFm q))], slA 18 cRu q.rules, .no⟩, ⟨[(.tmp 1, iv i)], [], iv i, .no⟩, ⟨[(.tmp 19, slA 18 cRu q.rules), (.tmp 20, iv i)], [], .el (q.rules.flatMap cRu) (i * 18), .no⟩, ⟨[(.tmp 21, .el (q.rules.flatMap cRu) (i * 18))], [], .agg (cRu q.rules[i]), .no⟩, ⟨[(.tmp 2, .box 1 0)], [], .box 1 2, .no⟩, ⟨[(.tmp 23, .box 1 2)], [(1, .box 27 (cFm q))], strsA q.states, .no⟩, ⟨[(.tmp 24, strsA q.states)], [], iv q.states.length, .no⟩, ⟨[], [], .box 2 0, .new 2 (.box 76 [sv (⟨#[]⟩), iv 0, iv 0, iv 0, iv 0, iv 0, .v (.slice none 0 0), .v (.slice none 0 0), .v (.slice none 0 0), .v (.slice none 0 0), iv 0, iv 0, .v (.slice none 0 0), iv 0, .v (.slice none 0 0), .v (.slice none 0 0), .v (.slice none 0 0), iv 0])⟩, ⟨[(.tmp 5, .box 2 0), (.tmp 22, .agg (cRu q.rules[i]))], [(2, .box 76 [sv (⟨#[]⟩), iv 0, iv 0, iv 0, iv 0, iv 0, .v (.slice none 0 0), .v (.slice none 0 0), .v (.slice none 0 0), .v (.slice none 0 0), iv 0, iv 0, .v (.slice none 0 0), iv 0, .v (.slice none 0 0), .v (.slice none 0 0), .v (.slice none 0 0), iv 0])], .v undef, .st 2 (.box 76 (cRu q.rules[i]))⟩, ⟨[(.tmp 25, iv q.states.length)], [], iv q.states.length, .no⟩] (by kernel_rfl) (by kernel_rfl) ?_
 refine ⟨app_yes rfl (sp_fieldBox (off' := 9) (.tmp 2) rfl Tryd.underlying27 rfl (z := 1) (by kernel_rfl) (by decide) rfl) ⟨.inl rfl, trivial⟩ trivial trivial, ?_⟩
 refine ⟨app_yes rfl (sp_loadBox1 (Y := .box 27 (cFm q)) (X := slA 18 cRu q.rules) (.tmp 18) rfl Tryd.underlying25 rfl rfl) ⟨.inl rfl, trivial⟩ ⟨rfl, trivial⟩ trivial, ?_⟩
 refine ⟨app_yes rfl (sp_move (.tmp 1) (iv i) rfl) ⟨.inl rfl, trivial⟩ trivial trivial, ?_⟩
 refine ⟨app_yes rfl (sp_indexSl (off := i * 18) (.tmp 19) (.tmp 20) rfl Tryd.underlying25 (by kernel_rfl) (by omega) (by omega) rfl) ⟨.inl rfl, .inl rfl, trivial⟩ trivial trivial, ?_⟩
 refine ⟨app_yes rfl (sp_loadElS (z := 18) (.tmp 21) rfl Tryd.underlying76 rfl (by kernel_rfl) (flat_take lenRu q.rules i (by omega)) rfl) ⟨.inl rfl, trivial⟩ trivial trivial, ?_⟩
 refine ⟨app_yes rfl (sp_fieldBox (off' := 2) (.tmp 2) rfl Tryd.underlying27 rfl (z := 1) (by kernel_rfl) (by decide) rfl) ⟨.inl rfl, trivial⟩ trivial trivial, ?_⟩
 refine ⟨app_yes rfl (sp_loadBox1 (Y := .box 27 (cFm q)) (X := strsA q.states) (.tmp 23) rfl Tryd.underlying22 rfl rfl) ⟨.inl rfl, trivial⟩ ⟨rfl, trivial⟩ trivial, ?_⟩
 refine ⟨app_yes rfl (sp_lenSl (.tmp 24) rfl Tryd.underlying22) ⟨.inl rfl, trivial⟩ trivial trivial, ?_⟩
 refine ⟨app_yes rfl (sp_alloc (z := .agg #[.string (⟨#[]⟩), .int .i64 0, .int .i64 0, .int .i64 0, .int .i64 0, .int .i64 0, .slice none 0 0, .slice none 0 0, .slice none 0 0, .slice none 0 0, .int .i64 0, .int .i64 0, .slice none 0 0, .int .i64 0, .slice none 0 0, .slice none 0 0, .slice none 0 0, .int .i64 0]) (k := 2) rfl (by kernel_rfl)) trivial trivial rfl, ?_⟩
 refine ⟨app_yes rfl (sp_storeBox (T0 := 76) (X := .agg (cRu q.rules[i])) (cs := [sv (⟨#[]⟩), iv 0, iv 0, iv 0, iv 0, iv 0, .v (.slice none 0 0), .v (.slice none 0 0), .v (.slice none 0 0), .v (.slice none 0 0), iv 0, iv 0, .v (.slice none 0 0), iv 0, .v (.slice none 0 0), .v (.slice none 0 0), .v (.slice none 0 0), iv 0]) (ds := cRu q.rules[i]) (z := 18) (.tmp 5) (.tmp 22) rfl (by kernel_rfl) (by kernel_rfl) (by kernel_rfl) (of_decide_eq_true (by kernel_rfl)) (by kernel_rfl)) ⟨.inl rfl, .inl rfl, trivial⟩ ⟨rfl, trivial⟩ rfl, ?_⟩
 refine ⟨app_yes rfl (sp_assign (.tmp 25) (iv q.states.length) rfl) ⟨.inl rfl, trivial⟩ trivial trivial, ?_⟩
 show ETri J w0 _ _ _
 refine tri_wk (wk_keep [(1, .box 27 (cFm q)), (2, .box 76 (cRu q.rules[i]))] [(1, iv i), (2, .box 1 0), (4, iv 0), (5, .box 2 0), (6, iv q.states.length)] (n := 276) rfl (by kernel_rfl) (by kernel_rfl)) ?_
 refine t_then ?_
 refine tri_seq ?_
 refine tri_seq ?_
 by_cases hs1 : (nameB q.rules[i].nm.toList) = true
 refine tri_region ?_
 refine t_op rfl (sp_fieldBox (off' := 0) (.tmp 5) rfl Tryd.underlying76 rfl (z := 1) (by kernel_rfl) (by decide) rfl) ⟨.inl rfl, trivial⟩ trivial trivial ?_
 refine t_op rfl (sp_loadBox1 (Y := .box 76 (cRu q.rules[i])) (X := sv q.rules[i].nm) (.tmp 26) rfl Tryd.underlying9 rfl rfl) ⟨.inl rfl, trivial⟩ ⟨rfl, trivial⟩ trivial ?_
 refine t_op rfl (sp_call (c := .func 55) (xs := #[.tmp 27]) [] (ctr_b (rValidName_c q.rules[i].nm HR.nm) hs1) rfl (by kernel_rfl) rfl (Xs := [sv q.rules[i].nm]) rfl rfl rfl) ⟨.inl rfl, .inl rfl, trivial⟩ trivial trivial ?_
 refine t_op rfl (sp_not rfl rfl) ⟨.inl rfl, trivial⟩ trivial trivial ?_
 refine tri_nil ?_
 refine tri_wk (wk_keep [(1, .box 27 (cFm q)), (2, .box 76 (cRu q.rules[i]))] [(1, iv i), (2, .box 1 0), (4, iv 0), (5, .box 2 0), (6, iv q.states.length), (29, bv false)] (n := 276) rfl (by kernel_rfl) (by kernel_rfl)) ?_
 refine t_then ?_
 refine t_condF rfl ?_
 refine tri_skip ?_
 refine t_then ?_
 refine tri_seq ?_
 refine tri_seq ?_
 refine tri_region ?_
 refine t_op rfl (sp_assign (.const (.int .i64 0)) (iv 0) rfl) ⟨.inl rfl, trivial⟩ trivial trivial ?_
 refine tri_nil ?_
 refine tri_wk (wk_keep [(1, .box 27 (cFm q)), (2, .box 76 (cRu q.rules[i]))] [(1, iv i), (2, .box 1 0), (4, iv 0), (5, .box 2 0), (6, iv q.states.length), (7, iv 0)] (n := 276) rfl (by kernel_rfl) (by kernel_rfl)) ?_
 refine t_then ?_
 refine t_cut (hasR (q.rules.take i) q.rules[i].nm = false) (ofL [(1, .box 27 (cFm q)), (2, .box 76 (cRu q.rules[i]))]) (ofT 276 [(2, .box 1 0), (5, .box 2 0), (6, iv q.states.length)]) ?_ (fun HNO => ?_)
 refine tri_block ?_
 refine tri_loop (σ := {k : Nat // k ≤ i ∧ hasR (q.rules.take k) q.rules[i].nm = false}) (fun s => (ofL [(1, .box 27 (cFm q)), (2, .box 76 (cRu q.rules[i]))], ofT 276 [(1, iv i), (2, .box 1 0), (5, .box 2 0), (6, iv q.states.length), (7, iv s.1)])) (fun s => i - s.1) ⟨0, Nat.zero_le _, rfl⟩ (wk_keep _ _ rfl (by kernel_rfl) (by kernel_rfl)) (fun s => ?_)
 obtain ⟨k, hk0, hs0⟩ := s
 show ETri J w0 (ofL [(1, .box 27 (cFm q)), (2, .box 76 (cRu q.rules[i]))]) (ofT 276 [(1, iv i), (2, .box 1 0), (5, .box 2 0), (6, iv q.states.length), (7, iv k)]) _
 refine tri_seq ?_
 refine tri_seq ?_
 by_cases hs2 : ((k : Nat) : Int) < ((i : Nat) : Int)
 refine tri_region ?_
 refine t_op rfl (sp_move (.tmp 7) (iv k) rfl) ⟨.inl rfl, trivial⟩ trivial trivial ?_
 refine t_op rfl (sp_move (.tmp 1) (iv i) rfl) ⟨.inl rfl, trivial⟩ trivial trivial ?_
 refine t_op rfl (sp_lss rfl (dT hs2)) ⟨.inl rfl, .inl rfl, trivial⟩ trivial trivial ?_
 refine tri_nil ?_
 refine tri_wk (wk_keep [(1, .box 27 (cFm q)), (2, .box 76 (cRu q.rules[i]))] [(1, iv i), (2, .box 1 0), (5, .box 2 0), (6, iv q.states.length), (7, iv k), (32, bv true)] (n := 276) rfl (by kernel_rfl) (by kernel_rfl)) ?_
 refine t_then ?_
 refine t_condT rfl ?_
 refine tri_skip ?_
 refine t_then ?_
 refine tri_seq ?_
 refine tri_block ?_
 refine tri_seq ?_
 by_cases hs3 : (q.rules[k].nm.toList == q.rules[i].nm.toList) = true
 refine tri_draw [⟨[(.tmp 2, .box 1 0)], [], .box 1 9, .no⟩, ⟨[(.tmp 35, .box 1 9)], [(1, .box 27 (cFm q))], slA 18 cRu q.rules, .no⟩, ⟨[(.tmp 7, iv k)], [], iv k, .no⟩, ⟨[(.tmp 36, slA 18 cRu q.rules), (.tmp 37, iv k)], [], .el (q.rules.flatMap cRu) (k * 18), .no⟩, ⟨[(.tmp 38, .el (q.rules.flatMap cRu) (k * 18))], [], .el (q.rules.flatMap cRu) (k * 18), .no⟩, ⟨[(.tmp 39, .el (q.rules.flatMap cRu) (k * 18))], [], sv q.rules[k].nm, .no⟩, ⟨[(.tmp 5, .box 2 0)], [], .box 2 0, .no⟩, ⟨[(.tmp 41, .box 2 0)], [(2, .box 76 (cRu q.rules[i]))], sv q.rules[i].nm, .no⟩, ⟨[(.tmp 40, sv q.rules[k].nm), (.tmp 42, sv q.rules[i].nm)], [], bv true, .no⟩] (by kernel_rfl) (by kernel_rfl) ?_
 refine ⟨app_yes rfl (sp_fieldBox (off' := 9) (.tmp 2) rfl Tryd.underlying27 rfl (z := 1) (by kernel_rfl) (by decide) rfl) ⟨.inl rfl, trivial⟩ trivial trivial, ?_⟩
 refine ⟨app_yes rfl (sp_loadBox1 (Y := .box 27 (cFm q)) (X := slA 18 cRu q.rules) (.tmp 35) rfl Tryd.underlying25 rfl rfl) ⟨.inl rfl, trivial⟩ ⟨rfl, trivial⟩ trivial, ?_⟩
 refine ⟨app_yes rfl (sp_move (.tmp 7) (iv k) rfl) ⟨.inl rfl, trivial⟩ trivial trivial, ?_⟩
 refine ⟨app_yes rfl (sp_indexSl (off := k * 18) (.tmp 36) (.tmp 37) rfl Tryd.underlying25 (by kernel_rfl) (by omega) (by omega) rfl) ⟨.inl rfl, .inl rfl, trivial⟩ trivial trivial, ?_⟩
 refine ⟨app_yes rfl (sp_fieldEl (off' := k * 18) (.tmp 38) rfl Tryd.underlying76 rfl (z := 1) (by kernel_rfl) (by decide) rfl) ⟨.inl rfl, trivial⟩ trivial trivial, ?_⟩
 refine ⟨app_yes rfl (sp_loadEl1 (X := sv q.rules[k].nm) (.tmp 39) rfl Tryd.underlying9 rfl ((eflat_get lenRu q.rules k 0 (by omega) (by decide)).trans rfl)) ⟨.inl rfl, trivial⟩ trivial trivial, ?_⟩
 refine ⟨app_yes rfl (sp_fieldBox (off' := 0) (.tmp 5) rfl Tryd.underlying76 rfl (z := 1) (by kernel_rfl) (by decide) rfl) ⟨.inl rfl, trivial⟩ trivial trivial, ?_⟩
 refine ⟨app_yes rfl (sp_loadBox1 (Y := .box 76 (cRu q.rules[i])) (X := sv q.rules[i].nm) (.tmp 41) rfl Tryd.underlying9 rfl rfl) ⟨.inl rfl, trivial⟩ ⟨rfl, trivial⟩ trivial, ?_⟩
 refine ⟨app_yes rfl (sp_seql rfl hs3) ⟨.inl rfl, .inl rfl, trivial⟩ trivial trivial, ?_⟩
 show ETri J w0 _ _ _
 refine tri_wk (wk_keep [(1, .box 27 (cFm q)), (2, .box 76 (cRu q.rules[i]))] [(1, iv i), (2, .box 1 0), (5, .box 2 0), (6, iv q.states.length), (7, iv k), (32, bv true), (43, bv true)] (n := 276) rfl (by kernel_rfl) (by kernel_rfl)) ?_
 refine t_then ?_
 refine t_condT rfl ?_
 refine tri_seq ?_
 refine tri_region ?_
 refine t_op rfl (sp_assign (.const (.int .i64 2)) (iv 2) rfl) ⟨.inl rfl, trivial⟩ trivial trivial ?_
 refine tri_nil ?_
 refine tri_wk (wk_keep [(1, .box 27 (cFm q)), (2, .box 76 (cRu q.rules[i]))] [(1, iv i), (2, .box 1 0), (4, iv 2), (5, .box 2 0), (6, iv q.states.length), (7, iv k), (32, bv true), (43, bv true)] (n := 276) rfl (by kernel_rfl) (by kernel_rfl)) ?_
 refine t_then ?_
 refine tri_ret ?_
 refine t_block_ret ?_
 refine t_then_ret ?_
 refine t_then_ret ?_
 refine t_block_ret ?_
 refine t_cut_ret ?_
 refine t_then_ret ?_
 refine tri_end1 Tryd.results60 (.tmp rfl) ?_
 exact congrArg (fun x : Int => AV.v (.int .i64 x)) ((rruleE_nm (.inr (hasR_take (k := k) (by omega) hi hs3))).symm)
 have hs3f : (q.rules[k].nm.toList == q.rules[i].nm.toList) = false := by simpa using hs3
 refine tri_draw [⟨[(.tmp 2, .box 1 0)], [], .box 1 9, .no⟩, ⟨[(.tmp 35, .box 1 9)], [(1, .box 27 (cFm q))], slA 18 cRu q.rules, .no⟩, ⟨[(.tmp 7, iv k)], [], iv k, .no⟩, ⟨[(.tmp 36, slA 18 cRu q.rules), (.tmp 37, iv k)], [], .el (q.rules.flatMap cRu) (k * 18), .no⟩, ⟨[(.tmp 38, .el (q.rules.flatMap cRu) (k * 18))], [], .el (q.rules.flatMap cRu) (k * 18), .no⟩, ⟨[(.tmp 39, .el (q.rules.flatMap cRu) (k * 18))], [], sv q.rules[k].nm, .no⟩, ⟨[(.tmp 5, .box 2 0)], [], .box 2 0, .no⟩, ⟨[(.tmp 41, .box 2 0)], [(2, .box 76 (cRu q.rules[i]))], sv q.rules[i].nm, .no⟩, ⟨[(.tmp 40, sv q.rules[k].nm), (.tmp 42, sv q.rules[i].nm)], [], bv false, .no⟩] (by kernel_rfl) (by kernel_rfl) ?_
 refine ⟨app_yes rfl (sp_fieldBox (off' := 9) (.tmp 2) rfl Tryd.underlying27 rfl (z := 1) (by kernel_rfl) (by decide) rfl) ⟨.inl rfl, trivial⟩ trivial trivial, ?_⟩
 refine ⟨app_yes rfl (sp_loadBox1 (Y := .box 27 (cFm q)) (X := slA 18 cRu q.rules) (.tmp 35) rfl Tryd.underlying25 rfl rfl) ⟨.inl rfl, trivial⟩ ⟨rfl, trivial⟩ trivial, ?_⟩
 refine ⟨app_yes rfl (sp_move (.tmp 7) (iv k) rfl) ⟨.inl rfl, trivial⟩ trivial trivial, ?_⟩
 refine ⟨app_yes rfl (sp_indexSl (off := k * 18) (.tmp 36) (.tmp 37) rfl Tryd.underlying25 (by kernel_rfl) (by omega) (by omega) rfl) ⟨.inl rfl, .inl rfl, trivial⟩ trivial trivial, ?_⟩
 refine ⟨app_yes rfl (sp_fieldEl (off' := k * 18) (.tmp 38) rfl Tryd.underlying76 rfl (z := 1) (by kernel_rfl) (by decide) rfl) ⟨.inl rfl, trivial⟩ trivial trivial, ?_⟩
 refine ⟨app_yes rfl (sp_loadEl1 (X := sv q.rules[k].nm) (.tmp 39) rfl Tryd.underlying9 rfl ((eflat_get lenRu q.rules k 0 (by omega) (by decide)).trans rfl)) ⟨.inl rfl, trivial⟩ trivial trivial, ?_⟩
 refine ⟨app_yes rfl (sp_fieldBox (off' := 0) (.tmp 5) rfl Tryd.underlying76 rfl (z := 1) (by kernel_rfl) (by decide) rfl) ⟨.inl rfl, trivial⟩ trivial trivial, ?_⟩
 refine ⟨app_yes rfl (sp_loadBox1 (Y := .box 76 (cRu q.rules[i])) (X := sv q.rules[i].nm) (.tmp 41) rfl Tryd.underlying9 rfl rfl) ⟨.inl rfl, trivial⟩ ⟨rfl, trivial⟩ trivial, ?_⟩
 refine ⟨app_yes rfl (sp_seql rfl hs3f) ⟨.inl rfl, .inl rfl, trivial⟩ trivial trivial, ?_⟩
 show ETri J w0 _ _ _
 refine tri_wk (wk_keep [(1, .box 27 (cFm q)), (2, .box 76 (cRu q.rules[i]))] [(1, iv i), (2, .box 1 0), (5, .box 2 0), (6, iv q.states.length), (7, iv k), (32, bv true), (43, bv false)] (n := 276) rfl (by kernel_rfl) (by kernel_rfl)) ?_
 refine t_then ?_
 refine t_condF rfl ?_
 refine tri_skip ?_
 refine t_block ?_
 refine t_then ?_
 refine tri_region ?_
 refine t_op rfl (sp_move (.tmp 7) (iv k) rfl) ⟨.inl rfl, trivial⟩ trivial trivial ?_
 refine t_op rfl (sp_add (c := ((k + 1 : Nat) : Int)) rfl (w64 (by omega) (by omega) (by omega))) ⟨.inl rfl, .inl rfl, trivial⟩ trivial trivial ?_
 refine t_op rfl (sp_assign (.tmp 34) (iv (k + 1 : Nat)) rfl) ⟨.inl rfl, trivial⟩ trivial trivial ?_
 refine tri_nil ?_
 refine tri_wk (wk_keep [(1, .box 27 (cFm q)), (2, .box 76 (cRu q.rules[i]))] [(1, iv i), (2, .box 1 0), (5, .box 2 0), (6, iv q.states.length), (7, iv (k + 1 : Nat)), (32, bv true), (43, bv false)] (n := 276) rfl (by kernel_rfl) (by kernel_rfl)) ?_
 refine t_then ?_
 refine tri_again ⟨k + 1, by omega, hasR_next (by omega) hs0 hs3f⟩ (show i - (k + 1) < i - k by omega) ?_
 exact wk_keep _ _ rfl (by kernel_rfl) (by kernel_rfl)
 refine tri_region ?_
 refine t_op rfl (sp_move (.tmp 7) (iv k) rfl) ⟨.inl rfl, trivial⟩ trivial trivial ?_
 refine t_op rfl (sp_move (.tmp 1) (iv i) rfl) ⟨.inl rfl, trivial⟩ trivial trivial ?_
 refine t_op rfl (sp_lss rfl (dF hs2)) ⟨.inl rfl, .inl rfl, trivial⟩ trivial trivial ?_
 refine tri_nil ?_
 refine tri_wk (wk_keep [(1, .box 27 (cFm q)), (2, .box 76 (cRu q.rules[i]))] [(1, iv i), (2, .box 1 0), (5, .box 2 0), (6, iv q.states.length), (7, iv k), (32, bv false)] (n := 276) rfl (by kernel_rfl) (by kernel_rfl)) ?_
 refine t_then ?_
 refine t_condF rfl ?_
 refine tri_exit ?_
 refine t_then_exit ?_
 refine t_then_exit ?_
 refine t_hit ?_
 exact t_meet (by have : k = i := (by omega); subst this; exact hs0) (wk_keep _ _ rfl (by kernel_rfl) (by kernel_rfl))
 refine t_then ?_
 refine tri_seq ?_
 refine tri_seq ?_
 refine t_cut (True) (ofL [(1, .box 27 (cFm q)), (2, .box 76 (cRu q.rules[i]))]) (ofT 276 [(2, .box 1 0), (5, .box 2 0), (6, iv q.states.length), (61, bv (!(rkindB q.rules[i] q.top)))]) ?_ (fun _ => ?_)
 by_cases hs4 : (inB 1 5 q.rules[i].kind) = true
 by_cases hs5 : q.rules[i].kind ≤ 3
 by_cases hs6 : q.top = 1
 by_cases hs7 : (unusedB q.rules[i] q.top) = true
 refine tri_region ?_
 refine t_op rfl (sp_fieldBox (off' := 1) (.tmp 5) rfl Tryd.underlying76 rfl (z := 1) (by kernel_rfl) (by decide) rfl) ⟨.inl rfl, trivial⟩ trivial trivial ?_
 refine t_op rfl (sp_loadBox1 (Y := .box 76 (cRu q.rules[i])) (X := iv q.rules[i].kind) (.tmp 44) rfl Tryd.underlying3 rfl rfl) ⟨.inl rfl, trivial⟩ ⟨rfl, trivial⟩ trivial ?_
 refine t_op rfl (sp_call (c := .func 56) (xs := #[.tmp 45, .const (.int .i64 1), .const (.int .i64 5)]) [] (ctr_b (within_c q.rules[i].kind 1 5) hs4) rfl (by kernel_rfl) rfl (Xs := [iv q.rules[i].kind, iv 1, iv 5]) rfl rfl rfl) ⟨.inl rfl, .inl rfl, .inl rfl, .inl rfl, trivial⟩ trivial trivial ?_
 refine t_op rfl (sp_not rfl rfl) ⟨.inl rfl, trivial⟩ trivial trivial ?_
 refine t_op rfl (sp_move (.tmp 47) (bv false) rfl) ⟨.inl rfl, trivial⟩ trivial trivial ?_
 refine t_opG rfl (sp_fieldBox (off' := 1) (.tmp 5) rfl Tryd.underlying76 rfl (z := 1) (by kernel_rfl) (by decide) rfl) ⟨.inl rfl, trivial⟩ trivial trivial ?_
 refine t_opG rfl (sp_loadBox1 (Y := .box 76 (cRu q.rules[i])) (X := iv q.rules[i].kind) (.tmp 49) rfl Tryd.underlying3 rfl rfl) ⟨.inl rfl, trivial⟩ ⟨rfl, trivial⟩ trivial ?_
 refine t_opG rfl (sp_leq rfl (dT hs5)) ⟨.inl rfl, .inl rfl, trivial⟩ trivial trivial ?_
 refine t_opG rfl (sp_fieldBox (off' := 1) (.tmp 2) rfl Tryd.underlying27 rfl (z := 1) (by kernel_rfl) (by decide) rfl) ⟨.inl rfl, trivial⟩ trivial trivial ?_
 refine t_opG rfl (sp_loadBox1 (Y := .box 27 (cFm q)) (X := iv q.top) (.tmp 52) rfl Tryd.underlying3 rfl rfl) ⟨.inl rfl, trivial⟩ ⟨rfl, trivial⟩ trivial ?_
 refine t_opG rfl (sp_eql rfl (dT hs6)) ⟨.inl rfl, .inl rfl, trivial⟩ trivial trivial ?_
 refine t_opG rfl (sp_bneq rfl Tryd.underlying4 rfl) ⟨.inl rfl, .inl rfl, trivial⟩ trivial trivial ?_
 refine t_op rfl (sp_pick (.tmp 48) (.const (.bool true)) (.tmp 55) false (bv true) (bv false) rfl) ⟨.inl rfl, .inl rfl, .inl rfl, trivial⟩ trivial trivial ?_
 refine t_op rfl (sp_move (.tmp 56) (bv false) rfl) ⟨.inl rfl, trivial⟩ trivial trivial ?_
 refine t_opG rfl (sp_loadBoxS (Y := .box 27 (cFm q)) (ds := cFm q) (z := 10) (.tmp 2) rfl Tryd.underlying27 rfl (by kernel_rfl) (by decide) (by kernel_rfl) (by kernel_rfl)) ⟨.inl rfl, trivial⟩ ⟨rfl, trivial⟩ trivial ?_
 refine t_opG rfl (sp_loadBoxS (Y := .box 76 (cRu q.rules[i])) (ds := cRu q.rules[i]) (z := 18) (.tmp 5) rfl Tryd.underlying76 rfl (by kernel_rfl) (by decide) (by kernel_rfl) (by kernel_rfl)) ⟨.inl rfl, trivial⟩ ⟨rfl, trivial⟩ trivial ?_
 refine t_opG rfl (sp_call (c := .func 101) (xs := #[.tmp 58, .tmp 59]) [] (ctr_b (unused_c (kind_in hs4) HQ HR) hs7) rfl (by kernel_rfl) rfl (Xs := [.agg (cFm q), .agg (cRu q.rules[i])]) rfl rfl rfl) ⟨.inl rfl, .inl rfl, .inl rfl, trivial⟩ trivial trivial ?_
 refine t_op rfl (sp_pick (.tmp 57) (.const (.bool true)) (.tmp 60) false (bv true) (bv true) rfl) ⟨.inl rfl, .inl rfl, .inl rfl, trivial⟩ trivial trivial ?_
 refine tri_nil ?_
 refine tri_wk (wk_keep [(1, .box 27 (cFm q)), (2, .box 76 (cRu q.rules[i]))] [(2, .box 1 0), (5, .box 2 0), (6, iv q.states.length), (61, bv true)] (n := 276) rfl (by kernel_rfl) (by kernel_rfl)) ?_
 rw [show (!rkindB q.rules[i] q.top) = true by unfold rkindB; rw [hs7]; simp [hs1, hs4, hs5, hs6, hs7]]
 exact t_meet trivial (wk_keep _ _ rfl (by kernel_rfl) (by kernel_rfl))
 have hs7f : (unusedB q.rules[i] q.top) = false := by simpa using hs7
 refine tri_region ?_
 refine t_op rfl (sp_fieldBox (off' := 1) (.tmp 5) rfl Tryd.underlying76 rfl (z := 1) (by kernel_rfl) (by decide) rfl) ⟨.inl rfl, trivial⟩ trivial trivial ?_
 refine t_op rfl (sp_loadBox1 (Y := .box 76 (cRu q.rules[i])) (X := iv q.rules[i].kind) (.tmp 44) rfl Tryd.underlying3 rfl rfl) ⟨.inl rfl, trivial⟩ ⟨rfl, trivial⟩ trivial ?_
 refine t_op rfl (sp_call (c := .func 56) (xs := #[.tmp 45, .const (.int .i64 1), .const (.int .i64 5)]) [] (ctr_b (within_c q.rules[i].kind 1 5) hs4) rfl (by kernel_rfl) rfl (Xs := [iv q.rules[i].kind, iv 1, iv 5]) rfl rfl rfl) ⟨.inl rfl, .inl rfl, .inl rfl, .inl rfl, trivial⟩ trivial trivial ?_
 refine t_op rfl (sp_not rfl rfl) ⟨.inl rfl, trivial⟩ trivial trivial ?_
 refine t_op rfl (sp_move (.tmp 47) (bv false) rfl) ⟨.inl rfl, trivial⟩ trivial trivial ?_
 refine t_opG rfl (sp_fieldBox (off' := 1) (.tmp 5) rfl Tryd.underlying76 rfl (z := 1) (by kernel_rfl) (by decide) rfl) ⟨.inl rfl, trivial⟩ trivial trivial ?_
 refine t_opG rfl (sp_loadBox1 (Y := .box 76 (cRu q.rules[i])) (X := iv q.rules[i].kind) (.tmp 49) rfl Tryd.underlying3 rfl rfl) ⟨.inl rfl, trivial⟩ ⟨rfl, trivial⟩ trivial ?_
 refine t_opG rfl (sp_leq rfl (dT hs5)) ⟨.inl rfl, .inl rfl, trivial⟩ trivial trivial ?_
 refine t_opG rfl (sp_fieldBox (off' := 1) (.tmp 2) rfl Tryd.underlying27 rfl (z := 1) (by kernel_rfl) (by decide) rfl) ⟨.inl rfl, trivial⟩ trivial trivial ?_
 refine t_opG rfl (sp_loadBox1 (Y := .box 27 (cFm q)) (X := iv q.top) (.tmp 52) rfl Tryd.underlying3 rfl rfl) ⟨.inl rfl, trivial⟩ ⟨rfl, trivial⟩ trivial ?_
 refine t_opG rfl (sp_eql rfl (dT hs6)) ⟨.inl rfl, .inl rfl, trivial⟩ trivial trivial ?_
 refine t_opG rfl (sp_bneq rfl Tryd.underlying4 rfl) ⟨.inl rfl, .inl rfl, trivial⟩ trivial trivial ?_
 refine t_op rfl (sp_pick (.tmp 48) (.const (.bool true)) (.tmp 55) false (bv true) (bv false) rfl) ⟨.inl rfl, .inl rfl, .inl rfl, trivial⟩ trivial trivial ?_
 refine t_op rfl (sp_move (.tmp 56) (bv false) rfl) ⟨.inl rfl, trivial⟩ trivial trivial ?_
 refine t_opG rfl (sp_loadBoxS (Y := .box 27 (cFm q)) (ds := cFm q) (z := 10) (.tmp 2) rfl Tryd.underlying27 rfl (by kernel_rfl) (by decide) (by kernel_rfl) (by kernel_rfl)) ⟨.inl rfl, trivial⟩ ⟨rfl, trivial⟩ trivial ?_
 refine t_opG rfl (sp_loadBoxS (Y := .box 76 (cRu q.rules[i])) (ds := cRu q.rules[i]) (z := 18) (.tmp 5) rfl Tryd.underlying76 rfl (by kernel_rfl) (by decide) (by kernel_rfl) (by kernel_rfl)) ⟨.inl rfl, trivial⟩ ⟨rfl, trivial⟩ trivial ?_
 refine t_opG rfl (sp_call (c := .func 101) (xs := #[.tmp 58, .tmp 59]) [] (ctr_b (unused_c (kind_in hs4) HQ HR) hs7f) rfl (by kernel_rfl) rfl (Xs := [.agg (cFm q), .agg (cRu q.rules[i])]) rfl rfl rfl) ⟨.inl rfl, .inl rfl, .inl rfl, trivial⟩ trivial trivial ?_
 refine t_op rfl (sp_pick (.tmp 57) (.const (.bool true)) (.tmp 60) false (bv true) (bv false) rfl) ⟨.inl rfl, .inl rfl, .inl rfl, trivial⟩ trivial trivial ?_
 refine tri_nil ?_
 refine tri_wk (wk_keep [(1, .box 27 (cFm q)), (2, .box 76 (cRu q.rules[i]))] [(2, .box 1 0), (5, .box 2 0), (6, iv q.states.length), (61, bv false)] (n := 276) rfl (by kernel_rfl) (by kernel_rfl)) ?_
 rw [show (!rkindB q.rules[i] q.top) = false by unfold rkindB; rw [hs7f]; simp [hs1, hs4, hs5, hs6, hs7f]]
 exact t_meet trivial (wk_keep _ _ rfl (by kernel_rfl) (by kernel_rfl))
 refine tri_region ?_
 refine t_op rfl (sp_fieldBox (off' := 1) (.tmp 5) rfl Tryd.underlying76 rfl (z := 1) (by kernel_rfl) (by decide) rfl) ⟨.inl rfl, trivial⟩ trivial trivial ?_
 refine t_op rfl (sp_loadBox1 (Y := .box 76 (cRu q.rules[i])) (X := iv q.rules[i].kind) (.tmp 44) rfl Tryd.underlying3 rfl rfl) ⟨.inl rfl, trivial⟩ ⟨rfl, trivial⟩ trivial ?_
 refine t_op rfl (sp_call (c := .func 56) (xs := #[.tmp 45, .const (.int .i64 1), .const (.int .i64 5)]) [] (ctr_b (within_c q.rules[i].kind 1 5) hs4) rfl (by kernel_rfl) rfl (Xs := [iv q.rules[i].kind, iv 1, iv 5]) rfl rfl rfl) ⟨.inl rfl, .inl rfl, .inl rfl, .inl rfl, trivial⟩ trivial trivial ?_
 refine t_op rfl (sp_not rfl rfl) ⟨.inl rfl, trivial⟩ trivial trivial ?_
 refine t_op rfl (sp_move (.tmp 47) (bv false) rfl) ⟨.inl rfl, trivial⟩ trivial trivial ?_
 refine t_opG rfl (sp_fieldBox (off' := 1) (.tmp 5) rfl Tryd.underlying76 rfl (z := 1) (by kernel_rfl) (by decide) rfl) ⟨.inl rfl, trivial⟩ trivial trivial ?_
 refine t_opG rfl (sp_loadBox1 (Y := .box 76 (cRu q.rules[i])) (X := iv q.rules[i].kind) (.tmp 49) rfl Tryd.underlying3 rfl rfl) ⟨.inl rfl, trivial⟩ ⟨rfl, trivial⟩ trivial ?_
 refine t_opG rfl (sp_leq rfl (dT hs5)) ⟨.inl rfl, .inl rfl, trivial⟩ trivial trivial ?_
 refine t_opG rfl (sp_fieldBox (off' := 1) (.tmp 2) rfl Tryd.underlying27 rfl (z := 1) (by kernel_rfl) (by decide) rfl) ⟨.inl rfl, trivial⟩ trivial trivial ?_
 refine t_opG rfl (sp_loadBox1 (Y := .box 27 (cFm q)) (X := iv q.top) (.tmp 52) rfl Tryd.underlying3 rfl rfl) ⟨.inl rfl, trivial⟩ ⟨rfl, trivial⟩ trivial ?_
 refine t_opG rfl (sp_eql rfl (dF hs6)) ⟨.inl rfl, .inl rfl, trivial⟩ trivial trivial ?_
 refine t_opG rfl (sp_bneq rfl Tryd.underlying4 rfl) ⟨.inl rfl, .inl rfl, trivial⟩ trivial trivial ?_
 refine t_op rfl (sp_pick (.tmp 48) (.const (.bool true)) (.tmp 55) false (bv true) (bv true) rfl) ⟨.inl rfl, .inl rfl, .inl rfl, trivial⟩ trivial trivial ?_
 refine t_op rfl (sp_move (.tmp 56) (bv true) rfl) ⟨.inl rfl, trivial⟩ trivial trivial ?_
 refine t_skip rfl ?_
 refine t_skip rfl ?_
 refine t_skip rfl ?_
 refine t_op rfl (sp_pick (.tmp 57) (.const (.bool true)) (.tmp 60) true (bv true) (.v (.tuple #[])) rfl) ⟨.inl rfl, .inl rfl, .inl rfl, trivial⟩ trivial trivial ?_
 refine tri_nil ?_
 refine tri_wk (wk_keep [(1, .box 27 (cFm q)), (2, .box 76 (cRu q.rules[i]))] [(2, .box 1 0), (5, .box 2 0), (6, iv q.states.length), (61, bv true)] (n := 276) rfl (by kernel_rfl) (by kernel_rfl)) ?_
 rw [show (!rkindB q.rules[i] q.top) = true by unfold rkindB; simp [hs1, hs4, hs5, hs6]]
 exact t_meet trivial (wk_keep _ _ rfl (by kernel_rfl) (by kernel_rfl))
 by_cases hs8 : q.top = 1
 refine tri_region ?_
 refine t_op rfl (sp_fieldBox (off' := 1) (.tmp 5) rfl Tryd.underlying76 rfl (z := 1) (by kernel_rfl) (by decide) rfl) ⟨.inl rfl, trivial⟩ trivial trivial ?_
 refine t_op rfl (sp_loadBox1 (Y := .box 76 (cRu q.rules[i])) (X := iv q.rules[i].kind) (.tmp 44) rfl Tryd.underlying3 rfl rfl) ⟨.inl rfl, trivial⟩ ⟨rfl, trivial⟩ trivial ?_
 refine t_op rfl (sp_call (c := .func 56) (xs := #[.tmp 45, .const (.int .i64 1), .const (.int .i64 5)]) [] (ctr_b (within_c q.rules[i].kind 1 5) hs4) rfl (by kernel_rfl) rfl (Xs := [iv q.rules[i].kind, iv 1, iv 5]) rfl rfl rfl) ⟨.inl rfl, .inl rfl, .inl rfl, .inl rfl, trivial⟩ trivial trivial ?_
 refine t_op rfl (sp_not rfl rfl) ⟨.inl rfl, trivial⟩ trivial trivial ?_
 refine t_op rfl (sp_move (.tmp 47) (bv false) rfl) ⟨.inl rfl, trivial⟩ trivial trivial ?_
 refine t_opG rfl (sp_fieldBox (off' := 1) (.tmp 5) rfl Tryd.underlying76 rfl (z := 1) (by kernel_rfl) (by decide) rfl) ⟨.inl rfl, trivial⟩ trivial trivial ?_
 refine t_opG rfl (sp_loadBox1 (Y := .box 76 (cRu q.rules[i])) (X := iv q.rules[i].kind) (.tmp 49) rfl Tryd.underlying3 rfl rfl) ⟨.inl rfl, trivial⟩ ⟨rfl, trivial⟩ trivial ?_
 refine t_opG rfl (sp_leq rfl (dF hs5)) ⟨.inl rfl, .inl rfl, trivial⟩ trivial trivial ?_
 refine t_opG rfl (sp_fieldBox (off' := 1) (.tmp 2) rfl Tryd.underlying27 rfl (z := 1) (by kernel_rfl) (by decide) rfl) ⟨.inl rfl, trivial⟩ trivial trivial ?_
 refine t_opG rfl (sp_loadBox1 (Y := .box 27 (cFm q)) (X := iv q.top) (.tmp 52) rfl Tryd.underlying3 rfl rfl) ⟨.inl rfl, trivial⟩ ⟨rfl, trivial⟩ trivial ?_
 refine t_opG rfl (sp_eql rfl (dT hs8)) ⟨.inl rfl, .inl rfl, trivial⟩ trivial trivial ?_
 refine t_opG rfl (sp_bneq rfl Tryd.underlying4 rfl) ⟨.inl rfl, .inl rfl, trivial⟩ trivial trivial ?_
 refine t_op rfl (sp_pick (.tmp 48) (.const (.bool true)) (.tmp 55) false (bv true) (bv true) rfl) ⟨.inl rfl, .inl rfl, .inl rfl, trivial⟩ trivial trivial ?_
 refine t_op rfl (sp_move (.tmp 56) (bv true) rfl) ⟨.inl rfl, trivial⟩ trivial trivial ?_
 refine t_skip rfl ?_
 refine t_skip rfl ?_
 refine t_skip rfl ?_
 refine t_op rfl (sp_pick (.tmp 57) (.const (.bool true)) (.tmp 60) true (bv true) (.v (.tuple #[])) rfl) ⟨.inl rfl, .inl rfl, .inl rfl, trivial⟩ trivial trivial ?_
 refine tri_nil ?_
 refine tri_wk (wk_keep [(1, .box 27 (cFm q)), (2, .box 76 (cRu q.rules[i]))] [(2, .box 1 0), (5, .box 2 0), (6, iv q.states.length), (61, bv true)] (n := 276) rfl (by kernel_rfl) (by kernel_rfl)) ?_
 rw [show (!rkindB q.rules[i] q.top) = true by unfold rkindB; simp [hs1, hs4, hs5, hs8]]
 exact t_meet trivial (wk_keep _ _ rfl (by kernel_rfl) (by kernel_rfl))
 by_cases hs9 : (unusedB q.rules[i] q.top) = true
 refine tri_region ?_
 refine t_op rfl (sp_fieldBox (off' := 1) (.tmp 5) rfl Tryd.underlying76 rfl (z := 1) (by kernel_rfl) (by decide) rfl) ⟨.inl rfl, trivial⟩ trivial trivial ?_
 refine t_op rfl (sp_loadBox1 (Y := .box 76 (cRu q.rules[i])) (X := iv q.rules[i].kind) (.tmp 44) rfl Tryd.underlying3 rfl rfl) ⟨.inl rfl, trivial⟩ ⟨rfl, trivial⟩ trivial ?_
 refine t_op rfl (sp_call (c := .func 56) (xs := #[.tmp 45, .const (.int .i64 1), .const (.int .i64 5)]) [] (ctr_b (within_c q.rules[i].kind 1 5) hs4) rfl (by kernel_rfl) rfl (Xs := [iv q.rules[i].kind, iv 1, iv 5]) rfl rfl rfl) ⟨.inl rfl, .inl rfl, .inl rfl, .inl rfl, trivial⟩ trivial trivial ?_
 refine t_op rfl (sp_not rfl rfl) ⟨.inl rfl, trivial⟩ trivial trivial ?_
 refine t_op rfl (sp_move (.tmp 47) (bv false) rfl) ⟨.inl rfl, trivial⟩ trivial trivial ?_
 refine t_opG rfl (sp_fieldBox (off' := 1) (.tmp 5) rfl Tryd.underlying76 rfl (z := 1) (by kernel_rfl) (by decide) rfl) ⟨.inl rfl, trivial⟩ trivial trivial ?_
 refine t_opG rfl (sp_loadBox1 (Y := .box 76 (cRu q.rules[i])) (X := iv q.rules[i].kind) (.tmp 49) rfl Tryd.underlying3 rfl rfl) ⟨.inl rfl, trivial⟩ ⟨rfl, trivial⟩ trivial ?_
 refine t_opG rfl (sp_leq rfl (dF hs5)) ⟨.inl rfl, .inl rfl, trivial⟩ trivial trivial ?_
 refine t_opG rfl (sp_fieldBox (off' := 1) (.tmp 2) rfl Tryd.underlying27 rfl (z := 1) (by kernel_rfl) (by decide) rfl) ⟨.inl rfl, trivial⟩ trivial trivial ?_
 refine t_opG rfl (sp_loadBox1 (Y := .box 27 (cFm q)) (X := iv q.top) (.tmp 52) rfl Tryd.underlying3 rfl rfl) ⟨.inl rfl, trivial⟩ ⟨rfl, trivial⟩ trivial ?_
 refine t_opG rfl (sp_eql rfl (dF hs8)) ⟨.inl rfl, .inl rfl, trivial⟩ trivial trivial ?_
 refine t_opG rfl (sp_bneq rfl Tryd.underlying4 rfl) ⟨.inl rfl, .inl rfl, trivial⟩ trivial trivial ?_
 refine t_op rfl (sp_pick (.tmp 48) (.const (.bool true)) (.tmp 55) false (bv true) (bv false) rfl) ⟨.inl rfl, .inl rfl, .inl rfl, trivial⟩ trivial trivial ?_
 refine t_op rfl (sp_move (.tmp 56) (bv false) rfl) ⟨.inl rfl, trivial⟩ trivial trivial ?_
 refine t_opG rfl (sp_loadBoxS (Y := .box 27 (cFm q)) (ds := cFm q) (z := 10) (.tmp 2) rfl Tryd.underlying27 rfl (by kernel_rfl) (by decide) (by kernel_rfl) (by kernel_rfl)) ⟨.inl rfl, trivial⟩ ⟨rfl, trivial⟩ trivial ?_
 refine t_opG rfl (sp_loadBoxS (Y := .box 76 (cRu q.rules[i])) (ds := cRu q.rules[i]) (z := 18) (.tmp 5) rfl Tryd.underlying76 rfl (by kernel_rfl) (by decide) (by kernel_rfl) (by kernel_rfl)) ⟨.inl rfl, trivial⟩ ⟨rfl, trivial⟩ trivial ?_
 refine t_opG rfl (sp_call (c := .func 101) (xs := #[.tmp 58, .tmp 59]) [] (ctr_b (unused_c (kind_in hs4) HQ HR) hs9) rfl (by kernel_rfl) rfl (Xs := [.agg (cFm q), .agg (cRu q.rules[i])]) rfl rfl rfl) ⟨.inl rfl, .inl rfl, .inl rfl, trivial⟩ trivial trivial ?_
 refine t_op rfl (sp_pick (.tmp 57) (.const (.bool true)) (.tmp 60) false (bv true) (bv true) rfl) ⟨.inl rfl, .inl rfl, .inl rfl, trivial⟩ trivial trivial ?_
 refine tri_nil ?_
 refine tri_wk (wk_keep [(1, .box 27 (cFm q)), (2, .box 76 (cRu q.rules[i]))] [(2, .box 1 0), (5, .box 2 0), (6, iv q.states.length), (61, bv true)] (n := 276) rfl (by kernel_rfl) (by kernel_rfl)) ?_
 rw [show (!rkindB q.rules[i] q.top) = true by unfold rkindB; rw [hs9]; simp [hs1, hs4, hs5, hs8, hs9]]
 exact t_meet trivial (wk_keep _ _ rfl (by kernel_rfl) (by kernel_rfl))
 have hs9f : (unusedB q.rules[i] q.top) = false := by simpa using hs9
 refine tri_region ?_
 refine t_op rfl (sp_fieldBox (off' := 1) (.tmp 5) rfl Tryd.underlying76 rfl (z := 1) (by kernel_rfl) (by decide) rfl) ⟨.inl rfl, trivial⟩ trivial trivial ?_
 refine t_op rfl (sp_loadBox1 (Y := .box 76 (cRu q.rules[i])) (X := iv q.rules[i].kind) (.tmp 44) rfl Tryd.underlying3 rfl rfl) ⟨.inl rfl, trivial⟩ ⟨rfl, trivial⟩ trivial ?_
 refine t_op rfl (sp_call (c := .func 56) (xs := #[.tmp 45, .const (.int .i64 1), .const (.int .i64 5)]) [] (ctr_b (within_c q.rules[i].kind 1 5) hs4) rfl (by kernel_rfl) rfl (Xs := [iv q.rules[i].kind, iv 1, iv 5]) rfl rfl rfl) ⟨.inl rfl, .inl rfl, .inl rfl, .inl rfl, trivial⟩ trivial trivial ?_
 refine t_op rfl (sp_not rfl rfl) ⟨.inl rfl, trivial⟩ trivial trivial ?_
 refine t_op rfl (sp_move (.tmp 47) (bv false) rfl) ⟨.inl rfl, trivial⟩ trivial trivial ?_
 refine t_opG rfl (sp_fieldBox (off' := 1) (.tmp 5) rfl Tryd.underlying76 rfl (z := 1) (by kernel_rfl) (by decide) rfl) ⟨.inl rfl, trivial⟩ trivial trivial ?_
 refine t_opG rfl (sp_loadBox1 (Y := .box 76 (cRu q.rules[i])) (X := iv q.rules[i].kind) (.tmp 49) rfl Tryd.underlying3 rfl rfl) ⟨.inl rfl, trivial⟩ ⟨rfl, trivial⟩ trivial ?_
 refine t_opG rfl (sp_leq rfl (dF hs5)) ⟨.inl rfl, .inl rfl, trivial⟩ trivial trivial ?_
 refine t_opG rfl (sp_fieldBox (off' := 1) (.tmp 2) rfl Tryd.underlying27 rfl (z := 1) (by kernel_rfl) (by decide) rfl) ⟨.inl rfl, trivial⟩ trivial trivial ?_
 refine t_opG rfl (sp_loadBox1 (Y := .box 27 (cFm q)) (X := iv q.top) (.tmp 52) rfl Tryd.underlying3 rfl rfl) ⟨.inl rfl, trivial⟩ ⟨rfl, trivial⟩ trivial ?_
 refine t_opG rfl (sp_eql rfl (dF hs8)) ⟨.inl rfl, .inl rfl, trivial⟩ trivial trivial ?_
 refine t_opG rfl (sp_bneq rfl Tryd.underlying4 rfl) ⟨.inl rfl, .inl rfl, trivial⟩ trivial trivial ?_
 refine t_op rfl (sp_pick (.tmp 48) (.const (.bool true)) (.tmp 55) false (bv true) (bv false) rfl) ⟨.inl rfl, .inl rfl, .inl rfl, trivial⟩ trivial trivial ?_
 refine t_op rfl (sp_move (.tmp 56) (bv false) rfl) ⟨.inl rfl, trivial⟩ trivial trivial ?_
 refine t_opG rfl (sp_loadBoxS (Y := .box 27 (cFm q)) (ds := cFm q) (z := 10) (.tmp 2) rfl Tryd.underlying27 rfl (by kernel_rfl) (by decide) (by kernel_rfl) (by kernel_rfl)) ⟨.inl rfl, trivial⟩ ⟨rfl, trivial⟩ trivial ?_
 refine t_opG rfl (sp_loadBoxS (Y := .box 76 (cRu q.rules[i])) (ds := cRu q.rules[i]) (z := 18) (.tmp 5) rfl Tryd.underlying76 rfl (by kernel_rfl) (by decide) (by kernel_rfl) (by kernel_rfl)) ⟨.inl rfl, trivial⟩ ⟨rfl, trivial⟩ trivial ?_
 refine t_opG rfl (sp_call (c := .func 101) (xs := #[.tmp 58, .tmp 59]) [] (ctr_b (unused_c (kind_in hs4) HQ HR) hs9f) rfl (by kernel_rfl) rfl (Xs := [.agg (cFm q), .agg (cRu q.rules[i])]) rfl rfl rfl) ⟨.inl rfl, .inl rfl, .inl rfl, trivial⟩ trivial trivial ?_
 refine t_op rfl (sp_pick (.tmp 57) (.const (.bool true)) (.tmp 60) false (bv true) (bv false) rfl) ⟨.inl rfl, .inl rfl, .inl rfl, trivial⟩ trivial trivial ?_
 refine tri_nil ?_
 refine tri_wk (wk_keep [(1, .box 27 (cFm q)), (2, .box 76 (cRu q.rules[i]))] [(2, .box 1 0), (5, .box 2 0), (6, iv q.states.length), (61, bv false)] (n := 276) rfl (by kernel_rfl) (by kernel_rfl)) ?_
 rw [show (!rkindB q.rules[i] q.top) = false by unfold rkindB; rw [hs9f]; simp [hs1, hs4, hs5, hs8, hs9f]]
 exact t_meet trivial (wk_keep _ _ rfl (by kernel_rfl) (by kernel_rfl))
 have hs4f : (inB 1 5 q.rules[i].kind) = false := by simpa using hs4
 refine tri_region ?_
 refine t_op rfl (sp_fieldBox (off' := 1) (.tmp 5) rfl Tryd.underlying76 rfl (z := 1) (by kernel_rfl) (by decide) rfl) ⟨.inl rfl, trivial⟩ trivial trivial ?_
 refine t_op rfl (sp_loadBox1 (Y := .box 76 (cRu q.rules[i])) (X := iv q.rules[i].kind) (.tmp 44) rfl Tryd.underlying3 rfl rfl) ⟨.inl rfl, trivial⟩ ⟨rfl, trivial⟩ trivial ?_
 refine t_op rfl (sp_call (c := .func 56) (xs := #[.tmp 45, .const (.int .i64 1), .const (.int .i64 5)]) [] (ctr_b (within_c q.rules[i].kind 1 5) hs4f) rfl (by kernel_rfl) rfl (Xs := [iv q.rules[i].kind, iv 1, iv 5]) rfl rfl rfl) ⟨.inl rfl, .inl rfl, .inl rfl, .inl rfl, trivial⟩ trivial trivial ?_
 refine t_op rfl (sp_not rfl rfl) ⟨.inl rfl, trivial⟩ trivial trivial ?_
 refine t_op rfl (sp_move (.tmp 47) (bv true) rfl) ⟨.inl rfl, trivial⟩ trivial trivial ?_
 refine t_skip rfl ?_
 refine t_skip rfl ?_
 refine t_skip rfl ?_
 refine t_skip rfl ?_
 refine t_skip rfl ?_
 refine t_skip rfl ?_
 refine t_skip rfl ?_
 refine t_op rfl (sp_pick (.tmp 48) (.const (.bool true)) (.tmp 55) true (bv true) (.v (.tuple #[])) rfl) ⟨.inl rfl, .inl rfl, .inl rfl, trivial⟩ trivial trivial ?_
 refine t_op rfl (sp_move (.tmp 56) (bv true) rfl) ⟨.inl rfl, trivial⟩ trivial trivial ?_
 refine t_skip rfl ?_
 refine t_skip rfl ?_
 refine t_skip rfl ?_
 refine t_op rfl (sp_pick (.tmp 57) (.const (.bool true)) (.tmp 60) true (bv true) (.v (.tuple #[])) rfl) ⟨.inl rfl, .inl rfl, .inl rfl, trivial⟩ trivial trivial ?_
 refine tri_nil ?_
 refine tri_wk (wk_keep [(1, .box 27 (cFm q)), (2, .box 76 (cRu q.rules[i]))] [(2, .box 1 0), (5, .box 2 0), (6, iv q.states.length), (61, bv true)] (n := 276) rfl (by kernel_rfl) (by kernel_rfl)) ?_
 rw [show (!rkindB q.rules[i] q.top) = true by unfold rkindB; simp [hs1, hs4f]]
 exact t_meet trivial (wk_keep _ _ rfl (by kernel_rfl) (by kernel_rfl))
 refine t_then ?_
 by_cases hs10 : (rkindB q.rules[i] q.top) = true
 rw [hs10]
 refine tri_wk (wk_keep [(1, .box 27 (cFm q)), (2, .box 76 (cRu q.rules[i]))] [(2, .box 1 0), (5, .box 2 0), (6, iv q.states.length), (61, bv false)] (n := 276) rfl (by kernel_rfl) (by kernel_rfl)) ?_
 refine t_condF rfl ?_
 refine tri_skip ?_
 refine t_then ?_
 refine tri_seq ?_
 refine t_cut (True) (ofL [(1, .box 27 (cFm q)), (2, .box 76 (cRu q.rules[i]))]) (ofT 276 [(2, .box 1 0), (5, .box 2 0), (6, iv q.states.length), (8, bv (twoB q.rules[i]))]) ?_ (fun _ => ?_)
 by_cases hs11 : q.rules[i].kind = 2
 refine tri_region ?_
 refine t_op rfl (sp_fieldBox (off' := 1) (.tmp 5) rfl Tryd.underlying76 rfl (z := 1) (by kernel_rfl) (by decide) rfl) ⟨.inl rfl, trivial⟩ trivial trivial ?_
 refine t_op rfl (sp_loadBox1 (Y := .box 76 (cRu q.rules[i])) (X := iv q.rules[i].kind) (.tmp 62) rfl Tryd.underlying3 rfl rfl) ⟨.inl rfl, trivial⟩ ⟨rfl, trivial⟩ trivial ?_
 refine t_op rfl (sp_eql rfl (dT hs11)) ⟨.inl rfl, .inl rfl, trivial⟩ trivial trivial ?_
 refine t_op rfl (sp_move (.tmp 64) (bv true) rfl) ⟨.inl rfl, trivial⟩ trivial trivial ?_
 refine t_skip rfl ?_
 refine t_skip rfl ?_
 refine t_skip rfl ?_
 refine t_op rfl (sp_pick (.tmp 65) (.const (.bool true)) (.tmp 68) true (bv true) (.v (.tuple #[])) rfl) ⟨.inl rfl, .inl rfl, .inl rfl, trivial⟩ trivial trivial ?_
 refine t_op rfl (sp_assign (.tmp 69) (bv true) rfl) ⟨.inl rfl, trivial⟩ trivial trivial ?_
 refine tri_nil ?_
 refine tri_wk (wk_keep [(1, .box 27 (cFm q)), (2, .box 76 (cRu q.rules[i]))] [(2, .box 1 0), (5, .box 2 0), (6, iv q.states.length), (8, bv true)] (n := 276) rfl (by kernel_rfl) (by kernel_rfl)) ?_
 rw [show (twoB q.rules[i]) = true by first | (simp [twoB, hs1, hs10, hs11]; done) | (simp [twoB, inB, hs1, hs10, hs11]; done)]
 exact t_meet trivial (wk_keep _ _ rfl (by kernel_rfl) (by kernel_rfl))
 refine tri_region ?_
 refine t_op rfl (sp_fieldBox (off' := 1) (.tmp 5) rfl Tryd.underlying76 rfl (z := 1) (by kernel_rfl) (by decide) rfl) ⟨.inl rfl, trivial⟩ trivial trivial ?_
 refine t_op rfl (sp_loadBox1 (Y := .box 76 (cRu q.rules[i])) (X := iv q.rules[i].kind) (.tmp 62) rfl Tryd.underlying3 rfl rfl) ⟨.inl rfl, trivial⟩ ⟨rfl, trivial⟩ trivial ?_
 refine t_op rfl (sp_eql rfl (dF hs11)) ⟨.inl rfl, .inl rfl, trivial⟩ trivial trivial ?_
 refine t_op rfl (sp_move (.tmp 64) (bv false) rfl) ⟨.inl rfl, trivial⟩ trivial trivial ?_
 refine t_opG rfl (sp_fieldBox (off' := 1) (.tmp 5) rfl Tryd.underlying76 rfl (z := 1) (by kernel_rfl) (by decide) rfl) ⟨.inl rfl, trivial⟩ trivial trivial ?_
 refine t_opG rfl (sp_loadBox1 (Y := .box 76 (cRu q.rules[i])) (X := iv q.rules[i].kind) (.tmp 66) rfl Tryd.underlying3 rfl rfl) ⟨.inl rfl, trivial⟩ ⟨rfl, trivial⟩ trivial ?_
 refine t_opG rfl (sp_eql rfl rfl) ⟨.inl rfl, .inl rfl, trivial⟩ trivial trivial ?_
 refine t_op rfl (sp_pick (.tmp 65) (.const (.bool true)) (.tmp 68) false (bv true) (bv (decide (q.rules[i].kind = 5))) rfl) ⟨.inl rfl, .inl rfl, .inl rfl, trivial⟩ trivial trivial ?_
 refine t_op rfl (sp_assign (.tmp 69) (bv (decide (q.rules[i].kind = 5))) rfl) ⟨.inl rfl, trivial⟩ trivial trivial ?_
 refine tri_nil ?_
 refine tri_wk (wk_keep [(1, .box 27 (cFm q)), (2, .box 76 (cRu q.rules[i]))] [(2, .box 1 0), (5, .box 2 0), (6, iv q.states.length), (8, bv (decide (q.rules[i].kind = 5)))] (n := 276) rfl (by kernel_rfl) (by kernel_rfl)) ?_
 rw [show (twoB q.rules[i]) = (decide (q.rules[i].kind = 5)) by first | (simp [twoB, hs1, hs10, hs11]; done) | (simp [twoB, inB, hs1, hs10, hs11]; done)]
 exact t_meet trivial (wk_keep _ _ rfl (by kernel_rfl) (by kernel_rfl))
 refine t_then ?_
 refine tri_seq ?_
 refine tri_seq ?_
 refine t_cut (True) (ofL [(1, .box 27 (cFm q)), (2, .box 76 (cRu q.rules[i]))]) (ofT 276 [(2, .box 1 0), (5, .box 2 0), (6, iv q.states.length), (102, bv (!(rstB q.rules[i] q.states.length)))]) ?_ (fun _ => ?_)
 by_cases hs12 : (inB 0 (((q.states.length : Nat) : Int) - 1) q.rules[i].frm) = true
 by_cases hs13 : (inB 0 (((q.states.length : Nat) : Int) - 1) q.rules[i].to) = true
 by_cases hs14 : (twoB q.rules[i]) = true
 rw [hs14]
 refine tri_wk (wk_keep [(1, .box 27 (cFm q)), (2, .box 76 (cRu q.rules[i]))] [(2, .box 1 0), (5, .box 2 0), (6, iv q.states.length), (8, bv true)] (n := 276) rfl (by kernel_rfl) (by kernel_rfl)) ?_
 by_cases hs15 : (inB 0 (((q.states.length : Nat) : Int) - 1) q.rules[i].pf) = true
 by_cases hs16 : (inB 0 (((q.states.length : Nat) : Int) - 1) q.rules[i].pt) = true
 refine tri_region ?_
 refine t_op rfl (sp_fieldBox (off' := 2) (.tmp 5) rfl Tryd.underlying76 rfl (z := 1) (by kernel_rfl) (by decide) rfl) ⟨.inl rfl, trivial⟩ trivial trivial ?_
 refine t_op rfl (sp_loadBox1 (Y := .box 76 (cRu q.rules[i])) (X := iv q.rules[i].frm) (.tmp 70) rfl Tryd.underlying3 rfl rfl) ⟨.inl rfl, trivial⟩ ⟨rfl, trivial⟩ trivial ?_
 refine t_op rfl (sp_move (.tmp 6) (iv q.states.length) rfl) ⟨.inl rfl, trivial⟩ trivial trivial ?_
 refine t_op rfl (sp_sub (c := ((q.states.length : Nat) : Int) - 1) rfl (w64 (by omega) (by omega) (by omega))) ⟨.inl rfl, .inl rfl, trivial⟩ trivial trivial ?_
 refine t_op rfl (sp_call (c := .func 56) (xs := #[.tmp 71, .const (.int .i64 0), .tmp 73]) [] (ctr_b (within_c q.rules[i].frm 0 (((q.states.length : Nat) : Int) - 1)) hs12) rfl (by kernel_rfl) rfl (Xs := [iv q.rules[i].frm, iv 0, iv (((q.states.length : Nat) : Int) - 1)]) rfl rfl rfl) ⟨.inl rfl, .inl rfl, .inl rfl, .inl rfl, trivial⟩ trivial trivial ?_
 refine t_op rfl (sp_not rfl rfl) ⟨.inl rfl, trivial⟩ trivial trivial ?_
 refine t_op rfl (sp_move (.tmp 75) (bv false) rfl) ⟨.inl rfl, trivial⟩ trivial trivial ?_
 refine t_opG rfl (sp_fieldBox (off' := 3) (.tmp 5) rfl Tryd.underlying76 rfl (z := 1) (by kernel_rfl) (by decide) rfl) ⟨.inl rfl, trivial⟩ trivial trivial ?_
 refine t_opG rfl (sp_loadBox1 (Y := .box 76 (cRu q.rules[i])) (X := iv q.rules[i].to) (.tmp 77) rfl Tryd.underlying3 rfl rfl) ⟨.inl rfl, trivial⟩ ⟨rfl, trivial⟩ trivial ?_
 refine t_opG rfl (sp_move (.tmp 6) (iv q.states.length) rfl) ⟨.inl rfl, trivial⟩ trivial trivial ?_
 refine t_opG rfl (sp_sub (c := ((q.states.length : Nat) : Int) - 1) rfl (w64 (by omega) (by omega) (by omega))) ⟨.inl rfl, .inl rfl, trivial⟩ trivial trivial ?_
 refine t_opG rfl (sp_call (c := .func 56) (xs := #[.tmp 78, .const (.int .i64 0), .tmp 80]) [] (ctr_b (within_c q.rules[i].to 0 (((q.states.length : Nat) : Int) - 1)) hs13) rfl (by kernel_rfl) rfl (Xs := [iv q.rules[i].to, iv 0, iv (((q.states.length : Nat) : Int) - 1)]) rfl rfl rfl) ⟨.inl rfl, .inl rfl, .inl rfl, .inl rfl, trivial⟩ trivial trivial ?_
 refine t_opG rfl (sp_not rfl rfl) ⟨.inl rfl, trivial⟩ trivial trivial ?_
 refine t_op rfl (sp_pick (.tmp 76) (.const (.bool true)) (.tmp 82) false (bv true) (bv false) rfl) ⟨.inl rfl, .inl rfl, .inl rfl, trivial⟩ trivial trivial ?_
 refine t_op rfl (sp_move (.tmp 83) (bv false) rfl) ⟨.inl rfl, trivial⟩ trivial trivial ?_
 refine t_opG rfl (sp_move (.tmp 8) (bv true) rfl) ⟨.inl rfl, trivial⟩ trivial trivial ?_
 refine t_opG rfl (sp_move (.tmp 85) (bv true) rfl) ⟨.inl rfl, trivial⟩ trivial trivial ?_
 refine t_opG rfl (sp_fieldBox (off' := 4) (.tmp 5) rfl Tryd.underlying76 rfl (z := 1) (by kernel_rfl) (by decide) rfl) ⟨.inl rfl, trivial⟩ trivial trivial ?_
 refine t_opG rfl (sp_loadBox1 (Y := .box 76 (cRu q.rules[i])) (X := iv q.rules[i].pf) (.tmp 87) rfl Tryd.underlying3 rfl rfl) ⟨.inl rfl, trivial⟩ ⟨rfl, trivial⟩ trivial ?_
 refine t_opG rfl (sp_move (.tmp 6) (iv q.states.length) rfl) ⟨.inl rfl, trivial⟩ trivial trivial ?_
 refine t_opG rfl (sp_sub (c := ((q.states.length : Nat) : Int) - 1) rfl (w64 (by omega) (by omega) (by omega))) ⟨.inl rfl, .inl rfl, trivial⟩ trivial trivial ?_
 refine t_opG rfl (sp_call (c := .func 56) (xs := #[.tmp 88, .const (.int .i64 0), .tmp 90]) [] (ctr_b (within_c q.rules[i].pf 0 (((q.states.length : Nat) : Int) - 1)) hs15) rfl (by kernel_rfl) rfl (Xs := [iv q.rules[i].pf, iv 0, iv (((q.states.length : Nat) : Int) - 1)]) rfl rfl rfl) ⟨.inl rfl, .inl rfl, .inl rfl, .inl rfl, trivial⟩ trivial trivial ?_
 refine t_opG rfl (sp_not rfl rfl) ⟨.inl rfl, trivial⟩ trivial trivial ?_
 refine t_opG rfl (sp_move (.tmp 92) (bv false) rfl) ⟨.inl rfl, trivial⟩ trivial trivial ?_
 refine t_opG rfl (sp_fieldBox (off' := 5) (.tmp 5) rfl Tryd.underlying76 rfl (z := 1) (by kernel_rfl) (by decide) rfl) ⟨.inl rfl, trivial⟩ trivial trivial ?_
 refine t_opG rfl (sp_loadBox1 (Y := .box 76 (cRu q.rules[i])) (X := iv q.rules[i].pt) (.tmp 94) rfl Tryd.underlying3 rfl rfl) ⟨.inl rfl, trivial⟩ ⟨rfl, trivial⟩ trivial ?_
 refine t_opG rfl (sp_move (.tmp 6) (iv q.states.length) rfl) ⟨.inl rfl, trivial⟩ trivial trivial ?_
 refine t_opG rfl (sp_sub (c := ((q.states.length : Nat) : Int) - 1) rfl (w64 (by omega) (by omega) (by omega))) ⟨.inl rfl, .inl rfl, trivial⟩ trivial trivial ?_
 refine t_opG rfl (sp_call (c := .func 56) (xs := #[.tmp 95, .const (.int .i64 0), .tmp 97]) [] (ctr_b (within_c q.rules[i].pt 0 (((q.states.length : Nat) : Int) - 1)) hs16) rfl (by kernel_rfl) rfl (Xs := [iv q.rules[i].pt, iv 0, iv (((q.states.length : Nat) : Int) - 1)]) rfl rfl rfl) ⟨.inl rfl, .inl rfl, .inl rfl, .inl rfl, trivial⟩ trivial trivial ?_
 refine t_opG rfl (sp_not rfl rfl) ⟨.inl rfl, trivial⟩ trivial trivial ?_
 refine t_opG rfl (sp_pick (.tmp 93) (.const (.bool true)) (.tmp 99) false (bv true) (bv false) rfl) ⟨.inl rfl, .inl rfl, .inl rfl, trivial⟩ trivial trivial ?_
 refine t_opG rfl (sp_pick (.tmp 86) (.tmp 100) (.const (.bool false)) true (bv false) (bv false) rfl) ⟨.inl rfl, .inl rfl, .inl rfl, trivial⟩ trivial trivial ?_
 refine t_op rfl (sp_pick (.tmp 84) (.const (.bool true)) (.tmp 101) false (bv true) (bv false) rfl) ⟨.inl rfl, .inl rfl, .inl rfl, trivial⟩ trivial trivial ?_
 refine tri_nil ?_
 refine tri_wk (wk_keep [(1, .box 27 (cFm q)), (2, .box 76 (cRu q.rules[i]))] [(2, .box 1 0), (5, .box 2 0), (6, iv q.states.length), (102, bv false)] (n := 276) rfl (by kernel_rfl) (by kernel_rfl)) ?_
 rw [show (!rstB q.rules[i] q.states.length) = false by first | (simp [rstB_two, ixB, hs1, hs10, hs12, hs13, hs14, hs15, hs16]; done) | (simp [rstB_two, ixB, inB, hs1, hs10, hs12, hs13, hs14, hs15, hs16]; done)]
 exact t_meet trivial (wk_keep _ _ rfl (by kernel_rfl) (by kernel_rfl))
 have hs16f : (inB 0 (((q.states.length : Nat) : Int) - 1) q.rules[i].pt) = false := by simpa using hs16
 refine tri_region ?_
 refine t_op rfl (sp_fieldBox (off' := 2) (.tmp 5) rfl Tryd.underlying76 rfl (z := 1) (by kernel_rfl) (by decide) rfl) ⟨.inl rfl, trivial⟩ trivial trivial ?_
 refine t_op rfl (sp_loadBox1 (Y := .box 76 (cRu q.rules[i])) (X := iv q.rules[i].frm) (.tmp 70) rfl Tryd.underlying3 rfl rfl) ⟨.inl rfl, trivial⟩ ⟨rfl, trivial⟩ trivial ?_
 refine t_op rfl (sp_move (.tmp 6) (iv q.states.length) rfl) ⟨.inl rfl, trivial⟩ trivial trivial ?_
 refine t_op rfl (sp_sub (c := ((q.states.length : Nat) : Int) - 1) rfl (w64 (by omega) (by omega) (by omega))) ⟨.inl rfl, .inl rfl, trivial⟩ trivial trivial ?_
 refine t_op rfl (sp_call (c := .func 56) (xs := #[.tmp 71, .const (.int .i64 0), .tmp 73]) [] (ctr_b (within_c q.rules[i].frm 0 (((q.states.length : Nat) : Int) - 1)) hs12) rfl (by kernel_rfl) rfl (Xs := [iv q.rules[i].frm, iv 0, iv (((q.states.length : Nat) : Int) - 1)]) rfl rfl rfl) ⟨.inl rfl, .inl rfl, .inl rfl, .inl rfl, trivial⟩ trivial trivial ?_
 refine t_op rfl (sp_not rfl rfl) ⟨.inl rfl, trivial⟩ trivial trivial ?_
 refine t_op rfl (sp_move (.tmp 75) (bv false) rfl) ⟨.inl rfl, trivial⟩ trivial trivial ?_
 refine t_opG rfl (sp_fieldBox (off' := 3) (.tmp 5) rfl Tryd.underlying76 rfl (z := 1) (by kernel_rfl) (by decide) rfl) ⟨.inl rfl, trivial⟩ trivial trivial ?_
 refine t_opG rfl (sp_loadBox1 (Y := .box 76 (cRu q.rules[i])) (X := iv q.rules[i].to) (.tmp 77) rfl Tryd.underlying3 rfl rfl) ⟨.inl rfl, trivial⟩ ⟨rfl, trivial⟩ trivial ?_
 refine t_opG rfl (sp_move (.tmp 6) (iv q.states.length) rfl) ⟨.inl rfl, trivial⟩ trivial trivial ?_
 refine t_opG rfl (sp_sub (c := ((q.states.length : Nat) : Int) - 1) rfl (w64 (by omega) (by omega) (by omega))) ⟨.inl rfl, .inl rfl, trivial⟩ trivial trivial ?_
 refine t_opG rfl (sp_call (c := .func 56) (xs := #[.tmp 78, .const (.int .i64 0), .tmp 80]) [] (ctr_b (within_c q.rules[i].to 0 (((q.states.length : Nat) : Int) - 1)) hs13) rfl (by kernel_rfl) rfl (Xs := [iv q.rules[i].to, iv 0, iv (((q.states.length : Nat) : Int) - 1)]) rfl rfl rfl) ⟨.inl rfl, .inl rfl, .inl rfl, .inl rfl, trivial⟩ trivial trivial ?_
 refine t_opG rfl (sp_not rfl rfl) ⟨.inl rfl, trivial⟩ trivial trivial ?_
 refine t_op rfl (sp_pick (.tmp 76) (.const (.bool true)) (.tmp 82) false (bv true) (bv false) rfl) ⟨.inl rfl, .inl rfl, .inl rfl, trivial⟩ trivial trivial ?_
 refine t_op rfl (sp_move (.tmp 83) (bv false) rfl) ⟨.inl rfl, trivial⟩ trivial trivial ?_
 refine t_opG rfl (sp_move (.tmp 8) (bv true) rfl) ⟨.inl rfl, trivial⟩ trivial trivial ?_
 refine t_opG rfl (sp_move (.tmp 85) (bv true) rfl) ⟨.inl rfl, trivial⟩ trivial trivial ?_
 refine t_opG rfl (sp_fieldBox (off' := 4) (.tmp 5) rfl Tryd.underlying76 rfl (z := 1) (by kernel_rfl) (by decide) rfl) ⟨.inl rfl, trivial⟩ trivial trivial ?_
 refine t_opG rfl (sp_loadBox1 (Y := .box 76 (cRu q.rules[i])) (X := iv q.rules[i].pf) (.tmp 87) rfl Tryd.underlying3 rfl rfl) ⟨.inl rfl, trivial⟩ ⟨rfl, trivial⟩ trivial ?_
 refine t_opG rfl (sp_move (.tmp 6) (iv q.states.length) rfl) ⟨.inl rfl, trivial⟩ trivial trivial ?_
 refine t_opG rfl (sp_sub (c := ((q.states.length : Nat) : Int) - 1) rfl (w64 (by omega) (by omega) (by omega))) ⟨.inl rfl, .inl rfl, trivial⟩ trivial trivial ?_
 refine t_opG rfl (sp_call (c := .func 56) (xs := #[.tmp 88, .const (.int .i64 0), .tmp 90]) [] (ctr_b (within_c q.rules[i].pf 0 (((q.states.length : Nat) : Int) - 1)) hs15) rfl (by kernel_rfl) rfl (Xs := [iv q.rules[i].pf, iv 0, iv (((q.states.length : Nat) : Int) - 1)]) rfl rfl rfl) ⟨.inl rfl, .inl rfl, .inl rfl, .inl rfl, trivial⟩ trivial trivial ?_
 refine t_opG rfl (sp_not rfl rfl) ⟨.inl rfl, trivial⟩ trivial trivial ?_
 refine t_opG rfl (sp_move (.tmp 92) (bv false) rfl) ⟨.inl rfl, trivial⟩ trivial trivial ?_
 refine t_opG rfl (sp_fieldBox (off' := 5) (.tmp 5) rfl Tryd.underlying76 rfl (z := 1) (by kernel_rfl) (by decide) rfl) ⟨.inl rfl, trivial⟩ trivial trivial ?_
 refine t_opG rfl (sp_loadBox1 (Y := .box 76 (cRu q.rules[i])) (X := iv q.rules[i].pt) (.tmp 94) rfl Tryd.underlying3 rfl rfl) ⟨.inl rfl, trivial⟩ ⟨rfl, trivial⟩ trivial ?_
 refine t_opG rfl (sp_move (.tmp 6) (iv q.states.length) rfl) ⟨.inl rfl, trivial⟩ trivial trivial ?_
 refine t_opG rfl (sp_sub (c := ((q.states.length : Nat) : Int) - 1) rfl (w64 (by omega) (by omega) (by omega))) ⟨.inl rfl, .inl rfl, trivial⟩ trivial trivial ?_
 refine t_opG rfl (sp_call (c := .func 56) (xs := #[.tmp 95, .const (.int .i64 0), .tmp 97]) [] (ctr_b (within_c q.rules[i].pt 0 (((q.states.length : Nat) : Int) - 1)) hs16f) rfl (by kernel_rfl) rfl (Xs := [iv q.rules[i].pt, iv 0, iv (((q.states.length : Nat) : Int) - 1)]) rfl rfl rfl) ⟨.inl rfl, .inl rfl, .inl rfl, .inl rfl, trivial⟩ trivial trivial ?_
 refine t_opG rfl (sp_not rfl rfl) ⟨.inl rfl, trivial⟩ trivial trivial ?_
 refine t_opG rfl (sp_pick (.tmp 93) (.const (.bool true)) (.tmp 99) false (bv true) (bv true) rfl) ⟨.inl rfl, .inl rfl, .inl rfl, trivial⟩ trivial trivial ?_
 refine t_opG rfl (sp_pick (.tmp 86) (.tmp 100) (.const (.bool false)) true (bv true) (bv false) rfl) ⟨.inl rfl, .inl rfl, .inl rfl, trivial⟩ trivial trivial ?_
 refine t_op rfl (sp_pick (.tmp 84) (.const (.bool true)) (.tmp 101) false (bv true) (bv true) rfl) ⟨.inl rfl, .inl rfl, .inl rfl, trivial⟩ trivial trivial ?_
 refine tri_nil ?_
 refine tri_wk (wk_keep [(1, .box 27 (cFm q)), (2, .box 76 (cRu q.rules[i]))] [(2, .box 1 0), (5, .box 2 0), (6, iv q.states.length), (102, bv true)] (n := 276) rfl (by kernel_rfl) (by kernel_rfl)) ?_
 rw [show (!rstB q.rules[i] q.states.length) = true by first | (simp [rstB_two, ixB, hs1, hs10, hs12, hs13, hs14, hs15, hs16f]; done) | (simp [rstB_two, ixB, inB, hs1, hs10, hs12, hs13, hs14, hs15, hs16f]; done)]
 exact t_meet trivial (wk_keep _ _ rfl (by kernel_rfl) (by kernel_rfl))
 have hs15f : (inB 0 (((q.states.length : Nat) : Int) - 1) q.rules[i].pf) = false := by simpa using hs15
 refine tri_region ?_
 refine t_op rfl (sp_fieldBox (off' := 2) (.tmp 5) rfl Tryd.underlying76 rfl (z := 1) (by kernel_rfl) (by decide) rfl) ⟨.inl rfl, trivial⟩ trivial trivial ?_
 refine t_op rfl (sp_loadBox1 (Y := .box 76 (cRu q.rules[i])) (X := iv q.rules[i].frm) (.tmp 70) rfl Tryd.underlying3 rfl rfl) ⟨.inl rfl, trivial⟩ ⟨rfl, trivial⟩ trivial ?_
 refine t_op rfl (sp_move (.tmp 6) (iv q.states.length) rfl) ⟨.inl rfl, trivial⟩ trivial trivial ?_
 refine t_op rfl (sp_sub (c := ((q.states.length : Nat) : Int) - 1) rfl (w64 (by omega) (by omega) (by omega))) ⟨.inl rfl, .inl rfl, trivial⟩ trivial trivial ?_
 refine t_op rfl (sp_call (c := .func 56) (xs := #[.tmp 71, .const (.int .i64 0), .tmp 73]) [] (ctr_b (within_c q.rules[i].frm 0 (((q.states.length : Nat) : Int) - 1)) hs12) rfl (by kernel_rfl) rfl (Xs := [iv q.rules[i].frm, iv 0, iv (((q.states.length : Nat) : Int) - 1)]) rfl rfl rfl) ⟨.inl rfl, .inl rfl, .inl rfl, .inl rfl, trivial⟩ trivial trivial ?_
 refine t_op rfl (sp_not rfl rfl) ⟨.inl rfl, trivial⟩ trivial trivial ?_
 refine t_op rfl (sp_move (.tmp 75) (bv false) rfl) ⟨.inl rfl, trivial⟩ trivial trivial ?_
 refine t_opG rfl (sp_fieldBox (off' := 3) (.tmp 5) rfl Tryd.underlying76 rfl (z := 1) (by kernel_rfl) (by decide) rfl) ⟨.inl rfl, trivial⟩ trivial trivial ?_
 refine t_opG rfl (sp_loadBox1 (Y := .box 76 (cRu q.rules[i])) (X := iv q.rules[i].to) (.tmp 77) rfl Tryd.underlying3 rfl rfl) ⟨.inl rfl, trivial⟩ ⟨rfl, trivial⟩ trivial ?_
 refine t_opG rfl (sp_move (.tmp 6) (iv q.states.length) rfl) ⟨.inl rfl, trivial⟩ trivial trivial ?_
 refine t_opG rfl (sp_sub (c := ((q.states.length : Nat) : Int) - 1) rfl (w64 (by omega) (by omega) (by omega))) ⟨.inl rfl, .inl rfl, trivial⟩ trivial trivial ?_
 refine t_opG rfl (sp_call (c := .func 56) (xs := #[.tmp 78, .const (.int .i64 0), .tmp 80]) [] (ctr_b (within_c q.rules[i].to 0 (((q.states.length : Nat) : Int) - 1)) hs13) rfl (by kernel_rfl) rfl (Xs := [iv q.rules[i].to, iv 0, iv (((q.states.length : Nat) : Int) - 1)]) rfl rfl rfl) ⟨.inl rfl, .inl rfl, .inl rfl, .inl rfl, trivial⟩ trivial trivial ?_
 refine t_opG rfl (sp_not rfl rfl) ⟨.inl rfl, trivial⟩ trivial trivial ?_
 refine t_op rfl (sp_pick (.tmp 76) (.const (.bool true)) (.tmp 82) false (bv true) (bv false) rfl) ⟨.inl rfl, .inl rfl, .inl rfl, trivial⟩ trivial trivial ?_
 refine t_op rfl (sp_move (.tmp 83) (bv false) rfl) ⟨.inl rfl, trivial⟩ trivial trivial ?_
 refine t_opG rfl (sp_move (.tmp 8) (bv true) rfl) ⟨.inl rfl, trivial⟩ trivial trivial ?_
 refine t_opG rfl (sp_move (.tmp 85) (bv true) rfl) ⟨.inl rfl, trivial⟩ trivial trivial ?_
 refine t_opG rfl (sp_fieldBox (off' := 4) (.tmp 5) rfl Tryd.underlying76 rfl (z := 1) (by kernel_rfl) (by decide) rfl) ⟨.inl rfl, trivial⟩ trivial trivial ?_
 refine t_opG rfl (sp_loadBox1 (Y := .box 76 (cRu q.rules[i])) (X := iv q.rules[i].pf) (.tmp 87) rfl Tryd.underlying3 rfl rfl) ⟨.inl rfl, trivial⟩ ⟨rfl, trivial⟩ trivial ?_
 refine t_opG rfl (sp_move (.tmp 6) (iv q.states.length) rfl) ⟨.inl rfl, trivial⟩ trivial trivial ?_
 refine t_opG rfl (sp_sub (c := ((q.states.length : Nat) : Int) - 1) rfl (w64 (by omega) (by omega) (by omega))) ⟨.inl rfl, .inl rfl, trivial⟩ trivial trivial ?_
 refine t_opG rfl (sp_call (c := .func 56) (xs := #[.tmp 88, .const (.int .i64 0), .tmp 90]) [] (ctr_b (within_c q.rules[i].pf 0 (((q.states.length : Nat) : Int) - 1)) hs15f) rfl (by kernel_rfl) rfl (Xs := [iv q.rules[i].pf, iv 0, iv (((q.states.length : Nat) : Int) - 1)]) rfl rfl rfl) ⟨.inl rfl, .inl rfl, .inl rfl, .inl rfl, trivial⟩ trivial trivial ?_
 refine t_opG rfl (sp_not rfl rfl) ⟨.inl rfl, trivial⟩ trivial trivial ?_
 refine t_opG rfl (sp_move (.tmp 92) (bv true) rfl) ⟨.inl rfl, trivial⟩ trivial trivial ?_
 refine t_skip rfl ?_
 refine t_skip rfl ?_
 refine t_skip rfl ?_
 refine t_skip rfl ?_
 refine t_skip rfl ?_
 refine t_skip rfl ?_
 refine t_opG rfl (sp_pick (.tmp 93) (.const (.bool true)) (.tmp 99) true (bv true) (.v (.tuple #[])) rfl) ⟨.inl rfl, .inl rfl, .inl rfl, trivial⟩ trivial trivial ?_
 refine t_opG rfl (sp_pick (.tmp 86) (.tmp 100) (.const (.bool false)) true (bv true) (bv false) rfl) ⟨.inl rfl, .inl rfl, .inl rfl, trivial⟩ trivial trivial ?_
 refine t_op rfl (sp_pick (.tmp 84) (.const (.bool true)) (.tmp 101) false (bv true) (bv true) rfl) ⟨.inl rfl, .inl rfl, .inl rfl, trivial⟩ trivial trivial ?_
 refine tri_nil ?_
 refine tri_wk (wk_keep [(1, .box 27 (cFm q)), (2, .box 76 (cRu q.rules[i]))] [(2, .box 1 0), (5, .box 2 0), (6, iv q.states.length), (102, bv true)] (n := 276) rfl (by kernel_rfl) (by kernel_rfl)) ?_
 rw [show (!rstB q.rules[i] q.states.length) = true by first | (simp [rstB_two, ixB, hs1, hs10, hs12, hs13, hs14, hs15f]; done) | (simp [rstB_two, ixB, inB, hs1, hs10, hs12, hs13, hs14, hs15f]; done)]
 exact t_meet trivial (wk_keep _ _ rfl (by kernel_rfl) (by kernel_rfl))
 have hs14f : (twoB q.rules[i]) = false := by simpa using hs14
 rw [hs14f]
 refine tri_wk (wk_keep [(1, .box 27 (cFm q)), (2, .box 76 (cRu q.rules[i]))] [(2, .box 1 0), (5, .box 2 0), (6, iv q.states.length), (8, bv false)] (n := 276) rfl (by kernel_rfl) (by kernel_rfl)) ?_
 refine tri_region ?_
 refine t_op rfl (sp_fieldBox (off' := 2) (.tmp 5) rfl Tryd.underlying76 rfl (z := 1) (by kernel_rfl) (by decide) rfl) ⟨.inl rfl, trivial⟩ trivial trivial ?_
 refine t_op rfl (sp_loadBox1 (Y := .box 76 (cRu q.rules[i])) (X := iv q.rules[i].frm) (.tmp 70) rfl Tryd.underlying3 rfl rfl) ⟨.inl rfl, trivial⟩ ⟨rfl, trivial⟩ trivial ?_
 refine t_op rfl (sp_move (.tmp 6) (iv q.states.length) rfl) ⟨.inl rfl, trivial⟩ trivial trivial ?_
 refine t_op rfl (sp_sub (c := ((q.states.length : Nat) : Int) - 1) rfl (w64 (by omega) (by omega) (by omega))) ⟨.inl rfl, .inl rfl, trivial⟩ trivial trivial ?_
 refine t_op rfl (sp_call (c := .func 56) (xs := #[.tmp 71, .const (.int .i64 0), .tmp 73]) [] (ctr_b (within_c q.rules[i].frm 0 (((q.states.length : Nat) : Int) - 1)) hs12) rfl (by kernel_rfl) rfl (Xs := [iv q.rules[i].frm, iv 0, iv (((q.states.length : Nat) : Int) - 1)]) rfl rfl rfl) ⟨.inl rfl, .inl rfl, .inl rfl, .inl rfl, trivial⟩ trivial trivial ?_
 refine t_op rfl (sp_not rfl rfl) ⟨.inl rfl, trivial⟩ trivial trivial ?_
 refine t_op rfl (sp_move (.tmp 75) (bv false) rfl) ⟨.inl rfl, trivial⟩ trivial trivial ?_
 refine t_opG rfl (sp_fieldBox (off' := 3) (.tmp 5) rfl Tryd.underlying76 rfl (z := 1) (by kernel_rfl) (by decide) rfl) ⟨.inl rfl, trivial⟩ trivial trivial ?_
 refine t_opG rfl (sp_loadBox1 (Y := .box 76 (cRu q.rules[i])) (X := iv q.rules[i].to) (.tmp 77) rfl Tryd.underlying3 rfl rfl) ⟨.inl rfl, trivial⟩ ⟨rfl, trivial⟩ trivial ?_
 refine t_opG rfl (sp_move (.tmp 6) (iv q.states.length) rfl) ⟨.inl rfl, trivial⟩ trivial trivial ?_
 refine t_opG rfl (sp_sub (c := ((q.states.length : Nat) : Int) - 1) rfl (w64 (by omega) (by omega) (by omega))) ⟨.inl rfl, .inl rfl, trivial⟩ trivial trivial ?_
 refine t_opG rfl (sp_call (c := .func 56) (xs := #[.tmp 78, .const (.int .i64 0), .tmp 80]) [] (ctr_b (within_c q.rules[i].to 0 (((q.states.length : Nat) : Int) - 1)) hs13) rfl (by kernel_rfl) rfl (Xs := [iv q.rules[i].to, iv 0, iv (((q.states.length : Nat) : Int) - 1)]) rfl rfl rfl) ⟨.inl rfl, .inl rfl, .inl rfl, .inl rfl, trivial⟩ trivial trivial ?_
 refine t_opG rfl (sp_not rfl rfl) ⟨.inl rfl, trivial⟩ trivial trivial ?_
 refine t_op rfl (sp_pick (.tmp 76) (.const (.bool true)) (.tmp 82) false (bv true) (bv false) rfl) ⟨.inl rfl, .inl rfl, .inl rfl, trivial⟩ trivial trivial ?_
 refine t_op rfl (sp_move (.tmp 83) (bv false) rfl) ⟨.inl rfl, trivial⟩ trivial trivial ?_
 refine t_opG rfl (sp_move (.tmp 8) (bv false) rfl) ⟨.inl rfl, trivial⟩ trivial trivial ?_
 refine t_opG rfl (sp_move (.tmp 85) (bv false) rfl) ⟨.inl rfl, trivial⟩ trivial trivial ?_
 refine t_skip rfl ?_
 refine t_skip rfl ?_
 refine t_skip rfl ?_
 refine t_skip rfl ?_
 refine t_skip rfl ?_
 refine t_skip rfl ?_
 refine t_skip rfl ?_
 refine t_skip rfl ?_
 refine t_skip rfl ?_
 refine t_skip rfl ?_
 refine t_skip rfl ?_
 refine t_skip rfl ?_
 refine t_skip rfl ?_
 refine t_skip rfl ?_
 refine t_opG rfl (sp_pick (.tmp 86) (.tmp 100) (.const (.bool false)) false (.v (.tuple #[])) (bv false) rfl) ⟨.inl rfl, .inl rfl, .inl rfl, trivial⟩ trivial trivial ?_
 refine t_op rfl (sp_pick (.tmp 84) (.const (.bool true)) (.tmp 101) false (bv true) (bv false) rfl) ⟨.inl rfl, .inl rfl, .inl rfl, trivial⟩ trivial trivial ?_
 refine tri_nil ?_
 refine tri_wk (wk_keep [(1, .box 27 (cFm q)), (2, .box 76 (cRu q.rules[i]))] [(2, .box 1 0), (5, .box 2 0), (6, iv q.states.length), (102, bv false)] (n := 276) rfl (by kernel_rfl) (by kernel_rfl)) ?_
 rw [show (!rstB q.rules[i] q.states.length) = false by first | (simp [rstB_two, ixB, hs1, hs10, hs12, hs13, hs14f]; done) | (simp [rstB_two, ixB, inB, hs1, hs10, hs12, hs13, hs14f]; done)]
 exact t_meet trivial (wk_keep _ _ rfl (by kernel_rfl) (by kernel_rfl))
 have hs13f : (inB 0 (((q.states.length : Nat) : Int) - 1) q.rules[i].to) = false := by simpa using hs13
 refine tri_region ?_
 refine t_op rfl (sp_fieldBox (off' := 2) (.tmp 5) rfl Tryd.underlying76 rfl (z := 1) (by kernel_rfl) (by decide) rfl) ⟨.inl rfl, trivial⟩ trivial trivial ?_
 refine t_op rfl (sp_loadBox1 (Y := .box 76 (cRu q.rules[i])) (X := iv q.rules[i].frm) (.tmp 70) rfl Tryd.underlying3 rfl rfl) ⟨.inl rfl, trivial⟩ ⟨rfl, trivial⟩ trivial ?_
 refine t_op rfl (sp_move (.tmp 6) (iv q.states.length) rfl) ⟨.inl rfl, trivial⟩ trivial trivial ?_
 refine t_op rfl (sp_sub (c := ((q.states.length : Nat) : Int) - 1) rfl (w64 (by omega) (by omega) (by omega))) ⟨.inl rfl, .inl rfl, trivial⟩ trivial trivial ?_
 refine t_op rfl (sp_call (c := .func 56) (xs := #[.tmp 71, .const (.int .i64 0), .tmp 73]) [] (ctr_b (within_c q.rules[i].frm 0 (((q.states.length : Nat) : Int) - 1)) hs12) rfl (by kernel_rfl) rfl (Xs := [iv q.rules[i].frm, iv 0, iv (((q.states.length : Nat) : Int) - 1)]) rfl rfl rfl) ⟨.inl rfl, .inl rfl, .inl rfl, .inl rfl, trivial⟩ trivial trivial ?_
 refine t_op rfl (sp_not rfl rfl) ⟨.inl rfl, trivial⟩ trivial trivial ?_
 refine t_op rfl (sp_move (.tmp 75) (bv false) rfl) ⟨.inl rfl, trivial⟩ trivial trivial ?_
 refine t_opG rfl (sp_fieldBox (off' := 3) (.tmp 5) rfl Tryd.underlying76 rfl (z := 1) (by kernel_rfl) (by decide) rfl) ⟨.inl rfl, trivial⟩ trivial trivial ?_
 refine t_opG rfl (sp_loadBox1 (Y := .box 76 (cRu q.rules[i])) (X := iv q.rules[i].to) (.tmp 77) rfl Tryd.underlying3 rfl rfl) ⟨.inl rfl, trivial⟩ ⟨rfl, trivial⟩ trivial ?_
 refine t_opG rfl (sp_move (.tmp 6) (iv q.states.length) rfl) ⟨.inl rfl, trivial⟩ trivial trivial ?_
 refine t_opG rfl (sp_sub (c := ((q.states.length : Nat) : Int) - 1) rfl (w64 (by omega) (by omega) (by omega))) ⟨.inl rfl, .inl rfl, trivial⟩ trivial trivial ?_
 refine t_opG rfl (sp_call (c := .func 56) (xs := #[.tmp 78, .const (.int .i64 0), .tmp 80]) [] (ctr_b (within_c q.rules[i].to 0 (((q.states.length : Nat) : Int) - 1)) hs13f) rfl (by kernel_rfl) rfl (Xs := [iv q.rules[i].to, iv 0, iv (((q.states.length : Nat) : Int) - 1)]) rfl rfl rfl) ⟨.inl rfl, .inl rfl, .inl rfl, .inl rfl, trivial⟩ trivial trivial ?_
 refine t_opG rfl (sp_not rfl rfl) ⟨.inl rfl, trivial⟩ trivial trivial ?_
 refine t_op rfl (sp_pick (.tmp 76) (.const (.bool true)) (.tmp 82) false (bv true) (bv true) rfl) ⟨.inl rfl, .inl rfl, .inl rfl, trivial⟩ trivial trivial ?_
 refine t_op rfl (sp_move (.tmp 83) (bv true) rfl) ⟨.inl rfl, trivial⟩ trivial trivial ?_
 refine t_skip rfl ?_
 refine t_skip rfl ?_
 refine t_skip rfl ?_
 refine t_skip rfl ?_
 refine t_skip rfl ?_
 refine t_skip rfl ?_
 refine t_skip rfl ?_
 refine t_skip rfl ?_
 refine t_skip rfl ?_
 refine t_skip rfl ?_
 refine t_skip rfl ?_
 refine t_skip rfl ?_
 refine t_skip rfl ?_
 refine t_skip rfl ?_
 refine t_skip rfl ?_
 refine t_skip rfl ?_
 refine t_skip rfl ?_
 refine t_op rfl (sp_pick (.tmp 84) (.const (.bool true)) (.tmp 101) true (bv true) (.v (.tuple #[])) rfl) ⟨.inl rfl, .inl rfl, .inl rfl, trivial⟩ trivial trivial ?_
 refine tri_nil ?_
 refine tri_wk (wk_keep [(1, .box 27 (cFm q)), (2, .box 76 (cRu q.rules[i]))] [(2, .box 1 0), (5, .box 2 0), (6, iv q.states.length), (102, bv true)] (n := 276) rfl (by kernel_rfl) (by kernel_rfl)) ?_
 rw [show (!rstB q.rules[i] q.states.length) = true by first | (simp [rstB_two, ixB, hs1, hs10, hs12, hs13f]; done) | (simp [rstB_two, ixB, inB, hs1, hs10, hs12, hs13f]; done)]
 exact t_meet trivial (wk_keep _ _ rfl (by kernel_rfl) (by kernel_rfl))
 have hs12f : (inB 0 (((q.states.length : Nat) : Int) - 1) q.rules[i].frm) = false := by simpa using hs12
 refine tri_region ?_
 refine t_op rfl (sp_fieldBox (off' := 2) (.tmp 5) rfl Tryd.underlying76 rfl (z := 1) (by kernel_rfl) (by decide) rfl) ⟨.inl rfl, trivial⟩ trivial trivial ?_
 refine t_op rfl (sp_loadBox1 (Y := .box 76 (cRu q.rules[i])) (X := iv q.rules[i].frm) (.tmp 70) rfl Tryd.underlying3 rfl rfl) ⟨.inl rfl, trivial⟩ ⟨rfl, trivial⟩ trivial ?_
 refine t_op rfl (sp_move (.tmp 6) (iv q.states.length) rfl) ⟨.inl rfl, trivial⟩ trivial trivial ?_
 refine t_op rfl (sp_sub (c := ((q.states.length : Nat) : Int) - 1) rfl (w64 (by omega) (by omega) (by omega))) ⟨.inl rfl, .inl rfl, trivial⟩ trivial trivial ?_
 refine t_op rfl (sp_call (c := .func 56) (xs := #[.tmp 71, .const (.int .i64 0), .tmp 73]) [] (ctr_b (within_c q.rules[i].frm 0 (((q.states.length : Nat) : Int) - 1)) hs12f) rfl (by kernel_rfl) rfl (Xs := [iv q.rules[i].frm, iv 0, iv (((q.states.length : Nat) : Int) - 1)]) rfl rfl rfl) ⟨.inl rfl, .inl rfl, .inl rfl, .inl rfl, trivial⟩ trivial trivial ?_
 refine t_op rfl (sp_not rfl rfl) ⟨.inl rfl, trivial⟩ trivial trivial ?_
 refine t_op rfl (sp_move (.tmp 75) (bv true) rfl) ⟨.inl rfl, trivial⟩ trivial trivial ?_
 refine t_skip rfl ?_
 refine t_skip rfl ?_
 refine t_skip rfl ?_
 refine t_skip rfl ?_
 refine t_skip rfl ?_
 refine t_skip rfl ?_
 refine t_op rfl (sp_pick (.tmp 76) (.const (.bool true)) (.tmp 82) true (bv true) (.v (.tuple #[])) rfl) ⟨.inl rfl, .inl rfl, .inl rfl, trivial⟩ trivial trivial ?_
 refine t_op rfl (sp_move (.tmp 83) (bv true) rfl) ⟨.inl rfl, trivial⟩ trivial trivial ?_
 refine t_skip rfl ?_
 refine t_skip rfl ?_
 refine t_skip rfl ?_
 refine t_skip rfl ?_
 refine t_skip rfl ?_
 refine t_skip rfl ?_
 refine t_skip rfl ?_
 refine t_skip rfl ?_
 refine t_skip rfl ?_
 refine t_skip rfl ?_
 refine t_skip rfl ?_
 refine t_skip rfl ?_
 refine t_skip rfl ?_
 refine t_skip rfl ?_
 refine t_skip rfl ?_
 refine t_skip rfl ?_
 refine t_skip rfl ?_
 refine t_op rfl (sp_pick (.tmp 84) (.const (.bool true)) (.tmp 101) true (bv true) (.v (.tuple #[])) rfl) ⟨.inl rfl, .inl rfl, .inl rfl, trivial⟩ trivial trivial ?_
 refine tri_nil ?_
 refine tri_wk (wk_keep [(1, .box 27 (cFm q)), (2, .box 76 (cRu q.rules[i]))] [(2, .box 1 0), (5, .box 2 0), (6, iv q.states.length), (102, bv true)] (n := 276) rfl (by kernel_rfl) (by kernel_rfl)) ?_
 rw [show (!rstB q.rules[i] q.states.length) = true by first | (simp [rstB_two, ixB, hs1, hs10, hs12f]; done) | (simp [rstB_two, ixB, inB, hs1, hs10, hs12f]; done)]
 exact t_meet trivial (wk_keep _ _ rfl (by kernel_rfl) (by kernel_rfl))
 refine t_then ?_
 by_cases hs17 : (rstB q.rules[i] q.states.length) = true
 rw [hs17]
 refine tri_wk (wk_keep [(1, .box 27 (cFm q)), (2, .box 76 (cRu q.rules[i]))] [(2, .box 1 0), (5, .box 2 0), (6, iv q.states.length), (102, bv false)] (n := 276) rfl (by kernel_rfl) (by kernel_rfl)) ?_
 refine t_condF rfl ?_
 refine tri_skip ?_
 refine t_then ?_
 refine tri_seq ?_
 refine tri_seq ?_
 refine tri_region ?_
 refine t_op rfl (sp_fieldBox (off' := 1) (.tmp 5) rfl Tryd.underlying76 rfl (z := 1) (by kernel_rfl) (by decide) rfl) ⟨.inl rfl, trivial⟩ trivial trivial ?_
 refine t_op rfl (sp_loadBox1 (Y := .box 76 (cRu q.rules[i])) (X := iv q.rules[i].kind) (.tmp 103) rfl Tryd.underlying3 rfl rfl) ⟨.inl rfl, trivial⟩ ⟨rfl, trivial⟩ trivial ?_
 refine t_op rfl (sp_eql rfl rfl) ⟨.inl rfl, .inl rfl, trivial⟩ trivial trivial ?_
 refine tri_nil ?_
 refine tri_wk (wk_keep [(1, .box 27 (cFm q)), (2, .box 76 (cRu q.rules[i]))] [(2, .box 1 0), (5, .box 2 0), (6, iv q.states.length), (105, bv (decide (q.rules[i].kind = 3)))] (n := 276) rfl (by kernel_rfl) (by kernel_rfl)) ?_
 refine t_then ?_
 refine t_cut (reX q q.rules[i] = 0) (ofL [(1, .box 27 (cFm q)), (2, .box 76 (cRu q.rules[i]))]) (ofT 276 [(2, .box 1 0), (5, .box 2 0), (6, iv q.states.length)]) ?_ (fun HRX => ?_)
 by_cases hs18 : q.rules[i].kind = 3
 rw [dT hs18]
 refine tri_wk (wk_keep [(1, .box 27 (cFm q)), (2, .box 76 (cRu q.rules[i]))] [(2, .box 1 0), (5, .box 2 0), (6, iv q.states.length), (105, bv true)] (n := 276) rfl (by kernel_rfl) (by kernel_rfl)) ?_
 refine t_condT rfl ?_
 refine tri_seq ?_
 refine tri_seq ?_
 by_cases hs19 : ((q.rules[i].resp.length : Nat) : Int) = ((q.states.length : Nat) : Int)
 refine tri_region ?_
 refine t_op rfl (sp_fieldBox (off' := 6) (.tmp 5) rfl Tryd.underlying76 rfl (z := 1) (by kernel_rfl) (by decide) rfl) ⟨.inl rfl, trivial⟩ trivial trivial ?_
 refine t_op rfl (sp_loadBox1 (Y := .box 76 (cRu q.rules[i])) (X := intsA q.rules[i].resp) (.tmp 106) rfl Tryd.underlying24 rfl rfl) ⟨.inl rfl, trivial⟩ ⟨rfl, trivial⟩ trivial ?_
 refine t_op rfl (sp_lenSl (.tmp 107) rfl Tryd.underlying24) ⟨.inl rfl, trivial⟩ trivial trivial ?_
 refine t_op rfl (sp_move (.tmp 6) (iv q.states.length) rfl) ⟨.inl rfl, trivial⟩ trivial trivial ?_
 refine t_op rfl (sp_neq rfl (dT' hs19)) ⟨.inl rfl, .inl rfl, trivial⟩ trivial trivial ?_
 refine tri_nil ?_
 refine tri_wk (wk_keep [(1, .box 27 (cFm q)), (2, .box 76 (cRu q.rules[i]))] [(2, .box 1 0), (5, .box 2 0), (6, iv q.states.length), (110, bv false)] (n := 276) rfl (by kernel_rfl) (by kernel_rfl)) ?_
 refine t_then ?_
 refine t_condF rfl ?_
 refine tri_skip ?_
 refine t_then ?_
 refine tri_seq ?_
 refine tri_region ?_
 refine t_op rfl (sp_assign (.const (.int .i64 0)) (iv 0) rfl) ⟨.inl rfl, trivial⟩ trivial trivial ?_
 refine tri_nil ?_
 refine tri_wk (wk_keep [(1, .box 27 (cFm q)), (2, .box 76 (cRu q.rules[i]))] [(2, .box 1 0), (5, .box 2 0), (6, iv q.states.length), (9, iv 0)] (n := 276) rfl (by kernel_rfl) (by kernel_rfl)) ?_
 refine t_then ?_
 refine tri_block ?_
 refine tri_loop (σ := {k : Nat // k ≤ q.states.length ∧ allK q.states.length q.rules[i].resp k = true}) (fun s => (ofL [(1, .box 27 (cFm q)), (2, .box 76 (cRu q.rules[i]))], ofT 276 [(2, .box 1 0), (5, .box 2 0), (6, iv q.states.length), (9, iv s.1)])) (fun s => q.states.length - s.1) ⟨0, Nat.zero_le _, rfl⟩ (wk_keep _ _ rfl (by kernel_rfl) (by kernel_rfl)) (fun s => ?_)
 obtain ⟨k, hk0, hs0⟩ := s
 show ETri J w0 (ofL [(1, .box 27 (cFm q)), (2, .box 76 (cRu q.rules[i]))]) (ofT 276 [(2, .box 1 0), (5, .box 2 0), (6, iv q.states.length), (9, iv k)]) _
 refine tri_seq ?_
 refine tri_seq ?_
 by_cases hs20 : ((k : Nat) : Int) < ((q.states.length : Nat) : Int)
 refine tri_region ?_
 refine t_op rfl (sp_move (.tmp 9) (iv k) rfl) ⟨.inl rfl, trivial⟩ trivial trivial ?_
 refine t_op rfl (sp_move (.tmp 6) (iv q.states.length) rfl) ⟨.inl rfl, trivial⟩ trivial trivial ?_
 refine t_op rfl (sp_lss rfl (dT hs20)) ⟨.inl rfl, .inl rfl, trivial⟩ trivial trivial ?_
 refine tri_nil ?_
 refine tri_wk (wk_keep [(1, .box 27 (cFm q)), (2, .box 76 (cRu q.rules[i]))] [(2, .box 1 0), (5, .box 2 0), (6, iv q.states.length), (9, iv k), (113, bv true)] (n := 276) rfl (by kernel_rfl) (by kernel_rfl)) ?_
 refine t_then ?_
 refine t_condT rfl ?_
 refine tri_skip ?_
 refine t_then ?_
 refine tri_seq ?_
 refine tri_block ?_
 refine tri_seq ?_
 by_cases hs21 : (inB 0 (((q.states.length : Nat) : Int) - 1) q.rules[i].resp[k]) = true
 refine tri_region ?_
 refine t_op rfl (sp_fieldBox (off' := 6) (.tmp 5) rfl Tryd.underlying76 rfl (z := 1) (by kernel_rfl) (by decide) rfl) ⟨.inl rfl, trivial⟩ trivial trivial ?_
 refine t_op rfl (sp_loadBox1 (Y := .box 76 (cRu q.rules[i])) (X := intsA q.rules[i].resp) (.tmp 116) rfl Tryd.underlying24 rfl rfl) ⟨.inl rfl, trivial⟩ ⟨rfl, trivial⟩ trivial ?_
 refine t_op rfl (sp_move (.tmp 9) (iv k) rfl) ⟨.inl rfl, trivial⟩ trivial trivial ?_
 refine t_op rfl (sp_indexSl (off := k * 1) (.tmp 117) (.tmp 118) rfl Tryd.underlying24 (by kernel_rfl) (by omega) (by omega) rfl) ⟨.inl rfl, .inl rfl, trivial⟩ trivial trivial ?_
 refine t_op rfl (sp_loadEl1 (X := iv q.rules[i].resp[k]) (.tmp 119) rfl Tryd.underlying3 rfl (map_at1 q.rules[i].resp (by omega))) ⟨.inl rfl, trivial⟩ trivial trivial ?_
 refine t_op rfl (sp_move (.tmp 6) (iv q.states.length) rfl) ⟨.inl rfl, trivial⟩ trivial trivial ?_
 refine t_op rfl (sp_sub (c := ((q.states.length : Nat) : Int) - 1) rfl (w64 (by omega) (by omega) (by omega))) ⟨.inl rfl, .inl rfl, trivial⟩ trivial trivial ?_
 refine t_op rfl (sp_call (c := .func 56) (xs := #[.tmp 120, .const (.int .i64 0), .tmp 122]) [] (ctr_b (within_c q.rules[i].resp[k] 0 (((q.states.length : Nat) : Int) - 1)) hs21) rfl (by kernel_rfl) rfl (Xs := [iv q.rules[i].resp[k], iv 0, iv (((q.states.length : Nat) : Int) - 1)]) rfl rfl rfl) ⟨.inl rfl, .inl rfl, .inl rfl, .inl rfl, trivial⟩ trivial trivial ?_
 refine t_op rfl (sp_not rfl rfl) ⟨.inl rfl, trivial⟩ trivial trivial ?_
 refine tri_nil ?_
 refine tri_wk (wk_keep [(1, .box 27 (cFm q)), (2, .box 76 (cRu q.rules[i]))] [(2, .box 1 0), (5, .box 2 0), (6, iv q.states.length), (9, iv k), (113, bv true), (124, bv false)] (n := 276) rfl (by kernel_rfl) (by kernel_rfl)) ?_
 refine t_then ?_
 refine t_condF rfl ?_
 refine tri_skip ?_
 refine t_block ?_
 refine t_then ?_
 refine tri_region ?_
 refine t_op rfl (sp_move (.tmp 9) (iv k) rfl) ⟨.inl rfl, trivial⟩ trivial trivial ?_
 refine t_op rfl (sp_add (c := ((k + 1 : Nat) : Int)) rfl (w64 (by omega) (by omega) (by omega))) ⟨.inl rfl, .inl rfl, trivial⟩ trivial trivial ?_
 refine t_op rfl (sp_assign (.tmp 115) (iv (k + 1 : Nat)) rfl) ⟨.inl rfl, trivial⟩ trivial trivial ?_
 refine tri_nil ?_
 refine tri_wk (wk_keep [(1, .box 27 (cFm q)), (2, .box 76 (cRu q.rules[i]))] [(2, .box 1 0), (5, .box 2 0), (6, iv q.states.length), (9, iv (k + 1 : Nat)), (113, bv true), (124, bv false)] (n := 276) rfl (by kernel_rfl) (by kernel_rfl)) ?_
 refine t_then ?_
 refine tri_again ⟨k + 1, by omega, allK_succ (by omega) hs0 hs21⟩ (show q.states.length - (k + 1) < q.states.length - k by omega) ?_
 exact wk_keep _ _ rfl (by kernel_rfl) (by kernel_rfl)
 have hs21f : (inB 0 (((q.states.length : Nat) : Int) - 1) q.rules[i].resp[k]) = false := by simpa using hs21
 refine tri_region ?_
 refine t_op rfl (sp_fieldBox (off' := 6) (.tmp 5) rfl Tryd.underlying76 rfl (z := 1) (by kernel_rfl) (by decide) rfl) ⟨.inl rfl, trivial⟩ trivial trivial ?_
 refine t_op rfl (sp_loadBox1 (Y := .box 76 (cRu q.rules[i])) (X := intsA q.rules[i].resp) (.tmp 116) rfl Tryd.underlying24 rfl rfl) ⟨.inl rfl, trivial⟩ ⟨rfl, trivial⟩ trivial ?_
 refine t_op rfl (sp_move (.tmp 9) (iv k) rfl) ⟨.inl rfl, trivial⟩ trivial trivial ?_
 refine t_op rfl (sp_indexSl (off := k * 1) (.tmp 117) (.tmp 118) rfl Tryd.underlying24 (by kernel_rfl) (by omega) (by omega) rfl) ⟨.inl rfl, .inl rfl, trivial⟩ trivial trivial ?_
 refine t_op rfl (sp_loadEl1 (X := iv q.rules[i].resp[k]) (.tmp 119) rfl Tryd.underlying3 rfl (map_at1 q.rules[i].resp (by omega))) ⟨.inl rfl, trivial⟩ trivial trivial ?_
 refine t_op rfl (sp_move (.tmp 6) (iv q.states.length) rfl) ⟨.inl rfl, trivial⟩ trivial trivial ?_
 refine t_op rfl (sp_sub (c := ((q.states.length : Nat) : Int) - 1) rfl (w64 (by omega) (by omega) (by omega))) ⟨.inl rfl, .inl rfl, trivial⟩ trivial trivial ?_
 refine t_op rfl (sp_call (c := .func 56) (xs := #[.tmp 120, .const (.int .i64 0), .tmp 122]) [] (ctr_b (within_c q.rules[i].resp[k] 0 (((q.states.length : Nat) : Int) - 1)) hs21f) rfl (by kernel_rfl) rfl (Xs := [iv q.rules[i].resp[k], iv 0, iv (((q.states.length : Nat) : Int) - 1)]) rfl rfl rfl) ⟨.inl rfl, .inl rfl, .inl rfl, .inl rfl, trivial⟩ trivial trivial ?_
 refine t_op rfl (sp_not rfl rfl) ⟨.inl rfl, trivial⟩ trivial trivial ?_
 refine tri_nil ?_
 refine tri_wk (wk_keep [(1, .box 27 (cFm q)), (2, .box 76 (cRu q.rules[i]))] [(2, .box 1 0), (5, .box 2 0), (6, iv q.states.length), (9, iv k), (113, bv true), (124, bv true)] (n := 276) rfl (by kernel_rfl) (by kernel_rfl)) ?_
 refine t_then ?_
 refine t_condT rfl ?_
 refine tri_seq ?_
 refine tri_region ?_
 refine t_op rfl (sp_assign (.const (.int .i64 5)) (iv 5) rfl) ⟨.inl rfl, trivial⟩ trivial trivial ?_
 refine tri_nil ?_
 refine tri_wk (wk_keep [(1, .box 27 (cFm q)), (2, .box 76 (cRu q.rules[i]))] [(2, .box 1 0), (4, iv 5), (5, .box 2 0), (6, iv q.states.length), (9, iv k), (113, bv true), (124, bv true)] (n := 276) rfl (by kernel_rfl) (by kernel_rfl)) ?_
 refine t_then ?_
 refine tri_ret ?_
 refine t_block_ret ?_
 refine t_then_ret ?_
 refine t_then_ret ?_
 refine t_block_ret ?_
 refine t_cut_ret ?_
 refine t_then_ret ?_
 refine tri_end1 Tryd.results60 (.tmp rfl) ?_
 exact congrArg (fun x : Int => AV.v (.int .i64 x)) (Eq.trans (part_1b hs18 (by omega) (k := k) (by omega) hs21f).symm (rruleE_part hs1 HNO hs10 hs17).symm)
 refine tri_region ?_
 refine t_op rfl (sp_move (.tmp 9) (iv k) rfl) ⟨.inl rfl, trivial⟩ trivial trivial ?_
 refine t_op rfl (sp_move (.tmp 6) (iv q.states.length) rfl) ⟨.inl rfl, trivial⟩ trivial trivial ?_
 refine t_op rfl (sp_lss rfl (dF hs20)) ⟨.inl rfl, .inl rfl, trivial⟩ trivial trivial ?_
 refine tri_nil ?_
 refine tri_wk (wk_keep [(1, .box 27 (cFm q)), (2, .box 76 (cRu q.rules[i]))] [(2, .box 1 0), (5, .box 2 0), (6, iv q.states.length), (9, iv k), (113, bv false)] (n := 276) rfl (by kernel_rfl) (by kernel_rfl)) ?_
 refine t_then ?_
 refine t_condF rfl ?_
 refine tri_exit ?_
 refine t_then_exit ?_
 refine t_then_exit ?_
 refine t_hit ?_
 exact t_meet (by have : k = q.states.length := (by omega); subst this; exact reX_ok hs18 (by omega) hs0) (wk_keep _ _ rfl (by kernel_rfl) (by kernel_rfl))
 refine tri_region ?_
 refine t_op rfl (sp_fieldBox (off' := 6) (.tmp 5) rfl Tryd.underlying76 rfl (z := 1) (by kernel_rfl) (by decide) rfl) ⟨.inl rfl, trivial⟩ trivial trivial ?_
 refine t_op rfl (sp_loadBox1 (Y := .box 76 (cRu q.rules[i])) (X := intsA q.rules[i].resp) (.tmp 106) rfl Tryd.underlying24 rfl rfl) ⟨.inl rfl, trivial⟩ ⟨rfl, trivial⟩ trivial ?_
 refine t_op rfl (sp_lenSl (.tmp 107) rfl Tryd.underlying24) ⟨.inl rfl, trivial⟩ trivial trivial ?_
 refine t_op rfl (sp_move (.tmp 6) (iv q.states.length) rfl) ⟨.inl rfl, trivial⟩ trivial trivial ?_
 refine t_op rfl (sp_neq rfl (dF' hs19)) ⟨.inl rfl, .inl rfl, trivial⟩ trivial trivial ?_
 refine tri_nil ?_
 refine tri_wk (wk_keep [(1, .box 27 (cFm q)), (2, .box 76 (cRu q.rules[i]))] [(2, .box 1 0), (5, .box 2 0), (6, iv q.states.length), (110, bv true)] (n := 276) rfl (by kernel_rfl) (by kernel_rfl)) ?_
 refine t_then ?_
 refine t_condT rfl ?_
 refine tri_seq ?_
 refine tri_region ?_
 refine t_op rfl (sp_assign (.const (.int .i64 1)) (iv 1) rfl) ⟨.inl rfl, trivial⟩ trivial trivial ?_
 refine tri_nil ?_
 refine tri_wk (wk_keep [(1, .box 27 (cFm q)), (2, .box 76 (cRu q.rules[i]))] [(2, .box 1 0), (4, iv 1), (5, .box 2 0), (6, iv q.states.length)] (n := 276) rfl (by kernel_rfl) (by kernel_rfl)) ?_
 refine t_then ?_
 refine tri_ret ?_
 refine t_then_ret ?_
 refine t_cut_ret ?_
 refine t_then_ret ?_
 refine tri_end1 Tryd.results60 (.tmp rfl) ?_
 exact congrArg (fun x : Int => AV.v (.int .i64 x)) (Eq.trans (part_1a hs18 (by omega)).symm (rruleE_part hs1 HNO hs10 hs17).symm)
 rw [dF hs18]
 refine tri_wk (wk_keep [(1, .box 27 (cFm q)), (2, .box 76 (cRu q.rules[i]))] [(2, .box 1 0), (5, .box 2 0), (6, iv q.states.length), (105, bv false)] (n := 276) rfl (by kernel_rfl) (by kernel_rfl)) ?_
 refine t_condF rfl ?_
 refine tri_skip ?_
 exact t_meet (reX_no hs18) (wk_keep _ _ rfl (by kernel_rfl) (by kernel_rfl))
 refine t_then ?_
 refine tri_seq ?_
 refine tri_seq ?_
 refine tri_region ?_
 refine t_op rfl (sp_assign (.const (.int .i64 0)) (iv 0) rfl) ⟨.inl rfl, trivial⟩ trivial trivial ?_
 refine tri_nil ?_
 refine tri_wk (wk_keep [(1, .box 27 (cFm q)), (2, .box 76 (cRu q.rules[i]))] [(2, .box 1 0), (5, .box 2 0), (6, iv q.states.length), (10, iv 0)] (n := 276) rfl (by kernel_rfl) (by kernel_rfl)) ?_
 refine t_then ?_
 refine t_cut (gusE q.msgs.length q.rules[i].guards = 0) (ofL [(1, .box 27 (cFm q)), (2, .box 76 (cRu q.rules[i]))]) (ofT 276 [(2, .box 1 0), (5, .box 2 0), (6, iv q.states.length)]) ?_ (fun HG => ?_)
 refine tri_block ?_
 refine tri_loop (σ := {k : Nat // k ≤ q.rules[i].guards.length ∧ gusE q.msgs.length (q.rules[i].guards.take k) = 0}) (fun s => (ofL [(1, .box 27 (cFm q)), (2, .box 76 (cRu q.rules[i]))], ofT 276 [(2, .box 1 0), (5, .box 2 0), (6, iv q.states.length), (10, iv s.1)])) (fun s => q.rules[i].guards.length - s.1) ⟨0, Nat.zero_le _, rfl⟩ (wk_keep _ _ rfl (by kernel_rfl) (by kernel_rfl)) (fun s => ?_)
 obtain ⟨k, hk0, hs0⟩ := s
 show ETri J w0 (ofL [(1, .box 27 (cFm q)), (2, .box 76 (cRu q.rules[i]))]) (ofT 276 [(2, .box 1 0), (5, .box 2 0), (6, iv q.states.length), (10, iv k)]) _
 refine tri_seq ?_
 refine tri_seq ?_
 by_cases hs22 : ((k : Nat) : Int) < ((q.rules[i].guards.length : Nat) : Int)
 refine tri_region ?_
 refine t_op rfl (sp_move (.tmp 10) (iv k) rfl) ⟨.inl rfl, trivial⟩ trivial trivial ?_
 refine t_op rfl (sp_fieldBox (off' := 7) (.tmp 5) rfl Tryd.underlying76 rfl (z := 1) (by kernel_rfl) (by decide) rfl) ⟨.inl rfl, trivial⟩ trivial trivial ?_
 refine t_op rfl (sp_loadBox1 (Y := .box 76 (cRu q.rules[i])) (X := slA 6 cTh q.rules[i].guards) (.tmp 126) rfl Tryd.underlying49 rfl rfl) ⟨.inl rfl, trivial⟩ ⟨rfl, trivial⟩ trivial ?_
 refine t_op rfl (sp_lenSl (.tmp 127) rfl Tryd.underlying49) ⟨.inl rfl, trivial⟩ trivial trivial ?_
 refine t_op rfl (sp_lss rfl (dT hs22)) ⟨.inl rfl, .inl rfl, trivial⟩ trivial trivial ?_
 refine tri_nil ?_
 refine tri_wk (wk_keep [(1, .box 27 (cFm q)), (2, .box 76 (cRu q.rules[i]))] [(2, .box 1 0), (5, .box 2 0), (6, iv q.states.length), (10, iv k), (129, bv true)] (n := 276) rfl (by kernel_rfl) (by kernel_rfl)) ?_
 refine t_then ?_
 refine t_condT rfl ?_
 refine tri_skip ?_
 refine t_then ?_
 refine tri_seq ?_
 refine tri_block ?_
 refine tri_seq ?_
 refine tri_region ?_
 refine t_op rfl (sp_fieldBox (off' := 7) (.tmp 5) rfl Tryd.underlying76 rfl (z := 1) (by kernel_rfl) (by decide) rfl) ⟨.inl rfl, trivial⟩ trivial trivial ?_
 refine t_op rfl (sp_loadBox1 (Y := .box 76 (cRu q.rules[i])) (X := slA 6 cTh q.rules[i].guards) (.tmp 132) rfl Tryd.underlying49 rfl rfl) ⟨.inl rfl, trivial⟩ ⟨rfl, trivial⟩ trivial ?_
 refine t_op rfl (sp_move (.tmp 10) (iv k) rfl) ⟨.inl rfl, trivial⟩ trivial trivial ?_
 refine t_op rfl (sp_indexSl (off := k * 6) (.tmp 133) (.tmp 134) rfl Tryd.underlying49 (by kernel_rfl) (by omega) (by omega) rfl) ⟨.inl rfl, .inl rfl, trivial⟩ trivial trivial ?_
 refine t_op rfl (sp_loadElS (z := 6) (.tmp 135) rfl Tryd.underlying55 rfl (by kernel_rfl) (flat_take lenTh q.rules[i].guards k (by omega)) rfl) ⟨.inl rfl, trivial⟩ trivial trivial ?_
 refine t_op rfl (sp_alloc (z := .agg #[.int .i64 0, .int .i64 0, .int .i64 0, .int .i64 0, .int .i64 0, .int .i64 0]) (k := 3) rfl (by kernel_rfl)) trivial trivial rfl ?_
 refine t_op rfl (sp_storeBox (T0 := 55) (X := .agg (cTh q.rules[i].guards[k])) (cs := [iv 0, iv 0, iv 0, iv 0, iv 0, iv 0]) (ds := cTh q.rules[i].guards[k]) (z := 6) (.tmp 11) (.tmp 136) rfl (by kernel_rfl) (by kernel_rfl) (by kernel_rfl) (of_decide_eq_true (by kernel_rfl)) (by kernel_rfl)) ⟨.inl rfl, .inl rfl, trivial⟩ ⟨rfl, trivial⟩ rfl ?_
 refine tri_nil ?_
 refine tri_wk (wk_keep [(1, .box 27 (cFm q)), (2, .box 76 (cRu q.rules[i])), (3, .box 55 (cTh q.rules[i].guards[k]))] [(2, .box 1 0), (5, .box 2 0), (6, iv q.states.length), (10, iv k), (11, .box 3 0), (129, bv true)] (n := 276) rfl (by kernel_rfl) (by kernel_rfl)) ?_
 refine t_then ?_
 refine tri_seq ?_
 refine tri_seq ?_
 by_cases hs23 : (inB 0 (((q.msgs.length : Nat) : Int) - 1) q.rules[i].guards[k].msg) = true
 refine tri_region ?_
 refine t_op rfl (sp_fieldBox (off' := 0) (.tmp 11) rfl Tryd.underlying55 rfl (z := 1) (by kernel_rfl) (by decide) rfl) ⟨.inl rfl, trivial⟩ trivial trivial ?_
 refine t_op rfl (sp_loadBox1 (Y := .box 55 (cTh q.rules[i].guards[k])) (X := iv q.rules[i].guards[k].msg) (.tmp 137) rfl Tryd.underlying3 rfl rfl) ⟨.inl rfl, trivial⟩ ⟨rfl, trivial⟩ trivial ?_
 refine t_op rfl (sp_fieldBox (off' := 3) (.tmp 2) rfl Tryd.underlying27 rfl (z := 1) (by kernel_rfl) (by decide) rfl) ⟨.inl rfl, trivial⟩ trivial trivial ?_
 refine t_op rfl (sp_loadBox1 (Y := .box 27 (cFm q)) (X := strsA q.msgs) (.tmp 139) rfl Tryd.underlying22 rfl rfl) ⟨.inl rfl, trivial⟩ ⟨rfl, trivial⟩ trivial ?_
 refine t_op rfl (sp_lenSl (.tmp 140) rfl Tryd.underlying22) ⟨.inl rfl, trivial⟩ trivial trivial ?_
 refine t_op rfl (sp_sub (c := ((q.msgs.length : Nat) : Int) - 1) rfl (w64 (by omega) (by omega) (by omega))) ⟨.inl rfl, .inl rfl, trivial⟩ trivial trivial ?_
 refine t_op rfl (sp_call (c := .func 56) (xs := #[.tmp 138, .const (.int .i64 0), .tmp 142]) [] (ctr_b (within_c q.rules[i].guards[k].msg 0 (((q.msgs.length : Nat) : Int) - 1)) hs23) rfl (by kernel_rfl) rfl (Xs := [iv q.rules[i].guards[k].msg, iv 0, iv (((q.msgs.length : Nat) : Int) - 1)]) rfl rfl rfl) ⟨.inl rfl, .inl rfl, .inl rfl, .inl rfl, trivial⟩ trivial trivial ?_
 refine t_op rfl (sp_not rfl rfl) ⟨.inl rfl, trivial⟩ trivial trivial ?_
 refine tri_nil ?_
 refine tri_wk (wk_keep [(1, .box 27 (cFm q)), (2, .box 76 (cRu q.rules[i])), (3, .box 55 (cTh q.rules[i].guards[k]))] [(2, .box 1 0), (5, .box 2 0), (6, iv q.states.length), (10, iv k), (11, .box 3 0), (129, bv true), (144, bv false)] (n := 276) rfl (by kernel_rfl) (by kernel_rfl)) ?_
 refine t_then ?_
 refine t_condF rfl ?_
 refine tri_skip ?_
 refine t_then ?_
 refine tri_seq ?_
 refine tri_seq ?_
 by_cases hs24 : (inB 1 100 q.rules[i].guards[k].coef) = true
 refine tri_region ?_
 refine t_op rfl (sp_fieldBox (off' := 1) (.tmp 11) rfl Tryd.underlying55 rfl (z := 1) (by kernel_rfl) (by decide) rfl) ⟨.inl rfl, trivial⟩ trivial trivial ?_
 refine t_op rfl (sp_loadBox1 (Y := .box 55 (cTh q.rules[i].guards[k])) (X := iv q.rules[i].guards[k].coef) (.tmp 145) rfl Tryd.underlying3 rfl rfl) ⟨.inl rfl, trivial⟩ ⟨rfl, trivial⟩ trivial ?_
 refine t_op rfl (sp_call (c := .func 56) (xs := #[.tmp 146, .const (.int .i64 1), .const (.int .i64 100)]) [] (ctr_b (within_c q.rules[i].guards[k].coef 1 100) hs24) rfl (by kernel_rfl) rfl (Xs := [iv q.rules[i].guards[k].coef, iv 1, iv 100]) rfl rfl rfl) ⟨.inl rfl, .inl rfl, .inl rfl, .inl rfl, trivial⟩ trivial trivial ?_
 refine t_op rfl (sp_not rfl rfl) ⟨.inl rfl, trivial⟩ trivial trivial ?_
 refine tri_nil ?_
 refine tri_wk (wk_keep [(1, .box 27 (cFm q)), (2, .box 76 (cRu q.rules[i])), (3, .box 55 (cTh q.rules[i].guards[k]))] [(2, .box 1 0), (5, .box 2 0), (6, iv q.states.length), (10, iv k), (11, .box 3 0), (129, bv true), (144, bv false), (148, bv false)] (n := 276) rfl (by kernel_rfl) (by kernel_rfl)) ?_
 refine t_then ?_
 refine t_condF rfl ?_
 refine tri_skip ?_
 refine t_then ?_
 refine tri_seq ?_
 by_cases hs25 : (smL q.rules[i].guards[k].bd.c q.rules[i].guards[k].bd.n q.rules[i].guards[k].bd.t q.rules[i].guards[k].bd.f) = true
 refine tri_region ?_
 refine t_op rfl (sp_fieldBox (off' := 2) (.tmp 11) rfl Tryd.underlying55 rfl (z := 4) (by kernel_rfl) (by decide) rfl) ⟨.inl rfl, trivial⟩ trivial trivial ?_
 refine t_op rfl (sp_loadBoxS (Y := .box 55 (cTh q.rules[i].guards[k])) (ds := [iv q.rules[i].guards[k].bd.c, iv q.rules[i].guards[k].bd.n, iv q.rules[i].guards[k].bd.t, iv q.rules[i].guards[k].bd.f]) (z := 4) (.tmp 149) rfl Tryd.underlying53 rfl (by kernel_rfl) (by decide) (by kernel_rfl) (by kernel_rfl)) ⟨.inl rfl, trivial⟩ ⟨rfl, trivial⟩ trivial ?_
 refine t_op rfl (sp_call (c := .func 58) (xs := #[.tmp 150]) [] (ctr_b (few_c q.rules[i].guards[k].bd) hs25) rfl (by kernel_rfl) rfl (Xs := [.agg [iv q.rules[i].guards[k].bd.c, iv q.rules[i].guards[k].bd.n, iv q.rules[i].guards[k].bd.t, iv q.rules[i].guards[k].bd.f]]) rfl rfl rfl) ⟨.inl rfl, .inl rfl, trivial⟩ trivial trivial ?_
 refine t_op rfl (sp_not rfl rfl) ⟨.inl rfl, trivial⟩ trivial trivial ?_
 refine tri_nil ?_
 refine tri_wk (wk_keep [(1, .box 27 (cFm q)), (2, .box 76 (cRu q.rules[i])), (3, .box 55 (cTh q.rules[i].guards[k]))] [(2, .box 1 0), (5, .box 2 0), (6, iv q.states.length), (10, iv k), (11, .box 3 0), (129, bv true), (144, bv false), (148, bv false), (152, bv false)] (n := 276) rfl (by kernel_rfl) (by kernel_rfl)) ?_
 refine t_then ?_
 refine t_condF rfl ?_
 refine tri_skip ?_
 refine t_block ?_
 refine t_then ?_
 refine tri_region ?_
 refine t_op rfl (sp_move (.tmp 10) (iv k) rfl) ⟨.inl rfl, trivial⟩ trivial trivial ?_
 refine t_op rfl (sp_add (c := ((k + 1 : Nat) : Int)) rfl (w64 (by omega) (by omega) (by omega))) ⟨.inl rfl, .inl rfl, trivial⟩ trivial trivial ?_
 refine t_op rfl (sp_assign (.tmp 131) (iv (k + 1 : Nat)) rfl) ⟨.inl rfl, trivial⟩ trivial trivial ?_
 refine tri_nil ?_
 refine tri_wk (wk_keep [(1, .box 27 (cFm q)), (2, .box 76 (cRu q.rules[i])), (3, .box 55 (cTh q.rules[i].guards[k]))] [(2, .box 1 0), (5, .box 2 0), (6, iv q.states.length), (10, iv (k + 1 : Nat)), (11, .box 3 0), (129, bv true), (144, bv false), (148, bv false), (152, bv false)] (n := 276) rfl (by kernel_rfl) (by kernel_rfl)) ?_
 refine t_then ?_
 refine tri_again ⟨k + 1, by omega, gusE_succ (by omega) hs0 (guE_4 hs23 hs24 hs25)⟩ (show q.rules[i].guards.length - (k + 1) < q.rules[i].guards.length - k by omega) ?_
 exact wk_keep _ _ rfl (by kernel_rfl) (by kernel_rfl)
 have hs25f : (smL q.rules[i].guards[k].bd.c q.rules[i].guards[k].bd.n q.rules[i].guards[k].bd.t q.rules[i].guards[k].bd.f) = false := by simpa using hs25
 refine tri_region ?_
 refine t_op rfl (sp_fieldBox (off' := 2) (.tmp 11) rfl Tryd.underlying55 rfl (z := 4) (by kernel_rfl) (by decide) rfl) ⟨.inl rfl, trivial⟩ trivial trivial ?_
 refine t_op rfl (sp_loadBoxS (Y := .box 55 (cTh q.rules[i].guards[k])) (ds := [iv q.rules[i].guards[k].bd.c, iv q.rules[i].guards[k].bd.n, iv q.rules[i].guards[k].bd.t, iv q.rules[i].guards[k].bd.f]) (z := 4) (.tmp 149) rfl Tryd.underlying53 rfl (by kernel_rfl) (by decide) (by kernel_rfl) (by kernel_rfl)) ⟨.inl rfl, trivial⟩ ⟨rfl, trivial⟩ trivial ?_
 refine t_op rfl (sp_call (c := .func 58) (xs := #[.tmp 150]) [] (ctr_b (few_c q.rules[i].guards[k].bd) hs25f) rfl (by kernel_rfl) rfl (Xs := [.agg [iv q.rules[i].guards[k].bd.c, iv q.rules[i].guards[k].bd.n, iv q.rules[i].guards[k].bd.t, iv q.rules[i].guards[k].bd.f]]) rfl rfl rfl) ⟨.inl rfl, .inl rfl, trivial⟩ trivial trivial ?_
 refine t_op rfl (sp_not rfl rfl) ⟨.inl rfl, trivial⟩ trivial trivial ?_
 refine tri_nil ?_
 refine tri_wk (wk_keep [(1, .box 27 (cFm q)), (2, .box 76 (cRu q.rules[i])), (3, .box 55 (cTh q.rules[i].guards[k]))] [(2, .box 1 0), (5, .box 2 0), (6, iv q.states.length), (10, iv k), (11, .box 3 0), (129, bv true), (144, bv false), (148, bv false), (152, bv true)] (n := 276) rfl (by kernel_rfl) (by kernel_rfl)) ?_
 refine t_then ?_
 refine t_condT rfl ?_
 refine tri_seq ?_
 refine tri_region ?_
 refine t_op rfl (sp_assign (.const (.int .i64 4)) (iv 4) rfl) ⟨.inl rfl, trivial⟩ trivial trivial ?_
 refine tri_nil ?_
 refine tri_wk (wk_keep [(1, .box 27 (cFm q)), (2, .box 76 (cRu q.rules[i])), (3, .box 55 (cTh q.rules[i].guards[k]))] [(2, .box 1 0), (4, iv 4), (5, .box 2 0), (6, iv q.states.length), (10, iv k), (11, .box 3 0), (129, bv true), (144, bv false), (148, bv false), (152, bv true)] (n := 276) rfl (by kernel_rfl) (by kernel_rfl)) ?_
 refine t_then ?_
 refine tri_ret ?_
 refine t_block_ret ?_
 refine t_then_ret ?_
 refine t_then_ret ?_
 refine t_block_ret ?_
 refine t_cut_ret ?_
 refine t_then_ret ?_
 refine tri_end1 Tryd.results60 (.tmp rfl) ?_
 exact congrArg (fun x : Int => AV.v (.int .i64 x)) (Eq.trans (part_2g HRX (k := k) (by omega) hs0 (guE_3 hs23 hs24 hs25f) (by decide)).symm (rruleE_part hs1 HNO hs10 hs17).symm)
 have hs24f : (inB 1 100 q.rules[i].guards[k].coef) = false := by simpa using hs24
 refine tri_region ?_
 refine t_op rfl (sp_fieldBox (off' := 1) (.tmp 11) rfl Tryd.underlying55 rfl (z := 1) (by kernel_rfl) (by decide) rfl) ⟨.inl rfl, trivial⟩ trivial trivial ?_
 refine t_op rfl (sp_loadBox1 (Y := .box 55 (cTh q.rules[i].guards[k])) (X := iv q.rules[i].guards[k].coef) (.tmp 145) rfl Tryd.underlying3 rfl rfl) ⟨.inl rfl, trivial⟩ ⟨rfl, trivial⟩ trivial ?_
 refine t_op rfl (sp_call (c := .func 56) (xs := #[.tmp 146, .const (.int .i64 1), .const (.int .i64 100)]) [] (ctr_b (within_c q.rules[i].guards[k].coef 1 100) hs24f) rfl (by kernel_rfl) rfl (Xs := [iv q.rules[i].guards[k].coef, iv 1, iv 100]) rfl rfl rfl) ⟨.inl rfl, .inl rfl, .inl rfl, .inl rfl, trivial⟩ trivial trivial ?_
 refine t_op rfl (sp_not rfl rfl) ⟨.inl rfl, trivial⟩ trivial trivial ?_
 refine tri_nil ?_
 refine tri_wk (wk_keep [(1, .box 27 (cFm q)), (2, .box 76 (cRu q.rules[i])), (3, .box 55 (cTh q.rules[i].guards[k]))] [(2, .box 1 0), (5, .box 2 0), (6, iv q.states.length), (10, iv k), (11, .box 3 0), (129, bv true), (144, bv false), (148, bv true)] (n := 276) rfl (by kernel_rfl) (by kernel_rfl)) ?_
 refine t_then ?_
 refine t_condT rfl ?_
 refine tri_seq ?_
 refine tri_region ?_
 refine t_op rfl (sp_assign (.const (.int .i64 1)) (iv 1) rfl) ⟨.inl rfl, trivial⟩ trivial trivial ?_
 refine tri_nil ?_
 refine tri_wk (wk_keep [(1, .box 27 (cFm q)), (2, .box 76 (cRu q.rules[i])), (3, .box 55 (cTh q.rules[i].guards[k]))] [(2, .box 1 0), (4, iv 1), (5, .box 2 0), (6, iv q.states.length), (10, iv k), (11, .box 3 0), (129, bv true), (144, bv false), (148, bv true)] (n := 276) rfl (by kernel_rfl) (by kernel_rfl)) ?_
 refine t_then ?_
 refine tri_ret ?_
 refine t_then_ret ?_
 refine t_block_ret ?_
 refine t_then_ret ?_
 refine t_then_ret ?_
 refine t_block_ret ?_
 refine t_cut_ret ?_
 refine t_then_ret ?_
 refine tri_end1 Tryd.results60 (.tmp rfl) ?_
 exact congrArg (fun x : Int => AV.v (.int .i64 x)) (Eq.trans (part_2g HRX (k := k) (by omega) hs0 (guE_2 hs23 hs24f) (by decide)).symm (rruleE_part hs1 HNO hs10 hs17).symm)
 have hs23f : (inB 0 (((q.msgs.length : Nat) : Int) - 1) q.rules[i].guards[k].msg) = false := by simpa using hs23
 refine tri_region ?_
 refine t_op rfl (sp_fieldBox (off' := 0) (.tmp 11) rfl Tryd.underlying55 rfl (z := 1) (by kernel_rfl) (by decide) rfl) ⟨.inl rfl, trivial⟩ trivial trivial ?_
 refine t_op rfl (sp_loadBox1 (Y := .box 55 (cTh q.rules[i].guards[k])) (X := iv q.rules[i].guards[k].msg) (.tmp 137) rfl Tryd.underlying3 rfl rfl) ⟨.inl rfl, trivial⟩ ⟨rfl, trivial⟩ trivial ?_
 refine t_op rfl (sp_fieldBox (off' := 3) (.tmp 2) rfl Tryd.underlying27 rfl (z := 1) (by kernel_rfl) (by decide) rfl) ⟨.inl rfl, trivial⟩ trivial trivial ?_
 refine t_op rfl (sp_loadBox1 (Y := .box 27 (cFm q)) (X := strsA q.msgs) (.tmp 139) rfl Tryd.underlying22 rfl rfl) ⟨.inl rfl, trivial⟩ ⟨rfl, trivial⟩ trivial ?_
 refine t_op rfl (sp_lenSl (.tmp 140) rfl Tryd.underlying22) ⟨.inl rfl, trivial⟩ trivial trivial ?_
 refine t_op rfl (sp_sub (c := ((q.msgs.length : Nat) : Int) - 1) rfl (w64 (by omega) (by omega) (by omega))) ⟨.inl rfl, .inl rfl, trivial⟩ trivial trivial ?_
 refine t_op rfl (sp_call (c := .func 56) (xs := #[.tmp 138, .const (.int .i64 0), .tmp 142]) [] (ctr_b (within_c q.rules[i].guards[k].msg 0 (((q.msgs.length : Nat) : Int) - 1)) hs23f) rfl (by kernel_rfl) rfl (Xs := [iv q.rules[i].guards[k].msg, iv 0, iv (((q.msgs.length : Nat) : Int) - 1)]) rfl rfl rfl) ⟨.inl rfl, .inl rfl, .inl rfl, .inl rfl, trivial⟩ trivial trivial ?_
 refine t_op rfl (sp_not rfl rfl) ⟨.inl rfl, trivial⟩ trivial trivial ?_
 refine tri_nil ?_
 refine tri_wk (wk_keep [(1, .box 27 (cFm q)), (2, .box 76 (cRu q.rules[i])), (3, .box 55 (cTh q.rules[i].guards[k]))] [(2, .box 1 0), (5, .box 2 0), (6, iv q.states.length), (10, iv k), (11, .box 3 0), (129, bv true), (144, bv true)] (n := 276) rfl (by kernel_rfl) (by kernel_rfl)) ?_
 refine t_then ?_
 refine t_condT rfl ?_
 refine tri_seq ?_
 refine tri_region ?_
 refine t_op rfl (sp_assign (.const (.int .i64 5)) (iv 5) rfl) ⟨.inl rfl, trivial⟩ trivial trivial ?_
 refine tri_nil ?_
 refine tri_wk (wk_keep [(1, .box 27 (cFm q)), (2, .box 76 (cRu q.rules[i])), (3, .box 55 (cTh q.rules[i].guards[k]))] [(2, .box 1 0), (4, iv 5), (5, .box 2 0), (6, iv q.states.length), (10, iv k), (11, .box 3 0), (129, bv true), (144, bv true)] (n := 276) rfl (by kernel_rfl) (by kernel_rfl)) ?_
 refine t_then ?_
 refine tri_ret ?_
 refine t_then_ret ?_
 refine t_block_ret ?_
 refine t_then_ret ?_
 refine t_then_ret ?_
 refine t_block_ret ?_
 refine t_cut_ret ?_
 refine t_then_ret ?_
 refine tri_end1 Tryd.results60 (.tmp rfl) ?_
 exact congrArg (fun x : Int => AV.v (.int .i64 x)) (Eq.trans (part_2g HRX (k := k) (by omega) hs0 (guE_1 hs23f) (by decide)).symm (rruleE_part hs1 HNO hs10 hs17).symm)
 refine tri_region ?_
 refine t_op rfl (sp_move (.tmp 10) (iv k) rfl) ⟨.inl rfl, trivial⟩ trivial trivial ?_
 refine t_op rfl (sp_fieldBox (off' := 7) (.tmp 5) rfl Tryd.underlying76 rfl (z := 1) (by kernel_rfl) (by decide) rfl) ⟨.inl rfl, trivial⟩ trivial trivial ?_
 refine t_op rfl (sp_loadBox1 (Y := .box 76 (cRu q.rules[i])) (X := slA 6 cTh q.rules[i].guards) (.tmp 126) rfl Tryd.underlying49 rfl rfl) ⟨.inl rfl, trivial⟩ ⟨rfl, trivial⟩ trivial ?_
 refine t_op rfl (sp_lenSl (.tmp 127) rfl Tryd.underlying49) ⟨.inl rfl, trivial⟩ trivial trivial ?_
 refine t_op rfl (sp_lss rfl (dF hs22)) ⟨.inl rfl, .inl rfl, trivial⟩ trivial trivial ?_
 refine tri_nil ?_
 refine tri_wk (wk_keep [(1, .box 27 (cFm q)), (2, .box 76 (cRu q.rules[i]))] [(2, .box 1 0), (5, .box 2 0), (6, iv q.states.length), (10, iv k), (129, bv false)] (n := 276) rfl (by kernel_rfl) (by kernel_rfl)) ?_
 refine t_then ?_
 refine t_condF rfl ?_
 refine tri_exit ?_
 refine t_then_exit ?_
 refine t_then_exit ?_
 refine t_hit ?_
 exact t_meet (by have : k = q.rules[i].guards.length := (by omega); subst this; rwa [List.take_length] at hs0) (wk_keep _ _ rfl (by kernel_rfl) (by kernel_rfl))
 refine t_then ?_
 refine tri_seq ?_
 refine tri_seq ?_
 by_cases hs26 : 2 < ((q.rules[i].guards.length : Nat) : Int)
 refine tri_region ?_
 refine t_op rfl (sp_fieldBox (off' := 7) (.tmp 5) rfl Tryd.underlying76 rfl (z := 1) (by kernel_rfl) (by decide) rfl) ⟨.inl rfl, trivial⟩ trivial trivial ?_
 refine t_op rfl (sp_loadBox1 (Y := .box 76 (cRu q.rules[i])) (X := slA 6 cTh q.rules[i].guards) (.tmp 153) rfl Tryd.underlying49 rfl rfl) ⟨.inl rfl, trivial⟩ ⟨rfl, trivial⟩ trivial ?_
 refine t_op rfl (sp_lenSl (.tmp 154) rfl Tryd.underlying49) ⟨.inl rfl, trivial⟩ trivial trivial ?_
 refine t_op rfl (sp_gtr rfl (dT hs26)) ⟨.inl rfl, .inl rfl, trivial⟩ trivial trivial ?_
 refine tri_nil ?_
 refine tri_wk (wk_keep [(1, .box 27 (cFm q)), (2, .box 76 (cRu q.rules[i]))] [(2, .box 1 0), (5, .box 2 0), (6, iv q.states.length), (156, bv true)] (n := 276) rfl (by kernel_rfl) (by kernel_rfl)) ?_
 refine t_then ?_
 refine t_condT rfl ?_
 refine tri_seq ?_
 refine tri_region ?_
 refine t_op rfl (sp_assign (.const (.int .i64 4)) (iv 4) rfl) ⟨.inl rfl, trivial⟩ trivial trivial ?_
 refine tri_nil ?_
 refine tri_wk (wk_keep [(1, .box 27 (cFm q)), (2, .box 76 (cRu q.rules[i]))] [(2, .box 1 0), (4, iv 4), (5, .box 2 0), (6, iv q.states.length)] (n := 276) rfl (by kernel_rfl) (by kernel_rfl)) ?_
 refine t_then ?_
 refine tri_ret ?_
 refine t_then_ret ?_
 refine tri_end1 Tryd.results60 (.tmp rfl) ?_
 exact congrArg (fun x : Int => AV.v (.int .i64 x)) (Eq.trans (part_2l HRX HG (by omega)).symm (rruleE_part hs1 HNO hs10 hs17).symm)
 refine tri_region ?_
 refine t_op rfl (sp_fieldBox (off' := 7) (.tmp 5) rfl Tryd.underlying76 rfl (z := 1) (by kernel_rfl) (by decide) rfl) ⟨.inl rfl, trivial⟩ trivial trivial ?_
 refine t_op rfl (sp_loadBox1 (Y := .box 76 (cRu q.rules[i])) (X := slA 6 cTh q.rules[i].guards) (.tmp 153) rfl Tryd.underlying49 rfl rfl) ⟨.inl rfl, trivial⟩ ⟨rfl, trivial⟩ trivial ?_
 refine t_op rfl (sp_lenSl (.tmp 154) rfl Tryd.underlying49) ⟨.inl rfl, trivial⟩ trivial trivial ?_
 refine t_op rfl (sp_gtr rfl (dF hs26)) ⟨.inl rfl, .inl rfl, trivial⟩ trivial trivial ?_
 refine tri_nil ?_
 refine tri_wk (wk_keep [(1, .box 27 (cFm q)), (2, .box 76 (cRu q.rules[i]))] [(2, .box 1 0), (5, .box 2 0), (6, iv q.states.length), (156, bv false)] (n := 276) rfl (by kernel_rfl) (by kernel_rfl)) ?_
 refine t_then ?_
 refine t_condF rfl ?_
 refine tri_skip ?_
 refine t_then ?_
 refine tri_seq ?_
 refine tri_seq ?_
 refine tri_region ?_
 refine t_op rfl (sp_fieldBox (off' := 8) (.tmp 5) rfl Tryd.underlying76 rfl (z := 1) (by kernel_rfl) (by decide) rfl) ⟨.inl rfl, trivial⟩ trivial trivial ?_
 refine t_op rfl (sp_loadBox1 (Y := .box 76 (cRu q.rules[i])) (X := intsA q.rules[i].ex) (.tmp 157) rfl Tryd.underlying24 rfl rfl) ⟨.inl rfl, trivial⟩ ⟨rfl, trivial⟩ trivial ?_
 refine t_op rfl (sp_move (.tmp 6) (iv q.states.length) rfl) ⟨.inl rfl, trivial⟩ trivial trivial ?_
 refine t_op rfl (sp_call (c := .func 59) (xs := #[.tmp 158, .tmp 159]) [] (rSet_c q.states.length (by omega) q.rules[i].ex HR.ex) rfl (by kernel_rfl) rfl (Xs := [intsA q.rules[i].ex, iv q.states.length]) rfl rfl rfl) ⟨.inl rfl, .inl rfl, .inl rfl, trivial⟩ trivial trivial ?_
 refine t_op rfl (sp_assign (.tmp 160) (iv (setE q.states.length q.rules[i].ex)) rfl) ⟨.inl rfl, trivial⟩ trivial trivial ?_
 refine tri_nil ?_
 refine tri_wk (wk_keep [(1, .box 27 (cFm q)), (2, .box 76 (cRu q.rules[i]))] [(2, .box 1 0), (5, .box 2 0), (6, iv q.states.length), (12, iv (setE q.states.length q.rules[i].ex))] (n := 276) rfl (by kernel_rfl) (by kernel_rfl)) ?_
 refine t_then ?_
 refine tri_seq ?_
 by_cases hs27 : setE q.states.length q.rules[i].ex = 0
 refine tri_region ?_
 refine t_op rfl (sp_move (.tmp 12) (iv (setE q.states.length q.rules[i].ex)) rfl) ⟨.inl rfl, trivial⟩ trivial trivial ?_
 refine t_op rfl (sp_neq rfl (dT' hs27)) ⟨.inl rfl, .inl rfl, trivial⟩ trivial trivial ?_
 refine tri_nil ?_
 refine tri_wk (wk_keep [(1, .box 27 (cFm q)), (2, .box 76 (cRu q.rules[i]))] [(2, .box 1 0), (5, .box 2 0), (6, iv q.states.length), (12, iv (setE q.states.length q.rules[i].ex)), (162, bv false)] (n := 276) rfl (by kernel_rfl) (by kernel_rfl)) ?_
 refine t_then ?_
 refine t_condF rfl ?_
 refine tri_skip ?_
 refine t_then ?_
 refine tri_seq ?_
 refine tri_seq ?_
 refine tri_region ?_
 refine t_op rfl (sp_fieldBox (off' := 9) (.tmp 5) rfl Tryd.underlying76 rfl (z := 1) (by kernel_rfl) (by decide) rfl) ⟨.inl rfl, trivial⟩ trivial trivial ?_
 refine t_op rfl (sp_loadBox1 (Y := .box 76 (cRu q.rules[i])) (X := intsA q.rules[i].fa) (.tmp 164) rfl Tryd.underlying24 rfl rfl) ⟨.inl rfl, trivial⟩ ⟨rfl, trivial⟩ trivial ?_
 refine t_op rfl (sp_move (.tmp 6) (iv q.states.length) rfl) ⟨.inl rfl, trivial⟩ trivial trivial ?_
 refine t_op rfl (sp_call (c := .func 59) (xs := #[.tmp 165, .tmp 166]) [] (rSet_c q.states.length (by omega) q.rules[i].fa HR.fa) rfl (by kernel_rfl) rfl (Xs := [intsA q.rules[i].fa, iv q.states.length]) rfl rfl rfl) ⟨.inl rfl, .inl rfl, .inl rfl, trivial⟩ trivial trivial ?_
 refine t_op rfl (sp_assign (.tmp 167) (iv (setE q.states.length q.rules[i].fa)) rfl) ⟨.inl rfl, trivial⟩ trivial trivial ?_
 refine tri_nil ?_
 refine tri_wk (wk_keep [(1, .box 27 (cFm q)), (2, .box 76 (cRu q.rules[i]))] [(2, .box 1 0), (5, .box 2 0), (6, iv q.states.length), (13, iv (setE q.states.length q.rules[i].fa))] (n := 276) rfl (by kernel_rfl) (by kernel_rfl)) ?_
 refine t_then ?_
 refine tri_seq ?_
 by_cases hs28 : setE q.states.length q.rules[i].fa = 0
 refine tri_region ?_
 refine t_op rfl (sp_move (.tmp 13) (iv (setE q.states.length q.rules[i].fa)) rfl) ⟨.inl rfl, trivial⟩ trivial trivial ?_
 refine t_op rfl (sp_neq rfl (dT' hs28)) ⟨.inl rfl, .inl rfl, trivial⟩ trivial trivial ?_
 refine tri_nil ?_
 refine tri_wk (wk_keep [(1, .box 27 (cFm q)), (2, .box 76 (cRu q.rules[i]))] [(2, .box 1 0), (5, .box 2 0), (6, iv q.states.length), (13, iv (setE q.states.length q.rules[i].fa)), (169, bv false)] (n := 276) rfl (by kernel_rfl) (by kernel_rfl)) ?_
 refine t_then ?_
 refine t_condF rfl ?_
 refine tri_skip ?_
 refine t_then ?_
 refine tri_seq ?_
 refine tri_seq ?_
 refine t_cut (True) (ofL [(1, .box 27 (cFm q)), (2, .box 76 (cRu q.rules[i]))]) (ofT 276 [(2, .box 1 0), (5, .box 2 0), (6, iv q.states.length), (198, bv (!decide (shE q.vals.length q.rules[i].rd q.rules[i].wr = 0)))]) ?_ (fun _ => ?_)
 by_cases hs29 : q.rules[i].rd = (-1)
 by_cases hs30 : q.rules[i].wr = (-1)
 refine tri_region ?_
 refine t_op rfl (sp_fieldBox (off' := 10) (.tmp 5) rfl Tryd.underlying76 rfl (z := 1) (by kernel_rfl) (by decide) rfl) ⟨.inl rfl, trivial⟩ trivial trivial ?_
 refine t_op rfl (sp_loadBox1 (Y := .box 76 (cRu q.rules[i])) (X := iv q.rules[i].rd) (.tmp 171) rfl Tryd.underlying3 rfl rfl) ⟨.inl rfl, trivial⟩ ⟨rfl, trivial⟩ trivial ?_
 refine t_op rfl (sp_neq rfl (dT' hs29)) ⟨.inl rfl, .inl rfl, trivial⟩ trivial trivial ?_
 refine t_op rfl (sp_move (.tmp 173) (bv false) rfl) ⟨.inl rfl, trivial⟩ trivial trivial ?_
 refine t_skip rfl ?_
 refine t_skip rfl ?_
 refine t_skip rfl ?_
 refine t_skip rfl ?_
 refine t_skip rfl ?_
 refine t_skip rfl ?_
 refine t_skip rfl ?_
 refine t_skip rfl ?_
 refine t_op rfl (sp_pick (.tmp 174) (.tmp 182) (.const (.bool false)) false (.v (.tuple #[])) (bv false) rfl) ⟨.inl rfl, .inl rfl, .inl rfl, trivial⟩ trivial trivial ?_
 refine t_op rfl (sp_move (.tmp 183) (bv false) rfl) ⟨.inl rfl, trivial⟩ trivial trivial ?_
 refine t_opG rfl (sp_fieldBox (off' := 11) (.tmp 5) rfl Tryd.underlying76 rfl (z := 1) (by kernel_rfl) (by decide) rfl) ⟨.inl rfl, trivial⟩ trivial trivial ?_
 refine t_opG rfl (sp_loadBox1 (Y := .box 76 (cRu q.rules[i])) (X := iv q.rules[i].wr) (.tmp 185) rfl Tryd.underlying3 rfl rfl) ⟨.inl rfl, trivial⟩ ⟨rfl, trivial⟩ trivial ?_
 refine t_opG rfl (sp_neq rfl (dT' hs30)) ⟨.inl rfl, .inl rfl, trivial⟩ trivial trivial ?_
 refine t_opG rfl (sp_move (.tmp 187) (bv false) rfl) ⟨.inl rfl, trivial⟩ trivial trivial ?_
 refine t_skip rfl ?_
 refine t_skip rfl ?_
 refine t_skip rfl ?_
 refine t_skip rfl ?_
 refine t_skip rfl ?_
 refine t_skip rfl ?_
 refine t_skip rfl ?_
 refine t_skip rfl ?_
 refine t_opG rfl (sp_pick (.tmp 188) (.tmp 196) (.const (.bool false)) false (.v (.tuple #[])) (bv false) rfl) ⟨.inl rfl, .inl rfl, .inl rfl, trivial⟩ trivial trivial ?_
 refine t_op rfl (sp_pick (.tmp 184) (.const (.bool true)) (.tmp 197) false (bv true) (bv false) rfl) ⟨.inl rfl, .inl rfl, .inl rfl, trivial⟩ trivial trivial ?_
 refine tri_nil ?_
 refine tri_wk (wk_keep [(1, .box 27 (cFm q)), (2, .box 76 (cRu q.rules[i]))] [(2, .box 1 0), (5, .box 2 0), (6, iv q.states.length), (198, bv false)] (n := 276) rfl (by kernel_rfl) (by kernel_rfl)) ?_
 rw [show (!decide (shE q.vals.length q.rules[i].rd q.rules[i].wr = 0)) = false by first | (simp [shE, ixB, hs1, hs10, hs17, hs26, hs27, hs28, hs29, hs30]; done) | (simp [shE, ixB, inB, hs1, hs10, hs17, hs26, hs27, hs28, hs29, hs30]; done)]
 exact t_meet trivial (wk_keep _ _ rfl (by kernel_rfl) (by kernel_rfl))
 by_cases hs31 : (inB 0 (((q.vals.length : Nat) : Int) - 1) q.rules[i].wr) = true
 refine tri_region ?_
 refine t_op rfl (sp_fieldBox (off' := 10) (.tmp 5) rfl Tryd.underlying76 rfl (z := 1) (by kernel_rfl) (by decide) rfl) ⟨.inl rfl, trivial⟩ trivial trivial ?_
 refine t_op rfl (sp_loadBox1 (Y := .box 76 (cRu q.rules[i])) (X := iv q.rules[i].rd) (.tmp 171) rfl Tryd.underlying3 rfl rfl) ⟨.inl rfl, trivial⟩ ⟨rfl, trivial⟩ trivial ?_
 refine t_op rfl (sp_neq rfl (dT' hs29)) ⟨.inl rfl, .inl rfl, trivial⟩ trivial trivial ?_
 refine t_op rfl (sp_move (.tmp 173) (bv false) rfl) ⟨.inl rfl, trivial⟩ trivial trivial ?_
 refine t_skip rfl ?_
 refine t_skip rfl ?_
 refine t_skip rfl ?_
 refine t_skip rfl ?_
 refine t_skip rfl ?_
 refine t_skip rfl ?_
 refine t_skip rfl ?_
 refine t_skip rfl ?_
 refine t_op rfl (sp_pick (.tmp 174) (.tmp 182) (.const (.bool false)) false (.v (.tuple #[])) (bv false) rfl) ⟨.inl rfl, .inl rfl, .inl rfl, trivial⟩ trivial trivial ?_
 refine t_op rfl (sp_move (.tmp 183) (bv false) rfl) ⟨.inl rfl, trivial⟩ trivial trivial ?_
 refine t_opG rfl (sp_fieldBox (off' := 11) (.tmp 5) rfl Tryd.underlying76 rfl (z := 1) (by kernel_rfl) (by decide) rfl) ⟨.inl rfl, trivial⟩ trivial trivial ?_
 refine t_opG rfl (sp_loadBox1 (Y := .box 76 (cRu q.rules[i])) (X := iv q.rules[i].wr) (.tmp 185) rfl Tryd.underlying3 rfl rfl) ⟨.inl rfl, trivial⟩ ⟨rfl, trivial⟩ trivial ?_
 refine t_opG rfl (sp_neq rfl (dF' hs30)) ⟨.inl rfl, .inl rfl, trivial⟩ trivial trivial ?_
 refine t_opG rfl (sp_move (.tmp 187) (bv true) rfl) ⟨.inl rfl, trivial⟩ trivial trivial ?_
 refine t_opG rfl (sp_fieldBox (off' := 11) (.tmp 5) rfl Tryd.underlying76 rfl (z := 1) (by kernel_rfl) (by decide) rfl) ⟨.inl rfl, trivial⟩ trivial trivial ?_
 refine t_opG rfl (sp_loadBox1 (Y := .box 76 (cRu q.rules[i])) (X := iv q.rules[i].wr) (.tmp 189) rfl Tryd.underlying3 rfl rfl) ⟨.inl rfl, trivial⟩ ⟨rfl, trivial⟩ trivial ?_
 refine t_opG rfl (sp_fieldBox (off' := 4) (.tmp 2) rfl Tryd.underlying27 rfl (z := 1) (by kernel_rfl) (by decide) rfl) ⟨.inl rfl, trivial⟩ trivial trivial ?_
 refine t_opG rfl (sp_loadBox1 (Y := .box 27 (cFm q)) (X := strsA q.vals) (.tmp 191) rfl Tryd.underlying22 rfl rfl) ⟨.inl rfl, trivial⟩ ⟨rfl, trivial⟩ trivial ?_
 refine t_opG rfl (sp_lenSl (.tmp 192) rfl Tryd.underlying22) ⟨.inl rfl, trivial⟩ trivial trivial ?_
 refine t_opG rfl (sp_sub (c := ((q.vals.length : Nat) : Int) - 1) rfl (w64 (by omega) (by omega) (by omega))) ⟨.inl rfl, .inl rfl, trivial⟩ trivial trivial ?_
 refine t_opG rfl (sp_call (c := .func 56) (xs := #[.tmp 190, .const (.int .i64 0), .tmp 194]) [] (ctr_b (within_c q.rules[i].wr 0 (((q.vals.length : Nat) : Int) - 1)) hs31) rfl (by kernel_rfl) rfl (Xs := [iv q.rules[i].wr, iv 0, iv (((q.vals.length : Nat) : Int) - 1)]) rfl rfl rfl) ⟨.inl rfl, .inl rfl, .inl rfl, .inl rfl, trivial⟩ trivial trivial ?_
 refine t_opG rfl (sp_not rfl rfl) ⟨.inl rfl, trivial⟩ trivial trivial ?_
 refine t_opG rfl (sp_pick (.tmp 188) (.tmp 196) (.const (.bool false)) true (bv false) (bv false) rfl) ⟨.inl rfl, .inl rfl, .inl rfl, trivial⟩ trivial trivial ?_
 refine t_op rfl (sp_pick (.tmp 184) (.const (.bool true)) (.tmp 197) false (bv true) (bv false) rfl) ⟨.inl rfl, .inl rfl, .inl rfl, trivial⟩ trivial trivial ?_
 refine tri_nil ?_
 refine tri_wk (wk_keep [(1, .box 27 (cFm q)), (2, .box 76 (cRu q.rules[i]))] [(2, .box 1 0), (5, .box 2 0), (6, iv q.states.length), (198, bv false)] (n := 276) rfl (by kernel_rfl) (by kernel_rfl)) ?_
 rw [show (!decide (shE q.vals.length q.rules[i].rd q.rules[i].wr = 0)) = false by first | (simp [shE, ixB, hs1, hs10, hs17, hs26, hs27, hs28, hs29, hs30, hs31]; done) | (simp [shE, ixB, inB, hs1, hs10, hs17, hs26, hs27, hs28, hs29, hs30, hs31]; done)]
 exact t_meet trivial (wk_keep _ _ rfl (by kernel_rfl) (by kernel_rfl))
 have hs31f : (inB 0 (((q.vals.length : Nat) : Int) - 1) q.rules[i].wr) = false := by simpa using hs31
 refine tri_region ?_
 refine t_op rfl (sp_fieldBox (off' := 10) (.tmp 5) rfl Tryd.underlying76 rfl (z := 1) (by kernel_rfl) (by decide) rfl) ⟨.inl rfl, trivial⟩ trivial trivial ?_
 refine t_op rfl (sp_loadBox1 (Y := .box 76 (cRu q.rules[i])) (X := iv q.rules[i].rd) (.tmp 171) rfl Tryd.underlying3 rfl rfl) ⟨.inl rfl, trivial⟩ ⟨rfl, trivial⟩ trivial ?_
 refine t_op rfl (sp_neq rfl (dT' hs29)) ⟨.inl rfl, .inl rfl, trivial⟩ trivial trivial ?_
 refine t_op rfl (sp_move (.tmp 173) (bv false) rfl) ⟨.inl rfl, trivial⟩ trivial trivial ?_
 refine t_skip rfl ?_
 refine t_skip rfl ?_
 refine t_skip rfl ?_
 refine t_skip rfl ?_
 refine t_skip rfl ?_
 refine t_skip rfl ?_
 refine t_skip rfl ?_
 refine t_skip rfl ?_
 refine t_op rfl (sp_pick (.tmp 174) (.tmp 182) (.const (.bool false)) false (.v (.tuple #[])) (bv false) rfl) ⟨.inl rfl, .inl rfl, .inl rfl, trivial⟩ trivial trivial ?_
 refine t_op rfl (sp_move (.tmp 183) (bv false) rfl) ⟨.inl rfl, trivial⟩ trivial trivial ?_
 refine t_opG rfl (sp_fieldBox (off' := 11) (.tmp 5) rfl Tryd.underlying76 rfl (z := 1) (by kernel_rfl) (by decide) rfl) ⟨.inl rfl, trivial⟩ trivial trivial ?_
 refine t_opG rfl (sp_loadBox1 (Y := .box 76 (cRu q.rules[i])) (X := iv q.rules[i].wr) (.tmp 185) rfl Tryd.underlying3 rfl rfl) ⟨.inl rfl, trivial⟩ ⟨rfl, trivial⟩ trivial ?_
 refine t_opG rfl (sp_neq rfl (dF' hs30)) ⟨.inl rfl, .inl rfl, trivial⟩ trivial trivial ?_
 refine t_opG rfl (sp_move (.tmp 187) (bv true) rfl) ⟨.inl rfl, trivial⟩ trivial trivial ?_
 refine t_opG rfl (sp_fieldBox (off' := 11) (.tmp 5) rfl Tryd.underlying76 rfl (z := 1) (by kernel_rfl) (by decide) rfl) ⟨.inl rfl, trivial⟩ trivial trivial ?_
 refine t_opG rfl (sp_loadBox1 (Y := .box 76 (cRu q.rules[i])) (X := iv q.rules[i].wr) (.tmp 189) rfl Tryd.underlying3 rfl rfl) ⟨.inl rfl, trivial⟩ ⟨rfl, trivial⟩ trivial ?_
 refine t_opG rfl (sp_fieldBox (off' := 4) (.tmp 2) rfl Tryd.underlying27 rfl (z := 1) (by kernel_rfl) (by decide) rfl) ⟨.inl rfl, trivial⟩ trivial trivial ?_
 refine t_opG rfl (sp_loadBox1 (Y := .box 27 (cFm q)) (X := strsA q.vals) (.tmp 191) rfl Tryd.underlying22 rfl rfl) ⟨.inl rfl, trivial⟩ ⟨rfl, trivial⟩ trivial ?_
 refine t_opG rfl (sp_lenSl (.tmp 192) rfl Tryd.underlying22) ⟨.inl rfl, trivial⟩ trivial trivial ?_
 refine t_opG rfl (sp_sub (c := ((q.vals.length : Nat) : Int) - 1) rfl (w64 (by omega) (by omega) (by omega))) ⟨.inl rfl, .inl rfl, trivial⟩ trivial trivial ?_
 refine t_opG rfl (sp_call (c := .func 56) (xs := #[.tmp 190, .const (.int .i64 0), .tmp 194]) [] (ctr_b (within_c q.rules[i].wr 0 (((q.vals.length : Nat) : Int) - 1)) hs31f) rfl (by kernel_rfl) rfl (Xs := [iv q.rules[i].wr, iv 0, iv (((q.vals.length : Nat) : Int) - 1)]) rfl rfl rfl) ⟨.inl rfl, .inl rfl, .inl rfl, .inl rfl, trivial⟩ trivial trivial ?_
 refine t_opG rfl (sp_not rfl rfl) ⟨.inl rfl, trivial⟩ trivial trivial ?_
 refine t_opG rfl (sp_pick (.tmp 188) (.tmp 196) (.const (.bool false)) true (bv true) (bv false) rfl) ⟨.inl rfl, .inl rfl, .inl rfl, trivial⟩ trivial trivial ?_
 refine t_op rfl (sp_pick (.tmp 184) (.const (.bool true)) (.tmp 197) false (bv true) (bv true) rfl) ⟨.inl rfl, .inl rfl, .inl rfl, trivial⟩ trivial trivial ?_
 refine tri_nil ?_
 refine tri_wk (wk_keep [(1, .box 27 (cFm q)), (2, .box 76 (cRu q.rules[i]))] [(2, .box 1 0), (5, .box 2 0), (6, iv q.states.length), (198, bv true)] (n := 276) rfl (by kernel_rfl) (by kernel_rfl)) ?_
 rw [show (!decide (shE q.vals.length q.rules[i].rd q.rules[i].wr = 0)) = true by first | (simp [shE, ixB, hs1, hs10, hs17, hs26, hs27, hs28, hs29, hs30, hs31f]; done) | (simp [shE, ixB, inB, hs1, hs10, hs17, hs26, hs27, hs28, hs29, hs30, hs31f]; done)]
 exact t_meet trivial (wk_keep _ _ rfl (by kernel_rfl) (by kernel_rfl))
 by_cases hs32 : (inB 0 (((q.vals.length : Nat) : Int) - 1) q.rules[i].rd) = true
 by_cases hs33 : q.rules[i].wr = (-1)
 refine tri_region ?_
 refine t_op rfl (sp_fieldBox (off' := 10) (.tmp 5) rfl Tryd.underlying76 rfl (z := 1) (by kernel_rfl) (by decide) rfl) ⟨.inl rfl, trivial⟩ trivial trivial ?_
 refine t_op rfl (sp_loadBox1 (Y := .box 76 (cRu q.rules[i])) (X := iv q.rules[i].rd) (.tmp 171) rfl Tryd.underlying3 rfl rfl) ⟨.inl rfl, trivial⟩ ⟨rfl, trivial⟩ trivial ?_
 refine t_op rfl (sp_neq rfl (dF' hs29)) ⟨.inl rfl, .inl rfl, trivial⟩ trivial trivial ?_
 refine t_op rfl (sp_move (.tmp 173) (bv true) rfl) ⟨.inl rfl, trivial⟩ trivial trivial ?_
 refine t_opG rfl (sp_fieldBox (off' := 10) (.tmp 5) rfl Tryd.underlying76 rfl (z := 1) (by kernel_rfl) (by decide) rfl) ⟨.inl rfl, trivial⟩ trivial trivial ?_
 refine t_opG rfl (sp_loadBox1 (Y := .box 76 (cRu q.rules[i])) (X := iv q.rules[i].rd) (.tmp 175) rfl Tryd.underlying3 rfl rfl) ⟨.inl rfl, trivial⟩ ⟨rfl, trivial⟩ trivial ?_
 refine t_opG rfl (sp_fieldBox (off' := 4) (.tmp 2) rfl Tryd.underlying27 rfl (z := 1) (by kernel_rfl) (by decide) rfl) ⟨.inl rfl, trivial⟩ trivial trivial ?_
 refine t_opG rfl (sp_loadBox1 (Y := .box 27 (cFm q)) (X := strsA q.vals) (.tmp 177) rfl Tryd.underlying22 rfl rfl) ⟨.inl rfl, trivial⟩ ⟨rfl, trivial⟩ trivial ?_
 refine t_opG rfl (sp_lenSl (.tmp 178) rfl Tryd.underlying22) ⟨.inl rfl, trivial⟩ trivial trivial ?_
 refine t_opG rfl (sp_sub (c := ((q.vals.length : Nat) : Int) - 1) rfl (w64 (by omega) (by omega) (by omega))) ⟨.inl rfl, .inl rfl, trivial⟩ trivial trivial ?_
 refine t_opG rfl (sp_call (c := .func 56) (xs := #[.tmp 176, .const (.int .i64 0), .tmp 180]) [] (ctr_b (within_c q.rules[i].rd 0 (((q.vals.length : Nat) : Int) - 1)) hs32) rfl (by kernel_rfl) rfl (Xs := [iv q.rules[i].rd, iv 0, iv (((q.vals.length : Nat) : Int) - 1)]) rfl rfl rfl) ⟨.inl rfl, .inl rfl, .inl rfl, .inl rfl, trivial⟩ trivial trivial ?_
 refine t_opG rfl (sp_not rfl rfl) ⟨.inl rfl, trivial⟩ trivial trivial ?_
 refine t_op rfl (sp_pick (.tmp 174) (.tmp 182) (.const (.bool false)) true (bv false) (bv false) rfl) ⟨.inl rfl, .inl rfl, .inl rfl, trivial⟩ trivial trivial ?_
 refine t_op rfl (sp_move (.tmp 183) (bv false) rfl) ⟨.inl rfl, trivial⟩ trivial trivial ?_
 refine t_opG rfl (sp_fieldBox (off' := 11) (.tmp 5) rfl Tryd.underlying76 rfl (z := 1) (by kernel_rfl) (by decide) rfl) ⟨.inl rfl, trivial⟩ trivial trivial ?_
 refine t_opG rfl (sp_loadBox1 (Y := .box 76 (cRu q.rules[i])) (X := iv q.rules[i].wr) (.tmp 185) rfl Tryd.underlying3 rfl rfl) ⟨.inl rfl, trivial⟩ ⟨rfl, trivial⟩ trivial ?_
 refine t_opG rfl (sp_neq rfl (dT' hs33)) ⟨.inl rfl, .inl rfl, trivial⟩ trivial trivial ?_
 refine t_opG rfl (sp_move (.tmp 187) (bv false) rfl) ⟨.inl rfl, trivial⟩ trivial trivial ?_
 refine t_skip rfl ?_
 refine t_skip rfl ?_
 refine t_skip rfl ?_
 refine t_skip rfl ?_
 refine t_skip rfl ?_
 refine t_skip rfl ?_
 refine t_skip rfl ?_
 refine t_skip rfl ?_
 refine t_opG rfl (sp_pick (.tmp 188) (.tmp 196) (.const (.bool false)) false (.v (.tuple #[])) (bv false) rfl) ⟨.inl rfl, .inl rfl, .inl rfl, trivial⟩ trivial trivial ?_
 refine t_op rfl (sp_pick (.tmp 184) (.const (.bool true)) (.tmp 197) false (bv true) (bv false) rfl) ⟨.inl rfl, .inl rfl, .inl rfl, trivial⟩ trivial trivial ?_
 refine tri_nil ?_
 refine tri_wk (wk_keep [(1, .box 27 (cFm q)), (2, .box 76 (cRu q.rules[i]))] [(2, .box 1 0), (5, .box 2 0), (6, iv q.states.length), (198, bv false)] (n := 276) rfl (by kernel_rfl) (by kernel_rfl)) ?_
 rw [show (!decide (shE q.vals.length q.rules[i].rd q.rules[i].wr = 0)) = false by first | (simp [shE, ixB, hs1, hs10, hs17, hs26, hs27, hs28, hs29, hs32, hs33]; done) | (simp [shE, ixB, inB, hs1, hs10, hs17, hs26, hs27, hs28, hs29, hs32, hs33]; done)]
 exact t_meet trivial (wk_keep _ _ rfl (by kernel_rfl) (by kernel_rfl))
 by_cases hs34 : (inB 0 (((q.vals.length : Nat) : Int) - 1) q.rules[i].wr) = true
 refine tri_region ?_
 refine t_op rfl (sp_fieldBox (off' := 10) (.tmp 5) rfl Tryd.underlying76 rfl (z := 1) (by kernel_rfl) (by decide) rfl) ⟨.inl rfl, trivial⟩ trivial trivial ?_
 refine t_op rfl (sp_loadBox1 (Y := .box 76 (cRu q.rules[i])) (X := iv q.rules[i].rd) (.tmp 171) rfl Tryd.underlying3 rfl rfl) ⟨.inl rfl, trivial⟩ ⟨rfl, trivial⟩ trivial ?_
 refine t_op rfl (sp_neq rfl (dF' hs29)) ⟨.inl rfl, .inl rfl, trivial⟩ trivial trivial ?_
 refine t_op rfl (sp_move (.tmp 173) (bv true) rfl) ⟨.inl rfl, trivial⟩ trivial trivial ?_
 refine t_opG rfl (sp_fieldBox (off' := 10) (.tmp 5) rfl Tryd.underlying76 rfl (z := 1) (by kernel_rfl) (by decide) rfl) ⟨.inl rfl, trivial⟩ trivial trivial ?_
 refine t_opG rfl (sp_loadBox1 (Y := .box 76 (cRu q.rules[i])) (X := iv q.rules[i].rd) (.tmp 175) rfl Tryd.underlying3 rfl rfl) ⟨.inl rfl, trivial⟩ ⟨rfl, trivial⟩ trivial ?_
 refine t_opG rfl (sp_fieldBox (off' := 4) (.tmp 2) rfl Tryd.underlying27 rfl (z := 1) (by kernel_rfl) (by decide) rfl) ⟨.inl rfl, trivial⟩ trivial trivial ?_
 refine t_opG rfl (sp_loadBox1 (Y := .box 27 (cFm q)) (X := strsA q.vals) (.tmp 177) rfl Tryd.underlying22 rfl rfl) ⟨.inl rfl, trivial⟩ ⟨rfl, trivial⟩ trivial ?_
 refine t_opG rfl (sp_lenSl (.tmp 178) rfl Tryd.underlying22) ⟨.inl rfl, trivial⟩ trivial trivial ?_
 refine t_opG rfl (sp_sub (c := ((q.vals.length : Nat) : Int) - 1) rfl (w64 (by omega) (by omega) (by omega))) ⟨.inl rfl, .inl rfl, trivial⟩ trivial trivial ?_
 refine t_opG rfl (sp_call (c := .func 56) (xs := #[.tmp 176, .const (.int .i64 0), .tmp 180]) [] (ctr_b (within_c q.rules[i].rd 0 (((q.vals.length : Nat) : Int) - 1)) hs32) rfl (by kernel_rfl) rfl (Xs := [iv q.rules[i].rd, iv 0, iv (((q.vals.length : Nat) : Int) - 1)]) rfl rfl rfl) ⟨.inl rfl, .inl rfl, .inl rfl, .inl rfl, trivial⟩ trivial trivial ?_
 refine t_opG rfl (sp_not rfl rfl) ⟨.inl rfl, trivial⟩ trivial trivial ?_
 refine t_op rfl (sp_pick (.tmp 174) (.tmp 182) (.const (.bool false)) true (bv false) (bv false) rfl) ⟨.inl rfl, .inl rfl, .inl rfl, trivial⟩ trivial trivial ?_
 refine t_op rfl (sp_move (.tmp 183) (bv false) rfl) ⟨.inl rfl, trivial⟩ trivial trivial ?_
 refine t_opG rfl (sp_fieldBox (off' := 11) (.tmp 5) rfl Tryd.underlying76 rfl (z := 1) (by kernel_rfl) (by decide) rfl) ⟨.inl rfl, trivial⟩ trivial trivial ?_
 refine t_opG rfl (sp_loadBox1 (Y := .box 76 (cRu q.rules[i])) (X := iv q.rules[i].wr) (.tmp 185) rfl Tryd.underlying3 rfl rfl) ⟨.inl rfl, trivial⟩ ⟨rfl, trivial⟩ trivial ?_
 refine t_opG rfl (sp_neq rfl (dF' hs33)) ⟨.inl rfl, .inl rfl, trivial⟩ trivial trivial ?_
 refine t_opG rfl (sp_move (.tmp 187) (bv true) rfl) ⟨.inl rfl, trivial⟩ trivial trivial ?_
 refine t_opG rfl (sp_fieldBox (off' := 11) (.tmp 5) rfl Tryd.underlying76 rfl (z := 1) (by kernel_rfl) (by decide) rfl) ⟨.inl rfl, trivial⟩ trivial trivial ?_
 refine t_opG rfl (sp_loadBox1 (Y := .box 76 (cRu q.rules[i])) (X := iv q.rules[i].wr) (.tmp 189) rfl Tryd.underlying3 rfl rfl) ⟨.inl rfl, trivial⟩ ⟨rfl, trivial⟩ trivial ?_
 refine t_opG rfl (sp_fieldBox (off' := 4) (.tmp 2) rfl Tryd.underlying27 rfl (z := 1) (by kernel_rfl) (by decide) rfl) ⟨.inl rfl, trivial⟩ trivial trivial ?_
 refine t_opG rfl (sp_loadBox1 (Y := .box 27 (cFm q)) (X := strsA q.vals) (.tmp 191) rfl Tryd.underlying22 rfl rfl) ⟨.inl rfl, trivial⟩ ⟨rfl, trivial⟩ trivial ?_
 refine t_opG rfl (sp_lenSl (.tmp 192) rfl Tryd.underlying22) ⟨.inl rfl, trivial⟩ trivial trivial ?_
 refine t_opG rfl (sp_sub (c := ((q.vals.length : Nat) : Int) - 1) rfl (w64 (by omega) (by omega) (by omega))) ⟨.inl rfl, .inl rfl, trivial⟩ trivial trivial ?_
 refine t_opG rfl (sp_call (c := .func 56) (xs := #[.tmp 190, .const (.int .i64 0), .tmp 194]) [] (ctr_b (within_c q.rules[i].wr 0 (((q.vals.length : Nat) : Int) - 1)) hs34) rfl (by kernel_rfl) rfl (Xs := [iv q.rules[i].wr, iv 0, iv (((q.vals.length : Nat) : Int) - 1)]) rfl rfl rfl) ⟨.inl rfl, .inl rfl, .inl rfl, .inl rfl, trivial⟩ trivial trivial ?_
 refine t_opG rfl (sp_not rfl rfl) ⟨.inl rfl, trivial⟩ trivial trivial ?_
 refine t_opG rfl (sp_pick (.tmp 188) (.tmp 196) (.const (.bool false)) true (bv false) (bv false) rfl) ⟨.inl rfl, .inl rfl, .inl rfl, trivial⟩ trivial trivial ?_
 refine t_op rfl (sp_pick (.tmp 184) (.const (.bool true)) (.tmp 197) false (bv true) (bv false) rfl) ⟨.inl rfl, .inl rfl, .inl rfl, trivial⟩ trivial trivial ?_
 refine tri_nil ?_
 refine tri_wk (wk_keep [(1, .box 27 (cFm q)), (2, .box 76 (cRu q.rules[i]))] [(2, .box 1 0), (5, .box 2 0), (6, iv q.states.length), (198, bv false)] (n := 276) rfl (by kernel_rfl) (by kernel_rfl)) ?_
 rw [show (!decide (shE q.vals.length q.rules[i].rd q.rules[i].wr = 0)) = false by first | (simp [shE, ixB, hs1, hs10, hs17, hs26, hs27, hs28, hs29, hs32, hs33, hs34]; done) | (simp [shE, ixB, inB, hs1, hs10, hs17, hs26, hs27, hs28, hs29, hs32, hs33, hs34]; done)]
 exact t_meet trivial (wk_keep _ _ rfl (by kernel_rfl) (by kernel_rfl))
 have hs34f : (inB 0 (((q.vals.length : Nat) : Int) - 1) q.rules[i].wr) = false := by simpa using hs34
 refine tri_region ?_
 refine t_op rfl (sp_fieldBox (off' := 10) (.tmp 5) rfl Tryd.underlying76 rfl (z := 1) (by kernel_rfl) (by decide) rfl) ⟨.inl rfl, trivial⟩ trivial trivial ?_
 refine t_op rfl (sp_loadBox1 (Y := .box 76 (cRu q.rules[i])) (X := iv q.rules[i].rd) (.tmp 171) rfl Tryd.underlying3 rfl rfl) ⟨.inl rfl, trivial⟩ ⟨rfl, trivial⟩ trivial ?_
 refine t_op rfl (sp_neq rfl (dF' hs29)) ⟨.inl rfl, .inl rfl, trivial⟩ trivial trivial ?_
 refine t_op rfl (sp_move (.tmp 173) (bv true) rfl) ⟨.inl rfl, trivial⟩ trivial trivial ?_
 refine t_opG rfl (sp_fieldBox (off' := 10) (.tmp 5) rfl Tryd.underlying76 rfl (z := 1) (by kernel_rfl) (by decide) rfl) ⟨.inl rfl, trivial⟩ trivial trivial ?_
 refine t_opG rfl (sp_loadBox1 (Y := .box 76 (cRu q.rules[i])) (X := iv q.rules[i].rd) (.tmp 175) rfl Tryd.underlying3 rfl rfl) ⟨.inl rfl, trivial⟩ ⟨rfl, trivial⟩ trivial ?_
 refine t_opG rfl (sp_fieldBox (off' := 4) (.tmp 2) rfl Tryd.underlying27 rfl (z := 1) (by kernel_rfl) (by decide) rfl) ⟨.inl rfl, trivial⟩ trivial trivial ?_
 refine t_opG rfl (sp_loadBox1 (Y := .box 27 (cFm q)) (X := strsA q.vals) (.tmp 177) rfl Tryd.underlying22 rfl rfl) ⟨.inl rfl, trivial⟩ ⟨rfl, trivial⟩ trivial ?_
 refine t_opG rfl (sp_lenSl (.tmp 178) rfl Tryd.underlying22) ⟨.inl rfl, trivial⟩ trivial trivial ?_
 refine t_opG rfl (sp_sub (c := ((q.vals.length : Nat) : Int) - 1) rfl (w64 (by omega) (by omega) (by omega))) ⟨.inl rfl, .inl rfl, trivial⟩ trivial trivial ?_
 refine t_opG rfl (sp_call (c := .func 56) (xs := #[.tmp 176, .const (.int .i64 0), .tmp 180]) [] (ctr_b (within_c q.rules[i].rd 0 (((q.vals.length : Nat) : Int) - 1)) hs32) rfl (by kernel_rfl) rfl (Xs := [iv q.rules[i].rd, iv 0, iv (((q.vals.length : Nat) : Int) - 1)]) rfl rfl rfl) ⟨.inl rfl, .inl rfl, .inl rfl, .inl rfl, trivial⟩ trivial trivial ?_
 refine t_opG rfl (sp_not rfl rfl) ⟨.inl rfl, trivial⟩ trivial trivial ?_
 refine t_op rfl (sp_pick (.tmp 174) (.tmp 182) (.const (.bool false)) true (bv false) (bv false) rfl) ⟨.inl rfl, .inl rfl, .inl rfl, trivial⟩ trivial trivial ?_
 refine t_op rfl (sp_move (.tmp 183) (bv false) rfl) ⟨.inl rfl, trivial⟩ trivial trivial ?_
 refine t_opG rfl (sp_fieldBox (off' := 11) (.tmp 5) rfl Tryd.underlying76 rfl (z := 1) (by kernel_rfl) (by decide) rfl) ⟨.inl rfl, trivial⟩ trivial trivial ?_
 refine t_opG rfl (sp_loadBox1 (Y := .box 76 (cRu q.rules[i])) (X := iv q.rules[i].wr) (.tmp 185) rfl Tryd.underlying3 rfl rfl) ⟨.inl rfl, trivial⟩ ⟨rfl, trivial⟩ trivial ?_
 refine t_opG rfl (sp_neq rfl (dF' hs33)) ⟨.inl rfl, .inl rfl, trivial⟩ trivial trivial ?_
 refine t_opG rfl (sp_move (.tmp 187) (bv true) rfl) ⟨.inl rfl, trivial⟩ trivial trivial ?_
 refine t_opG rfl (sp_fieldBox (off' := 11) (.tmp 5) rfl Tryd.underlying76 rfl (z := 1) (by kernel_rfl) (by decide) rfl) ⟨.inl rfl, trivial⟩ trivial trivial ?_
 refine t_opG rfl (sp_loadBox1 (Y := .box 76 (cRu q.rules[i])) (X := iv q.rules[i].wr) (.tmp 189) rfl Tryd.underlying3 rfl rfl) ⟨.inl rfl, trivial⟩ ⟨rfl, trivial⟩ trivial ?_
 refine t_opG rfl (sp_fieldBox (off' := 4) (.tmp 2) rfl Tryd.underlying27 rfl (z := 1) (by kernel_rfl) (by decide) rfl) ⟨.inl rfl, trivial⟩ trivial trivial ?_
 refine t_opG rfl (sp_loadBox1 (Y := .box 27 (cFm q)) (X := strsA q.vals) (.tmp 191) rfl Tryd.underlying22 rfl rfl) ⟨.inl rfl, trivial⟩ ⟨rfl, trivial⟩ trivial ?_
 refine t_opG rfl (sp_lenSl (.tmp 192) rfl Tryd.underlying22) ⟨.inl rfl, trivial⟩ trivial trivial ?_
 refine t_opG rfl (sp_sub (c := ((q.vals.length : Nat) : Int) - 1) rfl (w64 (by omega) (by omega) (by omega))) ⟨.inl rfl, .inl rfl, trivial⟩ trivial trivial ?_
 refine t_opG rfl (sp_call (c := .func 56) (xs := #[.tmp 190, .const (.int .i64 0), .tmp 194]) [] (ctr_b (within_c q.rules[i].wr 0 (((q.vals.length : Nat) : Int) - 1)) hs34f) rfl (by kernel_rfl) rfl (Xs := [iv q.rules[i].wr, iv 0, iv (((q.vals.length : Nat) : Int) - 1)]) rfl rfl rfl) ⟨.inl rfl, .inl rfl, .inl rfl, .inl rfl, trivial⟩ trivial trivial ?_
 refine t_opG rfl (sp_not rfl rfl) ⟨.inl rfl, trivial⟩ trivial trivial ?_
 refine t_opG rfl (sp_pick (.tmp 188) (.tmp 196) (.const (.bool false)) true (bv true) (bv false) rfl) ⟨.inl rfl, .inl rfl, .inl rfl, trivial⟩ trivial trivial ?_
 refine t_op rfl (sp_pick (.tmp 184) (.const (.bool true)) (.tmp 197) false (bv true) (bv true) rfl) ⟨.inl rfl, .inl rfl, .inl rfl, trivial⟩ trivial trivial ?_
 refine tri_nil ?_
 refine tri_wk (wk_keep [(1, .box 27 (cFm q)), (2, .box 76 (cRu q.rules[i]))] [(2, .box 1 0), (5, .box 2 0), (6, iv q.states.length), (198, bv true)] (n := 276) rfl (by kernel_rfl) (by kernel_rfl)) ?_
 rw [show (!decide (shE q.vals.length q.rules[i].rd q.rules[i].wr = 0)) = true by first | (simp [shE, ixB, hs1, hs10, hs17, hs26, hs27, hs28, hs29, hs32, hs33, hs34f]; done) | (simp [shE, ixB, inB, hs1, hs10, hs17, hs26, hs27, hs28, hs29, hs32, hs33, hs34f]; done)]
 exact t_meet trivial (wk_keep _ _ rfl (by kernel_rfl) (by kernel_rfl))
 have hs32f : (inB 0 (((q.vals.length : Nat) : Int) - 1) q.rules[i].rd) = false := by simpa using hs32
 refine tri_region ?_
 refine t_op rfl (sp_fieldBox (off' := 10) (.tmp 5) rfl Tryd.underlying76 rfl (z := 1) (by kernel_rfl) (by decide) rfl) ⟨.inl rfl, trivial⟩ trivial trivial ?_
 refine t_op rfl (sp_loadBox1 (Y := .box 76 (cRu q.rules[i])) (X := iv q.rules[i].rd) (.tmp 171) rfl Tryd.underlying3 rfl rfl) ⟨.inl rfl, trivial⟩ ⟨rfl, trivial⟩ trivial ?_
 refine t_op rfl (sp_neq rfl (dF' hs29)) ⟨.inl rfl, .inl rfl, trivial⟩ trivial trivial ?_
 refine t_op rfl (sp_move (.tmp 173) (bv true) rfl) ⟨.inl rfl, trivial⟩ trivial trivial ?_
 refine t_opG rfl (sp_fieldBox (off' := 10) (.tmp 5) rfl Tryd.underlying76 rfl (z := 1) (by kernel_rfl) (by decide) rfl) ⟨.inl rfl, trivial⟩ trivial trivial ?_
 refine t_opG rfl (sp_loadBox1 (Y := .box 76 (cRu q.rules[i])) (X := iv q.rules[i].rd) (.tmp 175) rfl Tryd.underlying3 rfl rfl) ⟨.inl rfl, trivial⟩ ⟨rfl, trivial⟩ trivial ?_
 refine t_opG rfl (sp_fieldBox (off' := 4) (.tmp 2) rfl Tryd.underlying27 rfl (z := 1) (by kernel_rfl) (by decide) rfl) ⟨.inl rfl, trivial⟩ trivial trivial ?_
 refine t_opG rfl (sp_loadBox1 (Y := .box 27 (cFm q)) (X := strsA q.vals) (.tmp 177) rfl Tryd.underlying22 rfl rfl) ⟨.inl rfl, trivial⟩ ⟨rfl, trivial⟩ trivial ?_
 refine t_opG rfl (sp_lenSl (.tmp 178) rfl Tryd.underlying22) ⟨.inl rfl, trivial⟩ trivial trivial ?_
 refine t_opG rfl (sp_sub (c := ((q.vals.length : Nat) : Int) - 1) rfl (w64 (by omega) (by omega) (by omega))) ⟨.inl rfl, .inl rfl, trivial⟩ trivial trivial ?_
 refine t_opG rfl (sp_call (c := .func 56) (xs := #[.tmp 176, .const (.int .i64 0), .tmp 180]) [] (ctr_b (within_c q.rules[i].rd 0 (((q.vals.length : Nat) : Int) - 1)) hs32f) rfl (by kernel_rfl) rfl (Xs := [iv q.rules[i].rd, iv 0, iv (((q.vals.length : Nat) : Int) - 1)]) rfl rfl rfl) ⟨.inl rfl, .inl rfl, .inl rfl, .inl rfl, trivial⟩ trivial trivial ?_
 refine t_opG rfl (sp_not rfl rfl) ⟨.inl rfl, trivial⟩ trivial trivial ?_
 refine t_op rfl (sp_pick (.tmp 174) (.tmp 182) (.const (.bool false)) true (bv true) (bv false) rfl) ⟨.inl rfl, .inl rfl, .inl rfl, trivial⟩ trivial trivial ?_
 refine t_op rfl (sp_move (.tmp 183) (bv true) rfl) ⟨.inl rfl, trivial⟩ trivial trivial ?_
 refine t_skip rfl ?_
 refine t_skip rfl ?_
 refine t_skip rfl ?_
 refine t_skip rfl ?_
 refine t_skip rfl ?_
 refine t_skip rfl ?_
 refine t_skip rfl ?_
 refine t_skip rfl ?_
 refine t_skip rfl ?_
 refine t_skip rfl ?_
 refine t_skip rfl ?_
 refine t_skip rfl ?_
 refine t_skip rfl ?_
 refine t_op rfl (sp_pick (.tmp 184) (.const (.bool true)) (.tmp 197) true (bv true) (.v (.tuple #[])) rfl) ⟨.inl rfl, .inl rfl, .inl rfl, trivial⟩ trivial trivial ?_
 refine tri_nil ?_
 refine tri_wk (wk_keep [(1, .box 27 (cFm q)), (2, .box 76 (cRu q.rules[i]))] [(2, .box 1 0), (5, .box 2 0), (6, iv q.states.length), (198, bv true)] (n := 276) rfl (by kernel_rfl) (by kernel_rfl)) ?_
 rw [show (!decide (shE q.vals.length q.rules[i].rd q.rules[i].wr = 0)) = true by first | (simp [shE, ixB, hs1, hs10, hs17, hs26, hs27, hs28, hs29, hs32f]; done) | (simp [shE, ixB, inB, hs1, hs10, hs17, hs26, hs27, hs28, hs29, hs32f]; done)]
 exact t_meet trivial (wk_keep _ _ rfl (by kernel_rfl) (by kernel_rfl))
 refine t_then ?_
 by_cases hs35 : shE q.vals.length q.rules[i].rd q.rules[i].wr = 0
 rw [dT hs35]
 refine tri_wk (wk_keep [(1, .box 27 (cFm q)), (2, .box 76 (cRu q.rules[i]))] [(2, .box 1 0), (5, .box 2 0), (6, iv q.states.length), (198, bv false)] (n := 276) rfl (by kernel_rfl) (by kernel_rfl)) ?_
 refine t_condF rfl ?_
 refine tri_skip ?_
 refine t_then ?_
 refine tri_seq ?_
 refine tri_seq ?_
 refine tri_region ?_
 refine t_op rfl (sp_fieldBox (off' := 12) (.tmp 5) rfl Tryd.underlying76 rfl (z := 1) (by kernel_rfl) (by decide) rfl) ⟨.inl rfl, trivial⟩ trivial trivial ?_
 refine t_op rfl (sp_loadBox1 (Y := .box 76 (cRu q.rules[i])) (X := intsA q.rules[i].send) (.tmp 199) rfl Tryd.underlying24 rfl rfl) ⟨.inl rfl, trivial⟩ ⟨rfl, trivial⟩ trivial ?_
 refine t_op rfl (sp_fieldBox (off' := 3) (.tmp 2) rfl Tryd.underlying27 rfl (z := 1) (by kernel_rfl) (by decide) rfl) ⟨.inl rfl, trivial⟩ trivial trivial ?_
 refine t_op rfl (sp_loadBox1 (Y := .box 27 (cFm q)) (X := strsA q.msgs) (.tmp 201) rfl Tryd.underlying22 rfl rfl) ⟨.inl rfl, trivial⟩ ⟨rfl, trivial⟩ trivial ?_
 refine t_op rfl (sp_lenSl (.tmp 202) rfl Tryd.underlying22) ⟨.inl rfl, trivial⟩ trivial trivial ?_
 refine t_op rfl (sp_call (c := .func 59) (xs := #[.tmp 200, .tmp 203]) [] (rSet_c q.msgs.length (by omega) q.rules[i].send HR.send) rfl (by kernel_rfl) rfl (Xs := [intsA q.rules[i].send, iv q.msgs.length]) rfl rfl rfl) ⟨.inl rfl, .inl rfl, .inl rfl, trivial⟩ trivial trivial ?_
 refine t_op rfl (sp_assign (.tmp 204) (iv (setE q.msgs.length q.rules[i].send)) rfl) ⟨.inl rfl, trivial⟩ trivial trivial ?_
 refine tri_nil ?_
 refine tri_wk (wk_keep [(1, .box 27 (cFm q)), (2, .box 76 (cRu q.rules[i]))] [(2, .box 1 0), (5, .box 2 0), (6, iv q.states.length), (14, iv (setE q.msgs.length q.rules[i].send))] (n := 276) rfl (by kernel_rfl) (by kernel_rfl)) ?_
 refine t_then ?_
 refine tri_seq ?_
 by_cases hs36 : setE q.msgs.length q.rules[i].send = 0
 refine tri_region ?_
 refine t_op rfl (sp_move (.tmp 14) (iv (setE q.msgs.length q.rules[i].send)) rfl) ⟨.inl rfl, trivial⟩ trivial trivial ?_
 refine t_op rfl (sp_neq rfl (dT' hs36)) ⟨.inl rfl, .inl rfl, trivial⟩ trivial trivial ?_
 refine tri_nil ?_
 refine tri_wk (wk_keep [(1, .box 27 (cFm q)), (2, .box 76 (cRu q.rules[i]))] [(2, .box 1 0), (5, .box 2 0), (6, iv q.states.length), (14, iv (setE q.msgs.length q.rules[i].send)), (206, bv false)] (n := 276) rfl (by kernel_rfl) (by kernel_rfl)) ?_
 refine t_then ?_
 refine t_condF rfl ?_
 refine tri_skip ?_
 refine t_then ?_
 refine tri_seq ?_
 refine tri_seq ?_
 refine tri_region ?_
 refine t_op rfl (sp_fieldBox (off' := 14) (.tmp 5) rfl Tryd.underlying76 rfl (z := 1) (by kernel_rfl) (by decide) rfl) ⟨.inl rfl, trivial⟩ trivial trivial ?_
 refine t_op rfl (sp_loadBox1 (Y := .box 76 (cRu q.rules[i])) (X := intsA q.rules[i].left) (.tmp 208) rfl Tryd.underlying24 rfl rfl) ⟨.inl rfl, trivial⟩ ⟨rfl, trivial⟩ trivial ?_
 refine t_op rfl (sp_move (.tmp 6) (iv q.states.length) rfl) ⟨.inl rfl, trivial⟩ trivial trivial ?_
 refine t_op rfl (sp_call (c := .func 59) (xs := #[.tmp 209, .tmp 210]) [] (rSet_c q.states.length (by omega) q.rules[i].left HR.left) rfl (by kernel_rfl) rfl (Xs := [intsA q.rules[i].left, iv q.states.length]) rfl rfl rfl) ⟨.inl rfl, .inl rfl, .inl rfl, trivial⟩ trivial trivial ?_
 refine t_op rfl (sp_assign (.tmp 211) (iv (setE q.states.length q.rules[i].left)) rfl) ⟨.inl rfl, trivial⟩ trivial trivial ?_
 refine tri_nil ?_
 refine tri_wk (wk_keep [(1, .box 27 (cFm q)), (2, .box 76 (cRu q.rules[i]))] [(2, .box 1 0), (5, .box 2 0), (6, iv q.states.length), (15, iv (setE q.states.length q.rules[i].left))] (n := 276) rfl (by kernel_rfl) (by kernel_rfl)) ?_
 refine t_then ?_
 refine tri_seq ?_
 by_cases hs37 : setE q.states.length q.rules[i].left = 0
 refine tri_region ?_
 refine t_op rfl (sp_move (.tmp 15) (iv (setE q.states.length q.rules[i].left)) rfl) ⟨.inl rfl, trivial⟩ trivial trivial ?_
 refine t_op rfl (sp_neq rfl (dT' hs37)) ⟨.inl rfl, .inl rfl, trivial⟩ trivial trivial ?_
 refine tri_nil ?_
 refine tri_wk (wk_keep [(1, .box 27 (cFm q)), (2, .box 76 (cRu q.rules[i]))] [(2, .box 1 0), (5, .box 2 0), (6, iv q.states.length), (15, iv (setE q.states.length q.rules[i].left)), (213, bv false)] (n := 276) rfl (by kernel_rfl) (by kernel_rfl)) ?_
 refine t_then ?_
 refine t_condF rfl ?_
 refine tri_skip ?_
 refine t_then ?_
 refine tri_seq ?_
 refine tri_seq ?_
 refine tri_region ?_
 refine t_op rfl (sp_fieldBox (off' := 15) (.tmp 5) rfl Tryd.underlying76 rfl (z := 1) (by kernel_rfl) (by decide) rfl) ⟨.inl rfl, trivial⟩ trivial trivial ?_
 refine t_op rfl (sp_loadBox1 (Y := .box 76 (cRu q.rules[i])) (X := intsA q.rules[i].right) (.tmp 215) rfl Tryd.underlying24 rfl rfl) ⟨.inl rfl, trivial⟩ ⟨rfl, trivial⟩ trivial ?_
 refine t_op rfl (sp_move (.tmp 6) (iv q.states.length) rfl) ⟨.inl rfl, trivial⟩ trivial trivial ?_
 refine t_op rfl (sp_call (c := .func 59) (xs := #[.tmp 216, .tmp 217]) [] (rSet_c q.states.length (by omega) q.rules[i].right HR.right) rfl (by kernel_rfl) rfl (Xs := [intsA q.rules[i].right, iv q.states.length]) rfl rfl rfl) ⟨.inl rfl, .inl rfl, .inl rfl, trivial⟩ trivial trivial ?_
 refine t_op rfl (sp_assign (.tmp 218) (iv (setE q.states.length q.rules[i].right)) rfl) ⟨.inl rfl, trivial⟩ trivial trivial ?_
 refine tri_nil ?_
 refine tri_wk (wk_keep [(1, .box 27 (cFm q)), (2, .box 76 (cRu q.rules[i]))] [(2, .box 1 0), (5, .box 2 0), (6, iv q.states.length), (16, iv (setE q.states.length q.rules[i].right))] (n := 276) rfl (by kernel_rfl) (by kernel_rfl)) ?_
 refine t_then ?_
 refine tri_seq ?_
 by_cases hs38 : setE q.states.length q.rules[i].right = 0
 refine tri_region ?_
 refine t_op rfl (sp_move (.tmp 16) (iv (setE q.states.length q.rules[i].right)) rfl) ⟨.inl rfl, trivial⟩ trivial trivial ?_
 refine t_op rfl (sp_neq rfl (dT' hs38)) ⟨.inl rfl, .inl rfl, trivial⟩ trivial trivial ?_
 refine tri_nil ?_
 refine tri_wk (wk_keep [(1, .box 27 (cFm q)), (2, .box 76 (cRu q.rules[i]))] [(2, .box 1 0), (5, .box 2 0), (6, iv q.states.length), (16, iv (setE q.states.length q.rules[i].right)), (220, bv false)] (n := 276) rfl (by kernel_rfl) (by kernel_rfl)) ?_
 refine t_then ?_
 refine t_condF rfl ?_
 refine tri_skip ?_
 refine t_then ?_
 refine tri_seq ?_
 refine tri_seq ?_
 refine tri_region ?_
 refine t_op rfl (sp_fieldBox (off' := 16) (.tmp 5) rfl Tryd.underlying76 rfl (z := 1) (by kernel_rfl) (by decide) rfl) ⟨.inl rfl, trivial⟩ trivial trivial ?_
 refine t_op rfl (sp_loadBox1 (Y := .box 76 (cRu q.rules[i])) (X := intsA q.rules[i].parent) (.tmp 222) rfl Tryd.underlying24 rfl rfl) ⟨.inl rfl, trivial⟩ ⟨rfl, trivial⟩ trivial ?_
 refine t_op rfl (sp_move (.tmp 6) (iv q.states.length) rfl) ⟨.inl rfl, trivial⟩ trivial trivial ?_
 refine t_op rfl (sp_call (c := .func 59) (xs := #[.tmp 223, .tmp 224]) [] (rSet_c q.states.length (by omega) q.rules[i].parent HR.parent) rfl (by kernel_rfl) rfl (Xs := [intsA q.rules[i].parent, iv q.states.length]) rfl rfl rfl) ⟨.inl rfl, .inl rfl, .inl rfl, trivial⟩ trivial trivial ?_
 refine t_op rfl (sp_assign (.tmp 225) (iv (setE q.states.length q.rules[i].parent)) rfl) ⟨.inl rfl, trivial⟩ trivial trivial ?_
 refine tri_nil ?_
 refine tri_wk (wk_keep [(1, .box 27 (cFm q)), (2, .box 76 (cRu q.rules[i]))] [(2, .box 1 0), (5, .box 2 0), (17, iv (setE q.states.length q.rules[i].parent))] (n := 276) rfl (by kernel_rfl) (by kernel_rfl)) ?_
 refine t_then ?_
 refine tri_seq ?_
 by_cases hs39 : setE q.states.length q.rules[i].parent = 0
 refine tri_region ?_
 refine t_op rfl (sp_move (.tmp 17) (iv (setE q.states.length q.rules[i].parent)) rfl) ⟨.inl rfl, trivial⟩ trivial trivial ?_
 refine t_op rfl (sp_neq rfl (dT' hs39)) ⟨.inl rfl, .inl rfl, trivial⟩ trivial trivial ?_
 refine tri_nil ?_
 refine tri_wk (wk_keep [(1, .box 27 (cFm q)), (2, .box 76 (cRu q.rules[i]))] [(2, .box 1 0), (5, .box 2 0), (17, iv (setE q.states.length q.rules[i].parent)), (227, bv false)] (n := 276) rfl (by kernel_rfl) (by kernel_rfl)) ?_
 refine t_then ?_
 refine t_condF rfl ?_
 refine tri_skip ?_
 refine t_then ?_
 refine tri_seq ?_
 refine tri_seq ?_
 refine t_cut (True) (ofL [(1, .box 27 (cFm q)), (2, .box 76 (cRu q.rules[i]))]) (ofT 276 [(2, .box 1 0), (5, .box 2 0), (247, bv (!decide (poX q q.rules[i] = 0)))]) ?_ (fun _ => ?_)
 by_cases hs40 : q.rules[i].kind = 4
 by_cases hs41 : (inB 0 2 q.rules[i].pos) = true
 by_cases hs42 : q.rules[i].pos = 0
 refine tri_region ?_
 refine t_op rfl (sp_fieldBox (off' := 1) (.tmp 5) rfl Tryd.underlying76 rfl (z := 1) (by kernel_rfl) (by decide) rfl) ⟨.inl rfl, trivial⟩ trivial trivial ?_
 refine t_op rfl (sp_loadBox1 (Y := .box 76 (cRu q.rules[i])) (X := iv q.rules[i].kind) (.tmp 229) rfl Tryd.underlying3 rfl rfl) ⟨.inl rfl, trivial⟩ ⟨rfl, trivial⟩ trivial ?_
 refine t_op rfl (sp_eql rfl (dT hs40)) ⟨.inl rfl, .inl rfl, trivial⟩ trivial trivial ?_
 refine t_op rfl (sp_move (.tmp 231) (bv true) rfl) ⟨.inl rfl, trivial⟩ trivial trivial ?_
 refine t_opG rfl (sp_fieldBox (off' := 13) (.tmp 5) rfl Tryd.underlying76 rfl (z := 1) (by kernel_rfl) (by decide) rfl) ⟨.inl rfl, trivial⟩ trivial trivial ?_
 refine t_opG rfl (sp_loadBox1 (Y := .box 76 (cRu q.rules[i])) (X := iv q.rules[i].pos) (.tmp 233) rfl Tryd.underlying3 rfl rfl) ⟨.inl rfl, trivial⟩ ⟨rfl, trivial⟩ trivial ?_
 refine t_opG rfl (sp_call (c := .func 56) (xs := #[.tmp 234, .const (.int .i64 0), .const (.int .i64 2)]) [] (ctr_b (within_c q.rules[i].pos 0 2) hs41) rfl (by kernel_rfl) rfl (Xs := [iv q.rules[i].pos, iv 0, iv 2]) rfl rfl rfl) ⟨.inl rfl, .inl rfl, .inl rfl, .inl rfl, trivial⟩ trivial trivial ?_
 refine t_opG rfl (sp_not rfl rfl) ⟨.inl rfl, trivial⟩ trivial trivial ?_
 refine t_opG rfl (sp_move (.tmp 236) (bv false) rfl) ⟨.inl rfl, trivial⟩ trivial trivial ?_
 refine t_opG rfl (sp_fieldBox (off' := 13) (.tmp 5) rfl Tryd.underlying76 rfl (z := 1) (by kernel_rfl) (by decide) rfl) ⟨.inl rfl, trivial⟩ trivial trivial ?_
 refine t_opG rfl (sp_loadBox1 (Y := .box 76 (cRu q.rules[i])) (X := iv q.rules[i].pos) (.tmp 238) rfl Tryd.underlying3 rfl rfl) ⟨.inl rfl, trivial⟩ ⟨rfl, trivial⟩ trivial ?_
 refine t_opG rfl (sp_neq rfl (dT' hs42)) ⟨.inl rfl, .inl rfl, trivial⟩ trivial trivial ?_
 refine t_opG rfl (sp_move (.tmp 240) (bv false) rfl) ⟨.inl rfl, trivial⟩ trivial trivial ?_
 refine t_skip rfl ?_
 refine t_skip rfl ?_
 refine t_skip rfl ?_
 refine t_opG rfl (sp_pick (.tmp 241) (.tmp 244) (.const (.bool false)) false (.v (.tuple #[])) (bv false) rfl) ⟨.inl rfl, .inl rfl, .inl rfl, trivial⟩ trivial trivial ?_
 refine t_opG rfl (sp_pick (.tmp 237) (.const (.bool true)) (.tmp 245) false (bv true) (bv false) rfl) ⟨.inl rfl, .inl rfl, .inl rfl, trivial⟩ trivial trivial ?_
 refine t_op rfl (sp_pick (.tmp 232) (.tmp 246) (.const (.bool false)) true (bv false) (bv false) rfl) ⟨.inl rfl, .inl rfl, .inl rfl, trivial⟩ trivial trivial ?_
 refine tri_nil ?_
 refine tri_wk (wk_keep [(1, .box 27 (cFm q)), (2, .box 76 (cRu q.rules[i]))] [(2, .box 1 0), (5, .box 2 0), (247, bv false)] (n := 276) rfl (by kernel_rfl) (by kernel_rfl)) ?_
 rw [show (!decide (poX q q.rules[i] = 0)) = false by first | (simp [poX, posE, hs1, hs10, hs17, hs26, hs27, hs28, hs35, hs36, hs37, hs38, hs39, hs40, hs41, hs42]; done) | (simp [poX, posE, inB, hs1, hs10, hs17, hs26, hs27, hs28, hs35, hs36, hs37, hs38, hs39, hs40, hs41, hs42]; done)]
 exact t_meet trivial (wk_keep _ _ rfl (by kernel_rfl) (by kernel_rfl))
 by_cases hs43 : q.top = 3
 refine tri_region ?_
 refine t_op rfl (sp_fieldBox (off' := 1) (.tmp 5) rfl Tryd.underlying76 rfl (z := 1) (by kernel_rfl) (by decide) rfl) ⟨.inl rfl, trivial⟩ trivial trivial ?_
 refine t_op rfl (sp_loadBox1 (Y := .box 76 (cRu q.rules[i])) (X := iv q.rules[i].kind) (.tmp 229) rfl Tryd.underlying3 rfl rfl) ⟨.inl rfl, trivial⟩ ⟨rfl, trivial⟩ trivial ?_
 refine t_op rfl (sp_eql rfl (dT hs40)) ⟨.inl rfl, .inl rfl, trivial⟩ trivial trivial ?_
 refine t_op rfl (sp_move (.tmp 231) (bv true) rfl) ⟨.inl rfl, trivial⟩ trivial trivial ?_
 refine t_opG rfl (sp_fieldBox (off' := 13) (.tmp 5) rfl Tryd.underlying76 rfl (z := 1) (by kernel_rfl) (by decide) rfl) ⟨.inl rfl, trivial⟩ trivial trivial ?_
 refine t_opG rfl (sp_loadBox1 (Y := .box 76 (cRu q.rules[i])) (X := iv q.rules[i].pos) (.tmp 233) rfl Tryd.underlying3 rfl rfl) ⟨.inl rfl, trivial⟩ ⟨rfl, trivial⟩ trivial ?_
 refine t_opG rfl (sp_call (c := .func 56) (xs := #[.tmp 234, .const (.int .i64 0), .const (.int .i64 2)]) [] (ctr_b (within_c q.rules[i].pos 0 2) hs41) rfl (by kernel_rfl) rfl (Xs := [iv q.rules[i].pos, iv 0, iv 2]) rfl rfl rfl) ⟨.inl rfl, .inl rfl, .inl rfl, .inl rfl, trivial⟩ trivial trivial ?_
 refine t_opG rfl (sp_not rfl rfl) ⟨.inl rfl, trivial⟩ trivial trivial ?_
 refine t_opG rfl (sp_move (.tmp 236) (bv false) rfl) ⟨.inl rfl, trivial⟩ trivial trivial ?_
 refine t_opG rfl (sp_fieldBox (off' := 13) (.tmp 5) rfl Tryd.underlying76 rfl (z := 1) (by kernel_rfl) (by decide) rfl) ⟨.inl rfl, trivial⟩ trivial trivial ?_
 refine t_opG rfl (sp_loadBox1 (Y := .box 76 (cRu q.rules[i])) (X := iv q.rules[i].pos) (.tmp 238) rfl Tryd.underlying3 rfl rfl) ⟨.inl rfl, trivial⟩ ⟨rfl, trivial⟩ trivial ?_
 refine t_opG rfl (sp_neq rfl (dF' hs42)) ⟨.inl rfl, .inl rfl, trivial⟩ trivial trivial ?_
 refine t_opG rfl (sp_move (.tmp 240) (bv true) rfl) ⟨.inl rfl, trivial⟩ trivial trivial ?_
 refine t_opG rfl (sp_fieldBox (off' := 1) (.tmp 2) rfl Tryd.underlying27 rfl (z := 1) (by kernel_rfl) (by decide) rfl) ⟨.inl rfl, trivial⟩ trivial trivial ?_
 refine t_opG rfl (sp_loadBox1 (Y := .box 27 (cFm q)) (X := iv q.top) (.tmp 242) rfl Tryd.underlying3 rfl rfl) ⟨.inl rfl, trivial⟩ ⟨rfl, trivial⟩ trivial ?_
 refine t_opG rfl (sp_eql rfl (dT hs43)) ⟨.inl rfl, .inl rfl, trivial⟩ trivial trivial ?_
 refine t_opG rfl (sp_pick (.tmp 241) (.tmp 244) (.const (.bool false)) true (bv true) (bv false) rfl) ⟨.inl rfl, .inl rfl, .inl rfl, trivial⟩ trivial trivial ?_
 refine t_opG rfl (sp_pick (.tmp 237) (.const (.bool true)) (.tmp 245) false (bv true) (bv true) rfl) ⟨.inl rfl, .inl rfl, .inl rfl, trivial⟩ trivial trivial ?_
 refine t_op rfl (sp_pick (.tmp 232) (.tmp 246) (.const (.bool false)) true (bv true) (bv false) rfl) ⟨.inl rfl, .inl rfl, .inl rfl, trivial⟩ trivial trivial ?_
 refine tri_nil ?_
 refine tri_wk (wk_keep [(1, .box 27 (cFm q)), (2, .box 76 (cRu q.rules[i]))] [(2, .box 1 0), (5, .box 2 0), (247, bv true)] (n := 276) rfl (by kernel_rfl) (by kernel_rfl)) ?_
 rw [show (!decide (poX q q.rules[i] = 0)) = true by first | (simp [poX, posE, hs1, hs10, hs17, hs26, hs27, hs28, hs35, hs36, hs37, hs38, hs39, hs40, hs41, hs42, hs43]; done) | (simp [poX, posE, inB, hs1, hs10, hs17, hs26, hs27, hs28, hs35, hs36, hs37, hs38, hs39, hs40, hs41, hs42, hs43]; done)]
 exact t_meet trivial (wk_keep _ _ rfl (by kernel_rfl) (by kernel_rfl))
 refine tri_region ?_
 refine t_op rfl (sp_fieldBox (off' := 1) (.tmp 5) rfl Tryd.underlying76 rfl (z := 1) (by kernel_rfl) (by decide) rfl) ⟨.inl rfl, trivial⟩ trivial trivial ?_
 refine t_op rfl (sp_loadBox1 (Y := .box 76 (cRu q.rules[i])) (X := iv q.rules[i].kind) (.tmp 229) rfl Tryd.underlying3 rfl rfl) ⟨.inl rfl, trivial⟩ ⟨rfl, trivial⟩ trivial ?_
 refine t_op rfl (sp_eql rfl (dT hs40)) ⟨.inl rfl, .inl rfl, trivial⟩ trivial trivial ?_
 refine t_op rfl (sp_move (.tmp 231) (bv true) rfl) ⟨.inl rfl, trivial⟩ trivial trivial ?_
 refine t_opG rfl (sp_fieldBox (off' := 13) (.tmp 5) rfl Tryd.underlying76 rfl (z := 1) (by kernel_rfl) (by decide) rfl) ⟨.inl rfl, trivial⟩ trivial trivial ?_
 refine t_opG rfl (sp_loadBox1 (Y := .box 76 (cRu q.rules[i])) (X := iv q.rules[i].pos) (.tmp 233) rfl Tryd.underlying3 rfl rfl) ⟨.inl rfl, trivial⟩ ⟨rfl, trivial⟩ trivial ?_
 refine t_opG rfl (sp_call (c := .func 56) (xs := #[.tmp 234, .const (.int .i64 0), .const (.int .i64 2)]) [] (ctr_b (within_c q.rules[i].pos 0 2) hs41) rfl (by kernel_rfl) rfl (Xs := [iv q.rules[i].pos, iv 0, iv 2]) rfl rfl rfl) ⟨.inl rfl, .inl rfl, .inl rfl, .inl rfl, trivial⟩ trivial trivial ?_
 refine t_opG rfl (sp_not rfl rfl) ⟨.inl rfl, trivial⟩ trivial trivial ?_
 refine t_opG rfl (sp_move (.tmp 236) (bv false) rfl) ⟨.inl rfl, trivial⟩ trivial trivial ?_
 refine t_opG rfl (sp_fieldBox (off' := 13) (.tmp 5) rfl Tryd.underlying76 rfl (z := 1) (by kernel_rfl) (by decide) rfl) ⟨.inl rfl, trivial⟩ trivial trivial ?_
 refine t_opG rfl (sp_loadBox1 (Y := .box 76 (cRu q.rules[i])) (X := iv q.rules[i].pos) (.tmp 238) rfl Tryd.underlying3 rfl rfl) ⟨.inl rfl, trivial⟩ ⟨rfl, trivial⟩ trivial ?_
 refine t_opG rfl (sp_neq rfl (dF' hs42)) ⟨.inl rfl, .inl rfl, trivial⟩ trivial trivial ?_
 refine t_opG rfl (sp_move (.tmp 240) (bv true) rfl) ⟨.inl rfl, trivial⟩ trivial trivial ?_
 refine t_opG rfl (sp_fieldBox (off' := 1) (.tmp 2) rfl Tryd.underlying27 rfl (z := 1) (by kernel_rfl) (by decide) rfl) ⟨.inl rfl, trivial⟩ trivial trivial ?_
 refine t_opG rfl (sp_loadBox1 (Y := .box 27 (cFm q)) (X := iv q.top) (.tmp 242) rfl Tryd.underlying3 rfl rfl) ⟨.inl rfl, trivial⟩ ⟨rfl, trivial⟩ trivial ?_
 refine t_opG rfl (sp_eql rfl (dF hs43)) ⟨.inl rfl, .inl rfl, trivial⟩ trivial trivial ?_
 refine t_opG rfl (sp_pick (.tmp 241) (.tmp 244) (.const (.bool false)) true (bv false) (bv false) rfl) ⟨.inl rfl, .inl rfl, .inl rfl, trivial⟩ trivial trivial ?_
 refine t_opG rfl (sp_pick (.tmp 237) (.const (.bool true)) (.tmp 245) false (bv true) (bv false) rfl) ⟨.inl rfl, .inl rfl, .inl rfl, trivial⟩ trivial trivial ?_
 refine t_op rfl (sp_pick (.tmp 232) (.tmp 246) (.const (.bool false)) true (bv false) (bv false) rfl) ⟨.inl rfl, .inl rfl, .inl rfl, trivial⟩ trivial trivial ?_
 refine tri_nil ?_
 refine tri_wk (wk_keep [(1, .box 27 (cFm q)), (2, .box 76 (cRu q.rules[i]))] [(2, .box 1 0), (5, .box 2 0), (247, bv false)] (n := 276) rfl (by kernel_rfl) (by kernel_rfl)) ?_
 rw [show (!decide (poX q q.rules[i] = 0)) = false by first | (simp [poX, posE, hs1, hs10, hs17, hs26, hs27, hs28, hs35, hs36, hs37, hs38, hs39, hs40, hs41, hs42, hs43]; done) | (simp [poX, posE, inB, hs1, hs10, hs17, hs26, hs27, hs28, hs35, hs36, hs37, hs38, hs39, hs40, hs41, hs42, hs43]; done)]
 exact t_meet trivial (wk_keep _ _ rfl (by kernel_rfl) (by kernel_rfl))
 have hs41f : (inB 0 2 q.rules[i].pos) = false := by simpa using hs41
 refine tri_region ?_
 refine t_op rfl (sp_fieldBox (off' := 1) (.tmp 5) rfl Tryd.underlying76 rfl (z := 1) (by kernel_rfl) (by decide) rfl) ⟨.inl rfl, trivial⟩ trivial trivial ?_
 refine t_op rfl (sp_loadBox1 (Y := .box 76 (cRu q.rules[i])) (X := iv q.rules[i].kind) (.tmp 229) rfl Tryd.underlying3 rfl rfl) ⟨.inl rfl, trivial⟩ ⟨rfl, trivial⟩ trivial ?_
 refine t_op rfl (sp_eql rfl (dT hs40)) ⟨.inl rfl, .inl rfl, trivial⟩ trivial trivial ?_
 refine t_op rfl (sp_move (.tmp 231) (bv true) rfl) ⟨.inl rfl, trivial⟩ trivial trivial ?_
 refine t_opG rfl (sp_fieldBox (off' := 13) (.tmp 5) rfl Tryd.underlying76 rfl (z := 1) (by kernel_rfl) (by decide) rfl) ⟨.inl rfl, trivial⟩ trivial trivial ?_
 refine t_opG rfl (sp_loadBox1 (Y := .box 76 (cRu q.rules[i])) (X := iv q.rules[i].pos) (.tmp 233) rfl Tryd.underlying3 rfl rfl) ⟨.inl rfl, trivial⟩ ⟨rfl, trivial⟩ trivial ?_
 refine t_opG rfl (sp_call (c := .func 56) (xs := #[.tmp 234, .const (.int .i64 0), .const (.int .i64 2)]) [] (ctr_b (within_c q.rules[i].pos 0 2) hs41f) rfl (by kernel_rfl) rfl (Xs := [iv q.rules[i].pos, iv 0, iv 2]) rfl rfl rfl) ⟨.inl rfl, .inl rfl, .inl rfl, .inl rfl, trivial⟩ trivial trivial ?_
 refine t_opG rfl (sp_not rfl rfl) ⟨.inl rfl, trivial⟩ trivial trivial ?_
 refine t_opG rfl (sp_move (.tmp 236) (bv true) rfl) ⟨.inl rfl, trivial⟩ trivial trivial ?_
 refine t_skip rfl ?_
 refine t_skip rfl ?_
 refine t_skip rfl ?_
 refine t_skip rfl ?_
 refine t_skip rfl ?_
 refine t_skip rfl ?_
 refine t_skip rfl ?_
 refine t_skip rfl ?_
 refine t_opG rfl (sp_pick (.tmp 237) (.const (.bool true)) (.tmp 245) true (bv true) (.v (.tuple #[])) rfl) ⟨.inl rfl, .inl rfl, .inl rfl, trivial⟩ trivial trivial ?_
 refine t_op rfl (sp_pick (.tmp 232) (.tmp 246) (.const (.bool false)) true (bv true) (bv false) rfl) ⟨.inl rfl, .inl rfl, .inl rfl, trivial⟩ trivial trivial ?_
 refine tri_nil ?_
 refine tri_wk (wk_keep [(1, .box 27 (cFm q)), (2, .box 76 (cRu q.rules[i]))] [(2, .box 1 0), (5, .box 2 0), (247, bv true)] (n := 276) rfl (by kernel_rfl) (by kernel_rfl)) ?_
 rw [show (!decide (poX q q.rules[i] = 0)) = true by first | (simp [poX, posE, hs1, hs10, hs17, hs26, hs27, hs28, hs35, hs36, hs37, hs38, hs39, hs40, hs41f]; done) | (simp [poX, posE, inB, hs1, hs10, hs17, hs26, hs27, hs28, hs35, hs36, hs37, hs38, hs39, hs40, hs41f]; done)]
 exact t_meet trivial (wk_keep _ _ rfl (by kernel_rfl) (by kernel_rfl))
 refine tri_region ?_
 refine t_op rfl (sp_fieldBox (off' := 1) (.tmp 5) rfl Tryd.underlying76 rfl (z := 1) (by kernel_rfl) (by decide) rfl) ⟨.inl rfl, trivial⟩ trivial trivial ?_
 refine t_op rfl (sp_loadBox1 (Y := .box 76 (cRu q.rules[i])) (X := iv q.rules[i].kind) (.tmp 229) rfl Tryd.underlying3 rfl rfl) ⟨.inl rfl, trivial⟩ ⟨rfl, trivial⟩ trivial ?_
 refine t_op rfl (sp_eql rfl (dF hs40)) ⟨.inl rfl, .inl rfl, trivial⟩ trivial trivial ?_
 refine t_op rfl (sp_move (.tmp 231) (bv false) rfl) ⟨.inl rfl, trivial⟩ trivial trivial ?_
 refine t_skip rfl ?_
 refine t_skip rfl ?_
 refine t_skip rfl ?_
 refine t_skip rfl ?_
 refine t_skip rfl ?_
 refine t_skip rfl ?_
 refine t_skip rfl ?_
 refine t_skip rfl ?_
 refine t_skip rfl ?_
 refine t_skip rfl ?_
 refine t_skip rfl ?_
 refine t_skip rfl ?_
 refine t_skip rfl ?_
 refine t_skip rfl ?_
 refine t_op rfl (sp_pick (.tmp 232) (.tmp 246) (.const (.bool false)) false (.v (.tuple #[])) (bv false) rfl) ⟨.inl rfl, .inl rfl, .inl rfl, trivial⟩ trivial trivial ?_
 refine tri_nil ?_
 refine tri_wk (wk_keep [(1, .box 27 (cFm q)), (2, .box 76 (cRu q.rules[i]))] [(2, .box 1 0), (5, .box 2 0), (247, bv false)] (n := 276) rfl (by kernel_rfl) (by kernel_rfl)) ?_
 rw [show (!decide (poX q q.rules[i] = 0)) = false by first | (simp [poX, posE, hs1, hs10, hs17, hs26, hs27, hs28, hs35, hs36, hs37, hs38, hs39, hs40]; done) | (simp [poX, posE, inB, hs1, hs10, hs17, hs26, hs27, hs28, hs35, hs36, hs37, hs38, hs39, hs40]; done)]
 exact t_meet trivial (wk_keep _ _ rfl (by kernel_rfl) (by kernel_rfl))
 refine t_then ?_
 by_cases hs44 : poX q q.rules[i] = 0
 rw [dT hs44]
 refine tri_wk (wk_keep [(1, .box 27 (cFm q)), (2, .box 76 (cRu q.rules[i]))] [(2, .box 1 0), (5, .box 2 0), (247, bv false)] (n := 276) rfl (by kernel_rfl) (by kernel_rfl)) ?_
 refine t_condF rfl ?_
 refine tri_skip ?_
 refine t_then ?_
 refine tri_seq ?_
 refine tri_seq ?_
 refine t_cut (True) (ofL [(1, .box 27 (cFm q)), (2, .box 76 (cRu q.rules[i]))]) (ofT 276 [(2, .box 1 0), (5, .box 2 0), (261, bv (dir4 q q.rules[i]))]) ?_ (fun _ => ?_)
 by_cases hs45 : q.rules[i].kind = 5
 by_cases hs46 : q.top = 4
 by_cases hs47 : (inB 3 4 q.rules[i].dir) = true
 refine tri_region ?_
 refine t_op rfl (sp_fieldBox (off' := 1) (.tmp 5) rfl Tryd.underlying76 rfl (z := 1) (by kernel_rfl) (by decide) rfl) ⟨.inl rfl, trivial⟩ trivial trivial ?_
 refine t_op rfl (sp_loadBox1 (Y := .box 76 (cRu q.rules[i])) (X := iv q.rules[i].kind) (.tmp 248) rfl Tryd.underlying3 rfl rfl) ⟨.inl rfl, trivial⟩ ⟨rfl, trivial⟩ trivial ?_
 refine t_op rfl (sp_eql rfl (dT hs45)) ⟨.inl rfl, .inl rfl, trivial⟩ trivial trivial ?_
 refine t_op rfl (sp_move (.tmp 250) (bv true) rfl) ⟨.inl rfl, trivial⟩ trivial trivial ?_
 refine t_opG rfl (sp_fieldBox (off' := 1) (.tmp 2) rfl Tryd.underlying27 rfl (z := 1) (by kernel_rfl) (by decide) rfl) ⟨.inl rfl, trivial⟩ trivial trivial ?_
 refine t_opG rfl (sp_loadBox1 (Y := .box 27 (cFm q)) (X := iv q.top) (.tmp 252) rfl Tryd.underlying3 rfl rfl) ⟨.inl rfl, trivial⟩ ⟨rfl, trivial⟩ trivial ?_
 refine t_opG rfl (sp_eql rfl (dT hs46)) ⟨.inl rfl, .inl rfl, trivial⟩ trivial trivial ?_
 refine t_op rfl (sp_pick (.tmp 251) (.tmp 254) (.const (.bool false)) true (bv true) (bv false) rfl) ⟨.inl rfl, .inl rfl, .inl rfl, trivial⟩ trivial trivial ?_
 refine t_op rfl (sp_move (.tmp 255) (bv true) rfl) ⟨.inl rfl, trivial⟩ trivial trivial ?_
 refine t_opG rfl (sp_fieldBox (off' := 17) (.tmp 5) rfl Tryd.underlying76 rfl (z := 1) (by kernel_rfl) (by decide) rfl) ⟨.inl rfl, trivial⟩ trivial trivial ?_
 refine t_opG rfl (sp_loadBox1 (Y := .box 76 (cRu q.rules[i])) (X := iv q.rules[i].dir) (.tmp 257) rfl Tryd.underlying3 rfl rfl) ⟨.inl rfl, trivial⟩ ⟨rfl, trivial⟩ trivial ?_
 refine t_opG rfl (sp_call (c := .func 56) (xs := #[.tmp 258, .const (.int .i64 3), .const (.int .i64 4)]) [] (ctr_b (within_c q.rules[i].dir 3 4) hs47) rfl (by kernel_rfl) rfl (Xs := [iv q.rules[i].dir, iv 3, iv 4]) rfl rfl rfl) ⟨.inl rfl, .inl rfl, .inl rfl, .inl rfl, trivial⟩ trivial trivial ?_
 refine t_opG rfl (sp_not rfl rfl) ⟨.inl rfl, trivial⟩ trivial trivial ?_
 refine t_op rfl (sp_pick (.tmp 256) (.tmp 260) (.const (.bool false)) true (bv false) (bv false) rfl) ⟨.inl rfl, .inl rfl, .inl rfl, trivial⟩ trivial trivial ?_
 refine tri_nil ?_
 refine tri_wk (wk_keep [(1, .box 27 (cFm q)), (2, .box 76 (cRu q.rules[i]))] [(2, .box 1 0), (5, .box 2 0), (261, bv false)] (n := 276) rfl (by kernel_rfl) (by kernel_rfl)) ?_
 rw [show (dir4 q q.rules[i]) = false by first | (simp [dir4, hs1, hs10, hs17, hs26, hs27, hs28, hs35, hs36, hs37, hs38, hs39, hs44, hs45, hs46, hs47]; done) | (simp [dir4, inB, hs1, hs10, hs17, hs26, hs27, hs28, hs35, hs36, hs37, hs38, hs39, hs44, hs45, hs46, hs47]; done)]
 exact t_meet trivial (wk_keep _ _ rfl (by kernel_rfl) (by kernel_rfl))
 have hs47f : (inB 3 4 q.rules[i].dir) = false := by simpa using hs47
 refine tri_region ?_
 refine t_op rfl (sp_fieldBox (off' := 1) (.tmp 5) rfl Tryd.underlying76 rfl (z := 1) (by kernel_rfl) (by decide) rfl) ⟨.inl rfl, trivial⟩ trivial trivial ?_
 refine t_op rfl (sp_loadBox1 (Y := .box 76 (cRu q.rules[i])) (X := iv q.rules[i].kind) (.tmp 248) rfl Tryd.underlying3 rfl rfl) ⟨.inl rfl, trivial⟩ ⟨rfl, trivial⟩ trivial ?_
 refine t_op rfl (sp_eql rfl (dT hs45)) ⟨.inl rfl, .inl rfl, trivial⟩ trivial trivial ?_
 refine t_op rfl (sp_move (.tmp 250) (bv true) rfl) ⟨.inl rfl, trivial⟩ trivial trivial ?_
 refine t_opG rfl (sp_fieldBox (off' := 1) (.tmp 2) rfl Tryd.underlying27 rfl (z := 1) (by kernel_rfl) (by decide) rfl) ⟨.inl rfl, trivial⟩ trivial trivial ?_
 refine t_opG rfl (sp_loadBox1 (Y := .box 27 (cFm q)) (X := iv q.top) (.tmp 252) rfl Tryd.underlying3 rfl rfl) ⟨.inl rfl, trivial⟩ ⟨rfl, trivial⟩ trivial ?_
 refine t_opG rfl (sp_eql rfl (dT hs46)) ⟨.inl rfl, .inl rfl, trivial⟩ trivial trivial ?_
 refine t_op rfl (sp_pick (.tmp 251) (.tmp 254) (.const (.bool false)) true (bv true) (bv false) rfl) ⟨.inl rfl, .inl rfl, .inl rfl, trivial⟩ trivial trivial ?_
 refine t_op rfl (sp_move (.tmp 255) (bv true) rfl) ⟨.inl rfl, trivial⟩ trivial trivial ?_
 refine t_opG rfl (sp_fieldBox (off' := 17) (.tmp 5) rfl Tryd.underlying76 rfl (z := 1) (by kernel_rfl) (by decide) rfl) ⟨.inl rfl, trivial⟩ trivial trivial ?_
 refine t_opG rfl (sp_loadBox1 (Y := .box 76 (cRu q.rules[i])) (X := iv q.rules[i].dir) (.tmp 257) rfl Tryd.underlying3 rfl rfl) ⟨.inl rfl, trivial⟩ ⟨rfl, trivial⟩ trivial ?_
 refine t_opG rfl (sp_call (c := .func 56) (xs := #[.tmp 258, .const (.int .i64 3), .const (.int .i64 4)]) [] (ctr_b (within_c q.rules[i].dir 3 4) hs47f) rfl (by kernel_rfl) rfl (Xs := [iv q.rules[i].dir, iv 3, iv 4]) rfl rfl rfl) ⟨.inl rfl, .inl rfl, .inl rfl, .inl rfl, trivial⟩ trivial trivial ?_
 refine t_opG rfl (sp_not rfl rfl) ⟨.inl rfl, trivial⟩ trivial trivial ?_
 refine t_op rfl (sp_pick (.tmp 256) (.tmp 260) (.const (.bool false)) true (bv true) (bv false) rfl) ⟨.inl rfl, .inl rfl, .inl rfl, trivial⟩ trivial trivial ?_
 refine tri_nil ?_
 refine tri_wk (wk_keep [(1, .box 27 (cFm q)), (2, .box 76 (cRu q.rules[i]))] [(2, .box 1 0), (5, .box 2 0), (261, bv true)] (n := 276) rfl (by kernel_rfl) (by kernel_rfl)) ?_
 rw [show (dir4 q q.rules[i]) = true by first | (simp [dir4, hs1, hs10, hs17, hs26, hs27, hs28, hs35, hs36, hs37, hs38, hs39, hs44, hs45, hs46, hs47f]; done) | (simp [dir4, inB, hs1, hs10, hs17, hs26, hs27, hs28, hs35, hs36, hs37, hs38, hs39, hs44, hs45, hs46, hs47f]; done)]
 exact t_meet trivial (wk_keep _ _ rfl (by kernel_rfl) (by kernel_rfl))
 refine tri_region ?_
 refine t_op rfl (sp_fieldBox (off' := 1) (.tmp 5) rfl Tryd.underlying76 rfl (z := 1) (by kernel_rfl) (by decide) rfl) ⟨.inl rfl, trivial⟩ trivial trivial ?_
 refine t_op rfl (sp_loadBox1 (Y := .box 76 (cRu q.rules[i])) (X := iv q.rules[i].kind) (.tmp 248) rfl Tryd.underlying3 rfl rfl) ⟨.inl rfl, trivial⟩ ⟨rfl, trivial⟩ trivial ?_
 refine t_op rfl (sp_eql rfl (dT hs45)) ⟨.inl rfl, .inl rfl, trivial⟩ trivial trivial ?_
 refine t_op rfl (sp_move (.tmp 250) (bv true) rfl) ⟨.inl rfl, trivial⟩ trivial trivial ?_
 refine t_opG rfl (sp_fieldBox (off' := 1) (.tmp 2) rfl Tryd.underlying27 rfl (z := 1) (by kernel_rfl) (by decide) rfl) ⟨.inl rfl, trivial⟩ trivial trivial ?_
 refine t_opG rfl (sp_loadBox1 (Y := .box 27 (cFm q)) (X := iv q.top) (.tmp 252) rfl Tryd.underlying3 rfl rfl) ⟨.inl rfl, trivial⟩ ⟨rfl, trivial⟩ trivial ?_
 refine t_opG rfl (sp_eql rfl (dF hs46)) ⟨.inl rfl, .inl rfl, trivial⟩ trivial trivial ?_
 refine t_op rfl (sp_pick (.tmp 251) (.tmp 254) (.const (.bool false)) true (bv false) (bv false) rfl) ⟨.inl rfl, .inl rfl, .inl rfl, trivial⟩ trivial trivial ?_
 refine t_op rfl (sp_move (.tmp 255) (bv false) rfl) ⟨.inl rfl, trivial⟩ trivial trivial ?_
 refine t_skip rfl ?_
 refine t_skip rfl ?_
 refine t_skip rfl ?_
 refine t_skip rfl ?_
 refine t_op rfl (sp_pick (.tmp 256) (.tmp 260) (.const (.bool false)) false (.v (.tuple #[])) (bv false) rfl) ⟨.inl rfl, .inl rfl, .inl rfl, trivial⟩ trivial trivial ?_
 refine tri_nil ?_
 refine tri_wk (wk_keep [(1, .box 27 (cFm q)), (2, .box 76 (cRu q.rules[i]))] [(2, .box 1 0), (5, .box 2 0), (261, bv false)] (n := 276) rfl (by kernel_rfl) (by kernel_rfl)) ?_
 rw [show (dir4 q q.rules[i]) = false by first | (simp [dir4, hs1, hs10, hs17, hs26, hs27, hs28, hs35, hs36, hs37, hs38, hs39, hs44, hs45, hs46]; done) | (simp [dir4, inB, hs1, hs10, hs17, hs26, hs27, hs28, hs35, hs36, hs37, hs38, hs39, hs44, hs45, hs46]; done)]
 exact t_meet trivial (wk_keep _ _ rfl (by kernel_rfl) (by kernel_rfl))
 refine tri_region ?_
 refine t_op rfl (sp_fieldBox (off' := 1) (.tmp 5) rfl Tryd.underlying76 rfl (z := 1) (by kernel_rfl) (by decide) rfl) ⟨.inl rfl, trivial⟩ trivial trivial ?_
 refine t_op rfl (sp_loadBox1 (Y := .box 76 (cRu q.rules[i])) (X := iv q.rules[i].kind) (.tmp 248) rfl Tryd.underlying3 rfl rfl) ⟨.inl rfl, trivial⟩ ⟨rfl, trivial⟩ trivial ?_
 refine t_op rfl (sp_eql rfl (dF hs45)) ⟨.inl rfl, .inl rfl, trivial⟩ trivial trivial ?_
 refine t_op rfl (sp_move (.tmp 250) (bv false) rfl) ⟨.inl rfl, trivial⟩ trivial trivial ?_
 refine t_skip rfl ?_
 refine t_skip rfl ?_
 refine t_skip rfl ?_
 refine t_op rfl (sp_pick (.tmp 251) (.tmp 254) (.const (.bool false)) false (.v (.tuple #[])) (bv false) rfl) ⟨.inl rfl, .inl rfl, .inl rfl, trivial⟩ trivial trivial ?_
 refine t_op rfl (sp_move (.tmp 255) (bv false) rfl) ⟨.inl rfl, trivial⟩ trivial trivial ?_
 refine t_skip rfl ?_
 refine t_skip rfl ?_
 refine t_skip rfl ?_
 refine t_skip rfl ?_
 refine t_op rfl (sp_pick (.tmp 256) (.tmp 260) (.const (.bool false)) false (.v (.tuple #[])) (bv false) rfl) ⟨.inl rfl, .inl rfl, .inl rfl, trivial⟩ trivial trivial ?_
 refine tri_nil ?_
 refine tri_wk (wk_keep [(1, .box 27 (cFm q)), (2, .box 76 (cRu q.rules[i]))] [(2, .box 1 0), (5, .box 2 0), (261, bv false)] (n := 276) rfl (by kernel_rfl) (by kernel_rfl)) ?_
 rw [show (dir4 q q.rules[i]) = false by first | (simp [dir4, hs1, hs10, hs17, hs26, hs27, hs28, hs35, hs36, hs37, hs38, hs39, hs44, hs45]; done) | (simp [dir4, inB, hs1, hs10, hs17, hs26, hs27, hs28, hs35, hs36, hs37, hs38, hs39, hs44, hs45]; done)]
 exact t_meet trivial (wk_keep _ _ rfl (by kernel_rfl) (by kernel_rfl))
 refine t_then ?_
 by_cases hs48 : (dir4 q q.rules[i]) = true
 rw [hs48]
 refine tri_wk (wk_keep [(1, .box 27 (cFm q)), (2, .box 76 (cRu q.rules[i]))] [(2, .box 1 0), (5, .box 2 0), (261, bv true)] (n := 276) rfl (by kernel_rfl) (by kernel_rfl)) ?_
 refine t_condT rfl ?_
 refine tri_seq ?_
 refine tri_region ?_
 refine t_op rfl (sp_assign (.const (.int .i64 1)) (iv 1) rfl) ⟨.inl rfl, trivial⟩ trivial trivial ?_
 refine tri_nil ?_
 refine tri_wk (wk_keep [(1, .box 27 (cFm q)), (2, .box 76 (cRu q.rules[i]))] [(2, .box 1 0), (4, iv 1), (5, .box 2 0)] (n := 276) rfl (by kernel_rfl) (by kernel_rfl)) ?_
 refine t_then ?_
 refine tri_ret ?_
 refine t_then_ret ?_
 refine tri_end1 Tryd.results60 (.tmp rfl) ?_
 exact congrArg (fun x : Int => AV.v (.int .i64 x)) (Eq.trans ((((part_rest ⟨⟨⟨HRX, guardE_fin HG (by omega)⟩, hs27⟩, hs28⟩).trans (rest_6 hs35 hs36 hs37 hs38 hs39)).trans (by rw [hs44, orE_zero])).trans (diX_4 hs48)).symm (rruleE_part hs1 HNO hs10 hs17).symm)
 have hs48f : (dir4 q q.rules[i]) = false := by simpa using hs48
 rw [hs48f]
 refine tri_wk (wk_keep [(1, .box 27 (cFm q)), (2, .box 76 (cRu q.rules[i]))] [(2, .box 1 0), (5, .box 2 0), (261, bv false)] (n := 276) rfl (by kernel_rfl) (by kernel_rfl)) ?_
 refine t_condF rfl ?_
 refine tri_skip ?_
 refine t_then ?_
 refine tri_seq ?_
 refine tri_seq ?_
 refine t_cut (True) (ofL []) (ofT 276 [(275, bv (dirO q q.rules[i]))]) ?_ (fun _ => ?_)
 by_cases hs49 : q.rules[i].kind = 5
 by_cases hs50 : q.top = 4
 refine tri_region ?_
 refine t_op rfl (sp_fieldBox (off' := 1) (.tmp 5) rfl Tryd.underlying76 rfl (z := 1) (by kernel_rfl) (by decide) rfl) ⟨.inl rfl, trivial⟩ trivial trivial ?_
 refine t_op rfl (sp_loadBox1 (Y := .box 76 (cRu q.rules[i])) (X := iv q.rules[i].kind) (.tmp 262) rfl Tryd.underlying3 rfl rfl) ⟨.inl rfl, trivial⟩ ⟨rfl, trivial⟩ trivial ?_
 refine t_op rfl (sp_eql rfl (dT hs49)) ⟨.inl rfl, .inl rfl, trivial⟩ trivial trivial ?_
 refine t_op rfl (sp_move (.tmp 264) (bv true) rfl) ⟨.inl rfl, trivial⟩ trivial trivial ?_
 refine t_opG rfl (sp_fieldBox (off' := 1) (.tmp 2) rfl Tryd.underlying27 rfl (z := 1) (by kernel_rfl) (by decide) rfl) ⟨.inl rfl, trivial⟩ trivial trivial ?_
 refine t_opG rfl (sp_loadBox1 (Y := .box 27 (cFm q)) (X := iv q.top) (.tmp 266) rfl Tryd.underlying3 rfl rfl) ⟨.inl rfl, trivial⟩ ⟨rfl, trivial⟩ trivial ?_
 refine t_opG rfl (sp_neq rfl (dT' hs50)) ⟨.inl rfl, .inl rfl, trivial⟩ trivial trivial ?_
 refine t_op rfl (sp_pick (.tmp 265) (.tmp 268) (.const (.bool false)) true (bv false) (bv false) rfl) ⟨.inl rfl, .inl rfl, .inl rfl, trivial⟩ trivial trivial ?_
 refine t_op rfl (sp_move (.tmp 269) (bv false) rfl) ⟨.inl rfl, trivial⟩ trivial trivial ?_
 refine t_skip rfl ?_
 refine t_skip rfl ?_
 refine t_skip rfl ?_
 refine t_skip rfl ?_
 refine t_op rfl (sp_pick (.tmp 270) (.tmp 274) (.const (.bool false)) false (.v (.tuple #[])) (bv false) rfl) ⟨.inl rfl, .inl rfl, .inl rfl, trivial⟩ trivial trivial ?_
 refine tri_nil ?_
 refine tri_wk (wk_keep [] [(275, bv false)] (n := 276) rfl (by kernel_rfl) (by kernel_rfl)) ?_
 rw [show (dirO q q.rules[i]) = false by first | (simp [dirO, hs1, hs10, hs17, hs26, hs27, hs28, hs35, hs36, hs37, hs38, hs39, hs44, hs48f, hs49, hs50]; done) | (simp [dirO, inB, hs1, hs10, hs17, hs26, hs27, hs28, hs35, hs36, hs37, hs38, hs39, hs44, hs48f, hs49, hs50]; done)]
 exact t_meet trivial (wk_keep _ _ rfl (by kernel_rfl) (by kernel_rfl))
 by_cases hs51 : (inB 1 2 q.rules[i].dir) = true
 refine tri_region ?_
 refine t_op rfl (sp_fieldBox (off' := 1) (.tmp 5) rfl Tryd.underlying76 rfl (z := 1) (by kernel_rfl) (by decide) rfl) ⟨.inl rfl, trivial⟩ trivial trivial ?_
 refine t_op rfl (sp_loadBox1 (Y := .box 76 (cRu q.rules[i])) (X := iv q.rules[i].kind) (.tmp 262) rfl Tryd.underlying3 rfl rfl) ⟨.inl rfl, trivial⟩ ⟨rfl, trivial⟩ trivial ?_
 refine t_op rfl (sp_eql rfl (dT hs49)) ⟨.inl rfl, .inl rfl, trivial⟩ trivial trivial ?_
 refine t_op rfl (sp_move (.tmp 264) (bv true) rfl) ⟨.inl rfl, trivial⟩ trivial trivial ?_
 refine t_opG rfl (sp_fieldBox (off' := 1) (.tmp 2) rfl Tryd.underlying27 rfl (z := 1) (by kernel_rfl) (by decide) rfl) ⟨.inl rfl, trivial⟩ trivial trivial ?_
 refine t_opG rfl (sp_loadBox1 (Y := .box 27 (cFm q)) (X := iv q.top) (.tmp 266) rfl Tryd.underlying3 rfl rfl) ⟨.inl rfl, trivial⟩ ⟨rfl, trivial⟩ trivial ?_
 refine t_opG rfl (sp_neq rfl (dF' hs50)) ⟨.inl rfl, .inl rfl, trivial⟩ trivial trivial ?_
 refine t_op rfl (sp_pick (.tmp 265) (.tmp 268) (.const (.bool false)) true (bv true) (bv false) rfl) ⟨.inl rfl, .inl rfl, .inl rfl, trivial⟩ trivial trivial ?_
 refine t_op rfl (sp_move (.tmp 269) (bv true) rfl) ⟨.inl rfl, trivial⟩ trivial trivial ?_
 refine t_opG rfl (sp_fieldBox (off' := 17) (.tmp 5) rfl Tryd.underlying76 rfl (z := 1) (by kernel_rfl) (by decide) rfl) ⟨.inl rfl, trivial⟩ trivial trivial ?_
 refine t_opG rfl (sp_loadBox1 (Y := .box 76 (cRu q.rules[i])) (X := iv q.rules[i].dir) (.tmp 271) rfl Tryd.underlying3 rfl rfl) ⟨.inl rfl, trivial⟩ ⟨rfl, trivial⟩ trivial ?_
 refine t_opG rfl (sp_call (c := .func 56) (xs := #[.tmp 272, .const (.int .i64 1), .const (.int .i64 2)]) [] (ctr_b (within_c q.rules[i].dir 1 2) hs51) rfl (by kernel_rfl) rfl (Xs := [iv q.rules[i].dir, iv 1, iv 2]) rfl rfl rfl) ⟨.inl rfl, .inl rfl, .inl rfl, .inl rfl, trivial⟩ trivial trivial ?_
 refine t_opG rfl (sp_not rfl rfl) ⟨.inl rfl, trivial⟩ trivial trivial ?_
 refine t_op rfl (sp_pick (.tmp 270) (.tmp 274) (.const (.bool false)) true (bv false) (bv false) rfl) ⟨.inl rfl, .inl rfl, .inl rfl, trivial⟩ trivial trivial ?_
 refine tri_nil ?_
 refine tri_wk (wk_keep [] [(275, bv false)] (n := 276) rfl (by kernel_rfl) (by kernel_rfl)) ?_
 rw [show (dirO q q.rules[i]) = false by first | (simp [dirO, hs1, hs10, hs17, hs26, hs27, hs28, hs35, hs36, hs37, hs38, hs39, hs44, hs48f, hs49, hs50, hs51]; done) | (simp [dirO, inB, hs1, hs10, hs17, hs26, hs27, hs28, hs35, hs36, hs37, hs38, hs39, hs44, hs48f, hs49, hs50, hs51]; done)]
 exact t_meet trivial (wk_keep _ _ rfl (by kernel_rfl) (by kernel_rfl))
 have hs51f : (inB 1 2 q.rules[i].dir) = false := by simpa using hs51
 refine tri_region ?_
 refine t_op rfl (sp_fieldBox (off' := 1) (.tmp 5) rfl Tryd.underlying76 rfl (z := 1) (by kernel_rfl) (by decide) rfl) ⟨.inl rfl, trivial⟩ trivial trivial ?_
 refine t_op rfl (sp_loadBox1 (Y := .box 76 (cRu q.rules[i])) (X := iv q.rules[i].kind) (.tmp 262) rfl Tryd.underlying3 rfl rfl) ⟨.inl rfl, trivial⟩ ⟨rfl, trivial⟩ trivial ?_
 refine t_op rfl (sp_eql rfl (dT hs49)) ⟨.inl rfl, .inl rfl, trivial⟩ trivial trivial ?_
 refine t_op rfl (sp_move (.tmp 264) (bv true) rfl) ⟨.inl rfl, trivial⟩ trivial trivial ?_
 refine t_opG rfl (sp_fieldBox (off' := 1) (.tmp 2) rfl Tryd.underlying27 rfl (z := 1) (by kernel_rfl) (by decide) rfl) ⟨.inl rfl, trivial⟩ trivial trivial ?_
 refine t_opG rfl (sp_loadBox1 (Y := .box 27 (cFm q)) (X := iv q.top) (.tmp 266) rfl Tryd.underlying3 rfl rfl) ⟨.inl rfl, trivial⟩ ⟨rfl, trivial⟩ trivial ?_
 refine t_opG rfl (sp_neq rfl (dF' hs50)) ⟨.inl rfl, .inl rfl, trivial⟩ trivial trivial ?_
 refine t_op rfl (sp_pick (.tmp 265) (.tmp 268) (.const (.bool false)) true (bv true) (bv false) rfl) ⟨.inl rfl, .inl rfl, .inl rfl, trivial⟩ trivial trivial ?_
 refine t_op rfl (sp_move (.tmp 269) (bv true) rfl) ⟨.inl rfl, trivial⟩ trivial trivial ?_
 refine t_opG rfl (sp_fieldBox (off' := 17) (.tmp 5) rfl Tryd.underlying76 rfl (z := 1) (by kernel_rfl) (by decide) rfl) ⟨.inl rfl, trivial⟩ trivial trivial ?_
 refine t_opG rfl (sp_loadBox1 (Y := .box 76 (cRu q.rules[i])) (X := iv q.rules[i].dir) (.tmp 271) rfl Tryd.underlying3 rfl rfl) ⟨.inl rfl, trivial⟩ ⟨rfl, trivial⟩ trivial ?_
 refine t_opG rfl (sp_call (c := .func 56) (xs := #[.tmp 272, .const (.int .i64 1), .const (.int .i64 2)]) [] (ctr_b (within_c q.rules[i].dir 1 2) hs51f) rfl (by kernel_rfl) rfl (Xs := [iv q.rules[i].dir, iv 1, iv 2]) rfl rfl rfl) ⟨.inl rfl, .inl rfl, .inl rfl, .inl rfl, trivial⟩ trivial trivial ?_
 refine t_opG rfl (sp_not rfl rfl) ⟨.inl rfl, trivial⟩ trivial trivial ?_
 refine t_op rfl (sp_pick (.tmp 270) (.tmp 274) (.const (.bool false)) true (bv true) (bv false) rfl) ⟨.inl rfl, .inl rfl, .inl rfl, trivial⟩ trivial trivial ?_
 refine tri_nil ?_
 refine tri_wk (wk_keep [] [(275, bv true)] (n := 276) rfl (by kernel_rfl) (by kernel_rfl)) ?_
 rw [show (dirO q q.rules[i]) = true by first | (simp [dirO, hs1, hs10, hs17, hs26, hs27, hs28, hs35, hs36, hs37, hs38, hs39, hs44, hs48f, hs49, hs50, hs51f]; done) | (simp [dirO, inB, hs1, hs10, hs17, hs26, hs27, hs28, hs35, hs36, hs37, hs38, hs39, hs44, hs48f, hs49, hs50, hs51f]; done)]
 exact t_meet trivial (wk_keep _ _ rfl (by kernel_rfl) (by kernel_rfl))
 refine tri_region ?_
 refine t_op rfl (sp_fieldBox (off' := 1) (.tmp 5) rfl Tryd.underlying76 rfl (z := 1) (by kernel_rfl) (by decide) rfl) ⟨.inl rfl, trivial⟩ trivial trivial ?_
 refine t_op rfl (sp_loadBox1 (Y := .box 76 (cRu q.rules[i])) (X := iv q.rules[i].kind) (.tmp 262) rfl Tryd.underlying3 rfl rfl) ⟨.inl rfl, trivial⟩ ⟨rfl, trivial⟩ trivial ?_
 refine t_op rfl (sp_eql rfl (dF hs49)) ⟨.inl rfl, .inl rfl, trivial⟩ trivial trivial ?_
 refine t_op rfl (sp_move (.tmp 264) (bv false) rfl) ⟨.inl rfl, trivial⟩ trivial trivial ?_
 refine t_skip rfl ?_
 refine t_skip rfl ?_
 refine t_skip rfl ?_
 refine t_op rfl (sp_pick (.tmp 265) (.tmp 268) (.const (.bool false)) false (.v (.tuple #[])) (bv false) rfl) ⟨.inl rfl, .inl rfl, .inl rfl, trivial⟩ trivial trivial ?_
 refine t_op rfl (sp_move (.tmp 269) (bv false) rfl) ⟨.inl rfl, trivial⟩ trivial trivial ?_
 refine t_skip rfl ?_
 refine t_skip rfl ?_
 refine t_skip rfl ?_
 refine t_skip rfl ?_
 refine t_op rfl (sp_pick (.tmp 270) (.tmp 274) (.const (.bool false)) false (.v (.tuple #[])) (bv false) rfl) ⟨.inl rfl, .inl rfl, .inl rfl, trivial⟩ trivial trivial ?_
 refine tri_nil ?_
 refine tri_wk (wk_keep [] [(275, bv false)] (n := 276) rfl (by kernel_rfl) (by kernel_rfl)) ?_
 rw [show (dirO q q.rules[i]) = false by first | (simp [dirO, hs1, hs10, hs17, hs26, hs27, hs28, hs35, hs36, hs37, hs38, hs39, hs44, hs48f, hs49]; done) | (simp [dirO, inB, hs1, hs10, hs17, hs26, hs27, hs28, hs35, hs36, hs37, hs38, hs39, hs44, hs48f, hs49]; done)]
 exact t_meet trivial (wk_keep _ _ rfl (by kernel_rfl) (by kernel_rfl))
 refine t_then ?_
 by_cases hs52 : (dirO q q.rules[i]) = true
 rw [hs52]
 refine tri_wk (wk_keep [] [(275, bv true)] (n := 276) rfl (by kernel_rfl) (by kernel_rfl)) ?_
 refine t_condT rfl ?_
 refine tri_seq ?_
 refine tri_region ?_
 refine t_op rfl (sp_assign (.const (.int .i64 1)) (iv 1) rfl) ⟨.inl rfl, trivial⟩ trivial trivial ?_
 refine tri_nil ?_
 refine tri_wk (wk_keep [] [(4, iv 1)] (n := 276) rfl (by kernel_rfl) (by kernel_rfl)) ?_
 refine t_then ?_
 refine tri_ret ?_
 refine t_then_ret ?_
 refine tri_end1 Tryd.results60 (.tmp rfl) ?_
 exact congrArg (fun x : Int => AV.v (.int .i64 x)) (Eq.trans ((((part_rest ⟨⟨⟨HRX, guardE_fin HG (by omega)⟩, hs27⟩, hs28⟩).trans (rest_6 hs35 hs36 hs37 hs38 hs39)).trans (by rw [hs44, orE_zero])).trans (diX_O hs52)).symm (rruleE_part hs1 HNO hs10 hs17).symm)
 have hs52f : (dirO q q.rules[i]) = false := by simpa using hs52
 rw [hs52f]
 refine tri_wk (wk_keep [] [(275, bv false)] (n := 276) rfl (by kernel_rfl) (by kernel_rfl)) ?_
 refine t_condF rfl ?_
 refine tri_skip ?_
 refine t_then ?_
 refine tri_seq ?_
 refine tri_region ?_
 refine t_op rfl (sp_assign (.const (.int .i64 0)) (iv 0) rfl) ⟨.inl rfl, trivial⟩ trivial trivial ?_
 refine tri_nil ?_
 refine tri_wk (wk_keep [] [(4, iv 0)] (n := 276) rfl (by kernel_rfl) (by kernel_rfl)) ?_
 refine t_then ?_
 refine tri_ret ?_
 refine tri_end1 Tryd.results60 (.tmp rfl) ?_
 exact congrArg (fun x : Int => AV.v (.int .i64 x)) (Eq.trans ((((part_rest ⟨⟨⟨HRX, guardE_fin HG (by omega)⟩, hs27⟩, hs28⟩).trans (rest_6 hs35 hs36 hs37 hs38 hs39)).trans (by rw [hs44, orE_zero])).trans (diX_0 hs48f hs52f)).symm (rruleE_part hs1 HNO hs10 hs17).symm)
 rw [dF hs44]
 refine tri_wk (wk_keep [(1, .box 27 (cFm q)), (2, .box 76 (cRu q.rules[i]))] [(2, .box 1 0), (5, .box 2 0), (247, bv true)] (n := 276) rfl (by kernel_rfl) (by kernel_rfl)) ?_
 refine t_condT rfl ?_
 refine tri_seq ?_
 refine tri_region ?_
 refine t_op rfl (sp_assign (.const (.int .i64 1)) (iv 1) rfl) ⟨.inl rfl, trivial⟩ trivial trivial ?_
 refine tri_nil ?_
 refine tri_wk (wk_keep [(1, .box 27 (cFm q)), (2, .box 76 (cRu q.rules[i]))] [(2, .box 1 0), (4, iv 1), (5, .box 2 0)] (n := 276) rfl (by kernel_rfl) (by kernel_rfl)) ?_
 refine t_then ?_
 refine tri_ret ?_
 refine t_then_ret ?_
 refine tri_end1 Tryd.results60 (.tmp rfl) ?_
 exact congrArg (fun x : Int => AV.v (.int .i64 x)) (Eq.trans (((part_rest ⟨⟨⟨HRX, guardE_fin HG (by omega)⟩, hs27⟩, hs28⟩).trans (rest_6 hs35 hs36 hs37 hs38 hs39)).trans ((orE_ne _ hs44).trans (poX_one hs44))).symm (rruleE_part hs1 HNO hs10 hs17).symm)
 refine tri_region ?_
 refine t_op rfl (sp_move (.tmp 17) (iv (setE q.states.length q.rules[i].parent)) rfl) ⟨.inl rfl, trivial⟩ trivial trivial ?_
 refine t_op rfl (sp_neq rfl (dF' hs39)) ⟨.inl rfl, .inl rfl, trivial⟩ trivial trivial ?_
 refine tri_nil ?_
 refine tri_wk (wk_keep [(1, .box 27 (cFm q)), (2, .box 76 (cRu q.rules[i]))] [(2, .box 1 0), (5, .box 2 0), (17, iv (setE q.states.length q.rules[i].parent)), (227, bv true)] (n := 276) rfl (by kernel_rfl) (by kernel_rfl)) ?_
 refine t_then ?_
 refine t_condT rfl ?_
 refine tri_seq ?_
 refine tri_region ?_
 refine t_op rfl (sp_move (.tmp 17) (iv (setE q.states.length q.rules[i].parent)) rfl) ⟨.inl rfl, trivial⟩ trivial trivial ?_
 refine t_op rfl (sp_assign (.tmp 228) (iv (setE q.states.length q.rules[i].parent)) rfl) ⟨.inl rfl, trivial⟩ trivial trivial ?_
 refine tri_nil ?_
 refine tri_wk (wk_keep [(1, .box 27 (cFm q)), (2, .box 76 (cRu q.rules[i]))] [(2, .box 1 0), (4, iv (setE q.states.length q.rules[i].parent)), (5, .box 2 0)] (n := 276) rfl (by kernel_rfl) (by kernel_rfl)) ?_
 refine t_then ?_
 refine tri_ret ?_
 refine t_then_ret ?_
 refine tri_end1 Tryd.results60 (.tmp rfl) ?_
 exact congrArg (fun x : Int => AV.v (.int .i64 x)) (Eq.trans ((part_rest ⟨⟨⟨HRX, guardE_fin HG (by omega)⟩, hs27⟩, hs28⟩).trans (rest_5 hs35 hs36 hs37 hs38 hs39)).symm (rruleE_part hs1 HNO hs10 hs17).symm)
 refine tri_region ?_
 refine t_op rfl (sp_move (.tmp 16) (iv (setE q.states.length q.rules[i].right)) rfl) ⟨.inl rfl, trivial⟩ trivial trivial ?_
 refine t_op rfl (sp_neq rfl (dF' hs38)) ⟨.inl rfl, .inl rfl, trivial⟩ trivial trivial ?_
 refine tri_nil ?_
 refine tri_wk (wk_keep [(1, .box 27 (cFm q)), (2, .box 76 (cRu q.rules[i]))] [(2, .box 1 0), (5, .box 2 0), (6, iv q.states.length), (16, iv (setE q.states.length q.rules[i].right)), (220, bv true)] (n := 276) rfl (by kernel_rfl) (by kernel_rfl)) ?_
 refine t_then ?_
 refine t_condT rfl ?_
 refine tri_seq ?_
 refine tri_region ?_
 refine t_op rfl (sp_move (.tmp 16) (iv (setE q.states.length q.rules[i].right)) rfl) ⟨.inl rfl, trivial⟩ trivial trivial ?_
 refine t_op rfl (sp_assign (.tmp 221) (iv (setE q.states.length q.rules[i].right)) rfl) ⟨.inl rfl, trivial⟩ trivial trivial ?_
 refine tri_nil ?_
 refine tri_wk (wk_keep [(1, .box 27 (cFm q)), (2, .box 76 (cRu q.rules[i]))] [(2, .box 1 0), (4, iv (setE q.states.length q.rules[i].right)), (5, .box 2 0), (6, iv q.states.length)] (n := 276) rfl (by kernel_rfl) (by kernel_rfl)) ?_
 refine t_then ?_
 refine tri_ret ?_
 refine t_then_ret ?_
 refine tri_end1 Tryd.results60 (.tmp rfl) ?_
 exact congrArg (fun x : Int => AV.v (.int .i64 x)) (Eq.trans ((part_rest ⟨⟨⟨HRX, guardE_fin HG (by omega)⟩, hs27⟩, hs28⟩).trans (rest_4 hs35 hs36 hs37 hs38)).symm (rruleE_part hs1 HNO hs10 hs17).symm)
 refine tri_region ?_
 refine t_op rfl (sp_move (.tmp 15) (iv (setE q.states.length q.rules[i].left)) rfl) ⟨.inl rfl, trivial⟩ trivial trivial ?_
 refine t_op rfl (sp_neq rfl (dF' hs37)) ⟨.inl rfl, .inl rfl, trivial⟩ trivial trivial ?_
 refine tri_nil ?_
 refine tri_wk (wk_keep [(1, .box 27 (cFm q)), (2, .box 76 (cRu q.rules[i]))] [(2, .box 1 0), (5, .box 2 0), (6, iv q.states.length), (15, iv (setE q.states.length q.rules[i].left)), (213, bv true)] (n := 276) rfl (by kernel_rfl) (by kernel_rfl)) ?_
 refine t_then ?_
 refine t_condT rfl ?_
 refine tri_seq ?_
 refine tri_region ?_
 refine t_op rfl (sp_move (.tmp 15) (iv (setE q.states.length q.rules[i].left)) rfl) ⟨.inl rfl, trivial⟩ trivial trivial ?_
 refine t_op rfl (sp_assign (.tmp 214) (iv (setE q.states.length q.rules[i].left)) rfl) ⟨.inl rfl, trivial⟩ trivial trivial ?_
 refine tri_nil ?_
 refine tri_wk (wk_keep [(1, .box 27 (cFm q)), (2, .box 76 (cRu q.rules[i]))] [(2, .box 1 0), (4, iv (setE q.states.length q.rules[i].left)), (5, .box 2 0), (6, iv q.states.length)] (n := 276) rfl (by kernel_rfl) (by kernel_rfl)) ?_
 refine t_then ?_
 refine tri_ret ?_
 refine t_then_ret ?_
 refine tri_end1 Tryd.results60 (.tmp rfl) ?_
 exact congrArg (fun x : Int => AV.v (.int .i64 x)) (Eq.trans ((part_rest ⟨⟨⟨HRX, guardE_fin HG (by omega)⟩, hs27⟩, hs28⟩).trans (rest_3 hs35 hs36 hs37)).symm (rruleE_part hs1 HNO hs10 hs17).symm)
 refine tri_region ?_
 refine t_op rfl (sp_move (.tmp 14) (iv (setE q.msgs.length q.rules[i].send)) rfl) ⟨.inl rfl, trivial⟩ trivial trivial ?_
 refine t_op rfl (sp_neq rfl (dF' hs36)) ⟨.inl rfl, .inl rfl, trivial⟩ trivial trivial ?_
 refine tri_nil ?_
 refine tri_wk (wk_keep [(1, .box 27 (cFm q)), (2, .box 76 (cRu q.rules[i]))] [(2, .box 1 0), (5, .box 2 0), (6, iv q.states.length), (14, iv (setE q.msgs.length q.rules[i].send)), (206, bv true)] (n := 276) rfl (by kernel_rfl) (by kernel_rfl)) ?_
 refine t_then ?_
 refine t_condT rfl ?_
 refine tri_seq ?_
 refine tri_region ?_
 refine t_op rfl (sp_move (.tmp 14) (iv (setE q.msgs.length q.rules[i].send)) rfl) ⟨.inl rfl, trivial⟩ trivial trivial ?_
 refine t_op rfl (sp_assign (.tmp 207) (iv (setE q.msgs.length q.rules[i].send)) rfl) ⟨.inl rfl, trivial⟩ trivial trivial ?_
 refine tri_nil ?_
 refine tri_wk (wk_keep [(1, .box 27 (cFm q)), (2, .box 76 (cRu q.rules[i]))] [(2, .box 1 0), (4, iv (setE q.msgs.length q.rules[i].send)), (5, .box 2 0), (6, iv q.states.length)] (n := 276) rfl (by kernel_rfl) (by kernel_rfl)) ?_
 refine t_then ?_
 refine tri_ret ?_
 refine t_then_ret ?_
 refine tri_end1 Tryd.results60 (.tmp rfl) ?_
 exact congrArg (fun x : Int => AV.v (.int .i64 x)) (Eq.trans ((part_rest ⟨⟨⟨HRX, guardE_fin HG (by omega)⟩, hs27⟩, hs28⟩).trans (rest_2 hs35 hs36)).symm (rruleE_part hs1 HNO hs10 hs17).symm)
 rw [dF hs35]
 refine tri_wk (wk_keep [(1, .box 27 (cFm q)), (2, .box 76 (cRu q.rules[i]))] [(2, .box 1 0), (5, .box 2 0), (6, iv q.states.length), (198, bv true)] (n := 276) rfl (by kernel_rfl) (by kernel_rfl)) ?_
 refine t_condT rfl ?_
 refine tri_seq ?_
 refine tri_region ?_
 refine t_op rfl (sp_assign (.const (.int .i64 5)) (iv 5) rfl) ⟨.inl rfl, trivial⟩ trivial trivial ?_
 refine tri_nil ?_
 refine tri_wk (wk_keep [(1, .box 27 (cFm q)), (2, .box 76 (cRu q.rules[i]))] [(2, .box 1 0), (4, iv 5), (5, .box 2 0), (6, iv q.states.length)] (n := 276) rfl (by kernel_rfl) (by kernel_rfl)) ?_
 refine t_then ?_
 refine tri_ret ?_
 refine t_then_ret ?_
 refine tri_end1 Tryd.results60 (.tmp rfl) ?_
 exact congrArg (fun x : Int => AV.v (.int .i64 x)) (Eq.trans ((part_rest ⟨⟨⟨HRX, guardE_fin HG (by omega)⟩, hs27⟩, hs28⟩).trans ((rest_1 hs35).trans (shE_five hs35))).symm (rruleE_part hs1 HNO hs10 hs17).symm)
 refine tri_region ?_
 refine t_op rfl (sp_move (.tmp 13) (iv (setE q.states.length q.rules[i].fa)) rfl) ⟨.inl rfl, trivial⟩ trivial trivial ?_
 refine t_op rfl (sp_neq rfl (dF' hs28)) ⟨.inl rfl, .inl rfl, trivial⟩ trivial trivial ?_
 refine tri_nil ?_
 refine tri_wk (wk_keep [(1, .box 27 (cFm q)), (2, .box 76 (cRu q.rules[i]))] [(2, .box 1 0), (5, .box 2 0), (6, iv q.states.length), (13, iv (setE q.states.length q.rules[i].fa)), (169, bv true)] (n := 276) rfl (by kernel_rfl) (by kernel_rfl)) ?_
 refine t_then ?_
 refine t_condT rfl ?_
 refine tri_seq ?_
 refine tri_region ?_
 refine t_op rfl (sp_move (.tmp 13) (iv (setE q.states.length q.rules[i].fa)) rfl) ⟨.inl rfl, trivial⟩ trivial trivial ?_
 refine t_op rfl (sp_assign (.tmp 170) (iv (setE q.states.length q.rules[i].fa)) rfl) ⟨.inl rfl, trivial⟩ trivial trivial ?_
 refine tri_nil ?_
 refine tri_wk (wk_keep [(1, .box 27 (cFm q)), (2, .box 76 (cRu q.rules[i]))] [(2, .box 1 0), (4, iv (setE q.states.length q.rules[i].fa)), (5, .box 2 0), (6, iv q.states.length)] (n := 276) rfl (by kernel_rfl) (by kernel_rfl)) ?_
 refine t_then ?_
 refine tri_ret ?_
 refine t_then_ret ?_
 refine tri_end1 Tryd.results60 (.tmp rfl) ?_
 exact congrArg (fun x : Int => AV.v (.int .i64 x)) (Eq.trans (part_4 ⟨⟨HRX, guardE_fin HG (by omega)⟩, hs27⟩ hs28).symm (rruleE_part hs1 HNO hs10 hs17).symm)
 refine tri_region ?_
 refine t_op rfl (sp_move (.tmp 12) (iv (setE q.states.length q.rules[i].ex)) rfl) ⟨.inl rfl, trivial⟩ trivial trivial ?_
 refine t_op rfl (sp_neq rfl (dF' hs27)) ⟨.inl rfl, .inl rfl, trivial⟩ trivial trivial ?_
 refine tri_nil ?_
 refine tri_wk (wk_keep [(1, .box 27 (cFm q)), (2, .box 76 (cRu q.rules[i]))] [(2, .box 1 0), (5, .box 2 0), (6, iv q.states.length), (12, iv (setE q.states.length q.rules[i].ex)), (162, bv true)] (n := 276) rfl (by kernel_rfl) (by kernel_rfl)) ?_
 refine t_then ?_
 refine t_condT rfl ?_
 refine tri_seq ?_
 refine tri_region ?_
 refine t_op rfl (sp_move (.tmp 12) (iv (setE q.states.length q.rules[i].ex)) rfl) ⟨.inl rfl, trivial⟩ trivial trivial ?_
 refine t_op rfl (sp_assign (.tmp 163) (iv (setE q.states.length q.rules[i].ex)) rfl) ⟨.inl rfl, trivial⟩ trivial trivial ?_
 refine tri_nil ?_
 refine tri_wk (wk_keep [(1, .box 27 (cFm q)), (2, .box 76 (cRu q.rules[i]))] [(2, .box 1 0), (4, iv (setE q.states.length q.rules[i].ex)), (5, .box 2 0), (6, iv q.states.length)] (n := 276) rfl (by kernel_rfl) (by kernel_rfl)) ?_
 refine t_then ?_
 refine tri_ret ?_
 refine t_then_ret ?_
 refine tri_end1 Tryd.results60 (.tmp rfl) ?_
 exact congrArg (fun x : Int => AV.v (.int .i64 x)) (Eq.trans (part_3 ⟨HRX, guardE_fin HG (by omega)⟩ hs27).symm (rruleE_part hs1 HNO hs10 hs17).symm)
 have hs17f : (rstB q.rules[i] q.states.length) = false := by simpa using hs17
 rw [hs17f]
 refine tri_wk (wk_keep [(1, .box 27 (cFm q)), (2, .box 76 (cRu q.rules[i]))] [(2, .box 1 0), (5, .box 2 0), (6, iv q.states.length), (102, bv true)] (n := 276) rfl (by kernel_rfl) (by kernel_rfl)) ?_
 refine t_condT rfl ?_
 refine tri_seq ?_
 refine tri_region ?_
 refine t_op rfl (sp_assign (.const (.int .i64 5)) (iv 5) rfl) ⟨.inl rfl, trivial⟩ trivial trivial ?_
 refine tri_nil ?_
 refine tri_wk (wk_keep [(1, .box 27 (cFm q)), (2, .box 76 (cRu q.rules[i]))] [(2, .box 1 0), (4, iv 5), (5, .box 2 0), (6, iv q.states.length)] (n := 276) rfl (by kernel_rfl) (by kernel_rfl)) ?_
 refine t_then ?_
 refine tri_ret ?_
 refine t_then_ret ?_
 refine tri_end1 Tryd.results60 (.tmp rfl) ?_
 exact congrArg (fun x : Int => AV.v (.int .i64 x)) ((rruleE_state hs1 HNO hs10 hs17f).symm)
 have hs10f : (rkindB q.rules[i] q.top) = false := by simpa using hs10
 rw [hs10f]
 refine tri_wk (wk_keep [(1, .box 27 (cFm q)), (2, .box 76 (cRu q.rules[i]))] [(2, .box 1 0), (5, .box 2 0), (6, iv q.states.length), (61, bv true)] (n := 276) rfl (by kernel_rfl) (by kernel_rfl)) ?_
 refine t_condT rfl ?_
 refine tri_seq ?_
 refine tri_region ?_
 refine t_op rfl (sp_assign (.const (.int .i64 6)) (iv 6) rfl) ⟨.inl rfl, trivial⟩ trivial trivial ?_
 refine tri_nil ?_
 refine tri_wk (wk_keep [(1, .box 27 (cFm q)), (2, .box 76 (cRu q.rules[i]))] [(2, .box 1 0), (4, iv 6), (5, .box 2 0), (6, iv q.states.length)] (n := 276) rfl (by kernel_rfl) (by kernel_rfl)) ?_
 refine t_then ?_
 refine tri_ret ?_
 refine t_then_ret ?_
 refine tri_end1 Tryd.results60 (.tmp rfl) ?_
 exact congrArg (fun x : Int => AV.v (.int .i64 x)) ((rruleE_kind hs1 HNO hs10f).symm)
 have hs1f : (nameB q.rules[i].nm.toList) = false := by simpa using hs1
 refine tri_region ?_
 refine t_op rfl (sp_fieldBox (off' := 0) (.tmp 5) rfl Tryd.underlying76 rfl (z := 1) (by kernel_rfl) (by decide) rfl) ⟨.inl rfl, trivial⟩ trivial trivial ?_
 refine t_op rfl (sp_loadBox1 (Y := .box 76 (cRu q.rules[i])) (X := sv q.rules[i].nm) (.tmp 26) rfl Tryd.underlying9 rfl rfl) ⟨.inl rfl, trivial⟩ ⟨rfl, trivial⟩ trivial ?_
 refine t_op rfl (sp_call (c := .func 55) (xs := #[.tmp 27]) [] (ctr_b (rValidName_c q.rules[i].nm HR.nm) hs1f) rfl (by kernel_rfl) rfl (Xs := [sv q.rules[i].nm]) rfl rfl rfl) ⟨.inl rfl, .inl rfl, trivial⟩ trivial trivial ?_
 refine t_op rfl (sp_not rfl rfl) ⟨.inl rfl, trivial⟩ trivial trivial ?_
 refine tri_nil ?_
 refine tri_wk (wk_keep [(1, .box 27 (cFm q)), (2, .box 76 (cRu q.rules[i]))] [(1, iv i), (2, .box 1 0), (4, iv 0), (5, .box 2 0), (6, iv q.states.length), (29, bv true)] (n := 276) rfl (by kernel_rfl) (by kernel_rfl)) ?_
 refine t_then ?_
 refine t_condT rfl ?_
 refine tri_seq ?_
 refine tri_region ?_
 refine t_op rfl (sp_assign (.const (.int .i64 2)) (iv 2) rfl) ⟨.inl rfl, trivial⟩ trivial trivial ?_
 refine tri_nil ?_
 refine tri_wk (wk_keep [(1, .box 27 (cFm q)), (2, .box 76 (cRu q.rules[i]))] [(1, iv i), (2, .box 1 0), (4, iv 2), (5, .box 2 0), (6, iv q.states.length)] (n := 276) rfl (by kernel_rfl) (by kernel_rfl)) ?_
 refine t_then ?_
 refine tri_ret ?_
 refine t_then_ret ?_
 refine tri_end1 Tryd.results60 (.tmp rfl) ?_
 exact congrArg (fun x : Int => AV.v (.int .i64 x)) ((rruleE_nm (.inl hs1f)).symm)
end Go.Proofs.YtmpbfdfjcfanoaaDoor

/-
  PLAIN MATHEMATICS OF Validate OF THE REFERENCE, and two elder contracts in the new form.
-/
namespace Go.Proofs.YtmpbfdfjcfanoaaDoor
open Go.RowKit Go.Deep
variable {J : World → Prop}
def nmA (q : Fm) : List ByteArray := q.states ++ (q.msgs ++ q.vals)
theorem nmA_len (q : Fm) : (nmA q).length = 0 + q.states.length + q.msgs.length + q.vals.length := by unfold nmA; simp; omega
theorem nmA_map (q : Fm) : (q.states ++ q.msgs).map sv ++ q.vals.map sv = (nmA q).map sv := by unfold nmA; simp
def argB (q : Fm) : Bool := !inB 1 4 q.top || !inB 0 3 q.fault
def tooI (q : Fm) : Bool := (((decide ((6 : Int) < ((q.states.length : Nat) : Int)) || decide ((3 : Int) < ((q.msgs.length : Nat) : Int))) || decide ((3 : Int) < ((q.vals.length : Nat) : Int))) || decide ((4 : Int) < ((q.res.length : Nat) : Int))) || decide ((8 : Int) < ((q.rules.length : Nat) : Int))
theorem dec_iff {p p' : Prop} [Decidable p] [Decidable p'] (h : p ↔ p') : decide p = decide p' := by simp [h]
theorem tooI_eq (q : Fm) : tooI q = tooB q := by
  rw [Bool.eq_iff_iff]
  unfold tooI tooB
  simp only [Bool.or_eq_true, decide_eq_true_eq]
  omega
theorem tooI_no {q : Fm} (h : tooI q = false) : q.states.length ≤ 6 ∧ q.msgs.length ≤ 3 ∧ q.vals.length ≤ 3 ∧ q.res.length ≤ 4 ∧ q.rules.length ≤ 8 := by
  unfold tooI at h
  simp only [Bool.or_eq_false_iff, decide_eq_false_iff_not] at h
  omega
def misB (q : Fm) : Bool := (!decide (q.top = 1) && (((decide ((0 : Int) < ((q.msgs.length : Nat) : Int)) || decide ((0 : Int) < ((q.vals.length : Nat) : Int))) || decide ((0 : Int) < ((q.res.length : Nat) : Int))) || !decide (q.fault = 0))) || (decide (q.top = 1) && decide ((0 : Int) < ((q.leader.length : Nat) : Int)))
theorem misB_iff (q : Fm) : misB q = true ↔ ((q.top ≠ 1 ∧ cliB q = true) ∨ (q.top = 1 ∧ 0 < q.leader.length)) := by
  unfold misB cliB
  simp only [Bool.or_eq_true, Bool.and_eq_true, Bool.not_eq_true', decide_eq_true_eq, decide_eq_false_iff_not]
  omega
def resB2 (q : Fm) (k : Nat) : Bool := (q.res.take k).any fun l => !smL l.c l.n l.t l.f
theorem resB2_succ {q : Fm} {k : Nat} (hk : k < q.res.length) (h : resB2 q k = false) (e : smL q.res[k].c q.res[k].n q.res[k].t q.res[k].f = true) : resB2 q (k + 1) = false := by
  unfold resB2 at *
  rw [List.take_succ_eq_append_getElem hk, List.any_append, h]; simp [e]
theorem resB2_yes {q : Fm} {k : Nat} (hk : k < q.res.length) (e : smL q.res[k].c q.res[k].n q.res[k].t q.res[k].f = false) : resB2 q q.res.length = true := by
  unfold resB2; rw [List.take_length, List.any_eq_true]; exact ⟨q.res[k], List.getElem_mem hk, by rw [e]; rfl⟩
structure VA (q : Fm) : Prop where
  nm : nameB q.nm.toList = true
  ar : argB q = false
  st : ¬ (((q.states.length : Nat) : Int) = 0)
  tb : tooI q = false
def val3 (q : Fm) : Int := orE (if q.init.length = 0 then 1 else setE q.states.length q.init) (orE (setE q.states.length q.leader) (orE (rulesE q 0 q.rules.length) (if 3 < (diffG q.rules).length then 4 else 0)))
def val2 (q : Fm) : Int := if nmOk (nmA q) (nmA q).length = false then 2 else if misB q = true then 1 else if resB2 q q.res.length = true then 4 else val3 q
theorem argB_t {q : Fm} (h : argB q = true) : inB 1 4 q.top = false ∨ inB 0 3 q.fault = false := by
  unfold argB at h; simpa using h
theorem argB_f {q : Fm} (h : argB q = false) : ¬ (inB 1 4 q.top = false ∨ inB 0 3 q.fault = false) := by
  unfold argB at h; simpa using h
theorem valE_nm {q : Fm} (h : nameB q.nm.toList = false) : valE q = 2 := if_pos h
theorem valE_ar {q : Fm} (h : nameB q.nm.toList = true) (h2 : argB q = true) : valE q = 1 := by
  unfold valE; rw [if_neg (by rw [h]; simp), if_pos (argB_t h2)]
theorem valE_st {q : Fm} (h : nameB q.nm.toList = true) (h2 : argB q = false) (h3 : ((q.states.length : Nat) : Int) = 0) : valE q = 1 := by
  unfold valE; rw [if_neg (by rw [h]; simp), if_neg (argB_f h2), if_pos (by omega)]
theorem valE_tb {q : Fm} (h : nameB q.nm.toList = true) (h2 : argB q = false) (h3 : ¬ (((q.states.length : Nat) : Int) = 0)) (h4 : tooI q = true) : valE q = 4 := by
  unfold valE; rw [if_neg (by rw [h]; simp), if_neg (argB_f h2), if_neg (by omega), if_pos (by rw [← tooI_eq]; exact h4)]
theorem valE_2 {q : Fm} (h : VA q) : valE q = val2 q := by
  unfold valE val2
  rw [if_neg (by rw [h.nm]; simp), if_neg (argB_f h.ar), if_neg (by have := h.st; omega), if_neg (by rw [← tooI_eq, h.tb]; simp)]
  have e : resB2 q q.res.length = (q.res.any fun l => !smL l.c l.n l.t l.f) := by unfold resB2; rw [List.take_length]
  rw [e]
  by_cases m : misB q = true
  · rw [if_pos m, if_pos ((misB_iff q).1 m)]; rfl
  · rw [if_neg m, if_neg (fun k => m ((misB_iff q).2 k))]; rfl
theorem val2_nm {q : Fm} (h : nmOk (nmA q) (nmA q).length = false) : val2 q = 2 := if_pos h
theorem val2_mis {q : Fm} (h : nmOk (nmA q) (nmA q).length = true) (h2 : misB q = true) : val2 q = 1 := by
  unfold val2; rw [if_neg (by rw [h]; simp), if_pos h2]
theorem val2_res {q : Fm} (h : nmOk (nmA q) (nmA q).length = true) (h2 : misB q = false) (h3 : resB2 q q.res.length = true) : val2 q = 4 := by
  unfold val2; rw [if_neg (by rw [h]; simp), if_neg (by rw [h2]; simp), if_pos h3]
theorem val2_3 {q : Fm} (h : nmOk (nmA q) (nmA q).length = true) (h2 : misB q = false) (h3 : resB2 q q.res.length = false) : val2 q = val3 q := by
  unfold val2; rw [if_neg (by rw [h]; simp), if_neg (by rw [h2]; simp), if_neg (by rw [h3]; simp)]
theorem val3_i {q : Fm} (h : ¬ setE q.states.length q.init = 0) : val3 q = setE q.states.length q.init := by
  have : q.init.length ≠ 0 := by
    intro e; rw [List.eq_nil_of_length_eq_zero e, setE_nil] at h; exact h rfl
  unfold val3; rw [if_neg this, orE_ne _ h]
theorem val3_n {q : Fm} (h : ((q.init.length : Nat) : Int) = 0) : val3 q = 1 := by
  unfold val3; rw [if_pos (by omega), orE_ne _ (by omega)]
structure VC (q : Fm) : Prop where
  i : setE q.states.length q.init = 0
  n : ¬ (((q.init.length : Nat) : Int) = 0)
theorem val3_l {q : Fm} (h : VC q) (h2 : ¬ setE q.states.length q.leader = 0) : val3 q = setE q.states.length q.leader := by
  unfold val3; rw [if_neg (by have := h.n; omega), h.i, orE_zero, orE_ne _ h2]
/-- The first k rules are without an error. -/
def rulOk (q : Fm) (k : Nat) : Prop := ∀ i (h : i < q.rules.length), i < k → rruleE q i q.rules[i] = 0
theorem rulOk_zero (q : Fm) : rulOk q 0 := fun _ _ h => absurd h (by omega)
theorem rulOk_succ {q : Fm} {k : Nat} (hk : k < q.rules.length) (h : rulOk q k) (e : rruleE q k q.rules[k] = 0) : rulOk q (k + 1) := fun i hi h' => by
  by_cases x : i = k
  · subst x; exact e
  · exact h i hi (by omega)
theorem rulesE_first {q : Fm} : ∀ (f i j : Nat), i ≤ j → j < i + f → (∀ k, i ≤ k → k < j → ruleE q k (q.rules.getD k default) = 0) → ruleE q j (q.rules.getD j default) ≠ 0 → rulesE q i f = ruleE q j (q.rules.getD j default)
  | 0, i, j, h1, h2, _, _ => absurd h2 (by omega)
  | f + 1, i, j, h1, h2, h3, h4 => by
    unfold rulesE
    by_cases e : i = j
    · subst e; rw [if_neg h4]
    · rw [if_pos (h3 i (Nat.le_refl _) (by omega))]
      exact rulesE_first f (i + 1) j (by omega) (by omega) (fun k a b => h3 k (by omega) b) h4
theorem rulesE_zero {q : Fm} : ∀ (f i : Nat), (∀ k, i ≤ k → k < i + f → ruleE q k (q.rules.getD k default) = 0) → rulesE q i f = 0
  | 0, i, _ => rfl
  | f + 1, i, h => by
    unfold rulesE
    rw [if_pos (h i (Nat.le_refl _) (by omega))]
    exact rulesE_zero f (i + 1) (fun k a b => h k (by omega) (by omega))
theorem rul_get {q : Fm} {k : Nat} (hk : k < q.rules.length) : q.rules.getD k default = q.rules[k] := by simp [List.getD, hk]
theorem rul_eq {q : Fm} (hs : ¬ (((q.states.length : Nat) : Int) = 0)) {k : Nat} (hk : k < q.rules.length) : ruleE q k (q.rules.getD k default) = rruleE q k q.rules[k] := by
  rw [rul_get hk]; exact rule_eq q k _ (by rintro e; rw [e] at hs; simp at hs)
theorem val3_r {q : Fm} (h : VC q) (h2 : setE q.states.length q.leader = 0) (hs : ¬ (((q.states.length : Nat) : Int) = 0)) {k : Nat} (hk : k < q.rules.length) (hr : rulOk q k) (e : ¬ rruleE q k q.rules[k] = 0) : val3 q = rruleE q k q.rules[k] := by
  have e' : rulesE q 0 q.rules.length = rruleE q k q.rules[k] := by
    rw [rulesE_first q.rules.length 0 k (by omega) (by omega) (fun j _ b => by rw [rul_eq hs (by omega)]; exact hr j (by omega) b) (by rw [rul_eq hs hk]; exact e), rul_eq hs hk]
  unfold val3; rw [if_neg (by have := h.n; omega), h.i, orE_zero, h2, orE_zero, e', orE_ne _ e]
theorem val3_e {q : Fm} (h : VC q) (h2 : setE q.states.length q.leader = 0) (hs : ¬ (((q.states.length : Nat) : Int) = 0)) (hr : rulOk q q.rules.length) : val3 q = if 3 < (diffG q.rules).length then 4 else 0 := by
  have e' : rulesE q 0 q.rules.length = 0 := rulesE_zero _ _ fun k _ b => by rw [rul_eq hs (by omega)]; exact hr k (by omega) (by omega)
  unfold val3; rw [if_neg (by have := h.n; omega), h.i, orE_zero, h2, orE_zero, e', orE_zero]
theorem val3_d {q : Fm} (h : VC q) (h2 : setE q.states.length q.leader = 0) (hs : ¬ (((q.states.length : Nat) : Int) = 0)) (hr : rulOk q q.rules.length) (h3 : (3 : Int) < (((diffG q.rules).length : Nat) : Int)) : val3 q = 4 := by
  rw [val3_e h h2 hs hr, if_pos (by omega)]
theorem val3_0 {q : Fm} (h : VC q) (h2 : setE q.states.length q.leader = 0) (hs : ¬ (((q.states.length : Nat) : Int) = 0)) (hr : rulOk q q.rules.length) (h3 : ¬ (3 : Int) < (((diffG q.rules).length : Nat) : Int)) : val3 q = 0 := by
  rw [val3_e h h2 hs hr, if_neg (by omega)]
theorem rul_guards {q : Fm} (hs : ¬ (((q.states.length : Nat) : Int) = 0)) (hr : rulOk q q.rules.length) : ∀ r ∈ q.rules, r.guards.length ≤ 2 := fun r h => by
  obtain ⟨i, hi, rfl⟩ := List.getElem_of_mem h
  exact rule_guards (q := q) (i := i) (by have := rul_eq hs hi; rw [rul_get hi] at this; rw [this]; exact hr i hi hi)
/-- A family without an error: what the other functions of it need. -/
theorem val_small {q : Fm} (h : valE q = 0) : q.rules.length ≤ 8 ∧ ∀ r ∈ q.rules, r.guards.length ≤ 2 := by
  by_cases n : nameB q.nm.toList = true
  · by_cases a : argB q = true
    · rw [valE_ar n a] at h; cases h
    · by_cases s : ((q.states.length : Nat) : Int) = 0
      · rw [valE_st n (by simpa using a) s] at h; cases h
      · by_cases t : tooI q = true
        · rw [valE_tb n (by simpa using a) s t] at h; cases h
        · have t' : tooI q = false := by simpa using t
          refine ⟨(tooI_no t').2.2.2.2, ?_⟩
          rw [valE_2 ⟨n, by simpa using a, s, t'⟩] at h
          unfold val2 at h
          split at h
          · cases h
          split at h
          · cases h
          split at h
          · cases h
          have h1 := (orE_zero_left (orE_zero_left (orE_zero_left h).2).2).1
          intro r hr
          obtain ⟨i, hi, rfl⟩ := List.getElem_of_mem hr
          refine rule_guards (q := q) (i := i) ?_
          have key : ∀ (f i : Nat), rulesE q i f = 0 → ∀ k, i ≤ k → k < i + f → ruleE q k (q.rules.getD k default) = 0 := by
            intro f
            induction f with
            | zero => intro i _ k a b; omega
            | succ f ih =>
              intro i e k a b
              unfold rulesE at e
              split at e
              · rename_i e1
                by_cases x : i = k
                · subst x; exact e1
                · exact ih (i + 1) e k (by omega) (by omega)
              · exact absurd e (by assumption)
          have := key _ 0 h1 i (Nat.zero_le _) (by omega)
          rwa [rul_get hi] at this
  · rw [valE_nm (by simpa using n)] at h; cases h
theorem fst1 {xs : List ByteArray} : strsA xs = slA 1 (fun s => [sv s]) xs := by
  have e0 : ∀ xs : List ByteArray, xs.map sv = xs.flatMap fun s => [sv s] := fun xs => by
    induction xs with
    | nil => rfl
    | cons x xs ih => simp only [List.map_cons, List.flatMap_cons, ih]; rfl
  unfold strsA slA; rw [e0]
theorem strs_of {lo : Nat} {w : World} {v : Value} {xs : List ByteArray} (h : IsSl 1 StrEl lo w v xs) : IsStrs lo w v xs := by
  have h0 : ∀ x ∈ xs, x.size ≤ maxLen := h.all fun cs x h => h.2
  obtain ⟨a, cap, hv, a1, a2, a3, a4⟩ := h
  refine ⟨a, cap, hv, a1, a2, ⟨h0, a3⟩, ?_⟩
  rcases a4 with a4 | ⟨b, off, b1, b2, b3, b4⟩
  · exact .inl a4
  · refine .inr ⟨b, off, b1, b2, b3, fun i hi => ?_⟩
    obtain ⟨cs, c1, c2, c3⟩ := b4 i hi
    obtain ⟨e, _⟩ := c3
    subst e
    have := c2 0 (by simp)
    simpa [List.getD_eq_getElem?_getD, hi] using this
theorem HasText_k {xs : List ByteArray} (hx : ∀ s ∈ xs, s.size ≤ maxLen) {k : Nat} (hk : k ≤ xs.length) (s : ByteArray) : Ctr Tryd.prog J 57 [.sl 1 (k - 0) ((xs.take k).map sv), sv s] (bv (hasT (xs.take k) s)) := by
  have e : AV.sl 1 (k - 0) ((xs.take k).map sv) = strsA (xs.take k) := by unfold strsA; rw [List.length_take, Nat.min_eq_left hk]; rfl
  rw [e]
  exact ctr2 fun w v v' _ h h' => by
    rw [h'.v_inv]; exact (HasText_any s (strs_of (pu_strs (fun s hs => hx s (List.mem_of_mem_take hs)) lo0 h))).mono fun _ _ => ret_eq
theorem nmA_sizes {q : Fm} (h : FmOk q) : ∀ s ∈ nmA q, s.size ≤ maxLen := fun s hs => by
  unfold nmA at hs
  simp only [List.mem_append] at hs
  rcases hs with hs | hs | hs
  · exact h.states s hs
  · exact h.msgs s hs
  · exact h.vals s hs
theorem th_pu {F ok : Nat → Prop} {lo : Nat} {w : World} (g : Th) (vs : List Value) (h : ThEl lo w vs g) : ∀ j (hj : j < (cTh g).length), Pu F w ok (cTh g)[j] (vs.getD j undef) := by
  obtain ⟨rfl, _⟩ := h
  intro j hj
  match j, hj with
  | 0, _ => exact .v _
  | 1, _ => exact .v _
  | 2, _ => exact .v _
  | 3, _ => exact .v _
  | 4, _ => exact .v _
  | 5, _ => exact .v _
theorem distinct_c {q : Fm} (hq : FmOk q) (h8 : q.rules.length ≤ 8) (h2 : ∀ r ∈ q.rules, r.guards.length ≤ 2) : Ctr Tryd.prog J 61 [.agg (cFm q)] (slA 6 cTh (diffG q.rules)) := ctr1 fun w v _ h =>
  (distinct_any (fam_of hq lo0 h) h8 h2).mono fun _ _ ⟨v', he, ho, hb⟩ => ⟨v', he, sl_pu lenTh (fun _ h _ => h) th_pu ho.sl, hb⟩
end Go.Proofs.YtmpbfdfjcfanoaaDoor
