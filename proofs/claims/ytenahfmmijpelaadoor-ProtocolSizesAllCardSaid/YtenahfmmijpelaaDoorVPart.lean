/-
  partsError OF THE PROGRAM.
-/
import Derived.Test.YtenahfmmijpelaaDoorVOth
import Derived.Test.YtenahfmmijpelaaDoorVHas
import Derived.Test.YtenahfmmijpelaaDoorOrE
namespace Go.Proofs.YtenahfmmijpelaaDoor
open Go.RowKit Go.Deep
/-- A rule's cells, and how they read. -/
theorem rule_open {lo : Nat} {w : World} {cs : List Value} {r : Ru} (h : RuEl lo w cs r) : ∃ v6 v7 v8 v9 v12 v14 v15 v16, cs = [.string r.nm, .int .i64 r.kind, .int .i64 r.frm, .int .i64 r.to, .int .i64 r.pf, .int .i64 r.pt, v6, v7, v8, v9, .int .i64 r.rd, .int .i64 r.wr, v12, .int .i64 r.pos, v14, v15, v16, .int .i64 r.dir] ∧
    IsInts lo w v6 r.resp ∧ IsSl 6 ThEl lo w v7 r.guards ∧ IsInts lo w v8 r.ex ∧ IsInts lo w v9 r.fa ∧ IsInts lo w v12 r.send ∧ IsInts lo w v14 r.left ∧ IsInts lo w v15 r.right ∧ IsInts lo w v16 r.parent := by
  obtain ⟨v6, v7, v8, v9, v12, v14, v15, v16, rfl, h0, h1, h2, h3, h4, h5, h6, h7, h8, h9, h10, h11, h12, h13, h14, h15, h16, h17⟩ := h
  exact ⟨v6, v7, v8, v9, v12, v14, v15, v16, rfl, h6, h7, h8, h9, h12, h14, h15, h16⟩
set_option maxHeartbeats 3200000 in
theorem partsError_any {lo lo' : Nat} {w : World} {v : Value} {cs : List Value} {q : Fm} {r : Ru} (hq : IsFam lo w v q) (h : RuEl lo' w cs r) :
    Calls Tryd.prog 71 #[v, .agg cs.toArray] w fun e w' => e = .returned (.int .i64 (partE q r)) ∧ Below w.heap.size w w' := by
  obtain ⟨v2, v3, v4, v6, v7, v8, v9, rfl, _, _, h2, h3, h4, _, h6, h7, h8, h9⟩ := hq
  have HN := Lib.hid h2.bound
  have HM := Lib.hid h3.bound
  have HV := Lib.hid h4.bound
  obtain ⟨a2, c2, rfl⟩ := h2.shape
  obtain ⟨a3, c3, rfl⟩ := h3.shape
  obtain ⟨a4, c4, rfl⟩ := h4.shape
  clear h2 h3 h4 h6 h7 h8 h9
  obtain ⟨u6, u7, u8, u9, u12, u14, u15, u16, hcs, k6, k7, k8, k9, k12, k14, k15, k16⟩ := rule_open h
  obtain ⟨b6, d6, rfl⟩ := k6.shape
  obtain ⟨b7, d7, rfl⟩ := k7.shape
  obtain ⟨b8, d8, rfl⟩ := k8.shape
  obtain ⟨b9, d9, rfl⟩ := k9.shape
  obtain ⟨b12, d12, rfl⟩ := k12.shape
  obtain ⟨b14, d14, rfl⟩ := k14.shape
  obtain ⟨b15, d15, rfl⟩ := k15.shape
  obtain ⟨b16, d16, rfl⟩ := k16.shape
  have H := Lib.hid h
  have K6 := Lib.hid k6
  have K7 := Lib.hid k7
  have K8 := Lib.hid k8
  have K9 := Lib.hid k9
  have K12 := Lib.hid k12
  have K14 := Lib.hid k14
  have K15 := Lib.hid k15
  have K16 := Lib.hid k16
  have HC := Lib.hid hcs
  clear h k6 k7 k8 k9 k12 k14 k15 k16 hcs
  go_enter Tryd.func71, Tryd.ntmps71
  go_upto_region 1 with (fail)
  obtain ⟨W, hW⟩ : ∃ W : World, W = (w.alloc (.cells #[.string q.nm, .int .i64 q.top, .slice a2 q.states.length c2, .slice a3 q.msgs.length c3, .slice a4 q.vals.length c4, .int .i64 q.fault, v6, v7, v8, v9] 27)).alloc (.cells cs.toArray 37) := ⟨_, rfl⟩
  rw [← hW]
  have HB := Lib.hid (show Below w.heap.size w W by rw [hW]; show Below _ _ _; go_grown)
  have HP := Lib.hid (show W.heap[w.heap.size]? = some (.cells #[.string q.nm, .int .i64 q.top, .slice a2 q.states.length c2, .slice a3 q.msgs.length c3, .slice a4 q.vals.length c4, .int .i64 q.fault, v6, v7, v8, v9] 27 (0, 0)) by rw [hW]; exact (heap_old _ _ (by simp)).trans (heap_new _ _ rfl))
  have HG := Lib.hid (show W.heap[w.heap.size + 1]? = some (.cells cs.toArray 37 (0, 0)) by rw [hW]; exact heap_new _ _ (by simp))
  clear hW
  have HL := Lib.hid (show cs.length = 18 by rw [HC.out]; rfl)
  have HGn := Lib.hid (show ∀ n : WIn (Below W.heap.size W), n.val.heap[w.heap.size + 1]? = some (.cells cs.toArray 37 (0, 0)) from fun n => keepB HG.out n.ok)
  have HPn := Lib.hid (show ∀ n : WIn (Below W.heap.size W), n.val.heap[w.heap.size]? = some (.cells #[.string q.nm, .int .i64 q.top, .slice a2 q.states.length c2, .slice a3 q.msgs.length c3, .slice a4 q.vals.length c4, .int .i64 q.fault, v6, v7, v8, v9] 27 (0, 0)) from fun n => keepB HP.out n.ok)
  have HBn := Lib.hid (show ∀ n : WIn (Below W.heap.size W), Below w.heap.size w n.val from fun n => thenBelow HB.out n.ok)
  have x1 : W.cell? ⟨w.heap.size + 1, 1, none⟩ = some (.int .i64 r.kind) := cellB HG.out 1 (by rw [HC.out]; rfl)
  have x6 : W.cell? ⟨w.heap.size + 1, 6, none⟩ = some (.slice b6 r.resp.length d6) := cellB HG.out 6 (by rw [HC.out]; rfl)
  have x17 : W.cell? ⟨w.heap.size + 1, 17, none⟩ = some (.int .i64 r.dir) := cellB HG.out 17 (by rw [HC.out]; rfl)
  have y7 : ∀ n : WIn (Below W.heap.size W), n.val.cell? ⟨w.heap.size + 1, 7, none⟩ = some (.slice b7 r.guards.length d7) := fun n => cellB (HGn.out n) 7 (by rw [HC.out]; rfl)
  have y8 : ∀ n : WIn (Below W.heap.size W), n.val.cell? ⟨w.heap.size + 1, 8, none⟩ = some (.slice b8 r.ex.length d8) := fun n => cellB (HGn.out n) 8 (by rw [HC.out]; rfl)
  have y9 : ∀ n : WIn (Below W.heap.size W), n.val.cell? ⟨w.heap.size + 1, 9, none⟩ = some (.slice b9 r.fa.length d9) := fun n => cellB (HGn.out n) 9 (by rw [HC.out]; rfl)
  have y12 : ∀ n : WIn (Below W.heap.size W), n.val.cell? ⟨w.heap.size + 1, 12, none⟩ = some (.slice b12 r.send.length d12) := fun n => cellB (HGn.out n) 12 (by rw [HC.out]; rfl)
  have y13 : ∀ n : WIn (Below W.heap.size W), n.val.cell? ⟨w.heap.size + 1, 13, none⟩ = some (.int .i64 r.pos) := fun n => cellB (HGn.out n) 13 (by rw [HC.out]; rfl)
  have y14 : ∀ n : WIn (Below W.heap.size W), n.val.cell? ⟨w.heap.size + 1, 14, none⟩ = some (.slice b14 r.left.length d14) := fun n => cellB (HGn.out n) 14 (by rw [HC.out]; rfl)
  have y15 : ∀ n : WIn (Below W.heap.size W), n.val.cell? ⟨w.heap.size + 1, 15, none⟩ = some (.slice b15 r.right.length d15) := fun n => cellB (HGn.out n) 15 (by rw [HC.out]; rfl)
  have y16 : ∀ n : WIn (Below W.heap.size W), n.val.cell? ⟨w.heap.size + 1, 16, none⟩ = some (.slice b16 r.parent.length d16) := fun n => cellB (HGn.out n) 16 (by rw [HC.out]; rfl)
  have p1 : W.cell? ⟨w.heap.size, 1, none⟩ = some (.int .i64 q.top) := cellB HP.out 1 rfl
  have p2 : W.cell? ⟨w.heap.size, 2, none⟩ = some (.slice a2 q.states.length c2) := cellB HP.out 2 rfl
  have p4 : W.cell? ⟨w.heap.size, 4, none⟩ = some (.slice a4 q.vals.length c4) := cellB HP.out 4 rfl
  have z1 : ∀ n : WIn (Below W.heap.size W), n.val.cell? ⟨w.heap.size, 1, none⟩ = some (.int .i64 q.top) := fun n => cellB (HPn.out n) 1 rfl
  have z3 : ∀ n : WIn (Below W.heap.size W), n.val.cell? ⟨w.heap.size, 3, none⟩ = some (.slice a3 q.msgs.length c3) := fun n => cellB (HPn.out n) 3 rfl
  have z4 : ∀ n : WIn (Below W.heap.size W), n.val.cell? ⟨w.heap.size, 4, none⟩ = some (.slice a4 q.vals.length c4) := fun n => cellB (HPn.out n) 4 rfl
  by_cases t3 : r.kind = 3
  · rw [t3] at x1
    by_cases e0 : reE q.states.length r.resp = 0
    · have E := Lib.hid (show shE q.vals.length r.rd r.wr = partE q r by unfold partE; rw [if_pos t3, e0, orE_zero])
      have E0 := Lib.hid e0
      clear t3 e0
      go_upto_region 10 with ((go_at_call 87; (with_reducible refine (responseError_any q.states.length HN.out (K6.out.below HB.out)).mono ?_); rintro e w1 ⟨rfl, rfl⟩; rw [E0.out]))
      refine wp_cls_seq ?_
      refine BigFrame.wpQuiet_want (by rfl) (fun K hK => ?_)
      refine quiet_ld Tryd.underlying37 info_rule (.tmp 3) (by rfl) (w.heap.size + 1) 0 cs (by rfl) HL.out (by rintro _ ⟨n, rfl⟩; exact rangeBlock (HGn.out n)) (hK _ ?_)
      clear hK K
      simp only [Act.put, List.setIfInBounds_toArray, List.set_cons_succ, List.set_cons_zero]
      iterate 3 go_big_quiet_step (fail)
      go_big_quiet_step (((with_reducible refine (sharedError_any q.vals.length HV.out (H.out.below (HBn.out _))).mono ?_); rintro e w1 ⟨rfl, hb⟩; exact ⟨rfl, ⟨w1, thenBelow (WIn.ok _) hb⟩, rfl⟩))
      go_big_quiet_step (fail)
      refine wpQuiet_nil ?_
      intro n
      go_wp2_with fail
      go_ret
      exact ⟨ret_int E.out, HBn.out n⟩
    · have e1 : (reE q.states.length r.resp != 0) = true := by simpa using e0
      have E := Lib.hid (show reE q.states.length r.resp = partE q r by unfold partE; rw [if_pos t3, orE_ne _ e0])
      clear t3 e0
      go_wp2_with (go_at_call 87; (with_reducible refine (responseError_any q.states.length HN.out (K6.out.below HB.out)).mono ?_); rintro e w1 ⟨rfl, rfl⟩)
      go_ret
      exact ⟨ret_int E.out, HB.out⟩
  · have f3 : (r.kind == 3) = false := by simpa using t3
    by_cases t2 : r.kind = 2
    · rw [t2] at x1
      have E := Lib.hid (show shE q.vals.length r.rd r.wr = partE q r by unfold partE; rw [if_neg t3, if_pos t2])
      clear t2 t3 f3
      go_upto_region 10 with (fail)
      refine wp_cls_seq ?_
      refine BigFrame.wpQuiet_want (by rfl) (fun K hK => ?_)
      refine quiet_ld Tryd.underlying37 info_rule (.tmp 3) (by rfl) (w.heap.size + 1) 0 cs (by rfl) HL.out (by rintro _ ⟨n, rfl⟩; exact rangeBlock (HGn.out n)) (hK _ ?_)
      clear hK K
      simp only [Act.put, List.setIfInBounds_toArray, List.set_cons_succ, List.set_cons_zero]
      iterate 3 go_big_quiet_step (fail)
      go_big_quiet_step (((with_reducible refine (sharedError_any q.vals.length HV.out (H.out.below (HBn.out _))).mono ?_); rintro e w1 ⟨rfl, hb⟩; exact ⟨rfl, ⟨w1, thenBelow (WIn.ok _) hb⟩, rfl⟩))
      go_big_quiet_step (fail)
      refine wpQuiet_nil ?_
      intro n
      go_wp2_with fail
      go_ret
      exact ⟨ret_int E.out, HBn.out n⟩
    · have f2 : (r.kind == 2) = false := by simpa using t2
      by_cases t1 : r.kind = 1
      · rw [t1] at x1
        have E := Lib.hid (show orL [guardE q.msgs.length r.guards, setE q.states.length r.ex, setE q.states.length r.fa, shE q.vals.length r.rd r.wr, setE q.msgs.length r.send] = partE q r by unfold partE; rw [if_neg t3, if_neg t2, if_pos t1]; simp only [orL_or]; rw [show orL [] = 0 from rfl, orE_right])
        clear t1 t2 t3 f2 f3
        go_upto_region 11 with (fail)
        refine wp_cls_tail 25 (by kernel_rfl) (by kernel_rfl) ?_
        simp only [List.take_succ_cons, List.take_zero]
        iterate 5 go_big_quiet_step (fail)
        go_big_quiet_step (((with_reducible refine (guardsError_any q.msgs.length HM.out (K7.out.below ThEl.stays (HBn.out _))).mono ?_); rintro e w1 ⟨rfl, hb⟩; exact ⟨rfl, ⟨w1, thenBelow (WIn.ok _) hb⟩, rfl⟩))
        iterate 3 go_big_quiet_step (fail)
        go_big_quiet_step (((with_reducible refine (setError_any q.states.length HN.out (K8.out.below (HBn.out _))).mono ?_); rintro e w1 ⟨rfl, hb⟩; exact ⟨rfl, ⟨w1, thenBelow (WIn.ok _) hb⟩, rfl⟩))
        iterate 3 go_big_quiet_step (fail)
        go_big_quiet_step (((with_reducible refine (setError_any q.states.length HN.out (K9.out.below (HBn.out _))).mono ?_); rintro e w1 ⟨rfl, hb⟩; exact ⟨rfl, ⟨w1, thenBelow (WIn.ok _) hb⟩, rfl⟩))
        refine BigFrame.wpQuiet_want (by rfl) (fun K hK => ?_)
        refine quiet_ld Tryd.underlying37 info_rule (.tmp 3) (by rfl) (w.heap.size + 1) 0 cs (by rfl) HL.out (by rintro _ ⟨n, rfl⟩; exact rangeBlock (HGn.out n)) (hK _ ?_)
        clear hK K
        simp only [Act.put, List.setIfInBounds_toArray, List.set_cons_succ, List.set_cons_zero]
        iterate 3 go_big_quiet_step (fail)
        go_big_quiet_step (((with_reducible refine (sharedError_any q.vals.length HV.out (H.out.below (HBn.out _))).mono ?_); rintro e w1 ⟨rfl, hb⟩; exact ⟨rfl, ⟨w1, thenBelow (WIn.ok _) hb⟩, rfl⟩))
        iterate 5 go_big_quiet_step (fail)
        go_big_quiet_step (((with_reducible refine (setError_any q.msgs.length HM.out (K12.out.below (HBn.out _))).mono ?_); rintro e w1 ⟨rfl, hb⟩; exact ⟨rfl, ⟨w1, thenBelow (WIn.ok _) hb⟩, rfl⟩))
        refine wpQuiet_nil ?_
        intro m
        simp only [List.drop_succ_cons, List.drop_zero]
        have M := m
        go_wp2_with (go_at_call 35; refine (OrE_block [guardE q.msgs.length r.guards, setE q.states.length r.ex, setE q.states.length r.fa, shE q.vals.length r.rd r.wr, setE q.msgs.length r.send] (by exact heap_new m.val _ rfl) (by rfl) (by rfl) (by simp)).mono ?_; rintro e w1 ⟨rfl, rfl⟩)
        go_ret
        exact ⟨ret_int E.out, thenBelow (HBn.out m) (allocBelow m.val _)⟩
      · have f1 : (r.kind == 1) = false := by simpa using t1
        by_cases t4 : r.kind = 4
        · rw [t4] at x1
          have E := Lib.hid (show orL [setE q.states.length r.left, setE q.states.length r.right, setE q.states.length r.parent, posE r.pos q.top] = partE q r by unfold partE; rw [if_neg t3, if_neg t2, if_neg t1, if_pos t4]; simp only [orL_or]; rw [show orL [] = 0 from rfl, orE_right])
          clear t1 t2 t3 t4 f1 f2 f3
          go_upto_region 12 with (fail)
          refine wp_cls_tail 17 (by kernel_rfl) (by kernel_rfl) ?_
          simp only [List.take_succ_cons, List.take_zero]
          iterate 3 go_big_quiet_step (fail)
          go_big_quiet_step (((with_reducible refine (setError_any q.states.length HN.out (K14.out.below (HBn.out _))).mono ?_); rintro e w1 ⟨rfl, hb⟩; exact ⟨rfl, ⟨w1, thenBelow (WIn.ok _) hb⟩, rfl⟩))
          iterate 3 go_big_quiet_step (fail)
          go_big_quiet_step (((with_reducible refine (setError_any q.states.length HN.out (K15.out.below (HBn.out _))).mono ?_); rintro e w1 ⟨rfl, hb⟩; exact ⟨rfl, ⟨w1, thenBelow (WIn.ok _) hb⟩, rfl⟩))
          iterate 3 go_big_quiet_step (fail)
          go_big_quiet_step (((with_reducible refine (setError_any q.states.length HN.out (K16.out.below (HBn.out _))).mono ?_); rintro e w1 ⟨rfl, hb⟩; exact ⟨rfl, ⟨w1, thenBelow (WIn.ok _) hb⟩, rfl⟩))
          iterate 4 go_big_quiet_step (fail)
          go_big_quiet_step (((with_reducible refine (positionError_any r.pos q.top _).mono ?_); rintro e w1 ⟨rfl, hb⟩; subst hb; exact ⟨rfl, ⟨_, WIn.ok _⟩, rfl⟩))
          refine wpQuiet_nil ?_
          intro m
          simp only [List.drop_succ_cons, List.drop_zero]
          have M := m
          go_wp2_with (go_at_call 35; refine (OrE_block [setE q.states.length r.left, setE q.states.length r.right, setE q.states.length r.parent, posE r.pos q.top] (by exact heap_new m.val _ rfl) (by rfl) (by rfl) (by simp)).mono ?_; rintro e w1 ⟨rfl, rfl⟩)
          go_ret
          exact ⟨ret_int E.out, thenBelow (HBn.out m) (allocBelow m.val _)⟩
        · have f4 : (r.kind == 4) = false := by simpa using t4
          have E := Lib.hid (show dirE r.dir q.top = partE q r by unfold partE; rw [if_neg t3, if_neg t2, if_neg t1, if_neg t4])
          clear t1 t2 t3 t4
          go_wp2_with (go_at_call 91; (with_reducible refine (directionError_any r.dir q.top _).mono ?_); rintro e w1 ⟨rfl, rfl⟩)
          go_ret
          exact ⟨ret_int E.out, HB.out⟩
end Go.Proofs.YtenahfmmijpelaaDoor
