import Derived.Test.YtoefmdjgnabgfaaGrpkogjmioh
set_option linter.all false
namespace Go.Proofs.Ytoefmdjgnabgfaa
open Go.RowKit Go.Deep
theorem Ym {α : Type} {xs : List α} (h : 0 < xs.length) : xs ≠ [] := List.length_pos_iff.1 h
theorem Yw {α : Type} {xs : List α} (h : ¬ 0 < xs.length) : xs = [] := by cases xs with | nil => rfl | cons _ _ => simp at h
set_option maxRecDepth 100000 in
set_option maxHeartbeats 6400000 in
theorem unused_1 {lo lo' : Nat} {w : World} {v : Value} {cs : List Value} {q : Fm} {r : Ru} (hk : r.kind = 1) (hq : IsFam lo w v q) (h : RuEl lo' w cs r) :
    Calls Try.prog 116 #[v, .agg cs.toArray] w fun e w' => e = .returned (.bool (Zy r q.top)) ∧ Below w.heap.size w w' := by
  obtain ⟨v2, v3, v4, v6, v7, v8, v9, rfl, _, _, h2, h3, h4, _, h6, h7, h8, h9⟩ := hq
  obtain ⟨a2, c2, rfl⟩ := h2.shape
  obtain ⟨a3, c3, rfl⟩ := h3.shape
  obtain ⟨a4, c4, rfl⟩ := h4.shape
  clear h2 h3 h4 h6 h7 h8 h9
  obtain ⟨u6, u7, u8, u9, u12, u14, u15, u16, hcs, k6, k7, k8, k9, k12, k14, k15, k16⟩ := Km h
  obtain ⟨b6, d6, rfl⟩ := k6.shape
  obtain ⟨b7, d7, rfl⟩ := k7.shape
  obtain ⟨b8, d8, rfl⟩ := k8.shape
  obtain ⟨b9, d9, rfl⟩ := k9.shape
  obtain ⟨b12, d12, rfl⟩ := k12.shape
  obtain ⟨b14, d14, rfl⟩ := k14.shape
  obtain ⟨b15, d15, rfl⟩ := k15.shape
  obtain ⟨b16, d16, rfl⟩ := k16.shape
  clear h k6 k7 k8 k9 k12 k14 k15 k16
  have HC := Lib.hid hcs
  clear hcs
  obtain ⟨m6, hm6⟩ : ∃ m, m = r.resp.length := ⟨_, rfl⟩
  have M6 := Lib.hid hm6
  clear hm6
  obtain ⟨m7, hm7⟩ : ∃ m, m = r.guards.length := ⟨_, rfl⟩
  have M7 := Lib.hid hm7
  clear hm7
  obtain ⟨m8, hm8⟩ : ∃ m, m = r.ex.length := ⟨_, rfl⟩
  have M8 := Lib.hid hm8
  clear hm8
  obtain ⟨m9, hm9⟩ : ∃ m, m = r.fa.length := ⟨_, rfl⟩
  have M9 := Lib.hid hm9
  clear hm9
  obtain ⟨m12, hm12⟩ : ∃ m, m = r.send.length := ⟨_, rfl⟩
  have M12 := Lib.hid hm12
  clear hm12
  obtain ⟨m14, hm14⟩ : ∃ m, m = r.left.length := ⟨_, rfl⟩
  have M14 := Lib.hid hm14
  clear hm14
  obtain ⟨m15, hm15⟩ : ∃ m, m = r.right.length := ⟨_, rfl⟩
  have M15 := Lib.hid hm15
  clear hm15
  obtain ⟨m16, hm16⟩ : ∃ m, m = r.parent.length := ⟨_, rfl⟩
  have M16 := Lib.hid hm16
  clear hm16
  go_enter Try.func116, Try.ntmps116
  go_upto_region 1 with (fail)
  obtain ⟨W, hW⟩ : ∃ W : World, W = (w.alloc (.cells #[.string q.nm, .int .i64 q.top, .slice a2 q.states.length c2, .slice a3 q.msgs.length c3, .slice a4 q.vals.length c4, .int .i64 q.fault, v6, v7, v8, v9] 27)).alloc (.cells cs.toArray 50) := ⟨_, rfl⟩
  rw [← hW]
  have HB := Lib.hid (show Below w.heap.size w W by rw [hW]; show Below _ _ _; go_grown)
  have x1' : W.cell? ⟨w.heap.size, 1, none⟩ = some (.int .i64 q.top) := by rw [hW]; exact keep1 ((ZK w _ _ 1 rfl).trans rfl) (Zg _ _)
  have HG := Lib.hid (show W.heap[w.heap.size + 1]? = some (.cells cs.toArray 50 (0, 0)) by rw [hW]; exact Yd _ _ (by simp))
  clear hW
  have y1 : W.cell? ⟨w.heap.size + 1, 1, none⟩ = some (.int .i64 1) := by rw [← hk]; exact ZF HG.out 1 (by rw [HC.out]; rfl)
  have y4 : W.cell? ⟨w.heap.size + 1, 4, none⟩ = some (.int .i64 r.pf) := ZF HG.out 4 (by rw [HC.out]; rfl)
  have y5 : W.cell? ⟨w.heap.size + 1, 5, none⟩ = some (.int .i64 r.pt) := ZF HG.out 5 (by rw [HC.out]; rfl)
  have y6 : W.cell? ⟨w.heap.size + 1, 6, none⟩ = some (.slice b6 m6 d6) := ZF HG.out 6 (by rw [HC.out, M6.out]; rfl)
  have y7 : W.cell? ⟨w.heap.size + 1, 7, none⟩ = some (.slice b7 m7 d7) := ZF HG.out 7 (by rw [HC.out, M7.out]; rfl)
  have y8 : W.cell? ⟨w.heap.size + 1, 8, none⟩ = some (.slice b8 m8 d8) := ZF HG.out 8 (by rw [HC.out, M8.out]; rfl)
  have y9 : W.cell? ⟨w.heap.size + 1, 9, none⟩ = some (.slice b9 m9 d9) := ZF HG.out 9 (by rw [HC.out, M9.out]; rfl)
  have y10 : W.cell? ⟨w.heap.size + 1, 10, none⟩ = some (.int .i64 r.rd) := ZF HG.out 10 (by rw [HC.out]; rfl)
  have y11 : W.cell? ⟨w.heap.size + 1, 11, none⟩ = some (.int .i64 r.wr) := ZF HG.out 11 (by rw [HC.out]; rfl)
  have y12 : W.cell? ⟨w.heap.size + 1, 12, none⟩ = some (.slice b12 m12 d12) := ZF HG.out 12 (by rw [HC.out, M12.out]; rfl)
  have y13 : W.cell? ⟨w.heap.size + 1, 13, none⟩ = some (.int .i64 r.pos) := ZF HG.out 13 (by rw [HC.out]; rfl)
  have y14 : W.cell? ⟨w.heap.size + 1, 14, none⟩ = some (.slice b14 m14 d14) := ZF HG.out 14 (by rw [HC.out, M14.out]; rfl)
  have y15 : W.cell? ⟨w.heap.size + 1, 15, none⟩ = some (.slice b15 m15 d15) := ZF HG.out 15 (by rw [HC.out, M15.out]; rfl)
  have y16 : W.cell? ⟨w.heap.size + 1, 16, none⟩ = some (.slice b16 m16 d16) := ZF HG.out 16 (by rw [HC.out, M16.out]; rfl)
  have y17 : W.cell? ⟨w.heap.size + 1, 17, none⟩ = some (.int .i64 r.dir) := ZF HG.out 17 (by rw [HC.out]; rfl)
  have HK := Lib.hid hk
  clear hk
  go_quiet (fail)
  go_upto_region 2 with (fail)
  refine Zh ?_
  repeat (go_big_quiet_step (fail))
  refine wpQuiet_nil ?_
  intro _ hw'
  obtain ⟨nq, rfl⟩ := hw'
  go_upto_region 4 with (fail)
  refine Zh ?_
  repeat (go_big_quiet_step (fail))
  refine wpQuiet_nil ?_
  intro _ hw'
  obtain ⟨nq, rfl⟩ := hw'
  go_upto_region 6 with (fail)
  by_cases t_pf : r.pf = 0
  rotate_left
  · have i_pf : (r.pf != 0) = true := by simpa using t_pf
    have T := Lib.hid (show Zy r q.top = true by unfold Zy; simp [HK.out, t_pf])
    refine Zh ?_
    repeat (go_big_quiet_step (fail))
    refine wpQuiet_nil ?_
    intro _ hw'
    obtain ⟨nq, rfl⟩ := hw'
    go_wp2_with fail
    go_ret
    exact ⟨Zl T.out.symm, below_drewN HB.out _⟩
  have i_pf : (r.pf != 0) = false := by simpa using t_pf
  have T_pf := Lib.hid t_pf
  clear t_pf
  by_cases t_pt : r.pt = 0
  rotate_left
  · have i_pt : (r.pt != 0) = true := by simpa using t_pt
    have T := Lib.hid (show Zy r q.top = true by unfold Zy; simp [HK.out, T_pf.out, t_pt])
    refine Zh ?_
    repeat (go_big_quiet_step (fail))
    refine wpQuiet_nil ?_
    intro _ hw'
    obtain ⟨nq, rfl⟩ := hw'
    go_wp2_with fail
    go_ret
    exact ⟨Zl T.out.symm, below_drewN HB.out _⟩
  have i_pt : (r.pt != 0) = false := by simpa using t_pt
  have T_pt := Lib.hid t_pt
  clear t_pt
  refine Zh ?_
  repeat (go_big_quiet_step (fail))
  refine wpQuiet_nil ?_
  intro _ hw'
  obtain ⟨nq, rfl⟩ := hw'
  go_upto_region 8 with (fail)
  by_cases t_resp : 0 < m6
  · have i_resp : (0 : Int) < ((m6 : Nat) : Int) := by omega
    have T := Lib.hid (show Zy r q.top = true by unfold Zy; simp [HK.out, T_pf.out, T_pt.out, Ym (M6.out ▸ t_resp)])
    refine Zh ?_
    repeat (go_big_quiet_step (fail))
    refine wpQuiet_nil ?_
    intro _ hw'
    obtain ⟨nq, rfl⟩ := hw'
    go_wp2_with fail
    go_ret
    exact ⟨Zl T.out.symm, below_drewN HB.out _⟩
  have i_resp : ¬ (0 : Int) < ((m6 : Nat) : Int) := by omega
  have T_resp := Lib.hid (Yw (M6.out ▸ t_resp))
  by_cases t_dir : r.dir = 0
  rotate_left
  · have i_dir : (r.dir != 0) = true := by simpa using t_dir
    have T := Lib.hid (show Zy r q.top = true by unfold Zy; simp [HK.out, T_pf.out, T_pt.out, T_resp.out, t_dir])
    refine Zh ?_
    repeat (go_big_quiet_step (fail))
    refine wpQuiet_nil ?_
    intro _ hw'
    obtain ⟨nq, rfl⟩ := hw'
    go_wp2_with fail
    go_ret
    exact ⟨Zl T.out.symm, below_drewN HB.out _⟩
  have i_dir : (r.dir != 0) = false := by simpa using t_dir
  have T_dir := Lib.hid t_dir
  clear t_dir
  refine Zh ?_
  repeat (go_big_quiet_step (fail))
  refine wpQuiet_nil ?_
  intro _ hw'
  obtain ⟨nq, rfl⟩ := hw'
  go_upto_region 10 with (fail)
  by_cases t_pos : r.pos = 0
  rotate_left
  · have i_pos : (r.pos != 0) = true := by simpa using t_pos
    have T := Lib.hid (show Zy r q.top = true by unfold Zy; simp [HK.out, T_pf.out, T_pt.out, T_resp.out, T_dir.out, t_pos])
    refine Zh ?_
    repeat (go_big_quiet_step (fail))
    refine wpQuiet_nil ?_
    intro _ hw'
    obtain ⟨nq, rfl⟩ := hw'
    go_wp2_with fail
    go_ret
    exact ⟨Zl T.out.symm, below_drewN HB.out _⟩
  have i_pos : (r.pos != 0) = false := by simpa using t_pos
  have T_pos := Lib.hid t_pos
  clear t_pos
  by_cases t_left : 0 < m14
  · have i_left : (0 : Int) < ((m14 : Nat) : Int) := by omega
    have T := Lib.hid (show Zy r q.top = true by unfold Zy; simp [HK.out, T_pf.out, T_pt.out, T_resp.out, T_dir.out, T_pos.out, Ym (M14.out ▸ t_left)])
    refine Zh ?_
    repeat (go_big_quiet_step (fail))
    refine wpQuiet_nil ?_
    intro _ hw'
    obtain ⟨nq, rfl⟩ := hw'
    go_wp2_with fail
    go_ret
    exact ⟨Zl T.out.symm, below_drewN HB.out _⟩
  have i_left : ¬ (0 : Int) < ((m14 : Nat) : Int) := by omega
  have T_left := Lib.hid (Yw (M14.out ▸ t_left))
  by_cases t_right : 0 < m15
  · have i_right : (0 : Int) < ((m15 : Nat) : Int) := by omega
    have T := Lib.hid (show Zy r q.top = true by unfold Zy; simp [HK.out, T_pf.out, T_pt.out, T_resp.out, T_dir.out, T_pos.out, T_left.out, Ym (M15.out ▸ t_right)])
    refine Zh ?_
    repeat (go_big_quiet_step (fail))
    refine wpQuiet_nil ?_
    intro _ hw'
    obtain ⟨nq, rfl⟩ := hw'
    go_wp2_with fail
    go_ret
    exact ⟨Zl T.out.symm, below_drewN HB.out _⟩
  have i_right : ¬ (0 : Int) < ((m15 : Nat) : Int) := by omega
  have T_right := Lib.hid (Yw (M15.out ▸ t_right))
  refine Zh ?_
  repeat (go_big_quiet_step (fail))
  refine wpQuiet_nil ?_
  intro _ hw'
  obtain ⟨nq, rfl⟩ := hw'
  go_upto_region 12 with (fail)
  by_cases tp : 0 < m16
  · have ip : (0 : Int) < ((m16 : Nat) : Int) := by omega
    have T := Lib.hid (show Zy r q.top = true by unfold Zy; simp [HK.out, T_pf.out, T_pt.out, T_resp.out, T_dir.out, T_pos.out, T_left.out, T_right.out, Ym (M16.out ▸ tp)])
    refine Zh ?_
    repeat (go_big_quiet_step (fail))
    refine wpQuiet_nil ?_
    intro _ hw'
    obtain ⟨nq, rfl⟩ := hw'
    go_wp2_with fail
    go_ret
    exact ⟨Zl T.out.symm, below_drewN HB.out _⟩
  have ip : ¬ (0 : Int) < ((m16 : Nat) : Int) := by omega
  have T := Lib.hid (show Zy r q.top = false by unfold Zy; simp [HK.out, T_pf.out, T_pt.out, T_resp.out, T_dir.out, T_pos.out, T_left.out, T_right.out, Yw (M16.out ▸ tp)])
  refine Zh ?_
  repeat (go_big_quiet_step (fail))
  refine wpQuiet_nil ?_
  intro _ hw'
  obtain ⟨nq, rfl⟩ := hw'
  go_wp2_with fail
  go_ret
  exact ⟨Zl T.out.symm, below_drewN HB.out _⟩
set_option maxRecDepth 100000 in
set_option maxHeartbeats 6400000 in
theorem unused_2 {lo lo' : Nat} {w : World} {v : Value} {cs : List Value} {q : Fm} {r : Ru} (hk : r.kind = 2) (hq : IsFam lo w v q) (h : RuEl lo' w cs r) :
    Calls Try.prog 116 #[v, .agg cs.toArray] w fun e w' => e = .returned (.bool (Zy r q.top)) ∧ Below w.heap.size w w' := by
  obtain ⟨v2, v3, v4, v6, v7, v8, v9, rfl, _, _, h2, h3, h4, _, h6, h7, h8, h9⟩ := hq
  obtain ⟨a2, c2, rfl⟩ := h2.shape
  obtain ⟨a3, c3, rfl⟩ := h3.shape
  obtain ⟨a4, c4, rfl⟩ := h4.shape
  clear h2 h3 h4 h6 h7 h8 h9
  obtain ⟨u6, u7, u8, u9, u12, u14, u15, u16, hcs, k6, k7, k8, k9, k12, k14, k15, k16⟩ := Km h
  obtain ⟨b6, d6, rfl⟩ := k6.shape
  obtain ⟨b7, d7, rfl⟩ := k7.shape
  obtain ⟨b8, d8, rfl⟩ := k8.shape
  obtain ⟨b9, d9, rfl⟩ := k9.shape
  obtain ⟨b12, d12, rfl⟩ := k12.shape
  obtain ⟨b14, d14, rfl⟩ := k14.shape
  obtain ⟨b15, d15, rfl⟩ := k15.shape
  obtain ⟨b16, d16, rfl⟩ := k16.shape
  clear h k6 k7 k8 k9 k12 k14 k15 k16
  have HC := Lib.hid hcs
  clear hcs
  obtain ⟨m6, hm6⟩ : ∃ m, m = r.resp.length := ⟨_, rfl⟩
  have M6 := Lib.hid hm6
  clear hm6
  obtain ⟨m7, hm7⟩ : ∃ m, m = r.guards.length := ⟨_, rfl⟩
  have M7 := Lib.hid hm7
  clear hm7
  obtain ⟨m8, hm8⟩ : ∃ m, m = r.ex.length := ⟨_, rfl⟩
  have M8 := Lib.hid hm8
  clear hm8
  obtain ⟨m9, hm9⟩ : ∃ m, m = r.fa.length := ⟨_, rfl⟩
  have M9 := Lib.hid hm9
  clear hm9
  obtain ⟨m12, hm12⟩ : ∃ m, m = r.send.length := ⟨_, rfl⟩
  have M12 := Lib.hid hm12
  clear hm12
  obtain ⟨m14, hm14⟩ : ∃ m, m = r.left.length := ⟨_, rfl⟩
  have M14 := Lib.hid hm14
  clear hm14
  obtain ⟨m15, hm15⟩ : ∃ m, m = r.right.length := ⟨_, rfl⟩
  have M15 := Lib.hid hm15
  clear hm15
  obtain ⟨m16, hm16⟩ : ∃ m, m = r.parent.length := ⟨_, rfl⟩
  have M16 := Lib.hid hm16
  clear hm16
  go_enter Try.func116, Try.ntmps116
  go_upto_region 1 with (fail)
  obtain ⟨W, hW⟩ : ∃ W : World, W = (w.alloc (.cells #[.string q.nm, .int .i64 q.top, .slice a2 q.states.length c2, .slice a3 q.msgs.length c3, .slice a4 q.vals.length c4, .int .i64 q.fault, v6, v7, v8, v9] 27)).alloc (.cells cs.toArray 50) := ⟨_, rfl⟩
  rw [← hW]
  have HB := Lib.hid (show Below w.heap.size w W by rw [hW]; show Below _ _ _; go_grown)
  have x1' : W.cell? ⟨w.heap.size, 1, none⟩ = some (.int .i64 q.top) := by rw [hW]; exact keep1 ((ZK w _ _ 1 rfl).trans rfl) (Zg _ _)
  have HG := Lib.hid (show W.heap[w.heap.size + 1]? = some (.cells cs.toArray 50 (0, 0)) by rw [hW]; exact Yd _ _ (by simp))
  clear hW
  have y1 : W.cell? ⟨w.heap.size + 1, 1, none⟩ = some (.int .i64 2) := by rw [← hk]; exact ZF HG.out 1 (by rw [HC.out]; rfl)
  have y4 : W.cell? ⟨w.heap.size + 1, 4, none⟩ = some (.int .i64 r.pf) := ZF HG.out 4 (by rw [HC.out]; rfl)
  have y5 : W.cell? ⟨w.heap.size + 1, 5, none⟩ = some (.int .i64 r.pt) := ZF HG.out 5 (by rw [HC.out]; rfl)
  have y6 : W.cell? ⟨w.heap.size + 1, 6, none⟩ = some (.slice b6 m6 d6) := ZF HG.out 6 (by rw [HC.out, M6.out]; rfl)
  have y7 : W.cell? ⟨w.heap.size + 1, 7, none⟩ = some (.slice b7 m7 d7) := ZF HG.out 7 (by rw [HC.out, M7.out]; rfl)
  have y8 : W.cell? ⟨w.heap.size + 1, 8, none⟩ = some (.slice b8 m8 d8) := ZF HG.out 8 (by rw [HC.out, M8.out]; rfl)
  have y9 : W.cell? ⟨w.heap.size + 1, 9, none⟩ = some (.slice b9 m9 d9) := ZF HG.out 9 (by rw [HC.out, M9.out]; rfl)
  have y10 : W.cell? ⟨w.heap.size + 1, 10, none⟩ = some (.int .i64 r.rd) := ZF HG.out 10 (by rw [HC.out]; rfl)
  have y11 : W.cell? ⟨w.heap.size + 1, 11, none⟩ = some (.int .i64 r.wr) := ZF HG.out 11 (by rw [HC.out]; rfl)
  have y12 : W.cell? ⟨w.heap.size + 1, 12, none⟩ = some (.slice b12 m12 d12) := ZF HG.out 12 (by rw [HC.out, M12.out]; rfl)
  have y13 : W.cell? ⟨w.heap.size + 1, 13, none⟩ = some (.int .i64 r.pos) := ZF HG.out 13 (by rw [HC.out]; rfl)
  have y14 : W.cell? ⟨w.heap.size + 1, 14, none⟩ = some (.slice b14 m14 d14) := ZF HG.out 14 (by rw [HC.out, M14.out]; rfl)
  have y15 : W.cell? ⟨w.heap.size + 1, 15, none⟩ = some (.slice b15 m15 d15) := ZF HG.out 15 (by rw [HC.out, M15.out]; rfl)
  have y16 : W.cell? ⟨w.heap.size + 1, 16, none⟩ = some (.slice b16 m16 d16) := ZF HG.out 16 (by rw [HC.out, M16.out]; rfl)
  have y17 : W.cell? ⟨w.heap.size + 1, 17, none⟩ = some (.int .i64 r.dir) := ZF HG.out 17 (by rw [HC.out]; rfl)
  have HK := Lib.hid hk
  clear hk
  go_quiet (fail)
  go_upto_region 2 with (fail)
  by_cases t_guards : 0 < m7
  · have i_guards : (0 : Int) < ((m7 : Nat) : Int) := by omega
    have T := Lib.hid (show Zy r q.top = true by unfold Zy; simp [HK.out, Ym (M7.out ▸ t_guards)])
    refine Zh ?_
    repeat (go_big_quiet_step (fail))
    refine wpQuiet_nil ?_
    intro _ hw'
    obtain ⟨nq, rfl⟩ := hw'
    go_wp2_with fail
    go_ret
    exact ⟨Zl T.out.symm, below_drewN HB.out _⟩
  have i_guards : ¬ (0 : Int) < ((m7 : Nat) : Int) := by omega
  have T_guards := Lib.hid (Yw (M7.out ▸ t_guards))
  by_cases t_ex : 0 < m8
  · have i_ex : (0 : Int) < ((m8 : Nat) : Int) := by omega
    have T := Lib.hid (show Zy r q.top = true by unfold Zy; simp [HK.out, T_guards.out, Ym (M8.out ▸ t_ex)])
    refine Zh ?_
    repeat (go_big_quiet_step (fail))
    refine wpQuiet_nil ?_
    intro _ hw'
    obtain ⟨nq, rfl⟩ := hw'
    go_wp2_with fail
    go_ret
    exact ⟨Zl T.out.symm, below_drewN HB.out _⟩
  have i_ex : ¬ (0 : Int) < ((m8 : Nat) : Int) := by omega
  have T_ex := Lib.hid (Yw (M8.out ▸ t_ex))
  by_cases t_fa : 0 < m9
  · have i_fa : (0 : Int) < ((m9 : Nat) : Int) := by omega
    have T := Lib.hid (show Zy r q.top = true by unfold Zy; simp [HK.out, T_guards.out, T_ex.out, Ym (M9.out ▸ t_fa)])
    refine Zh ?_
    repeat (go_big_quiet_step (fail))
    refine wpQuiet_nil ?_
    intro _ hw'
    obtain ⟨nq, rfl⟩ := hw'
    go_wp2_with fail
    go_ret
    exact ⟨Zl T.out.symm, below_drewN HB.out _⟩
  have i_fa : ¬ (0 : Int) < ((m9 : Nat) : Int) := by omega
  have T_fa := Lib.hid (Yw (M9.out ▸ t_fa))
  by_cases t_send : 0 < m12
  · have i_send : (0 : Int) < ((m12 : Nat) : Int) := by omega
    have T := Lib.hid (show Zy r q.top = true by unfold Zy; simp [HK.out, T_guards.out, T_ex.out, T_fa.out, Ym (M12.out ▸ t_send)])
    refine Zh ?_
    repeat (go_big_quiet_step (fail))
    refine wpQuiet_nil ?_
    intro _ hw'
    obtain ⟨nq, rfl⟩ := hw'
    go_wp2_with fail
    go_ret
    exact ⟨Zl T.out.symm, below_drewN HB.out _⟩
  have i_send : ¬ (0 : Int) < ((m12 : Nat) : Int) := by omega
  have T_send := Lib.hid (Yw (M12.out ▸ t_send))
  refine Zh ?_
  repeat (go_big_quiet_step (fail))
  refine wpQuiet_nil ?_
  intro _ hw'
  obtain ⟨nq, rfl⟩ := hw'
  go_upto_region 4 with (fail)
  refine Zh ?_
  repeat (go_big_quiet_step (fail))
  refine wpQuiet_nil ?_
  intro _ hw'
  obtain ⟨nq, rfl⟩ := hw'
  go_upto_region 6 with (fail)
  refine Zh ?_
  repeat (go_big_quiet_step (fail))
  refine wpQuiet_nil ?_
  intro _ hw'
  obtain ⟨nq, rfl⟩ := hw'
  go_upto_region 8 with (fail)
  by_cases t_resp : 0 < m6
  · have i_resp : (0 : Int) < ((m6 : Nat) : Int) := by omega
    have T := Lib.hid (show Zy r q.top = true by unfold Zy; simp [HK.out, T_guards.out, T_ex.out, T_fa.out, T_send.out, Ym (M6.out ▸ t_resp)])
    refine Zh ?_
    repeat (go_big_quiet_step (fail))
    refine wpQuiet_nil ?_
    intro _ hw'
    obtain ⟨nq, rfl⟩ := hw'
    go_wp2_with fail
    go_ret
    exact ⟨Zl T.out.symm, below_drewN HB.out _⟩
  have i_resp : ¬ (0 : Int) < ((m6 : Nat) : Int) := by omega
  have T_resp := Lib.hid (Yw (M6.out ▸ t_resp))
  by_cases t_dir : r.dir = 0
  rotate_left
  · have i_dir : (r.dir != 0) = true := by simpa using t_dir
    have T := Lib.hid (show Zy r q.top = true by unfold Zy; simp [HK.out, T_guards.out, T_ex.out, T_fa.out, T_send.out, T_resp.out, t_dir])
    refine Zh ?_
    repeat (go_big_quiet_step (fail))
    refine wpQuiet_nil ?_
    intro _ hw'
    obtain ⟨nq, rfl⟩ := hw'
    go_wp2_with fail
    go_ret
    exact ⟨Zl T.out.symm, below_drewN HB.out _⟩
  have i_dir : (r.dir != 0) = false := by simpa using t_dir
  have T_dir := Lib.hid t_dir
  clear t_dir
  refine Zh ?_
  repeat (go_big_quiet_step (fail))
  refine wpQuiet_nil ?_
  intro _ hw'
  obtain ⟨nq, rfl⟩ := hw'
  go_upto_region 10 with (fail)
  by_cases t_pos : r.pos = 0
  rotate_left
  · have i_pos : (r.pos != 0) = true := by simpa using t_pos
    have T := Lib.hid (show Zy r q.top = true by unfold Zy; simp [HK.out, T_guards.out, T_ex.out, T_fa.out, T_send.out, T_resp.out, T_dir.out, t_pos])
    refine Zh ?_
    repeat (go_big_quiet_step (fail))
    refine wpQuiet_nil ?_
    intro _ hw'
    obtain ⟨nq, rfl⟩ := hw'
    go_wp2_with fail
    go_ret
    exact ⟨Zl T.out.symm, below_drewN HB.out _⟩
  have i_pos : (r.pos != 0) = false := by simpa using t_pos
  have T_pos := Lib.hid t_pos
  clear t_pos
  by_cases t_left : 0 < m14
  · have i_left : (0 : Int) < ((m14 : Nat) : Int) := by omega
    have T := Lib.hid (show Zy r q.top = true by unfold Zy; simp [HK.out, T_guards.out, T_ex.out, T_fa.out, T_send.out, T_resp.out, T_dir.out, T_pos.out, Ym (M14.out ▸ t_left)])
    refine Zh ?_
    repeat (go_big_quiet_step (fail))
    refine wpQuiet_nil ?_
    intro _ hw'
    obtain ⟨nq, rfl⟩ := hw'
    go_wp2_with fail
    go_ret
    exact ⟨Zl T.out.symm, below_drewN HB.out _⟩
  have i_left : ¬ (0 : Int) < ((m14 : Nat) : Int) := by omega
  have T_left := Lib.hid (Yw (M14.out ▸ t_left))
  by_cases t_right : 0 < m15
  · have i_right : (0 : Int) < ((m15 : Nat) : Int) := by omega
    have T := Lib.hid (show Zy r q.top = true by unfold Zy; simp [HK.out, T_guards.out, T_ex.out, T_fa.out, T_send.out, T_resp.out, T_dir.out, T_pos.out, T_left.out, Ym (M15.out ▸ t_right)])
    refine Zh ?_
    repeat (go_big_quiet_step (fail))
    refine wpQuiet_nil ?_
    intro _ hw'
    obtain ⟨nq, rfl⟩ := hw'
    go_wp2_with fail
    go_ret
    exact ⟨Zl T.out.symm, below_drewN HB.out _⟩
  have i_right : ¬ (0 : Int) < ((m15 : Nat) : Int) := by omega
  have T_right := Lib.hid (Yw (M15.out ▸ t_right))
  refine Zh ?_
  repeat (go_big_quiet_step (fail))
  refine wpQuiet_nil ?_
  intro _ hw'
  obtain ⟨nq, rfl⟩ := hw'
  go_upto_region 12 with (fail)
  by_cases tp : 0 < m16
  · have ip : (0 : Int) < ((m16 : Nat) : Int) := by omega
    have T := Lib.hid (show Zy r q.top = true by unfold Zy; simp [HK.out, T_guards.out, T_ex.out, T_fa.out, T_send.out, T_resp.out, T_dir.out, T_pos.out, T_left.out, T_right.out, Ym (M16.out ▸ tp)])
    refine Zh ?_
    repeat (go_big_quiet_step (fail))
    refine wpQuiet_nil ?_
    intro _ hw'
    obtain ⟨nq, rfl⟩ := hw'
    go_wp2_with fail
    go_ret
    exact ⟨Zl T.out.symm, below_drewN HB.out _⟩
  have ip : ¬ (0 : Int) < ((m16 : Nat) : Int) := by omega
  have T := Lib.hid (show Zy r q.top = false by unfold Zy; simp [HK.out, T_guards.out, T_ex.out, T_fa.out, T_send.out, T_resp.out, T_dir.out, T_pos.out, T_left.out, T_right.out, Yw (M16.out ▸ tp)])
  refine Zh ?_
  repeat (go_big_quiet_step (fail))
  refine wpQuiet_nil ?_
  intro _ hw'
  obtain ⟨nq, rfl⟩ := hw'
  go_wp2_with fail
  go_ret
  exact ⟨Zl T.out.symm, below_drewN HB.out _⟩
set_option maxRecDepth 100000 in
set_option maxHeartbeats 6400000 in
theorem unused_3 {lo lo' : Nat} {w : World} {v : Value} {cs : List Value} {q : Fm} {r : Ru} (hk : r.kind = 3) (hq : IsFam lo w v q) (h : RuEl lo' w cs r) :
    Calls Try.prog 116 #[v, .agg cs.toArray] w fun e w' => e = .returned (.bool (Zy r q.top)) ∧ Below w.heap.size w w' := by
  obtain ⟨v2, v3, v4, v6, v7, v8, v9, rfl, _, _, h2, h3, h4, _, h6, h7, h8, h9⟩ := hq
  obtain ⟨a2, c2, rfl⟩ := h2.shape
  obtain ⟨a3, c3, rfl⟩ := h3.shape
  obtain ⟨a4, c4, rfl⟩ := h4.shape
  clear h2 h3 h4 h6 h7 h8 h9
  obtain ⟨u6, u7, u8, u9, u12, u14, u15, u16, hcs, k6, k7, k8, k9, k12, k14, k15, k16⟩ := Km h
  obtain ⟨b6, d6, rfl⟩ := k6.shape
  obtain ⟨b7, d7, rfl⟩ := k7.shape
  obtain ⟨b8, d8, rfl⟩ := k8.shape
  obtain ⟨b9, d9, rfl⟩ := k9.shape
  obtain ⟨b12, d12, rfl⟩ := k12.shape
  obtain ⟨b14, d14, rfl⟩ := k14.shape
  obtain ⟨b15, d15, rfl⟩ := k15.shape
  obtain ⟨b16, d16, rfl⟩ := k16.shape
  clear h k6 k7 k8 k9 k12 k14 k15 k16
  have HC := Lib.hid hcs
  clear hcs
  obtain ⟨m6, hm6⟩ : ∃ m, m = r.resp.length := ⟨_, rfl⟩
  have M6 := Lib.hid hm6
  clear hm6
  obtain ⟨m7, hm7⟩ : ∃ m, m = r.guards.length := ⟨_, rfl⟩
  have M7 := Lib.hid hm7
  clear hm7
  obtain ⟨m8, hm8⟩ : ∃ m, m = r.ex.length := ⟨_, rfl⟩
  have M8 := Lib.hid hm8
  clear hm8
  obtain ⟨m9, hm9⟩ : ∃ m, m = r.fa.length := ⟨_, rfl⟩
  have M9 := Lib.hid hm9
  clear hm9
  obtain ⟨m12, hm12⟩ : ∃ m, m = r.send.length := ⟨_, rfl⟩
  have M12 := Lib.hid hm12
  clear hm12
  obtain ⟨m14, hm14⟩ : ∃ m, m = r.left.length := ⟨_, rfl⟩
  have M14 := Lib.hid hm14
  clear hm14
  obtain ⟨m15, hm15⟩ : ∃ m, m = r.right.length := ⟨_, rfl⟩
  have M15 := Lib.hid hm15
  clear hm15
  obtain ⟨m16, hm16⟩ : ∃ m, m = r.parent.length := ⟨_, rfl⟩
  have M16 := Lib.hid hm16
  clear hm16
  go_enter Try.func116, Try.ntmps116
  go_upto_region 1 with (fail)
  obtain ⟨W, hW⟩ : ∃ W : World, W = (w.alloc (.cells #[.string q.nm, .int .i64 q.top, .slice a2 q.states.length c2, .slice a3 q.msgs.length c3, .slice a4 q.vals.length c4, .int .i64 q.fault, v6, v7, v8, v9] 27)).alloc (.cells cs.toArray 50) := ⟨_, rfl⟩
  rw [← hW]
  have HB := Lib.hid (show Below w.heap.size w W by rw [hW]; show Below _ _ _; go_grown)
  have x1' : W.cell? ⟨w.heap.size, 1, none⟩ = some (.int .i64 q.top) := by rw [hW]; exact keep1 ((ZK w _ _ 1 rfl).trans rfl) (Zg _ _)
  have HG := Lib.hid (show W.heap[w.heap.size + 1]? = some (.cells cs.toArray 50 (0, 0)) by rw [hW]; exact Yd _ _ (by simp))
  clear hW
  have y1 : W.cell? ⟨w.heap.size + 1, 1, none⟩ = some (.int .i64 3) := by rw [← hk]; exact ZF HG.out 1 (by rw [HC.out]; rfl)
  have y4 : W.cell? ⟨w.heap.size + 1, 4, none⟩ = some (.int .i64 r.pf) := ZF HG.out 4 (by rw [HC.out]; rfl)
  have y5 : W.cell? ⟨w.heap.size + 1, 5, none⟩ = some (.int .i64 r.pt) := ZF HG.out 5 (by rw [HC.out]; rfl)
  have y6 : W.cell? ⟨w.heap.size + 1, 6, none⟩ = some (.slice b6 m6 d6) := ZF HG.out 6 (by rw [HC.out, M6.out]; rfl)
  have y7 : W.cell? ⟨w.heap.size + 1, 7, none⟩ = some (.slice b7 m7 d7) := ZF HG.out 7 (by rw [HC.out, M7.out]; rfl)
  have y8 : W.cell? ⟨w.heap.size + 1, 8, none⟩ = some (.slice b8 m8 d8) := ZF HG.out 8 (by rw [HC.out, M8.out]; rfl)
  have y9 : W.cell? ⟨w.heap.size + 1, 9, none⟩ = some (.slice b9 m9 d9) := ZF HG.out 9 (by rw [HC.out, M9.out]; rfl)
  have y10 : W.cell? ⟨w.heap.size + 1, 10, none⟩ = some (.int .i64 r.rd) := ZF HG.out 10 (by rw [HC.out]; rfl)
  have y11 : W.cell? ⟨w.heap.size + 1, 11, none⟩ = some (.int .i64 r.wr) := ZF HG.out 11 (by rw [HC.out]; rfl)
  have y12 : W.cell? ⟨w.heap.size + 1, 12, none⟩ = some (.slice b12 m12 d12) := ZF HG.out 12 (by rw [HC.out, M12.out]; rfl)
  have y13 : W.cell? ⟨w.heap.size + 1, 13, none⟩ = some (.int .i64 r.pos) := ZF HG.out 13 (by rw [HC.out]; rfl)
  have y14 : W.cell? ⟨w.heap.size + 1, 14, none⟩ = some (.slice b14 m14 d14) := ZF HG.out 14 (by rw [HC.out, M14.out]; rfl)
  have y15 : W.cell? ⟨w.heap.size + 1, 15, none⟩ = some (.slice b15 m15 d15) := ZF HG.out 15 (by rw [HC.out, M15.out]; rfl)
  have y16 : W.cell? ⟨w.heap.size + 1, 16, none⟩ = some (.slice b16 m16 d16) := ZF HG.out 16 (by rw [HC.out, M16.out]; rfl)
  have y17 : W.cell? ⟨w.heap.size + 1, 17, none⟩ = some (.int .i64 r.dir) := ZF HG.out 17 (by rw [HC.out]; rfl)
  have HK := Lib.hid hk
  clear hk
  go_quiet (fail)
  go_upto_region 2 with (fail)
  by_cases t_guards : 0 < m7
  · have i_guards : (0 : Int) < ((m7 : Nat) : Int) := by omega
    have T := Lib.hid (show Zy r q.top = true by unfold Zy; simp [HK.out, Ym (M7.out ▸ t_guards)])
    refine Zh ?_
    repeat (go_big_quiet_step (fail))
    refine wpQuiet_nil ?_
    intro _ hw'
    obtain ⟨nq, rfl⟩ := hw'
    go_wp2_with fail
    go_ret
    exact ⟨Zl T.out.symm, below_drewN HB.out _⟩
  have i_guards : ¬ (0 : Int) < ((m7 : Nat) : Int) := by omega
  have T_guards := Lib.hid (Yw (M7.out ▸ t_guards))
  by_cases t_ex : 0 < m8
  · have i_ex : (0 : Int) < ((m8 : Nat) : Int) := by omega
    have T := Lib.hid (show Zy r q.top = true by unfold Zy; simp [HK.out, T_guards.out, Ym (M8.out ▸ t_ex)])
    refine Zh ?_
    repeat (go_big_quiet_step (fail))
    refine wpQuiet_nil ?_
    intro _ hw'
    obtain ⟨nq, rfl⟩ := hw'
    go_wp2_with fail
    go_ret
    exact ⟨Zl T.out.symm, below_drewN HB.out _⟩
  have i_ex : ¬ (0 : Int) < ((m8 : Nat) : Int) := by omega
  have T_ex := Lib.hid (Yw (M8.out ▸ t_ex))
  by_cases t_fa : 0 < m9
  · have i_fa : (0 : Int) < ((m9 : Nat) : Int) := by omega
    have T := Lib.hid (show Zy r q.top = true by unfold Zy; simp [HK.out, T_guards.out, T_ex.out, Ym (M9.out ▸ t_fa)])
    refine Zh ?_
    repeat (go_big_quiet_step (fail))
    refine wpQuiet_nil ?_
    intro _ hw'
    obtain ⟨nq, rfl⟩ := hw'
    go_wp2_with fail
    go_ret
    exact ⟨Zl T.out.symm, below_drewN HB.out _⟩
  have i_fa : ¬ (0 : Int) < ((m9 : Nat) : Int) := by omega
  have T_fa := Lib.hid (Yw (M9.out ▸ t_fa))
  by_cases t_send : 0 < m12
  · have i_send : (0 : Int) < ((m12 : Nat) : Int) := by omega
    have T := Lib.hid (show Zy r q.top = true by unfold Zy; simp [HK.out, T_guards.out, T_ex.out, T_fa.out, Ym (M12.out ▸ t_send)])
    refine Zh ?_
    repeat (go_big_quiet_step (fail))
    refine wpQuiet_nil ?_
    intro _ hw'
    obtain ⟨nq, rfl⟩ := hw'
    go_wp2_with fail
    go_ret
    exact ⟨Zl T.out.symm, below_drewN HB.out _⟩
  have i_send : ¬ (0 : Int) < ((m12 : Nat) : Int) := by omega
  have T_send := Lib.hid (Yw (M12.out ▸ t_send))
  refine Zh ?_
  repeat (go_big_quiet_step (fail))
  refine wpQuiet_nil ?_
  intro _ hw'
  obtain ⟨nq, rfl⟩ := hw'
  go_upto_region 4 with (fail)
  refine Zh ?_
  repeat (go_big_quiet_step (fail))
  refine wpQuiet_nil ?_
  intro _ hw'
  obtain ⟨nq, rfl⟩ := hw'
  go_upto_region 6 with (fail)
  by_cases t_pf : r.pf = 0
  rotate_left
  · have i_pf : (r.pf != 0) = true := by simpa using t_pf
    have T := Lib.hid (show Zy r q.top = true by unfold Zy; simp [HK.out, T_guards.out, T_ex.out, T_fa.out, T_send.out, t_pf])
    refine Zh ?_
    repeat (go_big_quiet_step (fail))
    refine wpQuiet_nil ?_
    intro _ hw'
    obtain ⟨nq, rfl⟩ := hw'
    go_wp2_with fail
    go_ret
    exact ⟨Zl T.out.symm, below_drewN HB.out _⟩
  have i_pf : (r.pf != 0) = false := by simpa using t_pf
  have T_pf := Lib.hid t_pf
  clear t_pf
  by_cases t_pt : r.pt = 0
  rotate_left
  · have i_pt : (r.pt != 0) = true := by simpa using t_pt
    have T := Lib.hid (show Zy r q.top = true by unfold Zy; simp [HK.out, T_guards.out, T_ex.out, T_fa.out, T_send.out, T_pf.out, t_pt])
    refine Zh ?_
    repeat (go_big_quiet_step (fail))
    refine wpQuiet_nil ?_
    intro _ hw'
    obtain ⟨nq, rfl⟩ := hw'
    go_wp2_with fail
    go_ret
    exact ⟨Zl T.out.symm, below_drewN HB.out _⟩
  have i_pt : (r.pt != 0) = false := by simpa using t_pt
  have T_pt := Lib.hid t_pt
  clear t_pt
  refine Zh ?_
  repeat (go_big_quiet_step (fail))
  refine wpQuiet_nil ?_
  intro _ hw'
  obtain ⟨nq, rfl⟩ := hw'
  go_upto_region 8 with (fail)
  by_cases t_dir : r.dir = 0
  rotate_left
  · have i_dir : (r.dir != 0) = true := by simpa using t_dir
    have T := Lib.hid (show Zy r q.top = true by unfold Zy; simp [HK.out, T_guards.out, T_ex.out, T_fa.out, T_send.out, T_pf.out, T_pt.out, t_dir])
    refine Zh ?_
    repeat (go_big_quiet_step (fail))
    refine wpQuiet_nil ?_
    intro _ hw'
    obtain ⟨nq, rfl⟩ := hw'
    go_wp2_with fail
    go_ret
    exact ⟨Zl T.out.symm, below_drewN HB.out _⟩
  have i_dir : (r.dir != 0) = false := by simpa using t_dir
  have T_dir := Lib.hid t_dir
  clear t_dir
  refine Zh ?_
  repeat (go_big_quiet_step (fail))
  refine wpQuiet_nil ?_
  intro _ hw'
  obtain ⟨nq, rfl⟩ := hw'
  go_upto_region 10 with (fail)
  by_cases t_pos : r.pos = 0
  rotate_left
  · have i_pos : (r.pos != 0) = true := by simpa using t_pos
    have T := Lib.hid (show Zy r q.top = true by unfold Zy; simp [HK.out, T_guards.out, T_ex.out, T_fa.out, T_send.out, T_pf.out, T_pt.out, T_dir.out, t_pos])
    refine Zh ?_
    repeat (go_big_quiet_step (fail))
    refine wpQuiet_nil ?_
    intro _ hw'
    obtain ⟨nq, rfl⟩ := hw'
    go_wp2_with fail
    go_ret
    exact ⟨Zl T.out.symm, below_drewN HB.out _⟩
  have i_pos : (r.pos != 0) = false := by simpa using t_pos
  have T_pos := Lib.hid t_pos
  clear t_pos
  by_cases t_left : 0 < m14
  · have i_left : (0 : Int) < ((m14 : Nat) : Int) := by omega
    have T := Lib.hid (show Zy r q.top = true by unfold Zy; simp [HK.out, T_guards.out, T_ex.out, T_fa.out, T_send.out, T_pf.out, T_pt.out, T_dir.out, T_pos.out, Ym (M14.out ▸ t_left)])
    refine Zh ?_
    repeat (go_big_quiet_step (fail))
    refine wpQuiet_nil ?_
    intro _ hw'
    obtain ⟨nq, rfl⟩ := hw'
    go_wp2_with fail
    go_ret
    exact ⟨Zl T.out.symm, below_drewN HB.out _⟩
  have i_left : ¬ (0 : Int) < ((m14 : Nat) : Int) := by omega
  have T_left := Lib.hid (Yw (M14.out ▸ t_left))
  by_cases t_right : 0 < m15
  · have i_right : (0 : Int) < ((m15 : Nat) : Int) := by omega
    have T := Lib.hid (show Zy r q.top = true by unfold Zy; simp [HK.out, T_guards.out, T_ex.out, T_fa.out, T_send.out, T_pf.out, T_pt.out, T_dir.out, T_pos.out, T_left.out, Ym (M15.out ▸ t_right)])
    refine Zh ?_
    repeat (go_big_quiet_step (fail))
    refine wpQuiet_nil ?_
    intro _ hw'
    obtain ⟨nq, rfl⟩ := hw'
    go_wp2_with fail
    go_ret
    exact ⟨Zl T.out.symm, below_drewN HB.out _⟩
  have i_right : ¬ (0 : Int) < ((m15 : Nat) : Int) := by omega
  have T_right := Lib.hid (Yw (M15.out ▸ t_right))
  refine Zh ?_
  repeat (go_big_quiet_step (fail))
  refine wpQuiet_nil ?_
  intro _ hw'
  obtain ⟨nq, rfl⟩ := hw'
  go_upto_region 12 with (fail)
  by_cases tp : 0 < m16
  · have ip : (0 : Int) < ((m16 : Nat) : Int) := by omega
    have T := Lib.hid (show Zy r q.top = true by unfold Zy; simp [HK.out, T_guards.out, T_ex.out, T_fa.out, T_send.out, T_pf.out, T_pt.out, T_dir.out, T_pos.out, T_left.out, T_right.out, Ym (M16.out ▸ tp)])
    refine Zh ?_
    repeat (go_big_quiet_step (fail))
    refine wpQuiet_nil ?_
    intro _ hw'
    obtain ⟨nq, rfl⟩ := hw'
    go_wp2_with fail
    go_ret
    exact ⟨Zl T.out.symm, below_drewN HB.out _⟩
  have ip : ¬ (0 : Int) < ((m16 : Nat) : Int) := by omega
  have T := Lib.hid (show Zy r q.top = false by unfold Zy; simp [HK.out, T_guards.out, T_ex.out, T_fa.out, T_send.out, T_pf.out, T_pt.out, T_dir.out, T_pos.out, T_left.out, T_right.out, Yw (M16.out ▸ tp)])
  refine Zh ?_
  repeat (go_big_quiet_step (fail))
  refine wpQuiet_nil ?_
  intro _ hw'
  obtain ⟨nq, rfl⟩ := hw'
  go_wp2_with fail
  go_ret
  exact ⟨Zl T.out.symm, below_drewN HB.out _⟩
set_option maxRecDepth 100000 in
set_option maxHeartbeats 6400000 in
theorem unused_4 {lo lo' : Nat} {w : World} {v : Value} {cs : List Value} {q : Fm} {r : Ru} (hk : r.kind = 4) (hq : IsFam lo w v q) (h : RuEl lo' w cs r) :
    Calls Try.prog 116 #[v, .agg cs.toArray] w fun e w' => e = .returned (.bool (Zy r q.top)) ∧ Below w.heap.size w w' := by
  obtain ⟨v2, v3, v4, v6, v7, v8, v9, rfl, _, _, h2, h3, h4, _, h6, h7, h8, h9⟩ := hq
  obtain ⟨a2, c2, rfl⟩ := h2.shape
  obtain ⟨a3, c3, rfl⟩ := h3.shape
  obtain ⟨a4, c4, rfl⟩ := h4.shape
  clear h2 h3 h4 h6 h7 h8 h9
  obtain ⟨u6, u7, u8, u9, u12, u14, u15, u16, hcs, k6, k7, k8, k9, k12, k14, k15, k16⟩ := Km h
  obtain ⟨b6, d6, rfl⟩ := k6.shape
  obtain ⟨b7, d7, rfl⟩ := k7.shape
  obtain ⟨b8, d8, rfl⟩ := k8.shape
  obtain ⟨b9, d9, rfl⟩ := k9.shape
  obtain ⟨b12, d12, rfl⟩ := k12.shape
  obtain ⟨b14, d14, rfl⟩ := k14.shape
  obtain ⟨b15, d15, rfl⟩ := k15.shape
  obtain ⟨b16, d16, rfl⟩ := k16.shape
  clear h k6 k7 k8 k9 k12 k14 k15 k16
  have HC := Lib.hid hcs
  clear hcs
  obtain ⟨m6, hm6⟩ : ∃ m, m = r.resp.length := ⟨_, rfl⟩
  have M6 := Lib.hid hm6
  clear hm6
  obtain ⟨m7, hm7⟩ : ∃ m, m = r.guards.length := ⟨_, rfl⟩
  have M7 := Lib.hid hm7
  clear hm7
  obtain ⟨m8, hm8⟩ : ∃ m, m = r.ex.length := ⟨_, rfl⟩
  have M8 := Lib.hid hm8
  clear hm8
  obtain ⟨m9, hm9⟩ : ∃ m, m = r.fa.length := ⟨_, rfl⟩
  have M9 := Lib.hid hm9
  clear hm9
  obtain ⟨m12, hm12⟩ : ∃ m, m = r.send.length := ⟨_, rfl⟩
  have M12 := Lib.hid hm12
  clear hm12
  obtain ⟨m14, hm14⟩ : ∃ m, m = r.left.length := ⟨_, rfl⟩
  have M14 := Lib.hid hm14
  clear hm14
  obtain ⟨m15, hm15⟩ : ∃ m, m = r.right.length := ⟨_, rfl⟩
  have M15 := Lib.hid hm15
  clear hm15
  obtain ⟨m16, hm16⟩ : ∃ m, m = r.parent.length := ⟨_, rfl⟩
  have M16 := Lib.hid hm16
  clear hm16
  go_enter Try.func116, Try.ntmps116
  go_upto_region 1 with (fail)
  obtain ⟨W, hW⟩ : ∃ W : World, W = (w.alloc (.cells #[.string q.nm, .int .i64 q.top, .slice a2 q.states.length c2, .slice a3 q.msgs.length c3, .slice a4 q.vals.length c4, .int .i64 q.fault, v6, v7, v8, v9] 27)).alloc (.cells cs.toArray 50) := ⟨_, rfl⟩
  rw [← hW]
  have HB := Lib.hid (show Below w.heap.size w W by rw [hW]; show Below _ _ _; go_grown)
  have x1' : W.cell? ⟨w.heap.size, 1, none⟩ = some (.int .i64 q.top) := by rw [hW]; exact keep1 ((ZK w _ _ 1 rfl).trans rfl) (Zg _ _)
  have HG := Lib.hid (show W.heap[w.heap.size + 1]? = some (.cells cs.toArray 50 (0, 0)) by rw [hW]; exact Yd _ _ (by simp))
  clear hW
  have y1 : W.cell? ⟨w.heap.size + 1, 1, none⟩ = some (.int .i64 4) := by rw [← hk]; exact ZF HG.out 1 (by rw [HC.out]; rfl)
  have y4 : W.cell? ⟨w.heap.size + 1, 4, none⟩ = some (.int .i64 r.pf) := ZF HG.out 4 (by rw [HC.out]; rfl)
  have y5 : W.cell? ⟨w.heap.size + 1, 5, none⟩ = some (.int .i64 r.pt) := ZF HG.out 5 (by rw [HC.out]; rfl)
  have y6 : W.cell? ⟨w.heap.size + 1, 6, none⟩ = some (.slice b6 m6 d6) := ZF HG.out 6 (by rw [HC.out, M6.out]; rfl)
  have y7 : W.cell? ⟨w.heap.size + 1, 7, none⟩ = some (.slice b7 m7 d7) := ZF HG.out 7 (by rw [HC.out, M7.out]; rfl)
  have y8 : W.cell? ⟨w.heap.size + 1, 8, none⟩ = some (.slice b8 m8 d8) := ZF HG.out 8 (by rw [HC.out, M8.out]; rfl)
  have y9 : W.cell? ⟨w.heap.size + 1, 9, none⟩ = some (.slice b9 m9 d9) := ZF HG.out 9 (by rw [HC.out, M9.out]; rfl)
  have y10 : W.cell? ⟨w.heap.size + 1, 10, none⟩ = some (.int .i64 r.rd) := ZF HG.out 10 (by rw [HC.out]; rfl)
  have y11 : W.cell? ⟨w.heap.size + 1, 11, none⟩ = some (.int .i64 r.wr) := ZF HG.out 11 (by rw [HC.out]; rfl)
  have y12 : W.cell? ⟨w.heap.size + 1, 12, none⟩ = some (.slice b12 m12 d12) := ZF HG.out 12 (by rw [HC.out, M12.out]; rfl)
  have y13 : W.cell? ⟨w.heap.size + 1, 13, none⟩ = some (.int .i64 r.pos) := ZF HG.out 13 (by rw [HC.out]; rfl)
  have y14 : W.cell? ⟨w.heap.size + 1, 14, none⟩ = some (.slice b14 m14 d14) := ZF HG.out 14 (by rw [HC.out, M14.out]; rfl)
  have y15 : W.cell? ⟨w.heap.size + 1, 15, none⟩ = some (.slice b15 m15 d15) := ZF HG.out 15 (by rw [HC.out, M15.out]; rfl)
  have y16 : W.cell? ⟨w.heap.size + 1, 16, none⟩ = some (.slice b16 m16 d16) := ZF HG.out 16 (by rw [HC.out, M16.out]; rfl)
  have y17 : W.cell? ⟨w.heap.size + 1, 17, none⟩ = some (.int .i64 r.dir) := ZF HG.out 17 (by rw [HC.out]; rfl)
  have HK := Lib.hid hk
  clear hk
  go_quiet (fail)
  go_upto_region 2 with (fail)
  by_cases t_guards : 0 < m7
  · have i_guards : (0 : Int) < ((m7 : Nat) : Int) := by omega
    have T := Lib.hid (show Zy r q.top = true by unfold Zy; simp [HK.out, Ym (M7.out ▸ t_guards)])
    refine Zh ?_
    repeat (go_big_quiet_step (fail))
    refine wpQuiet_nil ?_
    intro _ hw'
    obtain ⟨nq, rfl⟩ := hw'
    go_wp2_with fail
    go_ret
    exact ⟨Zl T.out.symm, below_drewN HB.out _⟩
  have i_guards : ¬ (0 : Int) < ((m7 : Nat) : Int) := by omega
  have T_guards := Lib.hid (Yw (M7.out ▸ t_guards))
  by_cases t_ex : 0 < m8
  · have i_ex : (0 : Int) < ((m8 : Nat) : Int) := by omega
    have T := Lib.hid (show Zy r q.top = true by unfold Zy; simp [HK.out, T_guards.out, Ym (M8.out ▸ t_ex)])
    refine Zh ?_
    repeat (go_big_quiet_step (fail))
    refine wpQuiet_nil ?_
    intro _ hw'
    obtain ⟨nq, rfl⟩ := hw'
    go_wp2_with fail
    go_ret
    exact ⟨Zl T.out.symm, below_drewN HB.out _⟩
  have i_ex : ¬ (0 : Int) < ((m8 : Nat) : Int) := by omega
  have T_ex := Lib.hid (Yw (M8.out ▸ t_ex))
  by_cases t_fa : 0 < m9
  · have i_fa : (0 : Int) < ((m9 : Nat) : Int) := by omega
    have T := Lib.hid (show Zy r q.top = true by unfold Zy; simp [HK.out, T_guards.out, T_ex.out, Ym (M9.out ▸ t_fa)])
    refine Zh ?_
    repeat (go_big_quiet_step (fail))
    refine wpQuiet_nil ?_
    intro _ hw'
    obtain ⟨nq, rfl⟩ := hw'
    go_wp2_with fail
    go_ret
    exact ⟨Zl T.out.symm, below_drewN HB.out _⟩
  have i_fa : ¬ (0 : Int) < ((m9 : Nat) : Int) := by omega
  have T_fa := Lib.hid (Yw (M9.out ▸ t_fa))
  by_cases t_send : 0 < m12
  · have i_send : (0 : Int) < ((m12 : Nat) : Int) := by omega
    have T := Lib.hid (show Zy r q.top = true by unfold Zy; simp [HK.out, T_guards.out, T_ex.out, T_fa.out, Ym (M12.out ▸ t_send)])
    refine Zh ?_
    repeat (go_big_quiet_step (fail))
    refine wpQuiet_nil ?_
    intro _ hw'
    obtain ⟨nq, rfl⟩ := hw'
    go_wp2_with fail
    go_ret
    exact ⟨Zl T.out.symm, below_drewN HB.out _⟩
  have i_send : ¬ (0 : Int) < ((m12 : Nat) : Int) := by omega
  have T_send := Lib.hid (Yw (M12.out ▸ t_send))
  refine Zh ?_
  repeat (go_big_quiet_step (fail))
  refine wpQuiet_nil ?_
  intro _ hw'
  obtain ⟨nq, rfl⟩ := hw'
  go_upto_region 4 with (fail)
  by_cases t_rd : r.rd = (-1)
  rotate_left
  · have i_rd : (r.rd != (-1)) = true := by simpa using t_rd
    have T := Lib.hid (show Zy r q.top = true by unfold Zy; simp [HK.out, T_guards.out, T_ex.out, T_fa.out, T_send.out, t_rd])
    refine Zh ?_
    repeat (go_big_quiet_step (fail))
    refine wpQuiet_nil ?_
    intro _ hw'
    obtain ⟨nq, rfl⟩ := hw'
    go_wp2_with fail
    go_ret
    exact ⟨Zl T.out.symm, below_drewN HB.out _⟩
  have i_rd : (r.rd != (-1)) = false := by simpa using t_rd
  have T_rd := Lib.hid t_rd
  clear t_rd
  by_cases t_wr : r.wr = (-1)
  rotate_left
  · have i_wr : (r.wr != (-1)) = true := by simpa using t_wr
    have T := Lib.hid (show Zy r q.top = true by unfold Zy; simp [HK.out, T_guards.out, T_ex.out, T_fa.out, T_send.out, T_rd.out, t_wr])
    refine Zh ?_
    repeat (go_big_quiet_step (fail))
    refine wpQuiet_nil ?_
    intro _ hw'
    obtain ⟨nq, rfl⟩ := hw'
    go_wp2_with fail
    go_ret
    exact ⟨Zl T.out.symm, below_drewN HB.out _⟩
  have i_wr : (r.wr != (-1)) = false := by simpa using t_wr
  have T_wr := Lib.hid t_wr
  clear t_wr
  refine Zh ?_
  repeat (go_big_quiet_step (fail))
  refine wpQuiet_nil ?_
  intro _ hw'
  obtain ⟨nq, rfl⟩ := hw'
  go_upto_region 6 with (fail)
  by_cases t_pf : r.pf = 0
  rotate_left
  · have i_pf : (r.pf != 0) = true := by simpa using t_pf
    have T := Lib.hid (show Zy r q.top = true by unfold Zy; simp [HK.out, T_guards.out, T_ex.out, T_fa.out, T_send.out, T_rd.out, T_wr.out, t_pf])
    refine Zh ?_
    repeat (go_big_quiet_step (fail))
    refine wpQuiet_nil ?_
    intro _ hw'
    obtain ⟨nq, rfl⟩ := hw'
    go_wp2_with fail
    go_ret
    exact ⟨Zl T.out.symm, below_drewN HB.out _⟩
  have i_pf : (r.pf != 0) = false := by simpa using t_pf
  have T_pf := Lib.hid t_pf
  clear t_pf
  by_cases t_pt : r.pt = 0
  rotate_left
  · have i_pt : (r.pt != 0) = true := by simpa using t_pt
    have T := Lib.hid (show Zy r q.top = true by unfold Zy; simp [HK.out, T_guards.out, T_ex.out, T_fa.out, T_send.out, T_rd.out, T_wr.out, T_pf.out, t_pt])
    refine Zh ?_
    repeat (go_big_quiet_step (fail))
    refine wpQuiet_nil ?_
    intro _ hw'
    obtain ⟨nq, rfl⟩ := hw'
    go_wp2_with fail
    go_ret
    exact ⟨Zl T.out.symm, below_drewN HB.out _⟩
  have i_pt : (r.pt != 0) = false := by simpa using t_pt
  have T_pt := Lib.hid t_pt
  clear t_pt
  refine Zh ?_
  repeat (go_big_quiet_step (fail))
  refine wpQuiet_nil ?_
  intro _ hw'
  obtain ⟨nq, rfl⟩ := hw'
  go_upto_region 8 with (fail)
  by_cases t_resp : 0 < m6
  · have i_resp : (0 : Int) < ((m6 : Nat) : Int) := by omega
    have T := Lib.hid (show Zy r q.top = true by unfold Zy; simp [HK.out, T_guards.out, T_ex.out, T_fa.out, T_send.out, T_rd.out, T_wr.out, T_pf.out, T_pt.out, Ym (M6.out ▸ t_resp)])
    refine Zh ?_
    repeat (go_big_quiet_step (fail))
    refine wpQuiet_nil ?_
    intro _ hw'
    obtain ⟨nq, rfl⟩ := hw'
    go_wp2_with fail
    go_ret
    exact ⟨Zl T.out.symm, below_drewN HB.out _⟩
  have i_resp : ¬ (0 : Int) < ((m6 : Nat) : Int) := by omega
  have T_resp := Lib.hid (Yw (M6.out ▸ t_resp))
  by_cases t_dir : r.dir = 0
  rotate_left
  · have i_dir : (r.dir != 0) = true := by simpa using t_dir
    have T := Lib.hid (show Zy r q.top = true by unfold Zy; simp [HK.out, T_guards.out, T_ex.out, T_fa.out, T_send.out, T_rd.out, T_wr.out, T_pf.out, T_pt.out, T_resp.out, t_dir])
    refine Zh ?_
    repeat (go_big_quiet_step (fail))
    refine wpQuiet_nil ?_
    intro _ hw'
    obtain ⟨nq, rfl⟩ := hw'
    go_wp2_with fail
    go_ret
    exact ⟨Zl T.out.symm, below_drewN HB.out _⟩
  have i_dir : (r.dir != 0) = false := by simpa using t_dir
  have T_dir := Lib.hid t_dir
  clear t_dir
  refine Zh ?_
  repeat (go_big_quiet_step (fail))
  refine wpQuiet_nil ?_
  intro _ hw'
  obtain ⟨nq, rfl⟩ := hw'
  go_upto_region 10 with (fail)
  refine Zh ?_
  repeat (go_big_quiet_step (fail))
  refine wpQuiet_nil ?_
  intro _ hw'
  obtain ⟨nq, rfl⟩ := hw'
  go_upto_region 12 with (fail)
  by_cases tp : 0 < m16
  · have ip : (0 : Int) < ((m16 : Nat) : Int) := by omega
    by_cases tt : q.top = 4
    · have it : (q.top == 4) = true := by simp [tt]
      have T := Lib.hid (show Zy r q.top = false by unfold Zy; simp [HK.out, T_guards.out, T_ex.out, T_fa.out, T_send.out, T_rd.out, T_wr.out, T_pf.out, T_pt.out, T_resp.out, T_dir.out, Ym (M16.out ▸ tp), tt])
      clear tt
      refine Zh ?_
      repeat (go_big_quiet_step (fail))
      refine wpQuiet_nil ?_
      intro _ hw'
      obtain ⟨nq, rfl⟩ := hw'
      go_wp2_with fail
      go_ret
      exact ⟨Zl T.out.symm, below_drewN HB.out _⟩
    have it : (q.top == 4) = false := by simp [tt]
    have T := Lib.hid (show Zy r q.top = true by unfold Zy; simp [HK.out, T_guards.out, T_ex.out, T_fa.out, T_send.out, T_rd.out, T_wr.out, T_pf.out, T_pt.out, T_resp.out, T_dir.out, Ym (M16.out ▸ tp), tt])
    clear tt
    refine Zh ?_
    repeat (go_big_quiet_step (fail))
    refine wpQuiet_nil ?_
    intro _ hw'
    obtain ⟨nq, rfl⟩ := hw'
    go_wp2_with fail
    go_ret
    exact ⟨Zl T.out.symm, below_drewN HB.out _⟩
  have ip : ¬ (0 : Int) < ((m16 : Nat) : Int) := by omega
  have T := Lib.hid (show Zy r q.top = false by unfold Zy; simp [HK.out, T_guards.out, T_ex.out, T_fa.out, T_send.out, T_rd.out, T_wr.out, T_pf.out, T_pt.out, T_resp.out, T_dir.out, Yw (M16.out ▸ tp)])
  refine Zh ?_
  repeat (go_big_quiet_step (fail))
  refine wpQuiet_nil ?_
  intro _ hw'
  obtain ⟨nq, rfl⟩ := hw'
  go_wp2_with fail
  go_ret
  exact ⟨Zl T.out.symm, below_drewN HB.out _⟩
set_option maxRecDepth 100000 in
set_option maxHeartbeats 6400000 in
theorem unused_5 {lo lo' : Nat} {w : World} {v : Value} {cs : List Value} {q : Fm} {r : Ru} (hk : r.kind = 5) (hq : IsFam lo w v q) (h : RuEl lo' w cs r) :
    Calls Try.prog 116 #[v, .agg cs.toArray] w fun e w' => e = .returned (.bool (Zy r q.top)) ∧ Below w.heap.size w w' := by
  obtain ⟨v2, v3, v4, v6, v7, v8, v9, rfl, _, _, h2, h3, h4, _, h6, h7, h8, h9⟩ := hq
  obtain ⟨a2, c2, rfl⟩ := h2.shape
  obtain ⟨a3, c3, rfl⟩ := h3.shape
  obtain ⟨a4, c4, rfl⟩ := h4.shape
  clear h2 h3 h4 h6 h7 h8 h9
  obtain ⟨u6, u7, u8, u9, u12, u14, u15, u16, hcs, k6, k7, k8, k9, k12, k14, k15, k16⟩ := Km h
  obtain ⟨b6, d6, rfl⟩ := k6.shape
  obtain ⟨b7, d7, rfl⟩ := k7.shape
  obtain ⟨b8, d8, rfl⟩ := k8.shape
  obtain ⟨b9, d9, rfl⟩ := k9.shape
  obtain ⟨b12, d12, rfl⟩ := k12.shape
  obtain ⟨b14, d14, rfl⟩ := k14.shape
  obtain ⟨b15, d15, rfl⟩ := k15.shape
  obtain ⟨b16, d16, rfl⟩ := k16.shape
  clear h k6 k7 k8 k9 k12 k14 k15 k16
  have HC := Lib.hid hcs
  clear hcs
  obtain ⟨m6, hm6⟩ : ∃ m, m = r.resp.length := ⟨_, rfl⟩
  have M6 := Lib.hid hm6
  clear hm6
  obtain ⟨m7, hm7⟩ : ∃ m, m = r.guards.length := ⟨_, rfl⟩
  have M7 := Lib.hid hm7
  clear hm7
  obtain ⟨m8, hm8⟩ : ∃ m, m = r.ex.length := ⟨_, rfl⟩
  have M8 := Lib.hid hm8
  clear hm8
  obtain ⟨m9, hm9⟩ : ∃ m, m = r.fa.length := ⟨_, rfl⟩
  have M9 := Lib.hid hm9
  clear hm9
  obtain ⟨m12, hm12⟩ : ∃ m, m = r.send.length := ⟨_, rfl⟩
  have M12 := Lib.hid hm12
  clear hm12
  obtain ⟨m14, hm14⟩ : ∃ m, m = r.left.length := ⟨_, rfl⟩
  have M14 := Lib.hid hm14
  clear hm14
  obtain ⟨m15, hm15⟩ : ∃ m, m = r.right.length := ⟨_, rfl⟩
  have M15 := Lib.hid hm15
  clear hm15
  obtain ⟨m16, hm16⟩ : ∃ m, m = r.parent.length := ⟨_, rfl⟩
  have M16 := Lib.hid hm16
  clear hm16
  go_enter Try.func116, Try.ntmps116
  go_upto_region 1 with (fail)
  obtain ⟨W, hW⟩ : ∃ W : World, W = (w.alloc (.cells #[.string q.nm, .int .i64 q.top, .slice a2 q.states.length c2, .slice a3 q.msgs.length c3, .slice a4 q.vals.length c4, .int .i64 q.fault, v6, v7, v8, v9] 27)).alloc (.cells cs.toArray 50) := ⟨_, rfl⟩
  rw [← hW]
  have HB := Lib.hid (show Below w.heap.size w W by rw [hW]; show Below _ _ _; go_grown)
  have x1' : W.cell? ⟨w.heap.size, 1, none⟩ = some (.int .i64 q.top) := by rw [hW]; exact keep1 ((ZK w _ _ 1 rfl).trans rfl) (Zg _ _)
  have HG := Lib.hid (show W.heap[w.heap.size + 1]? = some (.cells cs.toArray 50 (0, 0)) by rw [hW]; exact Yd _ _ (by simp))
  clear hW
  have y1 : W.cell? ⟨w.heap.size + 1, 1, none⟩ = some (.int .i64 5) := by rw [← hk]; exact ZF HG.out 1 (by rw [HC.out]; rfl)
  have y4 : W.cell? ⟨w.heap.size + 1, 4, none⟩ = some (.int .i64 r.pf) := ZF HG.out 4 (by rw [HC.out]; rfl)
  have y5 : W.cell? ⟨w.heap.size + 1, 5, none⟩ = some (.int .i64 r.pt) := ZF HG.out 5 (by rw [HC.out]; rfl)
  have y6 : W.cell? ⟨w.heap.size + 1, 6, none⟩ = some (.slice b6 m6 d6) := ZF HG.out 6 (by rw [HC.out, M6.out]; rfl)
  have y7 : W.cell? ⟨w.heap.size + 1, 7, none⟩ = some (.slice b7 m7 d7) := ZF HG.out 7 (by rw [HC.out, M7.out]; rfl)
  have y8 : W.cell? ⟨w.heap.size + 1, 8, none⟩ = some (.slice b8 m8 d8) := ZF HG.out 8 (by rw [HC.out, M8.out]; rfl)
  have y9 : W.cell? ⟨w.heap.size + 1, 9, none⟩ = some (.slice b9 m9 d9) := ZF HG.out 9 (by rw [HC.out, M9.out]; rfl)
  have y10 : W.cell? ⟨w.heap.size + 1, 10, none⟩ = some (.int .i64 r.rd) := ZF HG.out 10 (by rw [HC.out]; rfl)
  have y11 : W.cell? ⟨w.heap.size + 1, 11, none⟩ = some (.int .i64 r.wr) := ZF HG.out 11 (by rw [HC.out]; rfl)
  have y12 : W.cell? ⟨w.heap.size + 1, 12, none⟩ = some (.slice b12 m12 d12) := ZF HG.out 12 (by rw [HC.out, M12.out]; rfl)
  have y13 : W.cell? ⟨w.heap.size + 1, 13, none⟩ = some (.int .i64 r.pos) := ZF HG.out 13 (by rw [HC.out]; rfl)
  have y14 : W.cell? ⟨w.heap.size + 1, 14, none⟩ = some (.slice b14 m14 d14) := ZF HG.out 14 (by rw [HC.out, M14.out]; rfl)
  have y15 : W.cell? ⟨w.heap.size + 1, 15, none⟩ = some (.slice b15 m15 d15) := ZF HG.out 15 (by rw [HC.out, M15.out]; rfl)
  have y16 : W.cell? ⟨w.heap.size + 1, 16, none⟩ = some (.slice b16 m16 d16) := ZF HG.out 16 (by rw [HC.out, M16.out]; rfl)
  have y17 : W.cell? ⟨w.heap.size + 1, 17, none⟩ = some (.int .i64 r.dir) := ZF HG.out 17 (by rw [HC.out]; rfl)
  have HK := Lib.hid hk
  clear hk
  go_quiet (fail)
  go_upto_region 2 with (fail)
  by_cases t_guards : 0 < m7
  · have i_guards : (0 : Int) < ((m7 : Nat) : Int) := by omega
    have T := Lib.hid (show Zy r q.top = true by unfold Zy; simp [HK.out, Ym (M7.out ▸ t_guards)])
    refine Zh ?_
    repeat (go_big_quiet_step (fail))
    refine wpQuiet_nil ?_
    intro _ hw'
    obtain ⟨nq, rfl⟩ := hw'
    go_wp2_with fail
    go_ret
    exact ⟨Zl T.out.symm, below_drewN HB.out _⟩
  have i_guards : ¬ (0 : Int) < ((m7 : Nat) : Int) := by omega
  have T_guards := Lib.hid (Yw (M7.out ▸ t_guards))
  by_cases t_ex : 0 < m8
  · have i_ex : (0 : Int) < ((m8 : Nat) : Int) := by omega
    have T := Lib.hid (show Zy r q.top = true by unfold Zy; simp [HK.out, T_guards.out, Ym (M8.out ▸ t_ex)])
    refine Zh ?_
    repeat (go_big_quiet_step (fail))
    refine wpQuiet_nil ?_
    intro _ hw'
    obtain ⟨nq, rfl⟩ := hw'
    go_wp2_with fail
    go_ret
    exact ⟨Zl T.out.symm, below_drewN HB.out _⟩
  have i_ex : ¬ (0 : Int) < ((m8 : Nat) : Int) := by omega
  have T_ex := Lib.hid (Yw (M8.out ▸ t_ex))
  by_cases t_fa : 0 < m9
  · have i_fa : (0 : Int) < ((m9 : Nat) : Int) := by omega
    have T := Lib.hid (show Zy r q.top = true by unfold Zy; simp [HK.out, T_guards.out, T_ex.out, Ym (M9.out ▸ t_fa)])
    refine Zh ?_
    repeat (go_big_quiet_step (fail))
    refine wpQuiet_nil ?_
    intro _ hw'
    obtain ⟨nq, rfl⟩ := hw'
    go_wp2_with fail
    go_ret
    exact ⟨Zl T.out.symm, below_drewN HB.out _⟩
  have i_fa : ¬ (0 : Int) < ((m9 : Nat) : Int) := by omega
  have T_fa := Lib.hid (Yw (M9.out ▸ t_fa))
  by_cases t_send : 0 < m12
  · have i_send : (0 : Int) < ((m12 : Nat) : Int) := by omega
    have T := Lib.hid (show Zy r q.top = true by unfold Zy; simp [HK.out, T_guards.out, T_ex.out, T_fa.out, Ym (M12.out ▸ t_send)])
    refine Zh ?_
    repeat (go_big_quiet_step (fail))
    refine wpQuiet_nil ?_
    intro _ hw'
    obtain ⟨nq, rfl⟩ := hw'
    go_wp2_with fail
    go_ret
    exact ⟨Zl T.out.symm, below_drewN HB.out _⟩
  have i_send : ¬ (0 : Int) < ((m12 : Nat) : Int) := by omega
  have T_send := Lib.hid (Yw (M12.out ▸ t_send))
  refine Zh ?_
  repeat (go_big_quiet_step (fail))
  refine wpQuiet_nil ?_
  intro _ hw'
  obtain ⟨nq, rfl⟩ := hw'
  go_upto_region 4 with (fail)
  by_cases t_rd : r.rd = (-1)
  rotate_left
  · have i_rd : (r.rd != (-1)) = true := by simpa using t_rd
    have T := Lib.hid (show Zy r q.top = true by unfold Zy; simp [HK.out, T_guards.out, T_ex.out, T_fa.out, T_send.out, t_rd])
    refine Zh ?_
    repeat (go_big_quiet_step (fail))
    refine wpQuiet_nil ?_
    intro _ hw'
    obtain ⟨nq, rfl⟩ := hw'
    go_wp2_with fail
    go_ret
    exact ⟨Zl T.out.symm, below_drewN HB.out _⟩
  have i_rd : (r.rd != (-1)) = false := by simpa using t_rd
  have T_rd := Lib.hid t_rd
  clear t_rd
  by_cases t_wr : r.wr = (-1)
  rotate_left
  · have i_wr : (r.wr != (-1)) = true := by simpa using t_wr
    have T := Lib.hid (show Zy r q.top = true by unfold Zy; simp [HK.out, T_guards.out, T_ex.out, T_fa.out, T_send.out, T_rd.out, t_wr])
    refine Zh ?_
    repeat (go_big_quiet_step (fail))
    refine wpQuiet_nil ?_
    intro _ hw'
    obtain ⟨nq, rfl⟩ := hw'
    go_wp2_with fail
    go_ret
    exact ⟨Zl T.out.symm, below_drewN HB.out _⟩
  have i_wr : (r.wr != (-1)) = false := by simpa using t_wr
  have T_wr := Lib.hid t_wr
  clear t_wr
  refine Zh ?_
  repeat (go_big_quiet_step (fail))
  refine wpQuiet_nil ?_
  intro _ hw'
  obtain ⟨nq, rfl⟩ := hw'
  go_upto_region 6 with (fail)
  refine Zh ?_
  repeat (go_big_quiet_step (fail))
  refine wpQuiet_nil ?_
  intro _ hw'
  obtain ⟨nq, rfl⟩ := hw'
  go_upto_region 8 with (fail)
  by_cases t_resp : 0 < m6
  · have i_resp : (0 : Int) < ((m6 : Nat) : Int) := by omega
    have T := Lib.hid (show Zy r q.top = true by unfold Zy; simp [HK.out, T_guards.out, T_ex.out, T_fa.out, T_send.out, T_rd.out, T_wr.out, Ym (M6.out ▸ t_resp)])
    refine Zh ?_
    repeat (go_big_quiet_step (fail))
    refine wpQuiet_nil ?_
    intro _ hw'
    obtain ⟨nq, rfl⟩ := hw'
    go_wp2_with fail
    go_ret
    exact ⟨Zl T.out.symm, below_drewN HB.out _⟩
  have i_resp : ¬ (0 : Int) < ((m6 : Nat) : Int) := by omega
  have T_resp := Lib.hid (Yw (M6.out ▸ t_resp))
  refine Zh ?_
  repeat (go_big_quiet_step (fail))
  refine wpQuiet_nil ?_
  intro _ hw'
  obtain ⟨nq, rfl⟩ := hw'
  go_upto_region 10 with (fail)
  by_cases t_pos : r.pos = 0
  rotate_left
  · have i_pos : (r.pos != 0) = true := by simpa using t_pos
    have T := Lib.hid (show Zy r q.top = true by unfold Zy; simp [HK.out, T_guards.out, T_ex.out, T_fa.out, T_send.out, T_rd.out, T_wr.out, T_resp.out, t_pos])
    refine Zh ?_
    repeat (go_big_quiet_step (fail))
    refine wpQuiet_nil ?_
    intro _ hw'
    obtain ⟨nq, rfl⟩ := hw'
    go_wp2_with fail
    go_ret
    exact ⟨Zl T.out.symm, below_drewN HB.out _⟩
  have i_pos : (r.pos != 0) = false := by simpa using t_pos
  have T_pos := Lib.hid t_pos
  clear t_pos
  by_cases t_left : 0 < m14
  · have i_left : (0 : Int) < ((m14 : Nat) : Int) := by omega
    have T := Lib.hid (show Zy r q.top = true by unfold Zy; simp [HK.out, T_guards.out, T_ex.out, T_fa.out, T_send.out, T_rd.out, T_wr.out, T_resp.out, T_pos.out, Ym (M14.out ▸ t_left)])
    refine Zh ?_
    repeat (go_big_quiet_step (fail))
    refine wpQuiet_nil ?_
    intro _ hw'
    obtain ⟨nq, rfl⟩ := hw'
    go_wp2_with fail
    go_ret
    exact ⟨Zl T.out.symm, below_drewN HB.out _⟩
  have i_left : ¬ (0 : Int) < ((m14 : Nat) : Int) := by omega
  have T_left := Lib.hid (Yw (M14.out ▸ t_left))
  by_cases t_right : 0 < m15
  · have i_right : (0 : Int) < ((m15 : Nat) : Int) := by omega
    have T := Lib.hid (show Zy r q.top = true by unfold Zy; simp [HK.out, T_guards.out, T_ex.out, T_fa.out, T_send.out, T_rd.out, T_wr.out, T_resp.out, T_pos.out, T_left.out, Ym (M15.out ▸ t_right)])
    refine Zh ?_
    repeat (go_big_quiet_step (fail))
    refine wpQuiet_nil ?_
    intro _ hw'
    obtain ⟨nq, rfl⟩ := hw'
    go_wp2_with fail
    go_ret
    exact ⟨Zl T.out.symm, below_drewN HB.out _⟩
  have i_right : ¬ (0 : Int) < ((m15 : Nat) : Int) := by omega
  have T_right := Lib.hid (Yw (M15.out ▸ t_right))
  refine Zh ?_
  repeat (go_big_quiet_step (fail))
  refine wpQuiet_nil ?_
  intro _ hw'
  obtain ⟨nq, rfl⟩ := hw'
  go_upto_region 12 with (fail)
  by_cases tp : 0 < m16
  · have ip : (0 : Int) < ((m16 : Nat) : Int) := by omega
    have T := Lib.hid (show Zy r q.top = true by unfold Zy; simp [HK.out, T_guards.out, T_ex.out, T_fa.out, T_send.out, T_rd.out, T_wr.out, T_resp.out, T_pos.out, T_left.out, T_right.out, Ym (M16.out ▸ tp)])
    refine Zh ?_
    repeat (go_big_quiet_step (fail))
    refine wpQuiet_nil ?_
    intro _ hw'
    obtain ⟨nq, rfl⟩ := hw'
    go_wp2_with fail
    go_ret
    exact ⟨Zl T.out.symm, below_drewN HB.out _⟩
  have ip : ¬ (0 : Int) < ((m16 : Nat) : Int) := by omega
  have T := Lib.hid (show Zy r q.top = false by unfold Zy; simp [HK.out, T_guards.out, T_ex.out, T_fa.out, T_send.out, T_rd.out, T_wr.out, T_resp.out, T_pos.out, T_left.out, T_right.out, Yw (M16.out ▸ tp)])
  refine Zh ?_
  repeat (go_big_quiet_step (fail))
  refine wpQuiet_nil ?_
  intro _ hw'
  obtain ⟨nq, rfl⟩ := hw'
  go_wp2_with fail
  go_ret
  exact ⟨Zl T.out.symm, below_drewN HB.out _⟩
theorem unused_any {lo lo' : Nat} {w : World} {v : Value} {cs : List Value} {q : Fm} {r : Ru} (hk : r.kind = 1 ∨ r.kind = 2 ∨ r.kind = 3 ∨ r.kind = 4 ∨ r.kind = 5) (hq : IsFam lo w v q) (h : RuEl lo' w cs r) :
    Calls Try.prog 116 #[v, .agg cs.toArray] w fun e w' => e = .returned (.bool (Zy r q.top)) ∧ Below w.heap.size w w' := by
  rcases hk with hk | hk | hk | hk | hk
  · exact unused_1 hk hq h
  · exact unused_2 hk hq h
  · exact unused_3 hk hq h
  · exact unused_4 hk hq h
  exact unused_5 hk hq h
end Go.Proofs.Ytoefmdjgnabgfaa
