import Derived.Lib.AppendZeros
import Derived.Laws.AppendOwnNone
import Derived.Lib.Hide
import Derived.Lib.Walk
import Derived.LoopTactic
import Derived.Outline
import Derived.Laws.RangeString
import Derived.Laws.RangeAny
import Derived.Deep.DeepCutAuto
import Derived.Deep.QuietTactic
import Derived.BigQuiet
import Derived.Laws.MakeOwn
import Derived.Deep.AppendLies
import Derived.Test.YtmpbfdfjcfanoaaDoorProg
import Derived.Shelf.Strconv.Itoa3
import Derived.Lib.AppendIntMem
import Derived.Lib.ItoaLen
import Derived.WalkSpells
import Derived.StillTailTactics
import Derived.Deep.RegionHeld3
import Derived.Test.YtmpbfdfjcfanoaaDoorGrphjepnclk
import Derived.Test.YtmpbfdfjcfanoaaDoorGrppalbkohp
set_option linter.all false
/-
  unused OF THE REFERENCE, by the kind of the rule.
-/
namespace Go.Proofs.YtmpbfdfjcfanoaaDoor
open Go.RowKit Go.Deep
theorem len_pos {α : Type} {xs : List α} (h : 0 < xs.length) : xs ≠ [] := List.length_pos_iff.1 h
theorem len_no {α : Type} {xs : List α} (h : ¬ 0 < xs.length) : xs = [] := by cases xs with | nil => rfl | cons _ _ => simp at h
set_option maxRecDepth 100000 in
set_option maxHeartbeats 6400000 in
theorem unused_1 {lo lo' : Nat} {w : World} {v : Value} {cs : List Value} {q : Fm} {r : Ru} (hk : r.kind = 1) (hq : IsFam lo w v q) (h : RuEl lo' w cs r) :
    Calls Tryd.prog 101 #[v, .agg cs.toArray] w fun e w' => e = .returned (.bool (unusedB r q.top)) ∧ Below w.heap.size w w' := by
  obtain ⟨v2, v3, v4, v6, v7, v8, v9, rfl, _, _, h2, h3, h4, _, h6, h7, h8, h9⟩ := hq
  obtain ⟨a2, c2, rfl⟩ := h2.shape
  obtain ⟨a3, c3, rfl⟩ := h3.shape
  obtain ⟨a4, c4, rfl⟩ := h4.shape
  clear h2 h3 h4 h6 h7 h8 h9
  obtain ⟨u6, u7, u8, u9, u12, u14, u15, u16, hcs, k6, k7, k8, k9, k12, k14, k15, k16⟩ := rule_open h
  obtain ⟨b6, d6, rfl⟩ := k6.shape
  obtain ⟨b7, d7, rfl⟩ := k7.shape
  obtain ⟨b8, d8, rfl⟩ := k8.shape
  obtain ⟨b9, d9, rfl⟩ := k9.shape
  obtain ⟨b12, d12, rfl⟩ := k12.shape
  obtain ⟨b14, d14, rfl⟩ := k14.shape
  obtain ⟨b15, d15, rfl⟩ := k15.shape
  obtain ⟨b16, d16, rfl⟩ := k16.shape
  clear h k6 k7 k8 k9 k12 k14 k15 k16
  have HC := Lib.hid hcs
  clear hcs
  obtain ⟨m6, hm6⟩ : ∃ m, m = r.resp.length := ⟨_, rfl⟩
  have M6 := Lib.hid hm6
  clear hm6
  obtain ⟨m7, hm7⟩ : ∃ m, m = r.guards.length := ⟨_, rfl⟩
  have M7 := Lib.hid hm7
  clear hm7
  obtain ⟨m8, hm8⟩ : ∃ m, m = r.ex.length := ⟨_, rfl⟩
  have M8 := Lib.hid hm8
  clear hm8
  obtain ⟨m9, hm9⟩ : ∃ m, m = r.fa.length := ⟨_, rfl⟩
  have M9 := Lib.hid hm9
  clear hm9
  obtain ⟨m12, hm12⟩ : ∃ m, m = r.send.length := ⟨_, rfl⟩
  have M12 := Lib.hid hm12
  clear hm12
  obtain ⟨m14, hm14⟩ : ∃ m, m = r.left.length := ⟨_, rfl⟩
  have M14 := Lib.hid hm14
  clear hm14
  obtain ⟨m15, hm15⟩ : ∃ m, m = r.right.length := ⟨_, rfl⟩
  have M15 := Lib.hid hm15
  clear hm15
  obtain ⟨m16, hm16⟩ : ∃ m, m = r.parent.length := ⟨_, rfl⟩
  have M16 := Lib.hid hm16
  clear hm16
  go_enter Tryd.func101, Tryd.ntmps101
  go_upto_region 1 with (fail)
  obtain ⟨W, hW⟩ : ∃ W : World, W = (w.alloc (.cells #[.string q.nm, .int .i64 q.top, .slice a2 q.states.length c2, .slice a3 q.msgs.length c3, .slice a4 q.vals.length c4, .int .i64 q.fault, v6, v7, v8, v9] 27)).alloc (.cells cs.toArray 76) := ⟨_, rfl⟩
  rw [← hW]
  have HB := Lib.hid (show Below w.heap.size w W by rw [hW]; show Below _ _ _; go_grown)
  have x1' : W.cell? ⟨w.heap.size, 1, none⟩ = some (.int .i64 q.top) := by rw [hW]; exact keep1 ((new_cell w _ _ 1 rfl).trans rfl) (allocBelow _ _)
  have HG := Lib.hid (show W.heap[w.heap.size + 1]? = some (.cells cs.toArray 76 (0, 0)) by rw [hW]; exact heap_new _ _ (by simp))
  clear hW
  have y1 : W.cell? ⟨w.heap.size + 1, 1, none⟩ = some (.int .i64 1) := by rw [← hk]; exact cellB HG.out 1 (by rw [HC.out]; rfl)
  have y4 : W.cell? ⟨w.heap.size + 1, 4, none⟩ = some (.int .i64 r.pf) := cellB HG.out 4 (by rw [HC.out]; rfl)
  have y5 : W.cell? ⟨w.heap.size + 1, 5, none⟩ = some (.int .i64 r.pt) := cellB HG.out 5 (by rw [HC.out]; rfl)
  have y6 : W.cell? ⟨w.heap.size + 1, 6, none⟩ = some (.slice b6 m6 d6) := cellB HG.out 6 (by rw [HC.out, M6.out]; rfl)
  have y7 : W.cell? ⟨w.heap.size + 1, 7, none⟩ = some (.slice b7 m7 d7) := cellB HG.out 7 (by rw [HC.out, M7.out]; rfl)
  have y8 : W.cell? ⟨w.heap.size + 1, 8, none⟩ = some (.slice b8 m8 d8) := cellB HG.out 8 (by rw [HC.out, M8.out]; rfl)
  have y9 : W.cell? ⟨w.heap.size + 1, 9, none⟩ = some (.slice b9 m9 d9) := cellB HG.out 9 (by rw [HC.out, M9.out]; rfl)
  have y10 : W.cell? ⟨w.heap.size + 1, 10, none⟩ = some (.int .i64 r.rd) := cellB HG.out 10 (by rw [HC.out]; rfl)
  have y11 : W.cell? ⟨w.heap.size + 1, 11, none⟩ = some (.int .i64 r.wr) := cellB HG.out 11 (by rw [HC.out]; rfl)
  have y12 : W.cell? ⟨w.heap.size + 1, 12, none⟩ = some (.slice b12 m12 d12) := cellB HG.out 12 (by rw [HC.out, M12.out]; rfl)
  have y13 : W.cell? ⟨w.heap.size + 1, 13, none⟩ = some (.int .i64 r.pos) := cellB HG.out 13 (by rw [HC.out]; rfl)
  have y14 : W.cell? ⟨w.heap.size + 1, 14, none⟩ = some (.slice b14 m14 d14) := cellB HG.out 14 (by rw [HC.out, M14.out]; rfl)
  have y15 : W.cell? ⟨w.heap.size + 1, 15, none⟩ = some (.slice b15 m15 d15) := cellB HG.out 15 (by rw [HC.out, M15.out]; rfl)
  have y16 : W.cell? ⟨w.heap.size + 1, 16, none⟩ = some (.slice b16 m16 d16) := cellB HG.out 16 (by rw [HC.out, M16.out]; rfl)
  have y17 : W.cell? ⟨w.heap.size + 1, 17, none⟩ = some (.int .i64 r.dir) := cellB HG.out 17 (by rw [HC.out]; rfl)
  have HK := Lib.hid hk
  clear hk
  go_quiet (fail)
  go_upto_region 2 with (fail)
  refine wp_seq_quiet_at ?_
  repeat (go_big_quiet_step (fail))
  refine wpQuiet_nil ?_
  intro _ hw'
  obtain ⟨nq, rfl⟩ := hw'
  go_upto_region 4 with (fail)
  refine wp_seq_quiet_at ?_
  repeat (go_big_quiet_step (fail))
  refine wpQuiet_nil ?_
  intro _ hw'
  obtain ⟨nq, rfl⟩ := hw'
  go_upto_region 6 with (fail)
  by_cases t_pf : r.pf = 0
  rotate_left
  · have i_pf : (r.pf != 0) = true := by simpa using t_pf
    have T := Lib.hid (show unusedB r q.top = true by unfold unusedB; simp [HK.out, t_pf])
    refine wp_seq_quiet_at ?_
    repeat (go_big_quiet_step (fail))
    refine wpQuiet_nil ?_
    intro _ hw'
    obtain ⟨nq, rfl⟩ := hw'
    go_wp2_with fail
    go_ret
    exact ⟨ret_bool T.out.symm, below_drewN HB.out _⟩
  · have i_pf : (r.pf != 0) = false := by simpa using t_pf
    have T_pf := Lib.hid t_pf
    clear t_pf
    by_cases t_pt : r.pt = 0
    rotate_left
    · have i_pt : (r.pt != 0) = true := by simpa using t_pt
      have T := Lib.hid (show unusedB r q.top = true by unfold unusedB; simp [HK.out, T_pf.out, t_pt])
      refine wp_seq_quiet_at ?_
      repeat (go_big_quiet_step (fail))
      refine wpQuiet_nil ?_
      intro _ hw'
      obtain ⟨nq, rfl⟩ := hw'
      go_wp2_with fail
      go_ret
      exact ⟨ret_bool T.out.symm, below_drewN HB.out _⟩
    · have i_pt : (r.pt != 0) = false := by simpa using t_pt
      have T_pt := Lib.hid t_pt
      clear t_pt
      refine wp_seq_quiet_at ?_
      repeat (go_big_quiet_step (fail))
      refine wpQuiet_nil ?_
      intro _ hw'
      obtain ⟨nq, rfl⟩ := hw'
      go_upto_region 8 with (fail)
      by_cases t_resp : 0 < m6
      · have i_resp : (0 : Int) < ((m6 : Nat) : Int) := by omega
        have T := Lib.hid (show unusedB r q.top = true by unfold unusedB; simp [HK.out, T_pf.out, T_pt.out, len_pos (M6.out ▸ t_resp)])
        refine wp_seq_quiet_at ?_
        repeat (go_big_quiet_step (fail))
        refine wpQuiet_nil ?_
        intro _ hw'
        obtain ⟨nq, rfl⟩ := hw'
        go_wp2_with fail
        go_ret
        exact ⟨ret_bool T.out.symm, below_drewN HB.out _⟩
      · have i_resp : ¬ (0 : Int) < ((m6 : Nat) : Int) := by omega
        have T_resp := Lib.hid (len_no (M6.out ▸ t_resp))
        by_cases t_dir : r.dir = 0
        rotate_left
        · have i_dir : (r.dir != 0) = true := by simpa using t_dir
          have T := Lib.hid (show unusedB r q.top = true by unfold unusedB; simp [HK.out, T_pf.out, T_pt.out, T_resp.out, t_dir])
          refine wp_seq_quiet_at ?_
          repeat (go_big_quiet_step (fail))
          refine wpQuiet_nil ?_
          intro _ hw'
          obtain ⟨nq, rfl⟩ := hw'
          go_wp2_with fail
          go_ret
          exact ⟨ret_bool T.out.symm, below_drewN HB.out _⟩
        · have i_dir : (r.dir != 0) = false := by simpa using t_dir
          have T_dir := Lib.hid t_dir
          clear t_dir
          refine wp_seq_quiet_at ?_
          repeat (go_big_quiet_step (fail))
          refine wpQuiet_nil ?_
          intro _ hw'
          obtain ⟨nq, rfl⟩ := hw'
          go_upto_region 10 with (fail)
          by_cases t_pos : r.pos = 0
          rotate_left
          · have i_pos : (r.pos != 0) = true := by simpa using t_pos
            have T := Lib.hid (show unusedB r q.top = true by unfold unusedB; simp [HK.out, T_pf.out, T_pt.out, T_resp.out, T_dir.out, t_pos])
            refine wp_seq_quiet_at ?_
            repeat (go_big_quiet_step (fail))
            refine wpQuiet_nil ?_
            intro _ hw'
            obtain ⟨nq, rfl⟩ := hw'
            go_wp2_with fail
            go_ret
            exact ⟨ret_bool T.out.symm, below_drewN HB.out _⟩
          · have i_pos : (r.pos != 0) = false := by simpa using t_pos
            have T_pos := Lib.hid t_pos
            clear t_pos
            by_cases t_left : 0 < m14
            · have i_left : (0 : Int) < ((m14 : Nat) : Int) := by omega
              have T := Lib.hid (show unusedB r q.top = true by unfold unusedB; simp [HK.out, T_pf.out, T_pt.out, T_resp.out, T_dir.out, T_pos.out, len_pos (M14.out ▸ t_left)])
              refine wp_seq_quiet_at ?_
              repeat (go_big_quiet_step (fail))
              refine wpQuiet_nil ?_
              intro _ hw'
              obtain ⟨nq, rfl⟩ := hw'
              go_wp2_with fail
              go_ret
              exact ⟨ret_bool T.out.symm, below_drewN HB.out _⟩
            · have i_left : ¬ (0 : Int) < ((m14 : Nat) : Int) := by omega
              have T_left := Lib.hid (len_no (M14.out ▸ t_left))
              by_cases t_right : 0 < m15
              · have i_right : (0 : Int) < ((m15 : Nat) : Int) := by omega
                have T := Lib.hid (show unusedB r q.top = true by unfold unusedB; simp [HK.out, T_pf.out, T_pt.out, T_resp.out, T_dir.out, T_pos.out, T_left.out, len_pos (M15.out ▸ t_right)])
                refine wp_seq_quiet_at ?_
                repeat (go_big_quiet_step (fail))
                refine wpQuiet_nil ?_
                intro _ hw'
                obtain ⟨nq, rfl⟩ := hw'
                go_wp2_with fail
                go_ret
                exact ⟨ret_bool T.out.symm, below_drewN HB.out _⟩
              · have i_right : ¬ (0 : Int) < ((m15 : Nat) : Int) := by omega
                have T_right := Lib.hid (len_no (M15.out ▸ t_right))
                refine wp_seq_quiet_at ?_
                repeat (go_big_quiet_step (fail))
                refine wpQuiet_nil ?_
                intro _ hw'
                obtain ⟨nq, rfl⟩ := hw'
                go_upto_region 12 with (fail)
                by_cases tp : 0 < m16
                · have ip : (0 : Int) < ((m16 : Nat) : Int) := by omega
                  have T := Lib.hid (show unusedB r q.top = true by unfold unusedB; simp [HK.out, T_pf.out, T_pt.out, T_resp.out, T_dir.out, T_pos.out, T_left.out, T_right.out, len_pos (M16.out ▸ tp)])
                  refine wp_seq_quiet_at ?_
                  repeat (go_big_quiet_step (fail))
                  refine wpQuiet_nil ?_
                  intro _ hw'
                  obtain ⟨nq, rfl⟩ := hw'
                  go_wp2_with fail
                  go_ret
                  exact ⟨ret_bool T.out.symm, below_drewN HB.out _⟩
                · have ip : ¬ (0 : Int) < ((m16 : Nat) : Int) := by omega
                  have T := Lib.hid (show unusedB r q.top = false by unfold unusedB; simp [HK.out, T_pf.out, T_pt.out, T_resp.out, T_dir.out, T_pos.out, T_left.out, T_right.out, len_no (M16.out ▸ tp)])
                  refine wp_seq_quiet_at ?_
                  repeat (go_big_quiet_step (fail))
                  refine wpQuiet_nil ?_
                  intro _ hw'
                  obtain ⟨nq, rfl⟩ := hw'
                  go_wp2_with fail
                  go_ret
                  exact ⟨ret_bool T.out.symm, below_drewN HB.out _⟩
set_option maxRecDepth 100000 in
set_option maxHeartbeats 6400000 in
theorem unused_2 {lo lo' : Nat} {w : World} {v : Value} {cs : List Value} {q : Fm} {r : Ru} (hk : r.kind = 2) (hq : IsFam lo w v q) (h : RuEl lo' w cs r) :
    Calls Tryd.prog 101 #[v, .agg cs.toArray] w fun e w' => e = .returned (.bool (unusedB r q.top)) ∧ Below w.heap.size w w' := by
  obtain ⟨v2, v3, v4, v6, v7, v8, v9, rfl, _, _, h2, h3, h4, _, h6, h7, h8, h9⟩ := hq
  obtain ⟨a2, c2, rfl⟩ := h2.shape
  obtain ⟨a3, c3, rfl⟩ := h3.shape
  obtain ⟨a4, c4, rfl⟩ := h4.shape
  clear h2 h3 h4 h6 h7 h8 h9
  obtain ⟨u6, u7, u8, u9, u12, u14, u15, u16, hcs, k6, k7, k8, k9, k12, k14, k15, k16⟩ := rule_open h
  obtain ⟨b6, d6, rfl⟩ := k6.shape
  obtain ⟨b7, d7, rfl⟩ := k7.shape
  obtain ⟨b8, d8, rfl⟩ := k8.shape
  obtain ⟨b9, d9, rfl⟩ := k9.shape
  obtain ⟨b12, d12, rfl⟩ := k12.shape
  obtain ⟨b14, d14, rfl⟩ := k14.shape
  obtain ⟨b15, d15, rfl⟩ := k15.shape
  obtain ⟨b16, d16, rfl⟩ := k16.shape
  clear h k6 k7 k8 k9 k12 k14 k15 k16
  have HC := Lib.hid hcs
  clear hcs
  obtain ⟨m6, hm6⟩ : ∃ m, m = r.resp.length := ⟨_, rfl⟩
  have M6 := Lib.hid hm6
  clear hm6
  obtain ⟨m7, hm7⟩ : ∃ m, m = r.guards.length := ⟨_, rfl⟩
  have M7 := Lib.hid hm7
  clear hm7
  obtain ⟨m8, hm8⟩ : ∃ m, m = r.ex.length := ⟨_, rfl⟩
  have M8 := Lib.hid hm8
  clear hm8
  obtain ⟨m9, hm9⟩ : ∃ m, m = r.fa.length := ⟨_, rfl⟩
  have M9 := Lib.hid hm9
  clear hm9
  obtain ⟨m12, hm12⟩ : ∃ m, m = r.send.length := ⟨_, rfl⟩
  have M12 := Lib.hid hm12
  clear hm12
  obtain ⟨m14, hm14⟩ : ∃ m, m = r.left.length := ⟨_, rfl⟩
  have M14 := Lib.hid hm14
  clear hm14
  obtain ⟨m15, hm15⟩ : ∃ m, m = r.right.length := ⟨_, rfl⟩
  have M15 := Lib.hid hm15
  clear hm15
  obtain ⟨m16, hm16⟩ : ∃ m, m = r.parent.length := ⟨_, rfl⟩
  have M16 := Lib.hid hm16
  clear hm16
  go_enter Tryd.func101, Tryd.ntmps101
  go_upto_region 1 with (fail)
  obtain ⟨W, hW⟩ : ∃ W : World, W = (w.alloc (.cells #[.string q.nm, .int .i64 q.top, .slice a2 q.states.length c2, .slice a3 q.msgs.length c3, .slice a4 q.vals.length c4, .int .i64 q.fault, v6, v7, v8, v9] 27)).alloc (.cells cs.toArray 76) := ⟨_, rfl⟩
  rw [← hW]
  have HB := Lib.hid (show Below w.heap.size w W by rw [hW]; show Below _ _ _; go_grown)
  have x1' : W.cell? ⟨w.heap.size, 1, none⟩ = some (.int .i64 q.top) := by rw [hW]; exact keep1 ((new_cell w _ _ 1 rfl).trans rfl) (allocBelow _ _)
  have HG := Lib.hid (show W.heap[w.heap.size + 1]? = some (.cells cs.toArray 76 (0, 0)) by rw [hW]; exact heap_new _ _ (by simp))
  clear hW
  have y1 : W.cell? ⟨w.heap.size + 1, 1, none⟩ = some (.int .i64 2) := by rw [← hk]; exact cellB HG.out 1 (by rw [HC.out]; rfl)
  have y4 : W.cell? ⟨w.heap.size + 1, 4, none⟩ = some (.int .i64 r.pf) := cellB HG.out 4 (by rw [HC.out]; rfl)
  have y5 : W.cell? ⟨w.heap.size + 1, 5, none⟩ = some (.int .i64 r.pt) := cellB HG.out 5 (by rw [HC.out]; rfl)
  have y6 : W.cell? ⟨w.heap.size + 1, 6, none⟩ = some (.slice b6 m6 d6) := cellB HG.out 6 (by rw [HC.out, M6.out]; rfl)
  have y7 : W.cell? ⟨w.heap.size + 1, 7, none⟩ = some (.slice b7 m7 d7) := cellB HG.out 7 (by rw [HC.out, M7.out]; rfl)
  have y8 : W.cell? ⟨w.heap.size + 1, 8, none⟩ = some (.slice b8 m8 d8) := cellB HG.out 8 (by rw [HC.out, M8.out]; rfl)
  have y9 : W.cell? ⟨w.heap.size + 1, 9, none⟩ = some (.slice b9 m9 d9) := cellB HG.out 9 (by rw [HC.out, M9.out]; rfl)
  have y10 : W.cell? ⟨w.heap.size + 1, 10, none⟩ = some (.int .i64 r.rd) := cellB HG.out 10 (by rw [HC.out]; rfl)
  have y11 : W.cell? ⟨w.heap.size + 1, 11, none⟩ = some (.int .i64 r.wr) := cellB HG.out 11 (by rw [HC.out]; rfl)
  have y12 : W.cell? ⟨w.heap.size + 1, 12, none⟩ = some (.slice b12 m12 d12) := cellB HG.out 12 (by rw [HC.out, M12.out]; rfl)
  have y13 : W.cell? ⟨w.heap.size + 1, 13, none⟩ = some (.int .i64 r.pos) := cellB HG.out 13 (by rw [HC.out]; rfl)
  have y14 : W.cell? ⟨w.heap.size + 1, 14, none⟩ = some (.slice b14 m14 d14) := cellB HG.out 14 (by rw [HC.out, M14.out]; rfl)
  have y15 : W.cell? ⟨w.heap.size + 1, 15, none⟩ = some (.slice b15 m15 d15) := cellB HG.out 15 (by rw [HC.out, M15.out]; rfl)
  have y16 : W.cell? ⟨w.heap.size + 1, 16, none⟩ = some (.slice b16 m16 d16) := cellB HG.out 16 (by rw [HC.out, M16.out]; rfl)
  have y17 : W.cell? ⟨w.heap.size + 1, 17, none⟩ = some (.int .i64 r.dir) := cellB HG.out 17 (by rw [HC.out]; rfl)
  have HK := Lib.hid hk
  clear hk
  go_quiet (fail)
  go_upto_region 2 with (fail)
  by_cases t_guards : 0 < m7
  · have i_guards : (0 : Int) < ((m7 : Nat) : Int) := by omega
    have T := Lib.hid (show unusedB r q.top = true by unfold unusedB; simp [HK.out, len_pos (M7.out ▸ t_guards)])
    refine wp_seq_quiet_at ?_
    repeat (go_big_quiet_step (fail))
    refine wpQuiet_nil ?_
    intro _ hw'
    obtain ⟨nq, rfl⟩ := hw'
    go_wp2_with fail
    go_ret
    exact ⟨ret_bool T.out.symm, below_drewN HB.out _⟩
  · have i_guards : ¬ (0 : Int) < ((m7 : Nat) : Int) := by omega
    have T_guards := Lib.hid (len_no (M7.out ▸ t_guards))
    by_cases t_ex : 0 < m8
    · have i_ex : (0 : Int) < ((m8 : Nat) : Int) := by omega
      have T := Lib.hid (show unusedB r q.top = true by unfold unusedB; simp [HK.out, T_guards.out, len_pos (M8.out ▸ t_ex)])
      refine wp_seq_quiet_at ?_
      repeat (go_big_quiet_step (fail))
      refine wpQuiet_nil ?_
      intro _ hw'
      obtain ⟨nq, rfl⟩ := hw'
      go_wp2_with fail
      go_ret
      exact ⟨ret_bool T.out.symm, below_drewN HB.out _⟩
    · have i_ex : ¬ (0 : Int) < ((m8 : Nat) : Int) := by omega
      have T_ex := Lib.hid (len_no (M8.out ▸ t_ex))
      by_cases t_fa : 0 < m9
      · have i_fa : (0 : Int) < ((m9 : Nat) : Int) := by omega
        have T := Lib.hid (show unusedB r q.top = true by unfold unusedB; simp [HK.out, T_guards.out, T_ex.out, len_pos (M9.out ▸ t_fa)])
        refine wp_seq_quiet_at ?_
        repeat (go_big_quiet_step (fail))
        refine wpQuiet_nil ?_
        intro _ hw'
        obtain ⟨nq, rfl⟩ := hw'
        go_wp2_with fail
        go_ret
        exact ⟨ret_bool T.out.symm, below_drewN HB.out _⟩
      · have i_fa : ¬ (0 : Int) < ((m9 : Nat) : Int) := by omega
        have T_fa := Lib.hid (len_no (M9.out ▸ t_fa))
        by_cases t_send : 0 < m12
        · have i_send : (0 : Int) < ((m12 : Nat) : Int) := by omega
          have T := Lib.hid (show unusedB r q.top = true by unfold unusedB; simp [HK.out, T_guards.out, T_ex.out, T_fa.out, len_pos (M12.out ▸ t_send)])
          refine wp_seq_quiet_at ?_
          repeat (go_big_quiet_step (fail))
          refine wpQuiet_nil ?_
          intro _ hw'
          obtain ⟨nq, rfl⟩ := hw'
          go_wp2_with fail
          go_ret
          exact ⟨ret_bool T.out.symm, below_drewN HB.out _⟩
        · have i_send : ¬ (0 : Int) < ((m12 : Nat) : Int) := by omega
          have T_send := Lib.hid (len_no (M12.out ▸ t_send))
          refine wp_seq_quiet_at ?_
          repeat (go_big_quiet_step (fail))
          refine wpQuiet_nil ?_
          intro _ hw'
          obtain ⟨nq, rfl⟩ := hw'
          go_upto_region 4 with (fail)
          refine wp_seq_quiet_at ?_
          repeat (go_big_quiet_step (fail))
          refine wpQuiet_nil ?_
          intro _ hw'
          obtain ⟨nq, rfl⟩ := hw'
          go_upto_region 6 with (fail)
          refine wp_seq_quiet_at ?_
          repeat (go_big_quiet_step (fail))
          refine wpQuiet_nil ?_
          intro _ hw'
          obtain ⟨nq, rfl⟩ := hw'
          go_upto_region 8 with (fail)
          by_cases t_resp : 0 < m6
          · have i_resp : (0 : Int) < ((m6 : Nat) : Int) := by omega
            have T := Lib.hid (show unusedB r q.top = true by unfold unusedB; simp [HK.out, T_guards.out, T_ex.out, T_fa.out, T_send.out, len_pos (M6.out ▸ t_resp)])
            refine wp_seq_quiet_at ?_
            repeat (go_big_quiet_step (fail))
            refine wpQuiet_nil ?_
            intro _ hw'
            obtain ⟨nq, rfl⟩ := hw'
            go_wp2_with fail
            go_ret
            exact ⟨ret_bool T.out.symm, below_drewN HB.out _⟩
          · have i_resp : ¬ (0 : Int) < ((m6 : Nat) : Int) := by omega
            have T_resp := Lib.hid (len_no (M6.out ▸ t_resp))
            by_cases t_dir : r.dir = 0
            rotate_left
            · have i_dir : (r.dir != 0) = true := by simpa using t_dir
              have T := Lib.hid (show unusedB r q.top = true by unfold unusedB; simp [HK.out, T_guards.out, T_ex.out, T_fa.out, T_send.out, T_resp.out, t_dir])
              refine wp_seq_quiet_at ?_
              repeat (go_big_quiet_step (fail))
              refine wpQuiet_nil ?_
              intro _ hw'
              obtain ⟨nq, rfl⟩ := hw'
              go_wp2_with fail
              go_ret
              exact ⟨ret_bool T.out.symm, below_drewN HB.out _⟩
            · have i_dir : (r.dir != 0) = false := by simpa using t_dir
              have T_dir := Lib.hid t_dir
              clear t_dir
              refine wp_seq_quiet_at ?_
              repeat (go_big_quiet_step (fail))
              refine wpQuiet_nil ?_
              intro _ hw'
              obtain ⟨nq, rfl⟩ := hw'
              go_upto_region 10 with (fail)
              by_cases t_pos : r.pos = 0
              rotate_left
              · have i_pos : (r.pos != 0) = true := by simpa using t_pos
                have T := Lib.hid (show unusedB r q.top = true by unfold unusedB; simp [HK.out, T_guards.out, T_ex.out, T_fa.out, T_send.out, T_resp.out, T_dir.out, t_pos])
                refine wp_seq_quiet_at ?_
                repeat (go_big_quiet_step (fail))
                refine wpQuiet_nil ?_
                intro _ hw'
                obtain ⟨nq, rfl⟩ := hw'
                go_wp2_with fail
                go_ret
                exact ⟨ret_bool T.out.symm, below_drewN HB.out _⟩
              · have i_pos : (r.pos != 0) = false := by simpa using t_pos
                have T_pos := Lib.hid t_pos
                clear t_pos
                by_cases t_left : 0 < m14
                · have i_left : (0 : Int) < ((m14 : Nat) : Int) := by omega
                  have T := Lib.hid (show unusedB r q.top = true by unfold unusedB; simp [HK.out, T_guards.out, T_ex.out, T_fa.out, T_send.out, T_resp.out, T_dir.out, T_pos.out, len_pos (M14.out ▸ t_left)])
                  refine wp_seq_quiet_at ?_
                  repeat (go_big_quiet_step (fail))
                  refine wpQuiet_nil ?_
                  intro _ hw'
                  obtain ⟨nq, rfl⟩ := hw'
                  go_wp2_with fail
                  go_ret
                  exact ⟨ret_bool T.out.symm, below_drewN HB.out _⟩
                · have i_left : ¬ (0 : Int) < ((m14 : Nat) : Int) := by omega
                  have T_left := Lib.hid (len_no (M14.out ▸ t_left))
                  by_cases t_right : 0 < m15
                  · have i_right : (0 : Int) < ((m15 : Nat) : Int) := by omega
                    have T := Lib.hid (show unusedB r q.top = true by unfold unusedB; simp [HK.out, T_guards.out, T_ex.out, T_fa.out, T_send.out, T_resp.out, T_dir.out, T_pos.out, T_left.out, len_pos (M15.out ▸ t_right)])
                    refine wp_seq_quiet_at ?_
                    repeat (go_big_quiet_step (fail))
                    refine wpQuiet_nil ?_
                    intro _ hw'
                    obtain ⟨nq, rfl⟩ := hw'
                    go_wp2_with fail
                    go_ret
                    exact ⟨ret_bool T.out.symm, below_drewN HB.out _⟩
                  · have i_right : ¬ (0 : Int) < ((m15 : Nat) : Int) := by omega
                    have T_right := Lib.hid (len_no (M15.out ▸ t_right))
                    refine wp_seq_quiet_at ?_
                    repeat (go_big_quiet_step (fail))
                    refine wpQuiet_nil ?_
                    intro _ hw'
                    obtain ⟨nq, rfl⟩ := hw'
                    go_upto_region 12 with (fail)
                    by_cases tp : 0 < m16
                    · have ip : (0 : Int) < ((m16 : Nat) : Int) := by omega
                      have T := Lib.hid (show unusedB r q.top = true by unfold unusedB; simp [HK.out, T_guards.out, T_ex.out, T_fa.out, T_send.out, T_resp.out, T_dir.out, T_pos.out, T_left.out, T_right.out, len_pos (M16.out ▸ tp)])
                      refine wp_seq_quiet_at ?_
                      repeat (go_big_quiet_step (fail))
                      refine wpQuiet_nil ?_
                      intro _ hw'
                      obtain ⟨nq, rfl⟩ := hw'
                      go_wp2_with fail
                      go_ret
                      exact ⟨ret_bool T.out.symm, below_drewN HB.out _⟩
                    · have ip : ¬ (0 : Int) < ((m16 : Nat) : Int) := by omega
                      have T := Lib.hid (show unusedB r q.top = false by unfold unusedB; simp [HK.out, T_guards.out, T_ex.out, T_fa.out, T_send.out, T_resp.out, T_dir.out, T_pos.out, T_left.out, T_right.out, len_no (M16.out ▸ tp)])
                      refine wp_seq_quiet_at ?_
                      repeat (go_big_quiet_step (fail))
                      refine wpQuiet_nil ?_
                      intro _ hw'
                      obtain ⟨nq, rfl⟩ := hw'
                      go_wp2_with fail
                      go_ret
                      exact ⟨ret_bool T.out.symm, below_drewN HB.out _⟩
set_option maxRecDepth 100000 in
set_option maxHeartbeats 6400000 in
theorem unused_3 {lo lo' : Nat} {w : World} {v : Value} {cs : List Value} {q : Fm} {r : Ru} (hk : r.kind = 3) (hq : IsFam lo w v q) (h : RuEl lo' w cs r) :
    Calls Tryd.prog 101 #[v, .agg cs.toArray] w fun e w' => e = .returned (.bool (unusedB r q.top)) ∧ Below w.heap.size w w' := by
  obtain ⟨v2, v3, v4, v6, v7, v8, v9, rfl, _, _, h2, h3, h4, _, h6, h7, h8, h9⟩ := hq
  obtain ⟨a2, c2, rfl⟩ := h2.shape
  obtain ⟨a3, c3, rfl⟩ := h3.shape
  obtain ⟨a4, c4, rfl⟩ := h4.shape
  clear h2 h3 h4 h6 h7 h8 h9
  obtain ⟨u6, u7, u8, u9, u12, u14, u15, u16, hcs, k6, k7, k8, k9, k12, k14, k15, k16⟩ := rule_open h
  obtain ⟨b6, d6, rfl⟩ := k6.shape
  obtain ⟨b7, d7, rfl⟩ := k7.shape
  obtain ⟨b8, d8, rfl⟩ := k8.shape
  obtain ⟨b9, d9, rfl⟩ := k9.shape
  obtain ⟨b12, d12, rfl⟩ := k12.shape
  obtain ⟨b14, d14, rfl⟩ := k14.shape
  obtain ⟨b15, d15, rfl⟩ := k15.shape
  obtain ⟨b16, d16, rfl⟩ := k16.shape
  clear h k6 k7 k8 k9 k12 k14 k15 k16
  have HC := Lib.hid hcs
  clear hcs
  obtain ⟨m6, hm6⟩ : ∃ m, m = r.resp.length := ⟨_, rfl⟩
  have M6 := Lib.hid hm6
  clear hm6
  obtain ⟨m7, hm7⟩ : ∃ m, m = r.guards.length := ⟨_, rfl⟩
  have M7 := Lib.hid hm7
  clear hm7
  obtain ⟨m8, hm8⟩ : ∃ m, m = r.ex.length := ⟨_, rfl⟩
  have M8 := Lib.hid hm8
  clear hm8
  obtain ⟨m9, hm9⟩ : ∃ m, m = r.fa.length := ⟨_, rfl⟩
  have M9 := Lib.hid hm9
  clear hm9
  obtain ⟨m12, hm12⟩ : ∃ m, m = r.send.length := ⟨_, rfl⟩
  have M12 := Lib.hid hm12
  clear hm12
  obtain ⟨m14, hm14⟩ : ∃ m, m = r.left.length := ⟨_, rfl⟩
  have M14 := Lib.hid hm14
  clear hm14
  obtain ⟨m15, hm15⟩ : ∃ m, m = r.right.length := ⟨_, rfl⟩
  have M15 := Lib.hid hm15
  clear hm15
  obtain ⟨m16, hm16⟩ : ∃ m, m = r.parent.length := ⟨_, rfl⟩
  have M16 := Lib.hid hm16
  clear hm16
  go_enter Tryd.func101, Tryd.ntmps101
  go_upto_region 1 with (fail)
  obtain ⟨W, hW⟩ : ∃ W : World, W = (w.alloc (.cells #[.string q.nm, .int .i64 q.top, .slice a2 q.states.length c2, .slice a3 q.msgs.length c3, .slice a4 q.vals.length c4, .int .i64 q.fault, v6, v7, v8, v9] 27)).alloc (.cells cs.toArray 76) := ⟨_, rfl⟩
  rw [← hW]
  have HB := Lib.hid (show Below w.heap.size w W by rw [hW]; show Below _ _ _; go_grown)
  have x1' : W.cell? ⟨w.heap.size, 1, none⟩ = some (.int .i64 q.top) := by rw [hW]; exact keep1 ((new_cell w _ _ 1 rfl).trans rfl) (allocBelow _ _)
  have HG := Lib.hid (show W.heap[w.heap.size + 1]? = some (.cells cs.toArray 76 (0, 0)) by rw [hW]; exact heap_new _ _ (by simp))
  clear hW
  have y1 : W.cell? ⟨w.heap.size + 1, 1, none⟩ = some (.int .i64 3) := by rw [← hk]; exact cellB HG.out 1 (by rw [HC.out]; rfl)
  have y4 : W.cell? ⟨w.heap.size + 1, 4, none⟩ = some (.int .i64 r.pf) := cellB HG.out 4 (by rw [HC.out]; rfl)
  have y5 : W.cell? ⟨w.heap.size + 1, 5, none⟩ = some (.int .i64 r.pt) := cellB HG.out 5 (by rw [HC.out]; rfl)
  have y6 : W.cell? ⟨w.heap.size + 1, 6, none⟩ = some (.slice b6 m6 d6) := cellB HG.out 6 (by rw [HC.out, M6.out]; rfl)
  have y7 : W.cell? ⟨w.heap.size + 1, 7, none⟩ = some (.slice b7 m7 d7) := cellB HG.out 7 (by rw [HC.out, M7.out]; rfl)
  have y8 : W.cell? ⟨w.heap.size + 1, 8, none⟩ = some (.slice b8 m8 d8) := cellB HG.out 8 (by rw [HC.out, M8.out]; rfl)
  have y9 : W.cell? ⟨w.heap.size + 1, 9, none⟩ = some (.slice b9 m9 d9) := cellB HG.out 9 (by rw [HC.out, M9.out]; rfl)
  have y10 : W.cell? ⟨w.heap.size + 1, 10, none⟩ = some (.int .i64 r.rd) := cellB HG.out 10 (by rw [HC.out]; rfl)
  have y11 : W.cell? ⟨w.heap.size + 1, 11, none⟩ = some (.int .i64 r.wr) := cellB HG.out 11 (by rw [HC.out]; rfl)
  have y12 : W.cell? ⟨w.heap.size + 1, 12, none⟩ = some (.slice b12 m12 d12) := cellB HG.out 12 (by rw [HC.out, M12.out]; rfl)
  have y13 : W.cell? ⟨w.heap.size + 1, 13, none⟩ = some (.int .i64 r.pos) := cellB HG.out 13 (by rw [HC.out]; rfl)
  have y14 : W.cell? ⟨w.heap.size + 1, 14, none⟩ = some (.slice b14 m14 d14) := cellB HG.out 14 (by rw [HC.out, M14.out]; rfl)
  have y15 : W.cell? ⟨w.heap.size + 1, 15, none⟩ = some (.slice b15 m15 d15) := cellB HG.out 15 (by rw [HC.out, M15.out]; rfl)
  have y16 : W.cell? ⟨w.heap.size + 1, 16, none⟩ = some (.slice b16 m16 d16) := cellB HG.out 16 (by rw [HC.out, M16.out]; rfl)
  have y17 : W.cell? ⟨w.heap.size + 1, 17, none⟩ = some (.int .i64 r.dir) := cellB HG.out 17 (by rw [HC.out]; rfl)
  have HK := Lib.hid hk
  clear hk
  go_quiet (fail)
  go_upto_region 2 with (fail)
  by_cases t_guards : 0 < m7
  · have i_guards : (0 : Int) < ((m7 : Nat) : Int) := by omega
    have T := Lib.hid (show unusedB r q.top = true by unfold unusedB; simp [HK.out, len_pos (M7.out ▸ t_guards)])
    refine wp_seq_quiet_at ?_
    repeat (go_big_quiet_step (fail))
    refine wpQuiet_nil ?_
    intro _ hw'
    obtain ⟨nq, rfl⟩ := hw'
    go_wp2_with fail
    go_ret
    exact ⟨ret_bool T.out.symm, below_drewN HB.out _⟩
  · have i_guards : ¬ (0 : Int) < ((m7 : Nat) : Int) := by omega
    have T_guards := Lib.hid (len_no (M7.out ▸ t_guards))
    by_cases t_ex : 0 < m8
    · have i_ex : (0 : Int) < ((m8 : Nat) : Int) := by omega
      have T := Lib.hid (show unusedB r q.top = true by unfold unusedB; simp [HK.out, T_guards.out, len_pos (M8.out ▸ t_ex)])
      refine wp_seq_quiet_at ?_
      repeat (go_big_quiet_step (fail))
      refine wpQuiet_nil ?_
      intro _ hw'
      obtain ⟨nq, rfl⟩ := hw'
      go_wp2_with fail
      go_ret
      exact ⟨ret_bool T.out.symm, below_drewN HB.out _⟩
    · have i_ex : ¬ (0 : Int) < ((m8 : Nat) : Int) := by omega
      have T_ex := Lib.hid (len_no (M8.out ▸ t_ex))
      by_cases t_fa : 0 < m9
      · have i_fa : (0 : Int) < ((m9 : Nat) : Int) := by omega
        have T := Lib.hid (show unusedB r q.top = true by unfold unusedB; simp [HK.out, T_guards.out, T_ex.out, len_pos (M9.out ▸ t_fa)])
        refine wp_seq_quiet_at ?_
        repeat (go_big_quiet_step (fail))
        refine wpQuiet_nil ?_
        intro _ hw'
        obtain ⟨nq, rfl⟩ := hw'
        go_wp2_with fail
        go_ret
        exact ⟨ret_bool T.out.symm, below_drewN HB.out _⟩
      · have i_fa : ¬ (0 : Int) < ((m9 : Nat) : Int) := by omega
        have T_fa := Lib.hid (len_no (M9.out ▸ t_fa))
        by_cases t_send : 0 < m12
        · have i_send : (0 : Int) < ((m12 : Nat) : Int) := by omega
          have T := Lib.hid (show unusedB r q.top = true by unfold unusedB; simp [HK.out, T_guards.out, T_ex.out, T_fa.out, len_pos (M12.out ▸ t_send)])
          refine wp_seq_quiet_at ?_
          repeat (go_big_quiet_step (fail))
          refine wpQuiet_nil ?_
          intro _ hw'
          obtain ⟨nq, rfl⟩ := hw'
          go_wp2_with fail
          go_ret
          exact ⟨ret_bool T.out.symm, below_drewN HB.out _⟩
        · have i_send : ¬ (0 : Int) < ((m12 : Nat) : Int) := by omega
          have T_send := Lib.hid (len_no (M12.out ▸ t_send))
          refine wp_seq_quiet_at ?_
          repeat (go_big_quiet_step (fail))
          refine wpQuiet_nil ?_
          intro _ hw'
          obtain ⟨nq, rfl⟩ := hw'
          go_upto_region 4 with (fail)
          refine wp_seq_quiet_at ?_
          repeat (go_big_quiet_step (fail))
          refine wpQuiet_nil ?_
          intro _ hw'
          obtain ⟨nq, rfl⟩ := hw'
          go_upto_region 6 with (fail)
          by_cases t_pf : r.pf = 0
          rotate_left
          · have i_pf : (r.pf != 0) = true := by simpa using t_pf
            have T := Lib.hid (show unusedB r q.top = true by unfold unusedB; simp [HK.out, T_guards.out, T_ex.out, T_fa.out, T_send.out, t_pf])
            refine wp_seq_quiet_at ?_
            repeat (go_big_quiet_step (fail))
            refine wpQuiet_nil ?_
            intro _ hw'
            obtain ⟨nq, rfl⟩ := hw'
            go_wp2_with fail
            go_ret
            exact ⟨ret_bool T.out.symm, below_drewN HB.out _⟩
          · have i_pf : (r.pf != 0) = false := by simpa using t_pf
            have T_pf := Lib.hid t_pf
            clear t_pf
            by_cases t_pt : r.pt = 0
            rotate_left
            · have i_pt : (r.pt != 0) = true := by simpa using t_pt
              have T := Lib.hid (show unusedB r q.top = true by unfold unusedB; simp [HK.out, T_guards.out, T_ex.out, T_fa.out, T_send.out, T_pf.out, t_pt])
              refine wp_seq_quiet_at ?_
              repeat (go_big_quiet_step (fail))
              refine wpQuiet_nil ?_
              intro _ hw'
              obtain ⟨nq, rfl⟩ := hw'
              go_wp2_with fail
              go_ret
              exact ⟨ret_bool T.out.symm, below_drewN HB.out _⟩
            · have i_pt : (r.pt != 0) = false := by simpa using t_pt
              have T_pt := Lib.hid t_pt
              clear t_pt
              refine wp_seq_quiet_at ?_
              repeat (go_big_quiet_step (fail))
              refine wpQuiet_nil ?_
              intro _ hw'
              obtain ⟨nq, rfl⟩ := hw'
              go_upto_region 8 with (fail)
              by_cases t_dir : r.dir = 0
              rotate_left
              · have i_dir : (r.dir != 0) = true := by simpa using t_dir
                have T := Lib.hid (show unusedB r q.top = true by unfold unusedB; simp [HK.out, T_guards.out, T_ex.out, T_fa.out, T_send.out, T_pf.out, T_pt.out, t_dir])
                refine wp_seq_quiet_at ?_
                repeat (go_big_quiet_step (fail))
                refine wpQuiet_nil ?_
                intro _ hw'
                obtain ⟨nq, rfl⟩ := hw'
                go_wp2_with fail
                go_ret
                exact ⟨ret_bool T.out.symm, below_drewN HB.out _⟩
              · have i_dir : (r.dir != 0) = false := by simpa using t_dir
                have T_dir := Lib.hid t_dir
                clear t_dir
                refine wp_seq_quiet_at ?_
                repeat (go_big_quiet_step (fail))
                refine wpQuiet_nil ?_
                intro _ hw'
                obtain ⟨nq, rfl⟩ := hw'
                go_upto_region 10 with (fail)
                by_cases t_pos : r.pos = 0
                rotate_left
                · have i_pos : (r.pos != 0) = true := by simpa using t_pos
                  have T := Lib.hid (show unusedB r q.top = true by unfold unusedB; simp [HK.out, T_guards.out, T_ex.out, T_fa.out, T_send.out, T_pf.out, T_pt.out, T_dir.out, t_pos])
                  refine wp_seq_quiet_at ?_
                  repeat (go_big_quiet_step (fail))
                  refine wpQuiet_nil ?_
                  intro _ hw'
                  obtain ⟨nq, rfl⟩ := hw'
                  go_wp2_with fail
                  go_ret
                  exact ⟨ret_bool T.out.symm, below_drewN HB.out _⟩
                · have i_pos : (r.pos != 0) = false := by simpa using t_pos
                  have T_pos := Lib.hid t_pos
                  clear t_pos
                  by_cases t_left : 0 < m14
                  · have i_left : (0 : Int) < ((m14 : Nat) : Int) := by omega
                    have T := Lib.hid (show unusedB r q.top = true by unfold unusedB; simp [HK.out, T_guards.out, T_ex.out, T_fa.out, T_send.out, T_pf.out, T_pt.out, T_dir.out, T_pos.out, len_pos (M14.out ▸ t_left)])
                    refine wp_seq_quiet_at ?_
                    repeat (go_big_quiet_step (fail))
                    refine wpQuiet_nil ?_
                    intro _ hw'
                    obtain ⟨nq, rfl⟩ := hw'
                    go_wp2_with fail
                    go_ret
                    exact ⟨ret_bool T.out.symm, below_drewN HB.out _⟩
                  · have i_left : ¬ (0 : Int) < ((m14 : Nat) : Int) := by omega
                    have T_left := Lib.hid (len_no (M14.out ▸ t_left))
                    by_cases t_right : 0 < m15
                    · have i_right : (0 : Int) < ((m15 : Nat) : Int) := by omega
                      have T := Lib.hid (show unusedB r q.top = true by unfold unusedB; simp [HK.out, T_guards.out, T_ex.out, T_fa.out, T_send.out, T_pf.out, T_pt.out, T_dir.out, T_pos.out, T_left.out, len_pos (M15.out ▸ t_right)])
                      refine wp_seq_quiet_at ?_
                      repeat (go_big_quiet_step (fail))
                      refine wpQuiet_nil ?_
                      intro _ hw'
                      obtain ⟨nq, rfl⟩ := hw'
                      go_wp2_with fail
                      go_ret
                      exact ⟨ret_bool T.out.symm, below_drewN HB.out _⟩
                    · have i_right : ¬ (0 : Int) < ((m15 : Nat) : Int) := by omega
                      have T_right := Lib.hid (len_no (M15.out ▸ t_right))
                      refine wp_seq_quiet_at ?_
                      repeat (go_big_quiet_step (fail))
                      refine wpQuiet_nil ?_
                      intro _ hw'
                      obtain ⟨nq, rfl⟩ := hw'
                      go_upto_region 12 with (fail)
                      by_cases tp : 0 < m16
                      · have ip : (0 : Int) < ((m16 : Nat) : Int) := by omega
                        have T := Lib.hid (show unusedB r q.top = true by unfold unusedB; simp [HK.out, T_guards.out, T_ex.out, T_fa.out, T_send.out, T_pf.out, T_pt.out, T_dir.out, T_pos.out, T_left.out, T_right.out, len_pos (M16.out ▸ tp)])
                        refine wp_seq_quiet_at ?_
                        repeat (go_big_quiet_step (fail))
                        refine wpQuiet_nil ?_
                        intro _ hw'
                        obtain ⟨nq, rfl⟩ := hw'
                        go_wp2_with fail
                        go_ret
                        exact ⟨ret_bool T.out.symm, below_drewN HB.out _⟩
                      · have ip : ¬ (0 : Int) < ((m16 : Nat) : Int) := by omega
                        have T := Lib.hid (show unusedB r q.top = false by unfold unusedB; simp [HK.out, T_guards.out, T_ex.out, T_fa.out, T_send.out, T_pf.out, T_pt.out, T_dir.out, T_pos.out, T_left.out, T_right.out, len_no (M16.out ▸ tp)])
                        refine wp_seq_quiet_at ?_
                        repeat (go_big_quiet_step (fail))
                        refine wpQuiet_nil ?_
                        intro _ hw'
                        obtain ⟨nq, rfl⟩ := hw'
                        go_wp2_with fail
                        go_ret
                        exact ⟨ret_bool T.out.symm, below_drewN HB.out _⟩
set_option maxRecDepth 100000 in
set_option maxHeartbeats 6400000 in
theorem unused_4 {lo lo' : Nat} {w : World} {v : Value} {cs : List Value} {q : Fm} {r : Ru} (hk : r.kind = 4) (hq : IsFam lo w v q) (h : RuEl lo' w cs r) :
    Calls Tryd.prog 101 #[v, .agg cs.toArray] w fun e w' => e = .returned (.bool (unusedB r q.top)) ∧ Below w.heap.size w w' := by
  obtain ⟨v2, v3, v4, v6, v7, v8, v9, rfl, _, _, h2, h3, h4, _, h6, h7, h8, h9⟩ := hq
  obtain ⟨a2, c2, rfl⟩ := h2.shape
  obtain ⟨a3, c3, rfl⟩ := h3.shape
  obtain ⟨a4, c4, rfl⟩ := h4.shape
  clear h2 h3 h4 h6 h7 h8 h9
  obtain ⟨u6, u7, u8, u9, u12, u14, u15, u16, hcs, k6, k7, k8, k9, k12, k14, k15, k16⟩ := rule_open h
  obtain ⟨b6, d6, rfl⟩ := k6.shape
  obtain ⟨b7, d7, rfl⟩ := k7.shape
  obtain ⟨b8, d8, rfl⟩ := k8.shape
  obtain ⟨b9, d9, rfl⟩ := k9.shape
  obtain ⟨b12, d12, rfl⟩ := k12.shape
  obtain ⟨b14, d14, rfl⟩ := k14.shape
  obtain ⟨b15, d15, rfl⟩ := k15.shape
  obtain ⟨b16, d16, rfl⟩ := k16.shape
  clear h k6 k7 k8 k9 k12 k14 k15 k16
  have HC := Lib.hid hcs
  clear hcs
  obtain ⟨m6, hm6⟩ : ∃ m, m = r.resp.length := ⟨_, rfl⟩
  have M6 := Lib.hid hm6
  clear hm6
  obtain ⟨m7, hm7⟩ : ∃ m, m = r.guards.length := ⟨_, rfl⟩
  have M7 := Lib.hid hm7
  clear hm7
  obtain ⟨m8, hm8⟩ : ∃ m, m = r.ex.length := ⟨_, rfl⟩
  have M8 := Lib.hid hm8
  clear hm8
  obtain ⟨m9, hm9⟩ : ∃ m, m = r.fa.length := ⟨_, rfl⟩
  have M9 := Lib.hid hm9
  clear hm9
  obtain ⟨m12, hm12⟩ : ∃ m, m = r.send.length := ⟨_, rfl⟩
  have M12 := Lib.hid hm12
  clear hm12
  obtain ⟨m14, hm14⟩ : ∃ m, m = r.left.length := ⟨_, rfl⟩
  have M14 := Lib.hid hm14
  clear hm14
  obtain ⟨m15, hm15⟩ : ∃ m, m = r.right.length := ⟨_, rfl⟩
  have M15 := Lib.hid hm15
  clear hm15
  obtain ⟨m16, hm16⟩ : ∃ m, m = r.parent.length := ⟨_, rfl⟩
  have M16 := Lib.hid hm16
  clear hm16
  go_enter Tryd.func101, Tryd.ntmps101
  go_upto_region 1 with (fail)
  obtain ⟨W, hW⟩ : ∃ W : World, W = (w.alloc (.cells #[.string q.nm, .int .i64 q.top, .slice a2 q.states.length c2, .slice a3 q.msgs.length c3, .slice a4 q.vals.length c4, .int .i64 q.fault, v6, v7, v8, v9] 27)).alloc (.cells cs.toArray 76) := ⟨_, rfl⟩
  rw [← hW]
  have HB := Lib.hid (show Below w.heap.size w W by rw [hW]; show Below _ _ _; go_grown)
  have x1' : W.cell? ⟨w.heap.size, 1, none⟩ = some (.int .i64 q.top) := by rw [hW]; exact keep1 ((new_cell w _ _ 1 rfl).trans rfl) (allocBelow _ _)
  have HG := Lib.hid (show W.heap[w.heap.size + 1]? = some (.cells cs.toArray 76 (0, 0)) by rw [hW]; exact heap_new _ _ (by simp))
  clear hW
  have y1 : W.cell? ⟨w.heap.size + 1, 1, none⟩ = some (.int .i64 4) := by rw [← hk]; exact cellB HG.out 1 (by rw [HC.out]; rfl)
  have y4 : W.cell? ⟨w.heap.size + 1, 4, none⟩ = some (.int .i64 r.pf) := cellB HG.out 4 (by rw [HC.out]; rfl)
  have y5 : W.cell? ⟨w.heap.size + 1, 5, none⟩ = some (.int .i64 r.pt) := cellB HG.out 5 (by rw [HC.out]; rfl)
  have y6 : W.cell? ⟨w.heap.size + 1, 6, none⟩ = some (.slice b6 m6 d6) := cellB HG.out 6 (by rw [HC.out, M6.out]; rfl)
  have y7 : W.cell? ⟨w.heap.size + 1, 7, none⟩ = some (.slice b7 m7 d7) := cellB HG.out 7 (by rw [HC.out, M7.out]; rfl)
  have y8 : W.cell? ⟨w.heap.size + 1, 8, none⟩ = some (.slice b8 m8 d8) := cellB HG.out 8 (by rw [HC.out, M8.out]; rfl)
  have y9 : W.cell? ⟨w.heap.size + 1, 9, none⟩ = some (.slice b9 m9 d9) := cellB HG.out 9 (by rw [HC.out, M9.out]; rfl)
  have y10 : W.cell? ⟨w.heap.size + 1, 10, none⟩ = some (.int .i64 r.rd) := cellB HG.out 10 (by rw [HC.out]; rfl)
  have y11 : W.cell? ⟨w.heap.size + 1, 11, none⟩ = some (.int .i64 r.wr) := cellB HG.out 11 (by rw [HC.out]; rfl)
  have y12 : W.cell? ⟨w.heap.size + 1, 12, none⟩ = some (.slice b12 m12 d12) := cellB HG.out 12 (by rw [HC.out, M12.out]; rfl)
  have y13 : W.cell? ⟨w.heap.size + 1, 13, none⟩ = some (.int .i64 r.pos) := cellB HG.out 13 (by rw [HC.out]; rfl)
  have y14 : W.cell? ⟨w.heap.size + 1, 14, none⟩ = some (.slice b14 m14 d14) := cellB HG.out 14 (by rw [HC.out, M14.out]; rfl)
  have y15 : W.cell? ⟨w.heap.size + 1, 15, none⟩ = some (.slice b15 m15 d15) := cellB HG.out 15 (by rw [HC.out, M15.out]; rfl)
  have y16 : W.cell? ⟨w.heap.size + 1, 16, none⟩ = some (.slice b16 m16 d16) := cellB HG.out 16 (by rw [HC.out, M16.out]; rfl)
  have y17 : W.cell? ⟨w.heap.size + 1, 17, none⟩ = some (.int .i64 r.dir) := cellB HG.out 17 (by rw [HC.out]; rfl)
  have HK := Lib.hid hk
  clear hk
  go_quiet (fail)
  go_upto_region 2 with (fail)
  by_cases t_guards : 0 < m7
  · have i_guards : (0 : Int) < ((m7 : Nat) : Int) := by omega
    have T := Lib.hid (show unusedB r q.top = true by unfold unusedB; simp [HK.out, len_pos (M7.out ▸ t_guards)])
    refine wp_seq_quiet_at ?_
    repeat (go_big_quiet_step (fail))
    refine wpQuiet_nil ?_
    intro _ hw'
    obtain ⟨nq, rfl⟩ := hw'
    go_wp2_with fail
    go_ret
    exact ⟨ret_bool T.out.symm, below_drewN HB.out _⟩
  · have i_guards : ¬ (0 : Int) < ((m7 : Nat) : Int) := by omega
    have T_guards := Lib.hid (len_no (M7.out ▸ t_guards))
    by_cases t_ex : 0 < m8
    · have i_ex : (0 : Int) < ((m8 : Nat) : Int) := by omega
      have T := Lib.hid (show unusedB r q.top = true by unfold unusedB; simp [HK.out, T_guards.out, len_pos (M8.out ▸ t_ex)])
      refine wp_seq_quiet_at ?_
      repeat (go_big_quiet_step (fail))
      refine wpQuiet_nil ?_
      intro _ hw'
      obtain ⟨nq, rfl⟩ := hw'
      go_wp2_with fail
      go_ret
      exact ⟨ret_bool T.out.symm, below_drewN HB.out _⟩
    · have i_ex : ¬ (0 : Int) < ((m8 : Nat) : Int) := by omega
      have T_ex := Lib.hid (len_no (M8.out ▸ t_ex))
      by_cases t_fa : 0 < m9
      · have i_fa : (0 : Int) < ((m9 : Nat) : Int) := by omega
        have T := Lib.hid (show unusedB r q.top = true by unfold unusedB; simp [HK.out, T_guards.out, T_ex.out, len_pos (M9.out ▸ t_fa)])
        refine wp_seq_quiet_at ?_
        repeat (go_big_quiet_step (fail))
        refine wpQuiet_nil ?_
        intro _ hw'
        obtain ⟨nq, rfl⟩ := hw'
        go_wp2_with fail
        go_ret
        exact ⟨ret_bool T.out.symm, below_drewN HB.out _⟩
      · have i_fa : ¬ (0 : Int) < ((m9 : Nat) : Int) := by omega
        have T_fa := Lib.hid (len_no (M9.out ▸ t_fa))
        by_cases t_send : 0 < m12
        · have i_send : (0 : Int) < ((m12 : Nat) : Int) := by omega
          have T := Lib.hid (show unusedB r q.top = true by unfold unusedB; simp [HK.out, T_guards.out, T_ex.out, T_fa.out, len_pos (M12.out ▸ t_send)])
          refine wp_seq_quiet_at ?_
          repeat (go_big_quiet_step (fail))
          refine wpQuiet_nil ?_
          intro _ hw'
          obtain ⟨nq, rfl⟩ := hw'
          go_wp2_with fail
          go_ret
          exact ⟨ret_bool T.out.symm, below_drewN HB.out _⟩
        · have i_send : ¬ (0 : Int) < ((m12 : Nat) : Int) := by omega
          have T_send := Lib.hid (len_no (M12.out ▸ t_send))
          refine wp_seq_quiet_at ?_
          repeat (go_big_quiet_step (fail))
          refine wpQuiet_nil ?_
          intro _ hw'
          obtain ⟨nq, rfl⟩ := hw'
          go_upto_region 4 with (fail)
          by_cases t_rd : r.rd = (-1)
          rotate_left
          · have i_rd : (r.rd != (-1)) = true := by simpa using t_rd
            have T := Lib.hid (show unusedB r q.top = true by unfold unusedB; simp [HK.out, T_guards.out, T_ex.out, T_fa.out, T_send.out, t_rd])
            refine wp_seq_quiet_at ?_
            repeat (go_big_quiet_step (fail))
            refine wpQuiet_nil ?_
            intro _ hw'
            obtain ⟨nq, rfl⟩ := hw'
            go_wp2_with fail
            go_ret
            exact ⟨ret_bool T.out.symm, below_drewN HB.out _⟩
          · have i_rd : (r.rd != (-1)) = false := by simpa using t_rd
            have T_rd := Lib.hid t_rd
            clear t_rd
            by_cases t_wr : r.wr = (-1)
            rotate_left
            · have i_wr : (r.wr != (-1)) = true := by simpa using t_wr
              have T := Lib.hid (show unusedB r q.top = true by unfold unusedB; simp [HK.out, T_guards.out, T_ex.out, T_fa.out, T_send.out, T_rd.out, t_wr])
              refine wp_seq_quiet_at ?_
              repeat (go_big_quiet_step (fail))
              refine wpQuiet_nil ?_
              intro _ hw'
              obtain ⟨nq, rfl⟩ := hw'
              go_wp2_with fail
              go_ret
              exact ⟨ret_bool T.out.symm, below_drewN HB.out _⟩
            · have i_wr : (r.wr != (-1)) = false := by simpa using t_wr
              have T_wr := Lib.hid t_wr
              clear t_wr
              refine wp_seq_quiet_at ?_
              repeat (go_big_quiet_step (fail))
              refine wpQuiet_nil ?_
              intro _ hw'
              obtain ⟨nq, rfl⟩ := hw'
              go_upto_region 6 with (fail)
              by_cases t_pf : r.pf = 0
              rotate_left
              · have i_pf : (r.pf != 0) = true := by simpa using t_pf
                have T := Lib.hid (show unusedB r q.top = true by unfold unusedB; simp [HK.out, T_guards.out, T_ex.out, T_fa.out, T_send.out, T_rd.out, T_wr.out, t_pf])
                refine wp_seq_quiet_at ?_
                repeat (go_big_quiet_step (fail))
                refine wpQuiet_nil ?_
                intro _ hw'
                obtain ⟨nq, rfl⟩ := hw'
                go_wp2_with fail
                go_ret
                exact ⟨ret_bool T.out.symm, below_drewN HB.out _⟩
              · have i_pf : (r.pf != 0) = false := by simpa using t_pf
                have T_pf := Lib.hid t_pf
                clear t_pf
                by_cases t_pt : r.pt = 0
                rotate_left
                · have i_pt : (r.pt != 0) = true := by simpa using t_pt
                  have T := Lib.hid (show unusedB r q.top = true by unfold unusedB; simp [HK.out, T_guards.out, T_ex.out, T_fa.out, T_send.out, T_rd.out, T_wr.out, T_pf.out, t_pt])
                  refine wp_seq_quiet_at ?_
                  repeat (go_big_quiet_step (fail))
                  refine wpQuiet_nil ?_
                  intro _ hw'
                  obtain ⟨nq, rfl⟩ := hw'
                  go_wp2_with fail
                  go_ret
                  exact ⟨ret_bool T.out.symm, below_drewN HB.out _⟩
                · have i_pt : (r.pt != 0) = false := by simpa using t_pt
                  have T_pt := Lib.hid t_pt
                  clear t_pt
                  refine wp_seq_quiet_at ?_
                  repeat (go_big_quiet_step (fail))
                  refine wpQuiet_nil ?_
                  intro _ hw'
                  obtain ⟨nq, rfl⟩ := hw'
                  go_upto_region 8 with (fail)
                  by_cases t_resp : 0 < m6
                  · have i_resp : (0 : Int) < ((m6 : Nat) : Int) := by omega
                    have T := Lib.hid (show unusedB r q.top = true by unfold unusedB; simp [HK.out, T_guards.out, T_ex.out, T_fa.out, T_send.out, T_rd.out, T_wr.out, T_pf.out, T_pt.out, len_pos (M6.out ▸ t_resp)])
                    refine wp_seq_quiet_at ?_
                    repeat (go_big_quiet_step (fail))
                    refine wpQuiet_nil ?_
                    intro _ hw'
                    obtain ⟨nq, rfl⟩ := hw'
                    go_wp2_with fail
                    go_ret
                    exact ⟨ret_bool T.out.symm, below_drewN HB.out _⟩
                  · have i_resp : ¬ (0 : Int) < ((m6 : Nat) : Int) := by omega
                    have T_resp := Lib.hid (len_no (M6.out ▸ t_resp))
                    by_cases t_dir : r.dir = 0
                    rotate_left
                    · have i_dir : (r.dir != 0) = true := by simpa using t_dir
                      have T := Lib.hid (show unusedB r q.top = true by unfold unusedB; simp [HK.out, T_guards.out, T_ex.out, T_fa.out, T_send.out, T_rd.out, T_wr.out, T_pf.out, T_pt.out, T_resp.out, t_dir])
                      refine wp_seq_quiet_at ?_
                      repeat (go_big_quiet_step (fail))
                      refine wpQuiet_nil ?_
                      intro _ hw'
                      obtain ⟨nq, rfl⟩ := hw'
                      go_wp2_with fail
                      go_ret
                      exact ⟨ret_bool T.out.symm, below_drewN HB.out _⟩
                    · have i_dir : (r.dir != 0) = false := by simpa using t_dir
                      have T_dir := Lib.hid t_dir
                      clear t_dir
                      refine wp_seq_quiet_at ?_
                      repeat (go_big_quiet_step (fail))
                      refine wpQuiet_nil ?_
                      intro _ hw'
                      obtain ⟨nq, rfl⟩ := hw'
                      go_upto_region 10 with (fail)
                      refine wp_seq_quiet_at ?_
                      repeat (go_big_quiet_step (fail))
                      refine wpQuiet_nil ?_
                      intro _ hw'
                      obtain ⟨nq, rfl⟩ := hw'
                      go_upto_region 12 with (fail)
                      by_cases tp : 0 < m16
                      · have ip : (0 : Int) < ((m16 : Nat) : Int) := by omega
                        by_cases tt : q.top = 4
                        · have it : (q.top == 4) = true := by simp [tt]
                          have T := Lib.hid (show unusedB r q.top = false by unfold unusedB; simp [HK.out, T_guards.out, T_ex.out, T_fa.out, T_send.out, T_rd.out, T_wr.out, T_pf.out, T_pt.out, T_resp.out, T_dir.out, len_pos (M16.out ▸ tp), tt])
                          clear tt
                          refine wp_seq_quiet_at ?_
                          repeat (go_big_quiet_step (fail))
                          refine wpQuiet_nil ?_
                          intro _ hw'
                          obtain ⟨nq, rfl⟩ := hw'
                          go_wp2_with fail
                          go_ret
                          exact ⟨ret_bool T.out.symm, below_drewN HB.out _⟩
                        · have it : (q.top == 4) = false := by simp [tt]
                          have T := Lib.hid (show unusedB r q.top = true by unfold unusedB; simp [HK.out, T_guards.out, T_ex.out, T_fa.out, T_send.out, T_rd.out, T_wr.out, T_pf.out, T_pt.out, T_resp.out, T_dir.out, len_pos (M16.out ▸ tp), tt])
                          clear tt
                          refine wp_seq_quiet_at ?_
                          repeat (go_big_quiet_step (fail))
                          refine wpQuiet_nil ?_
                          intro _ hw'
                          obtain ⟨nq, rfl⟩ := hw'
                          go_wp2_with fail
                          go_ret
                          exact ⟨ret_bool T.out.symm, below_drewN HB.out _⟩
                      · have ip : ¬ (0 : Int) < ((m16 : Nat) : Int) := by omega
                        have T := Lib.hid (show unusedB r q.top = false by unfold unusedB; simp [HK.out, T_guards.out, T_ex.out, T_fa.out, T_send.out, T_rd.out, T_wr.out, T_pf.out, T_pt.out, T_resp.out, T_dir.out, len_no (M16.out ▸ tp)])
                        refine wp_seq_quiet_at ?_
                        repeat (go_big_quiet_step (fail))
                        refine wpQuiet_nil ?_
                        intro _ hw'
                        obtain ⟨nq, rfl⟩ := hw'
                        go_wp2_with fail
                        go_ret
                        exact ⟨ret_bool T.out.symm, below_drewN HB.out _⟩
set_option maxRecDepth 100000 in
set_option maxHeartbeats 6400000 in
theorem unused_5 {lo lo' : Nat} {w : World} {v : Value} {cs : List Value} {q : Fm} {r : Ru} (hk : r.kind = 5) (hq : IsFam lo w v q) (h : RuEl lo' w cs r) :
    Calls Tryd.prog 101 #[v, .agg cs.toArray] w fun e w' => e = .returned (.bool (unusedB r q.top)) ∧ Below w.heap.size w w' := by
  obtain ⟨v2, v3, v4, v6, v7, v8, v9, rfl, _, _, h2, h3, h4, _, h6, h7, h8, h9⟩ := hq
  obtain ⟨a2, c2, rfl⟩ := h2.shape
  obtain ⟨a3, c3, rfl⟩ := h3.shape
  obtain ⟨a4, c4, rfl⟩ := h4.shape
  clear h2 h3 h4 h6 h7 h8 h9
  obtain ⟨u6, u7, u8, u9, u12, u14, u15, u16, hcs, k6, k7, k8, k9, k12, k14, k15, k16⟩ := rule_open h
  obtain ⟨b6, d6, rfl⟩ := k6.shape
  obtain ⟨b7, d7, rfl⟩ := k7.shape
  obtain ⟨b8, d8, rfl⟩ := k8.shape
  obtain ⟨b9, d9, rfl⟩ := k9.shape
  obtain ⟨b12, d12, rfl⟩ := k12.shape
  obtain ⟨b14, d14, rfl⟩ := k14.shape
  obtain ⟨b15, d15, rfl⟩ := k15.shape
  obtain ⟨b16, d16, rfl⟩ := k16.shape
  clear h k6 k7 k8 k9 k12 k14 k15 k16
  have HC := Lib.hid hcs
  clear hcs
  obtain ⟨m6, hm6⟩ : ∃ m, m = r.resp.length := ⟨_, rfl⟩
  have M6 := Lib.hid hm6
  clear hm6
  obtain ⟨m7, hm7⟩ : ∃ m, m = r.guards.length := ⟨_, rfl⟩
  have M7 := Lib.hid hm7
  clear hm7
  obtain ⟨m8, hm8⟩ : ∃ m, m = r.ex.length := ⟨_, rfl⟩
  have M8 := Lib.hid hm8
  clear hm8
  obtain ⟨m9, hm9⟩ : ∃ m, m = r.fa.length := ⟨_, rfl⟩
  have M9 := Lib.hid hm9
  clear hm9
  obtain ⟨m12, hm12⟩ : ∃ m, m = r.send.length := ⟨_, rfl⟩
  have M12 := Lib.hid hm12
  clear hm12
  obtain ⟨m14, hm14⟩ : ∃ m, m = r.left.length := ⟨_, rfl⟩
  have M14 := Lib.hid hm14
  clear hm14
  obtain ⟨m15, hm15⟩ : ∃ m, m = r.right.length := ⟨_, rfl⟩
  have M15 := Lib.hid hm15
  clear hm15
  obtain ⟨m16, hm16⟩ : ∃ m, m = r.parent.length := ⟨_, rfl⟩
  have M16 := Lib.hid hm16
  clear hm16
  go_enter Tryd.func101, Tryd.ntmps101
  go_upto_region 1 with (fail)
  obtain ⟨W, hW⟩ : ∃ W : World, W = (w.alloc (.cells #[.string q.nm, .int .i64 q.top, .slice a2 q.states.length c2, .slice a3 q.msgs.length c3, .slice a4 q.vals.length c4, .int .i64 q.fault, v6, v7, v8, v9] 27)).alloc (.cells cs.toArray 76) := ⟨_, rfl⟩
  rw [← hW]
  have HB := Lib.hid (show Below w.heap.size w W by rw [hW]; show Below _ _ _; go_grown)
  have x1' : W.cell? ⟨w.heap.size, 1, none⟩ = some (.int .i64 q.top) := by rw [hW]; exact keep1 ((new_cell w _ _ 1 rfl).trans rfl) (allocBelow _ _)
  have HG := Lib.hid (show W.heap[w.heap.size + 1]? = some (.cells cs.toArray 76 (0, 0)) by rw [hW]; exact heap_new _ _ (by simp))
  clear hW
  have y1 : W.cell? ⟨w.heap.size + 1, 1, none⟩ = some (.int .i64 5) := by rw [← hk]; exact cellB HG.out 1 (by rw [HC.out]; rfl)
  have y4 : W.cell? ⟨w.heap.size + 1, 4, none⟩ = some (.int .i64 r.pf) := cellB HG.out 4 (by rw [HC.out]; rfl)
  have y5 : W.cell? ⟨w.heap.size + 1, 5, none⟩ = some (.int .i64 r.pt) := cellB HG.out 5 (by rw [HC.out]; rfl)
  have y6 : W.cell? ⟨w.heap.size + 1, 6, none⟩ = some (.slice b6 m6 d6) := cellB HG.out 6 (by rw [HC.out, M6.out]; rfl)
  have y7 : W.cell? ⟨w.heap.size + 1, 7, none⟩ = some (.slice b7 m7 d7) := cellB HG.out 7 (by rw [HC.out, M7.out]; rfl)
  have y8 : W.cell? ⟨w.heap.size + 1, 8, none⟩ = some (.slice b8 m8 d8) := cellB HG.out 8 (by rw [HC.out, M8.out]; rfl)
  have y9 : W.cell? ⟨w.heap.size + 1, 9, none⟩ = some (.slice b9 m9 d9) := cellB HG.out 9 (by rw [HC.out, M9.out]; rfl)
  have y10 : W.cell? ⟨w.heap.size + 1, 10, none⟩ = some (.int .i64 r.rd) := cellB HG.out 10 (by rw [HC.out]; rfl)
  have y11 : W.cell? ⟨w.heap.size + 1, 11, none⟩ = some (.int .i64 r.wr) := cellB HG.out 11 (by rw [HC.out]; rfl)
  have y12 : W.cell? ⟨w.heap.size + 1, 12, none⟩ = some (.slice b12 m12 d12) := cellB HG.out 12 (by rw [HC.out, M12.out]; rfl)
  have y13 : W.cell? ⟨w.heap.size + 1, 13, none⟩ = some (.int .i64 r.pos) := cellB HG.out 13 (by rw [HC.out]; rfl)
  have y14 : W.cell? ⟨w.heap.size + 1, 14, none⟩ = some (.slice b14 m14 d14) := cellB HG.out 14 (by rw [HC.out, M14.out]; rfl)
  have y15 : W.cell? ⟨w.heap.size + 1, 15, none⟩ = some (.slice b15 m15 d15) := cellB HG.out 15 (by rw [HC.out, M15.out]; rfl)
  have y16 : W.cell? ⟨w.heap.size + 1, 16, none⟩ = some (.slice b16 m16 d16) := cellB HG.out 16 (by rw [HC.out, M16.out]; rfl)
  have y17 : W.cell? ⟨w.heap.size + 1, 17, none⟩ = some (.int .i64 r.dir) := cellB HG.out 17 (by rw [HC.out]; rfl)
  have HK := Lib.hid hk
  clear hk
  go_quiet (fail)
  go_upto_region 2 with (fail)
  by_cases t_guards : 0 < m7
  · have i_guards : (0 : Int) < ((m7 : Nat) : Int) := by omega
    have T := Lib.hid (show unusedB r q.top = true by unfold unusedB; simp [HK.out, len_pos (M7.out ▸ t_guards)])
    refine wp_seq_quiet_at ?_
    repeat (go_big_quiet_step (fail))
    refine wpQuiet_nil ?_
    intro _ hw'
    obtain ⟨nq, rfl⟩ := hw'
    go_wp2_with fail
    go_ret
    exact ⟨ret_bool T.out.symm, below_drewN HB.out _⟩
  · have i_guards : ¬ (0 : Int) < ((m7 : Nat) : Int) := by omega
    have T_guards := Lib.hid (len_no (M7.out ▸ t_guards))
    by_cases t_ex : 0 < m8
    · have i_ex : (0 : Int) < ((m8 : Nat) : Int) := by omega
      have T := Lib.hid (show unusedB r q.top = true by unfold unusedB; simp [HK.out, T_guards.out, len_pos (M8.out ▸ t_ex)])
      refine wp_seq_quiet_at ?_
      repeat (go_big_quiet_step (fail))
      refine wpQuiet_nil ?_
      intro _ hw'
      obtain ⟨nq, rfl⟩ := hw'
      go_wp2_with fail
      go_ret
      exact ⟨ret_bool T.out.symm, below_drewN HB.out _⟩
    · have i_ex : ¬ (0 : Int) < ((m8 : Nat) : Int) := by omega
      have T_ex := Lib.hid (len_no (M8.out ▸ t_ex))
      by_cases t_fa : 0 < m9
      · have i_fa : (0 : Int) < ((m9 : Nat) : Int) := by omega
        have T := Lib.hid (show unusedB r q.top = true by unfold unusedB; simp [HK.out, T_guards.out, T_ex.out, len_pos (M9.out ▸ t_fa)])
        refine wp_seq_quiet_at ?_
        repeat (go_big_quiet_step (fail))
        refine wpQuiet_nil ?_
        intro _ hw'
        obtain ⟨nq, rfl⟩ := hw'
        go_wp2_with fail
        go_ret
        exact ⟨ret_bool T.out.symm, below_drewN HB.out _⟩
      · have i_fa : ¬ (0 : Int) < ((m9 : Nat) : Int) := by omega
        have T_fa := Lib.hid (len_no (M9.out ▸ t_fa))
        by_cases t_send : 0 < m12
        · have i_send : (0 : Int) < ((m12 : Nat) : Int) := by omega
          have T := Lib.hid (show unusedB r q.top = true by unfold unusedB; simp [HK.out, T_guards.out, T_ex.out, T_fa.out, len_pos (M12.out ▸ t_send)])
          refine wp_seq_quiet_at ?_
          repeat (go_big_quiet_step (fail))
          refine wpQuiet_nil ?_
          intro _ hw'
          obtain ⟨nq, rfl⟩ := hw'
          go_wp2_with fail
          go_ret
          exact ⟨ret_bool T.out.symm, below_drewN HB.out _⟩
        · have i_send : ¬ (0 : Int) < ((m12 : Nat) : Int) := by omega
          have T_send := Lib.hid (len_no (M12.out ▸ t_send))
          refine wp_seq_quiet_at ?_
          repeat (go_big_quiet_step (fail))
          refine wpQuiet_nil ?_
          intro _ hw'
          obtain ⟨nq, rfl⟩ := hw'
          go_upto_region 4 with (fail)
          by_cases t_rd : r.rd = (-1)
          rotate_left
          · have i_rd : (r.rd != (-1)) = true := by simpa using t_rd
            have T := Lib.hid (show unusedB r q.top = true by unfold unusedB; simp [HK.out, T_guards.out, T_ex.out, T_fa.out, T_send.out, t_rd])
            refine wp_seq_quiet_at ?_
            repeat (go_big_quiet_step (fail))
            refine wpQuiet_nil ?_
            intro _ hw'
            obtain ⟨nq, rfl⟩ := hw'
            go_wp2_with fail
            go_ret
            exact ⟨ret_bool T.out.symm, below_drewN HB.out _⟩
          · have i_rd : (r.rd != (-1)) = false := by simpa using t_rd
            have T_rd := Lib.hid t_rd
            clear t_rd
            by_cases t_wr : r.wr = (-1)
            rotate_left
            · have i_wr : (r.wr != (-1)) = true := by simpa using t_wr
              have T := Lib.hid (show unusedB r q.top = true by unfold unusedB; simp [HK.out, T_guards.out, T_ex.out, T_fa.out, T_send.out, T_rd.out, t_wr])
              refine wp_seq_quiet_at ?_
              repeat (go_big_quiet_step (fail))
              refine wpQuiet_nil ?_
              intro _ hw'
              obtain ⟨nq, rfl⟩ := hw'
              go_wp2_with fail
              go_ret
              exact ⟨ret_bool T.out.symm, below_drewN HB.out _⟩
            · have i_wr : (r.wr != (-1)) = false := by simpa using t_wr
              have T_wr := Lib.hid t_wr
              clear t_wr
              refine wp_seq_quiet_at ?_
              repeat (go_big_quiet_step (fail))
              refine wpQuiet_nil ?_
              intro _ hw'
              obtain ⟨nq, rfl⟩ := hw'
              go_upto_region 6 with (fail)
              refine wp_seq_quiet_at ?_
              repeat (go_big_quiet_step (fail))
              refine wpQuiet_nil ?_
              intro _ hw'
              obtain ⟨nq, rfl⟩ := hw'
              go_upto_region 8 with (fail)
              by_cases t_resp : 0 < m6
              · have i_resp : (0 : Int) < ((m6 : Nat) : Int) := by omega
                have T := Lib.hid (show unusedB r q.top = true by unfold unusedB; simp [HK.out, T_guards.out, T_ex.out, T_fa.out, T_send.out, T_rd.out, T_wr.out, len_pos (M6.out ▸ t_resp)])
                refine wp_seq_quiet_at ?_
                repeat (go_big_quiet_step (fail))
                refine wpQuiet_nil ?_
                intro _ hw'
                obtain ⟨nq, rfl⟩ := hw'
                go_wp2_with fail
                go_ret
                exact ⟨ret_bool T.out.symm, below_drewN HB.out _⟩
              · have i_resp : ¬ (0 : Int) < ((m6 : Nat) : Int) := by omega
                have T_resp := Lib.hid (len_no (M6.out ▸ t_resp))
                refine wp_seq_quiet_at ?_
                repeat (go_big_quiet_step (fail))
                refine wpQuiet_nil ?_
                intro _ hw'
                obtain ⟨nq, rfl⟩ := hw'
                go_upto_region 10 with (fail)
                by_cases t_pos : r.pos = 0
                rotate_left
                · have i_pos : (r.pos != 0) = true := by simpa using t_pos
                  have T := Lib.hid (show unusedB r q.top = true by unfold unusedB; simp [HK.out, T_guards.out, T_ex.out, T_fa.out, T_send.out, T_rd.out, T_wr.out, T_resp.out, t_pos])
                  refine wp_seq_quiet_at ?_
                  repeat (go_big_quiet_step (fail))
                  refine wpQuiet_nil ?_
                  intro _ hw'
                  obtain ⟨nq, rfl⟩ := hw'
                  go_wp2_with fail
                  go_ret
                  exact ⟨ret_bool T.out.symm, below_drewN HB.out _⟩
                · have i_pos : (r.pos != 0) = false := by simpa using t_pos
                  have T_pos := Lib.hid t_pos
                  clear t_pos
                  by_cases t_left : 0 < m14
                  · have i_left : (0 : Int) < ((m14 : Nat) : Int) := by omega
                    have T := Lib.hid (show unusedB r q.top = true by unfold unusedB; simp [HK.out, T_guards.out, T_ex.out, T_fa.out, T_send.out, T_rd.out, T_wr.out, T_resp.out, T_pos.out, len_pos (M14.out ▸ t_left)])
                    refine wp_seq_quiet_at ?_
                    repeat (go_big_quiet_step (fail))
                    refine wpQuiet_nil ?_
                    intro _ hw'
                    obtain ⟨nq, rfl⟩ := hw'
                    go_wp2_with fail
                    go_ret
                    exact ⟨ret_bool T.out.symm, below_drewN HB.out _⟩
                  · have i_left : ¬ (0 : Int) < ((m14 : Nat) : Int) := by omega
                    have T_left := Lib.hid (len_no (M14.out ▸ t_left))
                    by_cases t_right : 0 < m15
                    · have i_right : (0 : Int) < ((m15 : Nat) : Int) := by omega
                      have T := Lib.hid (show unusedB r q.top = true by unfold unusedB; simp [HK.out, T_guards.out, T_ex.out, T_fa.out, T_send.out, T_rd.out, T_wr.out, T_resp.out, T_pos.out, T_left.out, len_pos (M15.out ▸ t_right)])
                      refine wp_seq_quiet_at ?_
                      repeat (go_big_quiet_step (fail))
                      refine wpQuiet_nil ?_
                      intro _ hw'
                      obtain ⟨nq, rfl⟩ := hw'
                      go_wp2_with fail
                      go_ret
                      exact ⟨ret_bool T.out.symm, below_drewN HB.out _⟩
                    · have i_right : ¬ (0 : Int) < ((m15 : Nat) : Int) := by omega
                      have T_right := Lib.hid (len_no (M15.out ▸ t_right))
                      refine wp_seq_quiet_at ?_
                      repeat (go_big_quiet_step (fail))
                      refine wpQuiet_nil ?_
                      intro _ hw'
                      obtain ⟨nq, rfl⟩ := hw'
                      go_upto_region 12 with (fail)
                      by_cases tp : 0 < m16
                      · have ip : (0 : Int) < ((m16 : Nat) : Int) := by omega
                        have T := Lib.hid (show unusedB r q.top = true by unfold unusedB; simp [HK.out, T_guards.out, T_ex.out, T_fa.out, T_send.out, T_rd.out, T_wr.out, T_resp.out, T_pos.out, T_left.out, T_right.out, len_pos (M16.out ▸ tp)])
                        refine wp_seq_quiet_at ?_
                        repeat (go_big_quiet_step (fail))
                        refine wpQuiet_nil ?_
                        intro _ hw'
                        obtain ⟨nq, rfl⟩ := hw'
                        go_wp2_with fail
                        go_ret
                        exact ⟨ret_bool T.out.symm, below_drewN HB.out _⟩
                      · have ip : ¬ (0 : Int) < ((m16 : Nat) : Int) := by omega
                        have T := Lib.hid (show unusedB r q.top = false by unfold unusedB; simp [HK.out, T_guards.out, T_ex.out, T_fa.out, T_send.out, T_rd.out, T_wr.out, T_resp.out, T_pos.out, T_left.out, T_right.out, len_no (M16.out ▸ tp)])
                        refine wp_seq_quiet_at ?_
                        repeat (go_big_quiet_step (fail))
                        refine wpQuiet_nil ?_
                        intro _ hw'
                        obtain ⟨nq, rfl⟩ := hw'
                        go_wp2_with fail
                        go_ret
                        exact ⟨ret_bool T.out.symm, below_drewN HB.out _⟩
theorem unused_any {lo lo' : Nat} {w : World} {v : Value} {cs : List Value} {q : Fm} {r : Ru} (hk : r.kind = 1 ∨ r.kind = 2 ∨ r.kind = 3 ∨ r.kind = 4 ∨ r.kind = 5) (hq : IsFam lo w v q) (h : RuEl lo' w cs r) :
    Calls Tryd.prog 101 #[v, .agg cs.toArray] w fun e w' => e = .returned (.bool (unusedB r q.top)) ∧ Below w.heap.size w w' := by
  rcases hk with hk | hk | hk | hk | hk
  · exact unused_1 hk hq h
  · exact unused_2 hk hq h
  · exact unused_3 hk hq h
  · exact unused_4 hk hq h
  · exact unused_5 hk hq h
end Go.Proofs.YtmpbfdfjcfanoaaDoor

/-
  slices.Concat OF LISTS OF NAMES, slices.Grow OF NOTHING.
-/
namespace Go.Proofs.YtmpbfdfjcfanoaaDoor
open Go.RowKit Go.Deep
theorem row_still {w w' : World} {B e size n : Nat} {v : Value} {xs : List Value} (h : w.ownsRow B e size v n xs) (hb : Below w.heap.size w w') : w'.ownsRow B e size v n xs := by
  obtain ⟨h1, h2⟩ := h
  refine ⟨h1, ?_⟩
  rcases h2 with h2 | ⟨g, cap, cur, hv, hg, hh, r⟩
  · exact .inl h2
  · exact .inr ⟨g, cap, cur, hv, hg, by rw [hb.block g (Array.getElem?_eq_some_iff.1 hh).1]; exact hh, r⟩
theorem info_str4 : ∃ i : TypeInfo, Tryd.prog.info? 9 = some i ∧ i.zero = some (.string ⟨#[]⟩) ∧ i.size = 1 ∧ i.bytes = 16 := by
  have h : (Tryd.prog.info? 9).map (fun i => (i.zero, i.size, i.bytes)) = some (some (.string ⟨#[]⟩), 1, 16) := by kernel_rfl
  obtain ⟨i, hi, hz⟩ := Option.map_eq_some_iff.1 h
  simp only [Prod.mk.injEq] at hz
  exact ⟨i, hi, hz.1, hz.2.1, hz.2.2⟩
theorem grow_own (w : World) (n : Nat) (hn : n ≤ 1000) :
    (w.drew.alloc (.cells (Builtin.zeroCells (Value.string ⟨#[]⟩).cells n ++ Builtin.zeroCells (Value.string ⟨#[]⟩).cells (grownCap w n 0 9 - n)) 9)).ownsRow w.heap.size 9 1 (.slice (some ⟨w.heap.size, 0, none⟩) 0 (grownCap w n 0 9)) 0 [] := by
  have h1 := grownCap_ge w n 0 9
  have h2 := grownCap_le_maxLen w n 0 9 (by unfold maxLen; omega)
  refine ⟨rfl, .inr ⟨w.heap.size, _, _, rfl, Nat.le_refl _, heap_alloc_new w.drew _, Nat.zero_le _, h2, ?_, by simp⟩⟩
  rw [Array.size_append, size_zeroCells, size_zeroCells]
  show n * 1 + (_ - n) * 1 = _ * 1
  omega
set_option maxRecDepth 100000 in
set_option maxHeartbeats 1600000 in
theorem Grow_nil (n : Nat) (hn : n ≤ 1000) (w : World) :
    Calls Tryd.prog 113 #[.slice none 0 0, .int .i64 n] w fun e w' => ∃ a c, e = .returned (.slice a 0 c) ∧ w'.ownsRow w.heap.size 9 1 (.slice a 0 c) 0 [] ∧ Below w.heap.size w w' := by
  by_cases h0 : n = 0
  · subst h0
    go_enter Tryd.func113, Tryd.ntmps113
    go_wp2_with fail
    go_ret
    exact ⟨_, _, rfl, World.ownsRow_nil _ _ _ _, Below.refl _ _⟩
  · have g1 : (0 : Int) < (n : Int) := by omega
    obtain ⟨i0, hi0, hz0, hz1, hz2⟩ := info_str4
    have R := Lib.hid (Lib.run_append_nil_zeros (P := Tryd.prog) w 22 3 22 9 i0 (.string ⟨#[]⟩) .i64 .i64 Tryd.underlying22 Tryd.underlying3 hi0 hz0 n (by omega) (by omega) (by omega) (by rw [hz2]; omega))
    clear hi0 hz0 hz1 hz2
    go_enter Tryd.func113, Tryd.ntmps113
    go_wp2_with (at_builtin; refine Lib.wpList_append_run _ rfl (.tmp 20) (.tmp 21) 22 3 rfl _ _ rfl rfl _ _ R.out ?_)
    go_ret
    exact ⟨_, _, rfl, grow_own w n hn, (drewBelow w).trans ((allocBelow w.drew _).mono (by simp))⟩
/-- A list of names in a list of lists. -/
def SlEl (lo : Nat) (w : World) (cs : List Value) (xs : List ByteArray) : Prop := ∃ u, cs = [u] ∧ IsSl 1 StrEl lo w u xs
theorem sl_src {lo : Nat} {w : World} {ad : Addr} {n c : Nat} {xs : List ByteArray} (h : IsSl 1 StrEl lo w (.slice (some ad) n c) xs) (w' : World) (hb : Below w.heap.size w w') (j : Nat) (u : Value) (hj : (xs.map Value.string)[j]? = some u) : w'.cell? (ad.add j) = some u := by
  have hjl : j < xs.length := by have := (List.getElem?_eq_some_iff.1 hj).1; simpa using this
  obtain ⟨b, off, cs, ha, _, hbk, hl, hc, hel⟩ := h.at j hjl
  cases ha
  have h0 := hc 0 (by omega)
  rw [hel.1] at h0
  have : (xs.map Value.string)[j]? = some (.string xs[j]) := by simp [hjl]
  rw [this] at hj
  cases hj
  simp only [Nat.add_zero, Nat.mul_one] at h0
  have e := (hb.cell (p := ⟨b, off + j, none⟩) hbk).trans h0
  by_cases j0 : j = 0
  · subst j0; simpa [Addr.add] using e
  · simpa [Addr.add, j0] using e
theorem row_sl {lo : Nat} {w : World} {v : Value} {n : Nat} {xs : List ByteArray} (h : w.ownsRow lo 9 1 v n (xs.map Value.string)) (hs : ∀ s ∈ xs, s.size ≤ maxLen) : IsSl 1 StrEl lo w v xs := by
  obtain ⟨hl, h2⟩ := h
  have hn : n = xs.length := by simpa using hl.symm
  subst hn
  rcases h2 with ⟨rfl, h0⟩ | ⟨g, cap, cur, rfl, hb, hg, hn, hm, hc, ht⟩
  · exact ⟨none, 0, by rw [h0], by omega, by simp [maxLen], fun _ => rfl, .inl (List.eq_nil_of_length_eq_zero h0)⟩
  · refine ⟨_, _, rfl, hn, hm, by simp, .inr ⟨g, 0, rfl, hb, (Array.getElem?_eq_some_iff.1 hg).1, fun i hi => ⟨[.string xs[i]], rfl, fun j hj => ?_, rfl, hs _ (List.getElem_mem hi)⟩⟩⟩
    obtain rfl : j = 0 := by omega
    have hcell : w.cell? ⟨g, 0 + i * 1 + 0, none⟩ = cur[i]? := by
      simp only [World.cell?, hg]; simp
    rw [hcell, ← Array.getElem?_toList, show cur.toList[i]? = (cur.toList.take (xs.length * 1))[i]? by rw [List.getElem?_take_of_lt (by omega)], ht]
    simp [hi]
def lens (xss : List (List ByteArray)) (k : Nat) : Nat := (xss.take k).flatten.length
theorem take_flat {xss : List (List ByteArray)} {k : Nat} (h : k < xss.length) : (xss.take (k + 1)).flatten = (xss.take k).flatten ++ xss[k] := by
  rw [List.take_succ_eq_append_getElem h, List.flatten_append]; simp
theorem lens_succ {xss : List (List ByteArray)} {k : Nat} (h : k < xss.length) : lens xss (k + 1) = lens xss k + xss[k].length := by
  unfold lens; rw [take_flat h, List.length_append]
theorem lens_le (xss : List (List ByteArray)) (k : Nat) : lens xss k ≤ xss.flatten.length := by
  unfold lens
  conv => rhs; rw [← List.take_append_drop k xss, List.flatten_append, List.length_append]
  omega
theorem lens_all {xss : List (List ByteArray)} {k : Nat} (h : k = xss.length) : lens xss k = xss.flatten.length := by
  unfold lens; rw [List.take_of_length_le (by omega)]
theorem rows_shape3 {w : World} {base : Nat} {e : TypeId} {size : Nat} {v : Value} {n : Nat} {xs : List Value} (h : w.ownsRow base e size v n xs) : ∃ a c, v = .slice a n c := by
  rcases h.2 with ⟨rfl, rfl⟩ | ⟨g, cap, _, rfl, _⟩
  · exact ⟨_, _, rfl⟩
  · exact ⟨_, _, rfl⟩
theorem row_above {w : World} {base : Nat} {e : TypeId} {size : Nat} {v : Value} {n : Nat} {xs : List Value} (h : w.ownsRow base e size v n xs) (k : Nat) (hk : v.ownBlock = some k) : base ≤ k := by
  rcases h.2 with ⟨rfl, _⟩ | ⟨g, cap, _, rfl, hb, _⟩
  · cases hk
  · have : g = k := by simpa [Value.ownBlock] using hk
    omega
set_option maxRecDepth 100000 in
set_option maxHeartbeats 3200000 in
theorem Concat_full {lo : Nat} (b off k cap : Nat) (w : World) (xss : List (List ByteArray)) (hx : xss.length = k) (hk : k ≤ 1000) (ht : xss.flatten.length ≤ 1000) (hb : b < w.heap.size) (hz : ∀ s ∈ xss.flatten, s.size ≤ maxLen)
    (hc : ∀ i (hi : i < xss.length), ∃ u, w.cell? ⟨b, off + i, none⟩ = some u ∧ IsSl 1 StrEl lo w u xss[i]) :
    Calls Tryd.prog 89 #[.slice (some ⟨b, off, none⟩) k cap] w fun e w' => ∃ v', e = .returned v' ∧ IsSl 1 StrEl w.heap.size w' v' xss.flatten ∧ Below w.heap.size w w' := by
  have HC := Lib.hid hc
  have HX := Lib.hid hx
  have HT := Lib.hid ht
  have HZ := Lib.hid hz
  obtain ⟨i0, hi0, hz0, hz1, hz2⟩ := info_str4
  clear hc hx ht hz
  go_enter Tryd.func89, Tryd.ntmps89
  go_wp2_with fail
  go_loop [3, 11] (fun v u => ∃ j : Nat, j ≤ k ∧ u = .int .i64 j ∧ v = .int .i64 (lens xss j)) (fun _ u => k - (intOf u).toNat)
  case atStart => exact ⟨0, Nat.zero_le _, rfl, rfl⟩
  case round =>
    obtain ⟨j, hj, rfl, rfl⟩ := hrel
    by_cases h1 : j < k
    · have hjx : j < xss.length := by rw [HX.out]; exact h1
      obtain ⟨u, c1, hu⟩ := HC.out j hjx
      obtain ⟨au, cu, rfl⟩ := hu.shape
      have LS := Lib.hid (lens_succ hjx)
      have hle : lens xss j + xss[j].length ≤ 1000 := by have := lens_le xss (j + 1); rw [LS.out] at this; have := HT.out; omega
      clear hu
      go_wp2_with fail
      go_round
      case rel => exact ⟨j + 1, by omega, by go_num, by rw [LS.out]; go_num⟩
      case measure => simp [intOf]; omega
    · obtain rfl : j = k := by omega
      have LA := Lib.hid (lens_all HX.out.symm)
      go_wp2_with (go_at_call 113; (with_reducible refine (Grow_nil (lens xss j) (by rw [LA.out]; exact HT.out) _).mono ?_); rintro e w1 ⟨a1, c1, rfl, hO, hb1⟩; have HO := Lib.hid hO; have HB1 := Lib.hid hb1; clear hO)
      go_loopw [6, 27] (fun v u wr => ∃ (i : Nat) (a : Option Addr) (c : Nat), i ≤ j ∧ u = .int .i64 i ∧ v = .slice a (lens xss i) c ∧ wr.ownsRow w.heap.size 9 1 (.slice a (lens xss i) c) (lens xss i) ((xss.take i).flatten.map Value.string) ∧ Below w.heap.size w wr) (fun _ u _ => j - (intOf u).toNat)
      case atStart => exact ⟨0, a1, c1, Nat.zero_le _, rfl, rfl, HO.out, HB1.out⟩
      case round =>
        obtain ⟨i, a, c, hi, rfl, rfl, hown, hB⟩ := hrel
        have HOW := Lib.hid hown
        have HB := Lib.hid hB
        clear hown hB
        by_cases h2 : i < j
        · have hix : i < xss.length := by rw [HX.out]; exact h2
          obtain ⟨u, g1, hu⟩ := HC.out i hix
          have g2 := (HB.out.cell (p := ⟨b, off + i, none⟩) hb).trans g1
          have LS := Lib.hid (lens_succ hix)
          have hle : lens xss i + xss[i].length ≤ 1000 := by have := lens_le xss (i + 1); rw [LS.out] at this; have := HT.out; omega
          have TF := Lib.hid (take_flat hix)
          obtain ⟨au, cu, rfl⟩ := hu.shape
          have HU := Lib.hid hu
          have hcu : au = none → xss[i].length = 0 ∧ cu = 0 := by
            obtain ⟨_, _, e, q1, _, q2, _⟩ := hu
            simp only [Value.slice.injEq] at e
            obtain ⟨rfl, _, rfl⟩ := e
            exact fun h => by have := q2 h; omega
          have HCU := Lib.hid hcu
          clear hu hcu g1
          cases au with
          | none =>
            obtain ⟨l0, rfl⟩ := HCU.out rfl
            have L0 := Lib.hid l0
            rw [l0] at g2
            clear l0
            go_wp2_with (at_builtin; refine wpList_append_own_none rfl (.tmp 31) (.tmp 32) 22 rfl w.heap.size 9 i0 1 Tryd.underlying22 hi0 _ _ _ rfl HOW.out rfl ?_)
            go_roundw
            case rel =>
              have e1 : lens xss (i + 1) = lens xss i := by rw [LS.out, L0.out]; rfl
              have e2 : (xss.take (i + 1)).flatten = (xss.take i).flatten := by rw [TF.out, List.eq_nil_of_length_eq_zero L0.out, List.append_nil]
              exact ⟨i + 1, a, c, by omega, by go_num, by rw [e1], by rw [e1, e2]; exact HOW.out, HB.out⟩
            case measure => simp [intOf]; omega
          | some ad =>
            have hmx : lens xss i + xss[i].length ≤ maxLen := by unfold maxLen; omega
            go_wp2_with (at_builtin; refine wpList_append_own _ rfl (.tmp 31) (.tmp 32) 22 rfl w.heap.size 9 i0 (.string ⟨#[]⟩) 1 16 Tryd.underlying22 hi0 hz0 hz1 hz2 rfl (by decide) _ _ _ rfl HOW.out ad xss[i].length cu (xss[i].map Value.string) rfl (by simp) (sl_src HU.out wr HB.out) (by simp [Value.oneCell']) hmx (by omega) HB.out.size ?_; intro v' w3 hown1 hgrow1 _; obtain ⟨a3, c3, rfl⟩ := rows_shape3 hown1; have HO3 := Lib.hid hown1; have HB3 := Lib.hid (HB.out.grown hgrow1 HB.out.size (row_above HOW.out)); clear hown1 hgrow1)
            go_roundw
            case rel => exact ⟨i + 1, a3, c3, by omega, by go_num, by rw [LS.out], by rw [LS.out, TF.out, List.map_append]; exact HO3.out, HB3.out⟩
            case measure => simp [intOf]; omega
        · obtain rfl : i = j := by omega
          go_wp2_with fail
          go_ret
          refine ⟨_, rfl, row_sl (n := lens xss i) (xs := xss.flatten) ?_ HZ.out, HB.out⟩
          have e2 : (xss.take i).flatten = xss.flatten := by rw [List.take_of_length_le (by rw [HX.out]; exact Nat.le_refl _)]
          rw [← e2]
          exact HOW.out
end Go.Proofs.YtmpbfdfjcfanoaaDoor

/-
  WHICH NAMES ARE VALID: isReserved and ValidName of the program, for all texts.
-/
namespace Go.Proofs.YtmpbfdfjcfanoaaDoor
open Go.RowKit Go.Deep

set_option maxHeartbeats 4000000 in
set_option maxRecDepth 100000 in
theorem isReserved_any (s : ByteArray) (w : World) :
    Calls Tryd.prog 88 #[.string s] w fun e w' => e = .returned (.bool (resB s.toList)) ∧ w = w' := by
  have e : Hid (resB s.toList = resW.any (fun w => s.toList == w)) := (rfl : resB _ = _)
  go_enter Tryd.func88, Tryd.ntmps88
  go_wp2
  all_goals first
    | (exfalso; simp_all only [Bool.false_eq_true]; done)
    | (go_ret; refine ⟨ret_bool ?_, rfl⟩; rw [e.out]; unfold resW; simp only [List.any_cons, List.any_nil, *, Bool.or_true, Bool.true_or, Bool.or_false]; done)

theorem len_list (s : ByteArray) : s.toList.length = s.size := by rw [ByteArray.toList_eq]; simp
theorem get_list (s : ByteArray) (i : Nat) (h : i < s.size) : s.toList.getD i 0 = s[i] := by
  rw [ByteArray.toList_eq]; simp [List.getD, h]; rfl

theorem iterBelow (w : World) (s : ByteArray) (n : Nat) : Below w.heap.size w (w.iter s n) := (Below.refl _ _).alloc (Nat.le_refl _) _
set_option maxHeartbeats 1600000 in
theorem ValidName_any (s : ByteArray) (w : World) (hs : s.size ≤ maxLen) :
    Calls Tryd.prog 41 #[.string s] w fun e w' => e = .returned (.bool (nameB s.toList)) ∧ Below w.heap.size w w' := by
  unfold maxLen at hs
  have e : Hid (nameB s.toList = (decide (1 ≤ s.toList.length) && decide (s.toList.length ≤ 12) && !resB s.toList && upB s.toList s.toList.length)) := (rfl : nameB _ = _)
  have el := Lib.hid (len_list s)
  by_cases h1 : s.size < 1
  · go_enter Tryd.func41, Tryd.ntmps41
    go_wp2_with (go_at_call 88; refine (isReserved_any _ _).mono ?_; rintro e w' ⟨rfl, rfl⟩)
    go_ret
    exact ⟨ret_bool (by rw [e.out, el.out, decide_eq_false (by omega)]; rfl), Below.refl _ _⟩
  · by_cases h2 : 12 < s.size
    · go_enter Tryd.func41, Tryd.ntmps41
      go_wp2_with (go_at_call 88; refine (isReserved_any _ _).mono ?_; rintro e w' ⟨rfl, rfl⟩)
      go_ret
      exact ⟨ret_bool (by rw [e.out, el.out, decide_eq_false (by omega : ¬ s.size ≤ 12)]; simp), Below.refl _ _⟩
    · cases h3 : resB s.toList with
      | true =>
        go_enter Tryd.func41, Tryd.ntmps41
        go_wp2_with (go_at_call 88; refine (isReserved_any _ _).mono ?_; rintro e w' ⟨rfl, rfl⟩)
        go_ret
        exact ⟨ret_bool (by rw [e.out, h3]; simp), Below.refl _ _⟩
      | false =>
        go_enter Tryd.func41, Tryd.ntmps41
        go_wp2_with (go_at_call 88; refine (isReserved_any _ _).mono ?_; rintro e w' ⟨rfl, rfl⟩)
        go_loopw [] (fun w' => ∃ pos : Nat, w' = w.iter s pos ∧ pos ≤ s.size ∧ upB s.toList pos = true) (fun w' => s.size - w'.iterPos w.heap.size)
        case atStart => exact ⟨0, rfl, Nat.zero_le _, upB_zero _⟩
        case round =>
          obtain ⟨pos, rfl, hle, hup⟩ := hrel
          have HU := Lib.hid hup
          clear hup
          by_cases hp : pos < s.size
          · have hg := get_list s pos hp
            obtain ⟨r, p', hnx, hr⟩ : ∃ (r : Int) (p' : Nat), (∀ ty, (Instr.next (.pointer (some ⟨w.heap.size, 0, none⟩)) true ty).run Tryd.prog (w.iter s pos) = .ok (.tuple #[.bool true, .int .i64 pos, .int .i32 r]) (w.iter s p')) ∧ ((r = (s[pos].toNat : Int) ∧ p' = pos + 1) ∨ (128 ≤ r ∧ 128 ≤ s[pos].toNat)) := by
              by_cases ha : s[pos].toNat < 128
              · exact ⟨_, _, fun ty => run_next_ascii w s pos ty hp ha, .inl ⟨rfl, rfl⟩⟩
              · exact ⟨_, _, fun ty => run_next_any w s pos ty hp, .inr ⟨by have := (decode_high s pos hp (by omega)).1; omega, by omega⟩⟩
            have hcl : (97 ≤ r ∧ r ≤ 122) ∨ (48 ≤ r ∧ r ≤ 57) ∨ r = 95 ∨ r < 48 ∨ (57 < r ∧ r < 97 ∧ r ≠ 95) ∨ 122 < r := by omega
            have hat : atB s.toList pos = (leB s[pos] || (decide (pos ≠ 0) && diB s[pos])) := by unfold atB; rw [hg]
            have hno : (128 ≤ s[pos].toNat ∨ (r = (s[pos].toNat : Int) ∧ (r < 48 ∨ (57 < r ∧ r < 97 ∧ r ≠ 95) ∨ 122 < r))) → atB s.toList pos = false := fun h => by
              rw [hat]
              have : leB s[pos] = false := by unfold leB; simp; omega
              have h2 : diB s[pos] = false := by unfold diB; simp; omega
              rw [this, h2]; simp
            have HAT := Lib.hid hat
            have HNO := Lib.hid hno
            have HR := Lib.hid hr
            clear hat hno hr hg
            rcases hcl with ⟨c1, c2⟩ | ⟨c1, c2⟩ | c1 | c1 | ⟨c1, c2, c3⟩ | c1
            · have hr : r = (s[pos].toNat : Int) ∧ p' = pos + 1 := HR.out.elim id fun h => absurd h.1 (by omega)
              obtain rfl : pos + 1 = p' := hr.2.symm
              have HA := Lib.hid (show atB s.toList pos = true by rw [HAT.out]; have : leB s[pos] = true := (by unfold leB; simp; omega); rw [this]; rfl)
              clear hr
              go_wp2
              all_goals
                go_roundw
                case rel => exact ⟨pos + 1, rfl, by omega, upB_succ HU.out HA.out⟩
                case measure => simp; omega
            · have hr : r = (s[pos].toNat : Int) ∧ p' = pos + 1 := HR.out.elim id fun h => absurd h.1 (by omega)
              obtain rfl : pos + 1 = p' := hr.2.symm
              by_cases h0 : pos = 0
              · have HA := Lib.hid (show atB s.toList pos = false by rw [HAT.out]; have : leB s[pos] = false := (by unfold leB; simp; omega); rw [this]; simp [h0])
                have h0' : (((pos : Nat) : Int) == 0) = true := by simp [h0]
                clear hr h0
                go_wp2
                all_goals
                  go_ret
                  exact ⟨ret_bool (by rw [e.out, upB_no (el.out.symm ▸ hp) HA.out]; simp), iterBelow _ _ _⟩
              · have HA := Lib.hid (show atB s.toList pos = true by rw [HAT.out]; have : diB s[pos] = true := (by unfold diB; simp; omega); rw [this]; simp [h0])
                have h0' : (((pos : Nat) : Int) == 0) = false := by simp [h0]
                clear hr h0
                go_wp2
                all_goals
                  go_roundw
                  case rel => exact ⟨pos + 1, rfl, by omega, upB_succ HU.out HA.out⟩
                  case measure => simp; omega
            · have hr : r = (s[pos].toNat : Int) ∧ p' = pos + 1 := HR.out.elim id fun h => absurd h.1 (by omega)
              obtain rfl : pos + 1 = p' := hr.2.symm
              have c2 : 57 < r := by omega
              have c3 : r < 97 := by omega
              have c4 : (r == 95) = true := by simp [c1]
              by_cases h0 : pos = 0
              · have HA := Lib.hid (show atB s.toList pos = false by rw [HAT.out]; have : leB s[pos] = false := (by unfold leB; simp; omega); rw [this]; simp [h0])
                have h0' : (((pos : Nat) : Int) == 0) = true := by simp [h0]
                clear hr h0 c1
                go_wp2
                all_goals
                  go_ret
                  exact ⟨ret_bool (by rw [e.out, upB_no (el.out.symm ▸ hp) HA.out]; simp), iterBelow _ _ _⟩
              · have HA := Lib.hid (show atB s.toList pos = true by rw [HAT.out]; have : diB s[pos] = true := (by unfold diB; simp; omega); rw [this]; simp [h0])
                have h0' : (((pos : Nat) : Int) == 0) = false := by simp [h0]
                clear hr h0 c1
                go_wp2
                all_goals
                  go_roundw
                  case rel => exact ⟨pos + 1, rfl, by omega, upB_succ HU.out HA.out⟩
                  case measure => simp; omega
            · have HA := Lib.hid (HNO.out (HR.out.elim (fun h => .inr ⟨h.1, .inl c1⟩) fun h => absurd h.1 (by omega)))
              have c4 : (r == 95) = false := by simp; omega
              go_wp2
              all_goals
                go_ret
                exact ⟨ret_bool (by rw [e.out, upB_no (el.out.symm ▸ hp) HA.out]; simp), iterBelow _ _ _⟩
            · have HA := Lib.hid (HNO.out (HR.out.elim (fun h => .inr ⟨h.1, .inr (.inl ⟨c1, c2, c3⟩)⟩) fun h => absurd h.1 (by omega)))
              have c4 : (r == 95) = false := by simp; omega
              clear c3
              have c0 : 48 ≤ r := by omega
              have d1 : decide (r ≤ 57) = false := by simp; omega
              go_wp2
              all_goals
                go_ret
                exact ⟨ret_bool (by rw [e.out, upB_no (el.out.symm ▸ hp) HA.out]; simp), iterBelow _ _ _⟩
            · have HA := Lib.hid (HNO.out (HR.out.elim (fun h => .inr ⟨h.1, .inr (.inr c1)⟩) fun h => .inl h.2))
              have c4 : (r == 95) = false := by simp; omega
              have c5 : 97 ≤ r := by omega
              have c6 : 48 ≤ r := by omega
              have c7 : 57 < r := by omega
              have d1 : decide (r ≤ 57) = false := by simp; omega
              have d2 : decide (r ≤ 122) = false := by simp; omega
              go_wp2
              all_goals
                go_ret
                exact ⟨ret_bool (by rw [e.out, upB_no (el.out.symm ▸ hp) HA.out]; simp), iterBelow _ _ _⟩
          · have hnx : ∀ ty, (Instr.next (.pointer (some ⟨w.heap.size, 0, none⟩)) true ty).run Tryd.prog (w.iter s pos) = _ := fun ty => run_next_end w s pos ty hp
            go_wp2
            go_ret
            exact ⟨ret_bool (by rw [e.out, el.out, h3, decide_eq_true (by omega), decide_eq_true (by omega), show s.size = pos by omega, HU.out]; rfl), (Below.refl _ _).alloc (Nat.le_refl _) _⟩
end Go.Proofs.YtmpbfdfjcfanoaaDoor

/-
  slices.Index, slices.Contains OF NAMES; areNames OF THE PROGRAM.
-/
namespace Go.Proofs.YtmpbfdfjcfanoaaDoor
open Go.RowKit Go.Deep
theorem hasN_zero (xs : List ByteArray) (s : ByteArray) : hasN (xs.take 0) s = false := rfl
theorem hasN_succ {xs : List ByteArray} {s : ByteArray} {k : Nat} (h : k < xs.length) (hk : hasN (xs.take k) s = false) (e : (s.toList == xs[k].toList) = false) : hasN (xs.take (k + 1)) s = false := by
  have e' : (xs[k].toList == s.toList) = false := by rw [Bool.beq_comm]; exact e
  unfold hasN at *; rw [List.take_succ_eq_append_getElem h, List.any_append, hk]; simpa using e'
theorem hasN_yes {xs : List ByteArray} {s : ByteArray} {k : Nat} (h : k < xs.length) (e : (s.toList == xs[k].toList) = true) : hasN xs s = true := by
  unfold hasN; rw [List.any_eq_true]; exact ⟨xs[k], List.getElem_mem h, by rw [Bool.beq_comm]; exact e⟩
theorem hasN_end {xs : List ByteArray} {s : ByteArray} {k : Nat} (h : k = xs.length) (hk : hasN (xs.take k) s = false) : hasN xs s = false := by
  rwa [List.take_of_length_le (by omega)] at hk
theorem str_cell {lo : Nat} {w : World} {b off n cap : Nat} {xs : List ByteArray} (h : IsSl 1 StrEl lo w (.slice (some ⟨b, off, none⟩) n cap) xs) (k : Nat) (hk : k < xs.length) : w.cell? ⟨b, off + k, none⟩ = some (.string xs[k]) ∧ xs[k].size ≤ maxLen := by
  obtain ⟨b', off', cs, ha, _, _, _, hc, hel⟩ := h.at k hk
  cases ha
  have h0 := hc 0 (by omega)
  rw [hel.1] at h0
  simp only [Nat.add_zero, Nat.mul_one] at h0
  exact ⟨h0.trans rfl, hel.2⟩
/-- Nothing in it, or a row. -/
theorem sl_cases {α : Type} {size : Nat} {P : Nat → World → List Value → α → Prop} {lo : Nat} {w : World} {v : Value} {xs : List α} (h : IsSl size P lo w v xs) : (xs = [] ∧ ∃ a c, v = .slice a 0 c) ∨ ∃ b off c, v = .slice (some ⟨b, off, none⟩) xs.length c ∧ b < w.heap.size ∧ lo ≤ b := by
  obtain ⟨a, cap, rfl, _, _, _, hc⟩ := h
  rcases hc with rfl | ⟨b, off, rfl, hlo, hb, _⟩
  · exact .inl ⟨rfl, _, _, rfl⟩
  · exact .inr ⟨b, off, cap, rfl, hb, hlo⟩
set_option maxHeartbeats 1600000 in
theorem Index_any {lo : Nat} {w : World} {v : Value} {xs : List ByteArray} (s : ByteArray) (h : IsSl 1 StrEl lo w v xs) :
    Calls Tryd.prog 114 #[v, .string s] w fun e w' => ∃ i : Int, e = .returned (.int .i64 i) ∧ (decide (0 ≤ i)) = hasN xs s ∧ w' = w := by
  have hn := h.bound
  have H := Lib.hid h
  rcases sl_cases h with ⟨rfl, a, c, rfl⟩ | ⟨b, off, c, rfl, _⟩
  · clear h
    go_enter Tryd.func114, Tryd.ntmps114
    go_wp2_with fail
    refine wp_loop_rounds 1 ?_
    rw [rounds_succ]
    go_wp2_with fail
    go_ret
    exact ⟨-1, rfl, rfl, rfl⟩
  · generalize hN : xs.length = n at hn
    have HN := Lib.hid hN
    rw [hN] at H
    clear h hN
    go_enter Tryd.func114, Tryd.ntmps114
    go_wp2_with fail
    go_loop [8] (fun u => ∃ k : Nat, k ≤ n ∧ u = .int .i64 k ∧ hasN (xs.take k) s = false) (fun u => n - (intOf u).toNat)
    case atStart => exact ⟨0, Nat.zero_le _, rfl, rfl⟩
    case round =>
      obtain ⟨k, hk, rfl, hs⟩ := hrel
      have HS := Lib.hid hs
      clear hs
      by_cases h1 : k < n
      · have hkx : k < xs.length := by rw [HN.out]; exact h1
        obtain ⟨g1, _⟩ := str_cell H.out k hkx
        by_cases he : (s.toList == xs[k].toList) = true
        · have HE := Lib.hid (hasN_yes hkx he)
          go_wp2_with fail
          go_ret
          exact ⟨k, rfl, by rw [HE.out]; simp, rfl⟩
        · have he' : (s.toList == xs[k].toList) = false := by simpa using he
          have HE := Lib.hid (hasN_succ hkx HS.out he')
          clear he
          go_wp2_with fail
          go_round
          case rel => exact ⟨k + 1, by omega, by go_num, HE.out⟩
          case measure => simp [intOf]; omega
      · have HE := Lib.hid (hasN_end (by rw [HN.out]; omega) HS.out)
        go_wp2_with fail
        go_ret
        exact ⟨-1, rfl, by rw [HE.out]; rfl, rfl⟩
set_option maxHeartbeats 1600000 in
theorem Contains_any {lo : Nat} {w : World} {v : Value} {xs : List ByteArray} (s : ByteArray) (h : IsSl 1 StrEl lo w v xs) :
    Calls Tryd.prog 90 #[v, .string s] w fun e w' => e = .returned (.bool (hasN xs s)) ∧ w' = w := by
  have H := Lib.hid h
  clear h
  go_enter Tryd.func90, Tryd.ntmps90
  go_wp2_with (go_at_call 114; (with_reducible refine (Index_any s H.out).mono ?_); rintro e w1 ⟨i, rfl, hi, rfl⟩; have HI := Lib.hid hi; clear hi)
  go_ret
  exact ⟨ret_bool (by rw [← HI.out]), rfl⟩
theorem IsSl.take' {α : Type} {size : Nat} {P : Nat → World → List Value → α → Prop} {lo : Nat} {w : World} {a : Option Addr} {n cap : Nat} {xs : List α} (h : IsSl size P lo w (.slice a n cap) xs) (k : Nat) (hk : k ≤ xs.length) : IsSl size P lo w (.slice a k cap) (xs.take k) := by
  obtain ⟨a', cap', hv, h1, hm, hn, hc⟩ := h
  simp only [Value.slice.injEq] at hv
  obtain ⟨rfl, rfl, rfl⟩ := hv
  have e : (xs.take k).length = k := by simp; omega
  refine ⟨a, cap, by rw [e], by omega, hm, hn, ?_⟩
  rcases hc with rfl | ⟨b, off, ha, hlo, hb, hc⟩
  · exact .inl (by simp)
  · refine .inr ⟨b, off, ha, hlo, hb, fun i hi => ?_⟩
    obtain ⟨cs, g1, g2, g3⟩ := hc i (by omega)
    exact ⟨cs, g1, g2, by simpa using g3⟩
theorem sl_cap {α : Type} {size : Nat} {P : Nat → World → List Value → α → Prop} {lo : Nat} {w : World} {a : Option Addr} {n cap : Nat} {xs : List α} (h : IsSl size P lo w (.slice a n cap) xs) : n ≤ cap ∧ n = xs.length := by
  obtain ⟨a', cap', hv, h1, hm, hn, hc⟩ := h
  simp only [Value.slice.injEq] at hv
  omega
set_option maxRecDepth 100000 in
set_option maxHeartbeats 3200000 in
theorem areNames_any {lo g k : Nat} {w : World} (xss : List (List ByteArray)) (hx : xss.length = k) (hk : k ≤ 1000) (ht : xss.flatten.length ≤ 1000) (hb : g < w.heap.size) (hz : ∀ s ∈ xss.flatten, s.size ≤ maxLen)
    (hc : ∀ i (hi : i < xss.length), ∃ u, w.cell? ⟨g, 0 + i, none⟩ = some u ∧ IsSl 1 StrEl lo w u xss[i]) :
    Calls Tryd.prog 46 #[.slice (some ⟨g, 0, none⟩) k k] w fun e w' => e = .returned (.bool (nmOk xss.flatten xss.flatten.length)) ∧ Below w.heap.size w w' := by
  have HC := Lib.hid hc
  have HZ := Lib.hid hz
  have HT := Lib.hid ht
  clear hc hz ht
  go_enter Tryd.func46, Tryd.ntmps46
  go_upto_region 2 with (go_at_call 89; (with_reducible refine (Concat_full g 0 k k _ xss hx hk HT.out hb HZ.out HC.out).mono ?_); rintro e w1 ⟨v', rfl, hv, hb1⟩; have HV := Lib.hid hv; have HB1 := Lib.hid hb1; clear hv hb1)
  have hnb := HV.out.bound
  rcases sl_cases HV.out with ⟨hnil, a, c, rfl⟩ | ⟨b, off, c, rfl, hbw, _⟩
  · have E := Lib.hid (show nmOk xss.flatten xss.flatten.length = true by rw [hnil]; rfl)
    clear hnil
    go_wp2_with fail
    refine wp_loop_rounds 1 ?_
    rw [rounds_succ]
    go_wp2_with fail
    go_ret
    exact ⟨ret_bool E.out.symm, HB1.out⟩
  · generalize hN : xss.flatten = all at HV hnb HZ ⊢
    generalize hn : all.length = n at hnb
    have HALL := Lib.hid hN
    have HN := Lib.hid hn
    rw [hn] at HV
    have hcap : n ≤ c := (sl_cap HV.out).1
    clear hN hn HC
    go_wp2_with fail
    go_loopw [10] (fun u wr => ∃ i : Nat, i ≤ n ∧ u = .int .i64 i ∧ nmOk all i = true ∧ Below w1.heap.size w1 wr) (fun u _ => n - (intOf u).toNat)
    case atStart => exact ⟨0, Nat.zero_le _, rfl, rfl, Below.refl _ _⟩
    case round =>
      obtain ⟨i, hi, rfl, hs, hB⟩ := hrel
      have HS := Lib.hid hs
      have HB := Lib.hid hB
      clear hs hB
      have hBW := Lib.hid (thenBelow HB1.out HB.out)
      by_cases h1 : i < n
      · have hix : i < all.length := by rw [HN.out]; exact h1
        obtain ⟨g1, hsz⟩ := str_cell HV.out i hix
        have g2 := (HB.out.cell (p := ⟨b, off + i, none⟩) hbw).trans g1
        have HSZ := Lib.hid hsz
        have HNO := Lib.hid (fun h => nmOk_no (xs := all) (n := n) hix h1 h)
        have HYES := Lib.hid (fun h h' => nmOk_succ (xs := all) hix HS.out h h')
        generalize hX : all[i] = x at g2 HSZ HNO HYES
        clear g1 hsz hX
        cases n0 : nameB x.toList with
        | false =>
          have N0 := Lib.hid n0
          clear n0
          go_wp2_with (go_at_call 41; (with_reducible refine (ValidName_any x _ HSZ.out).mono ?_); rw [N0.out]; rintro e w2 ⟨rfl, hb2⟩; have HB2 := Lib.hid hb2; clear hb2)
          go_ret
          exact ⟨ret_bool (by rw [HALL.out, HN.out]; exact (HNO.out (.inl N0.out)).symm), thenBelow hBW.out HB2.out⟩
        | true =>
          have N0 := Lib.hid n0
          clear n0
          cases d0 : hasN (all.take i) x with
          | true =>
            have D0 := Lib.hid d0
            clear d0
            go_wp2_with (first | (go_at_call 41; (with_reducible refine (ValidName_any x _ HSZ.out).mono ?_); rw [N0.out]; rintro e w2 ⟨rfl, hb2⟩; have HB2 := Lib.hid hb2; clear hb2) | (go_at_call 90; (with_reducible refine (Contains_any x ((HV.out.below StrEl.stays (thenBelow HB.out HB2.out)).take' i (by omega))).mono ?_); rw [D0.out]; rintro e w3 ⟨rfl, rfl⟩))
            go_ret
            exact ⟨ret_bool (by rw [HALL.out, HN.out]; exact (HNO.out (.inr D0.out)).symm), thenBelow hBW.out HB2.out⟩
          | false =>
            have D0 := Lib.hid d0
            clear d0
            go_wp2_with (first | (go_at_call 41; (with_reducible refine (ValidName_any x _ HSZ.out).mono ?_); rw [N0.out]; rintro e w2 ⟨rfl, hb2⟩; have HB2 := Lib.hid hb2; clear hb2) | (go_at_call 90; (with_reducible refine (Contains_any x ((HV.out.below StrEl.stays (thenBelow HB.out HB2.out)).take' i (by omega))).mono ?_); rw [D0.out]; rintro e w3 ⟨rfl, rfl⟩))
            go_roundw
            case rel => exact ⟨i + 1, by omega, by go_num, HYES.out N0.out D0.out, thenBelow HB.out HB2.out⟩
            case measure => simp [intOf]; omega
      · obtain rfl : i = n := by omega
        go_wp2_with fail
        go_ret
        exact ⟨ret_bool (by rw [HALL.out, HN.out]; exact HS.out.symm), hBW.out⟩
end Go.Proofs.YtmpbfdfjcfanoaaDoor

/-
  slices.Index, slices.Contains OF GUARDS.
-/
namespace Go.Proofs.YtmpbfdfjcfanoaaDoor
open Go.RowKit Go.Deep
theorem mem_succ {xs : List Th} {g : Th} {k : Nat} (h : k < xs.length) (hk : g ∉ xs.take k) (e : g ≠ xs[k]) : g ∉ xs.take (k + 1) := by
  rw [List.take_succ_eq_append_getElem h, List.mem_append]; simp only [List.mem_singleton, not_or]; exact ⟨hk, e⟩
theorem mem_yes {xs : List Th} {g : Th} {k : Nat} (h : k < xs.length) (e : g = xs[k]) : decide (g ∈ xs) = true := by
  rw [decide_eq_true_iff, e]; exact List.getElem_mem h
theorem mem_end {xs : List Th} {g : Th} {k : Nat} (h : k = xs.length) (hk : g ∉ xs.take k) : decide (g ∈ xs) = false := by
  rw [List.take_of_length_le (by omega)] at hk; exact decide_eq_false hk
theorem th_cells {lo : Nat} {w : World} {b off n cap : Nat} {xs : List Th} (h : IsSl 6 ThEl lo w (.slice (some ⟨b, off, none⟩) n cap) xs) (k : Nat) (hk : k < xs.length) : w.cell? ⟨b, off + k * 6, none⟩ = some (.int .i64 xs[k].msg) ∧ w.cell? ⟨b, off + k * 6 + 1, none⟩ = some (.int .i64 xs[k].coef) ∧ w.cell? ⟨b, off + k * 6 + 2, none⟩ = some (.int .i64 xs[k].bd.c) ∧ w.cell? ⟨b, off + k * 6 + 3, none⟩ = some (.int .i64 xs[k].bd.n) ∧ w.cell? ⟨b, off + k * 6 + 4, none⟩ = some (.int .i64 xs[k].bd.t) ∧ w.cell? ⟨b, off + k * 6 + 5, none⟩ = some (.int .i64 xs[k].bd.f) := by
  obtain ⟨b', off', cs, ha, _, _, _, hc, hel⟩ := h.at k hk
  cases ha
  have h0 := hc 0 (by omega)
  have h1 := hc 1 (by omega)
  have h2 := hc 2 (by omega)
  have h3 := hc 3 (by omega)
  have h4 := hc 4 (by omega)
  have h5 := hc 5 (by omega)
  rw [hel.1] at h0 h1 h2 h3 h4 h5
  exact ⟨h0.trans rfl, h1.trans rfl, h2.trans rfl, h3.trans rfl, h4.trans rfl, h5.trans rfl⟩
set_option maxHeartbeats 3200000 in
theorem IndexTh_any {lo : Nat} {w : World} {v : Value} {xs : List Th} (x1 x2 x3 x4 x5 x6 : Int) (h : IsSl 6 ThEl lo w v xs) :
    Calls Tryd.prog 121 #[v, .agg #[.int .i64 x1, .int .i64 x2, .int .i64 x3, .int .i64 x4, .int .i64 x5, .int .i64 x6]] w fun e w' => ∃ i : Int, e = .returned (.int .i64 i) ∧ (decide (0 ≤ i)) = decide ((⟨x1, x2, ⟨x3, x4, x5, x6⟩⟩ : Th) ∈ xs) ∧ Below w.heap.size w w' := by
  have hn := h.bound
  have H := Lib.hid h
  rcases sl_cases h with ⟨rfl, a, c, rfl⟩ | ⟨b, off, c, rfl, hbw, _⟩
  · clear h
    go_enter Tryd.func121, Tryd.ntmps121
    go_wp2_with fail
    refine wp_loop_rounds 1 ?_
    rw [rounds_succ]
    go_wp2_with fail
    go_ret
    exact ⟨-1, rfl, by simp, allocBelow _ _⟩
  · generalize hN : xs.length = n at hn
    have HN := Lib.hid hN
    rw [hN] at H
    clear h hN
    go_enter Tryd.func121, Tryd.ntmps121
    go_wp2_with fail
    obtain ⟨W, hW⟩ : ∃ W : World, W = w.alloc (.cells #[.int .i64 x1, .int .i64 x2, .int .i64 x3, .int .i64 x4, .int .i64 x5, .int .i64 x6] 55) := ⟨_, rfl⟩
    rw [← hW]
    have HW := Lib.hid (show Below w.heap.size w W by rw [hW]; exact allocBelow _ _)
    have hs : w.heap.size < W.heap.size := by rw [hW]; simp
    have y0 : W.cell? ⟨w.heap.size, 0, none⟩ = some (.int .i64 x1) := by rw [hW]; exact (new_cell _ _ _ 0 rfl).trans rfl
    have y1 : W.cell? ⟨w.heap.size, 1, none⟩ = some (.int .i64 x2) := by rw [hW]; exact (new_cell _ _ _ 1 rfl).trans rfl
    have y2 : W.cell? ⟨w.heap.size, 2, none⟩ = some (.int .i64 x3) := by rw [hW]; exact (new_cell _ _ _ 2 rfl).trans rfl
    have y3 : W.cell? ⟨w.heap.size, 3, none⟩ = some (.int .i64 x4) := by rw [hW]; exact (new_cell _ _ _ 3 rfl).trans rfl
    have y4 : W.cell? ⟨w.heap.size, 4, none⟩ = some (.int .i64 x5) := by rw [hW]; exact (new_cell _ _ _ 4 rfl).trans rfl
    have y5 : W.cell? ⟨w.heap.size, 5, none⟩ = some (.int .i64 x6) := by rw [hW]; exact (new_cell _ _ _ 5 rfl).trans rfl
    clear hW
    go_loopw [8] (fun u wr => ∃ k : Nat, k ≤ n ∧ u = .int .i64 k ∧ (⟨x1, x2, ⟨x3, x4, x5, x6⟩⟩ : Th) ∉ xs.take k ∧ Below W.heap.size W wr) (fun u _ => n - (intOf u).toNat)
    case atStart => exact ⟨0, Nat.zero_le _, rfl, by simp, Below.refl _ _⟩
    case round =>
      obtain ⟨k, hk, rfl, hs', hB⟩ := hrel
      have HS := Lib.hid hs'
      have HB := Lib.hid hB
      have HBW := Lib.hid (thenBelow HW.out hB)
      clear hs' hB
      by_cases h1 : k < n
      · have hkx : k < xs.length := by rw [HN.out]; exact h1
        obtain ⟨g0, g1, g2, g3, g4, g5⟩ := th_cells H.out k hkx
        have k0 := (HBW.out.cell (p := ⟨b, off + k * 6, none⟩) hbw).trans g0
        have z0 := (HB.out.cell (p := ⟨w.heap.size, 0, none⟩) hs).trans y0
        have k1 := (HBW.out.cell (p := ⟨b, off + k * 6 + 1, none⟩) hbw).trans g1
        have z1 := (HB.out.cell (p := ⟨w.heap.size, 1, none⟩) hs).trans y1
        have k2 := (HBW.out.cell (p := ⟨b, off + k * 6 + 2, none⟩) hbw).trans g2
        have z2 := (HB.out.cell (p := ⟨w.heap.size, 2, none⟩) hs).trans y2
        have k3 := (HBW.out.cell (p := ⟨b, off + k * 6 + 3, none⟩) hbw).trans g3
        have z3 := (HB.out.cell (p := ⟨w.heap.size, 3, none⟩) hs).trans y3
        have k4 := (HBW.out.cell (p := ⟨b, off + k * 6 + 4, none⟩) hbw).trans g4
        have z4 := (HB.out.cell (p := ⟨w.heap.size, 4, none⟩) hs).trans y4
        have k5 := (HBW.out.cell (p := ⟨b, off + k * 6 + 5, none⟩) hbw).trans g5
        have z5 := (HB.out.cell (p := ⟨w.heap.size, 5, none⟩) hs).trans y5
        have HYES := Lib.hid (fun h => mem_yes (g := (⟨x1, x2, ⟨x3, x4, x5, x6⟩⟩ : Th)) hkx h)
        have HNO := Lib.hid (fun h => mem_succ hkx HS.out h)
        generalize xs[k] = x at k0 k1 k2 k3 k4 k5 HYES HNO
        obtain ⟨y1, y2, ⟨y3, y4, y5, y6⟩⟩ := x
        dsimp only at k0 k1 k2 k3 k4 k5
        clear g0 g1 g2 g3 g4 g5
        by_cases e0 : x1 = y1
        · subst e0
          by_cases e1 : x2 = y2
          · subst e1
            by_cases e2 : x3 = y3
            · subst e2
              by_cases e3 : x4 = y4
              · subst e3
                by_cases e4 : x5 = y5
                · subst e4
                  by_cases e5 : x6 = y6
                  · subst e5
                    go_wp2_with fail
                    go_quiet (fail)
                    go_wp2_with fail
                    go_ret
                    exact ⟨k, rfl, by rw [HYES.out (by first | trivial | rfl)]; simp, below_drewN HBW.out _⟩
                  · have e5' : (x6 == y6) = false := by simp [e5]
                    have HE := Lib.hid (show (⟨x1, x2, ⟨x3, x4, x5, x6⟩⟩ : Th) ≠ ⟨x1, x2, ⟨x3, x4, x5, y6⟩⟩ by intro h; simp only [Th.mk.injEq, Ln.mk.injEq] at h; simp_all)
                    clear e5
                    go_wp2_with fail
                    go_quiet (fail)
                    go_wp2_with fail
                    go_roundw
                    case rel => exact ⟨k + 1, by omega, by go_num, HNO.out HE.out, below_drewN HB.out _⟩
                    case measure => simp [intOf]; omega
                · have e4' : (x5 == y5) = false := by simp [e4]
                  have HE := Lib.hid (show (⟨x1, x2, ⟨x3, x4, x5, x6⟩⟩ : Th) ≠ ⟨x1, x2, ⟨x3, x4, y5, y6⟩⟩ by intro h; simp only [Th.mk.injEq, Ln.mk.injEq] at h; simp_all)
                  clear e4
                  go_wp2_with fail
                  go_quiet (fail)
                  go_wp2_with fail
                  go_roundw
                  case rel => exact ⟨k + 1, by omega, by go_num, HNO.out HE.out, below_drewN HB.out _⟩
                  case measure => simp [intOf]; omega
              · have e3' : (x4 == y4) = false := by simp [e3]
                have HE := Lib.hid (show (⟨x1, x2, ⟨x3, x4, x5, x6⟩⟩ : Th) ≠ ⟨x1, x2, ⟨x3, y4, y5, y6⟩⟩ by intro h; simp only [Th.mk.injEq, Ln.mk.injEq] at h; simp_all)
                clear e3
                go_wp2_with fail
                go_quiet (fail)
                go_wp2_with fail
                go_roundw
                case rel => exact ⟨k + 1, by omega, by go_num, HNO.out HE.out, below_drewN HB.out _⟩
                case measure => simp [intOf]; omega
            · have e2' : (x3 == y3) = false := by simp [e2]
              have HE := Lib.hid (show (⟨x1, x2, ⟨x3, x4, x5, x6⟩⟩ : Th) ≠ ⟨x1, x2, ⟨y3, y4, y5, y6⟩⟩ by intro h; simp only [Th.mk.injEq, Ln.mk.injEq] at h; simp_all)
              clear e2
              go_wp2_with fail
              go_quiet (fail)
              go_wp2_with fail
              go_roundw
              case rel => exact ⟨k + 1, by omega, by go_num, HNO.out HE.out, below_drewN HB.out _⟩
              case measure => simp [intOf]; omega
          · have e1' : (x2 == y2) = false := by simp [e1]
            have HE := Lib.hid (show (⟨x1, x2, ⟨x3, x4, x5, x6⟩⟩ : Th) ≠ ⟨x1, y2, ⟨y3, y4, y5, y6⟩⟩ by intro h; simp only [Th.mk.injEq, Ln.mk.injEq] at h; simp_all)
            clear e1
            go_wp2_with fail
            go_quiet (fail)
            go_wp2_with fail
            go_roundw
            case rel => exact ⟨k + 1, by omega, by go_num, HNO.out HE.out, below_drewN HB.out _⟩
            case measure => simp [intOf]; omega
        · have e0' : (x1 == y1) = false := by simp [e0]
          have HE := Lib.hid (show (⟨x1, x2, ⟨x3, x4, x5, x6⟩⟩ : Th) ≠ ⟨y1, y2, ⟨y3, y4, y5, y6⟩⟩ by intro h; simp only [Th.mk.injEq, Ln.mk.injEq] at h; simp_all)
          clear e0
          go_wp2_with fail
          go_quiet (fail)
          go_wp2_with fail
          go_roundw
          case rel => exact ⟨k + 1, by omega, by go_num, HNO.out HE.out, below_drewN HB.out _⟩
          case measure => simp [intOf]; omega
      · have HE := Lib.hid (mem_end (by rw [HN.out]; omega) HS.out)
        go_wp2_with fail
        go_ret
        exact ⟨-1, rfl, by rw [HE.out]; rfl, HBW.out⟩
set_option maxHeartbeats 1600000 in
theorem ContainsTh_any {lo : Nat} {w : World} {v : Value} {xs : List Th} (x1 x2 x3 x4 x5 x6 : Int) (h : IsSl 6 ThEl lo w v xs) :
    Calls Tryd.prog 99 #[v, .agg #[.int .i64 x1, .int .i64 x2, .int .i64 x3, .int .i64 x4, .int .i64 x5, .int .i64 x6]] w fun e w' => e = .returned (.bool (decide ((⟨x1, x2, ⟨x3, x4, x5, x6⟩⟩ : Th) ∈ xs))) ∧ Below w.heap.size w w' := by
  have H := Lib.hid h
  clear h
  go_enter Tryd.func99, Tryd.ntmps99
  go_wp2_with (go_at_call 121; (with_reducible refine (IndexTh_any x1 x2 x3 x4 x5 x6 (H.out.below ThEl.stays (allocBelow _ _))).mono ?_); rintro e w1 ⟨i, rfl, hi, hb⟩; have HI := Lib.hid hi; have HB := Lib.hid hb; clear hi hb)
  go_ret
  exact ⟨ret_bool HI.out, thenBelow (allocBelow _ _) HB.out⟩
end Go.Proofs.YtmpbfdfjcfanoaaDoor

/-
  SameThreshold, ThresholdIndex OF THE REFERENCE.
-/
namespace Go.Proofs.YtmpbfdfjcfanoaaDoor
open Go.RowKit Go.Deep
set_option maxHeartbeats 3200000 in
theorem SameTh_any (x1 x2 x3 x4 x5 x6 y1 y2 y3 y4 y5 y6 : Int) (w : World) :
    Calls Tryd.prog 103 #[.agg #[.int .i64 x1, .int .i64 x2, .int .i64 x3, .int .i64 x4, .int .i64 x5, .int .i64 x6], .agg #[.int .i64 y1, .int .i64 y2, .int .i64 y3, .int .i64 y4, .int .i64 y5, .int .i64 y6]] w fun e w' => e = .returned (.bool (decide ((⟨x1, x2, ⟨x3, x4, x5, x6⟩⟩ : Th) = ⟨y1, y2, ⟨y3, y4, y5, y6⟩⟩))) ∧ Below w.heap.size w w' := by
  by_cases e0 : x1 = y1
  · subst e0
    by_cases e1 : x2 = y2
    · subst e1
      by_cases e2 : x3 = y3
      · subst e2
        by_cases e3 : x4 = y4
        · subst e3
          by_cases e4 : x5 = y5
          · subst e4
            by_cases e5 : x6 = y6
            · subst e5
              go_enter Tryd.func103, Tryd.ntmps103
              go_wp2_with fail
              go_ret
              exact ⟨ret_bool (by simp), thenBelow (allocBelow _ _) (allocBelow _ _)⟩
            · have e5' : (x6 == y6) = false := by simp [e5]
              have HE := Lib.hid (show decide ((⟨x1, x2, ⟨x3, x4, x5, x6⟩⟩ : Th) = ⟨x1, x2, ⟨x3, x4, x5, y6⟩⟩) = false by rw [decide_eq_false_iff_not]; intro h; simp only [Th.mk.injEq, Ln.mk.injEq] at h; simp_all)
              clear e5
              go_enter Tryd.func103, Tryd.ntmps103
              go_wp2_with fail
              go_ret
              exact ⟨ret_bool HE.out.symm, thenBelow (allocBelow _ _) (allocBelow _ _)⟩
          · have e4' : (x5 == y5) = false := by simp [e4]
            have HE := Lib.hid (show decide ((⟨x1, x2, ⟨x3, x4, x5, x6⟩⟩ : Th) = ⟨x1, x2, ⟨x3, x4, y5, y6⟩⟩) = false by rw [decide_eq_false_iff_not]; intro h; simp only [Th.mk.injEq, Ln.mk.injEq] at h; simp_all)
            clear e4
            go_enter Tryd.func103, Tryd.ntmps103
            go_wp2_with fail
            go_ret
            exact ⟨ret_bool HE.out.symm, thenBelow (allocBelow _ _) (allocBelow _ _)⟩
        · have e3' : (x4 == y4) = false := by simp [e3]
          have HE := Lib.hid (show decide ((⟨x1, x2, ⟨x3, x4, x5, x6⟩⟩ : Th) = ⟨x1, x2, ⟨x3, y4, y5, y6⟩⟩) = false by rw [decide_eq_false_iff_not]; intro h; simp only [Th.mk.injEq, Ln.mk.injEq] at h; simp_all)
          clear e3
          go_enter Tryd.func103, Tryd.ntmps103
          go_wp2_with fail
          go_ret
          exact ⟨ret_bool HE.out.symm, thenBelow (allocBelow _ _) (allocBelow _ _)⟩
      · have e2' : (x3 == y3) = false := by simp [e2]
        have HE := Lib.hid (show decide ((⟨x1, x2, ⟨x3, x4, x5, x6⟩⟩ : Th) = ⟨x1, x2, ⟨y3, y4, y5, y6⟩⟩) = false by rw [decide_eq_false_iff_not]; intro h; simp only [Th.mk.injEq, Ln.mk.injEq] at h; simp_all)
        clear e2
        go_enter Tryd.func103, Tryd.ntmps103
        go_wp2_with fail
        go_ret
        exact ⟨ret_bool HE.out.symm, thenBelow (allocBelow _ _) (allocBelow _ _)⟩
    · have e1' : (x2 == y2) = false := by simp [e1]
      have HE := Lib.hid (show decide ((⟨x1, x2, ⟨x3, x4, x5, x6⟩⟩ : Th) = ⟨x1, y2, ⟨y3, y4, y5, y6⟩⟩) = false by rw [decide_eq_false_iff_not]; intro h; simp only [Th.mk.injEq, Ln.mk.injEq] at h; simp_all)
      clear e1
      go_enter Tryd.func103, Tryd.ntmps103
      go_wp2_with fail
      go_ret
      exact ⟨ret_bool HE.out.symm, thenBelow (allocBelow _ _) (allocBelow _ _)⟩
  · have e0' : (x1 == y1) = false := by simp [e0]
    have HE := Lib.hid (show decide ((⟨x1, x2, ⟨x3, x4, x5, x6⟩⟩ : Th) = ⟨y1, y2, ⟨y3, y4, y5, y6⟩⟩) = false by rw [decide_eq_false_iff_not]; intro h; simp only [Th.mk.injEq, Ln.mk.injEq] at h; simp_all)
    clear e0
    go_enter Tryd.func103, Tryd.ntmps103
    go_wp2_with fail
    go_ret
    exact ⟨ret_bool HE.out.symm, thenBelow (allocBelow _ _) (allocBelow _ _)⟩
theorem th_ld {w : World} {p0 p1 p2 p3 p4 p5 : Int} {b o : Nat} (g0 : w.cell? ⟨b, o, none⟩ = some (.int .i64 p0)) (g1 : w.cell? ⟨b, o + 1, none⟩ = some (.int .i64 p1)) (g2 : w.cell? ⟨b, o + 2, none⟩ = some (.int .i64 p2)) (g3 : w.cell? ⟨b, o + 3, none⟩ = some (.int .i64 p3)) (g4 : w.cell? ⟨b, o + 4, none⟩ = some (.int .i64 p4)) (g5 : w.cell? ⟨b, o + 5, none⟩ = some (.int .i64 p5)) :
    w.rangeAt b o [.int .i64 p0, .int .i64 p1, .int .i64 p2, .int .i64 p3, .int .i64 p4, .int .i64 p5] := fun j v hj => by
  match j, hj with
  | 0, hj => rw [← hj]; exact g0
  | 1, hj => rw [← hj]; exact g1
  | 2, hj => rw [← hj]; exact g2
  | 3, hj => rw [← hj]; exact g3
  | 4, hj => rw [← hj]; exact g4
  | 5, hj => rw [← hj]; exact g5
  | n + 6, hj => simp at hj
set_option maxHeartbeats 3200000 in
theorem ThIndex_any {lo : Nat} {w : World} {v : Value} {xs : List Th} (x1 x2 x3 x4 x5 x6 : Int) (h : IsSl 6 ThEl lo w v xs) :
    Calls Tryd.prog 102 #[v, .agg #[.int .i64 x1, .int .i64 x2, .int .i64 x3, .int .i64 x4, .int .i64 x5, .int .i64 x6]] w fun e w' => ∃ i : Int, e = .returned (.int .i64 i) ∧ (decide (0 ≤ i)) = decide ((⟨x1, x2, ⟨x3, x4, x5, x6⟩⟩ : Th) ∈ xs) ∧ Below w.heap.size w w' := by
  have hn := h.bound
  have H := Lib.hid h
  rcases sl_cases h with ⟨rfl, a, c, rfl⟩ | ⟨b, off, c, rfl, hbw, _⟩
  · clear h
    go_enter Tryd.func102, Tryd.ntmps102
    go_wp2_with fail
    refine wp_loop_rounds 1 ?_
    rw [rounds_succ]
    go_wp2_with fail
    go_ret
    exact ⟨-1, rfl, by simp, allocBelow _ _⟩
  · generalize hN : xs.length = n at hn
    have HN := Lib.hid hN
    rw [hN] at H
    clear h hN
    go_enter Tryd.func102, Tryd.ntmps102
    go_wp2_with fail
    obtain ⟨W, hW⟩ : ∃ W : World, W = w.alloc (.cells #[.int .i64 x1, .int .i64 x2, .int .i64 x3, .int .i64 x4, .int .i64 x5, .int .i64 x6] 55) := ⟨_, rfl⟩
    rw [← hW]
    have HW := Lib.hid (show Below w.heap.size w W by rw [hW]; exact allocBelow _ _)
    have hs : w.heap.size < W.heap.size := by rw [hW]; simp
    have y0 : W.cell? ⟨w.heap.size, 0, none⟩ = some (.int .i64 x1) := by rw [hW]; exact (new_cell _ _ _ 0 rfl).trans rfl
    have y1 : W.cell? ⟨w.heap.size, 1, none⟩ = some (.int .i64 x2) := by rw [hW]; exact (new_cell _ _ _ 1 rfl).trans rfl
    have y2 : W.cell? ⟨w.heap.size, 2, none⟩ = some (.int .i64 x3) := by rw [hW]; exact (new_cell _ _ _ 2 rfl).trans rfl
    have y3 : W.cell? ⟨w.heap.size, 3, none⟩ = some (.int .i64 x4) := by rw [hW]; exact (new_cell _ _ _ 3 rfl).trans rfl
    have y4 : W.cell? ⟨w.heap.size, 4, none⟩ = some (.int .i64 x5) := by rw [hW]; exact (new_cell _ _ _ 4 rfl).trans rfl
    have y5 : W.cell? ⟨w.heap.size, 5, none⟩ = some (.int .i64 x6) := by rw [hW]; exact (new_cell _ _ _ 5 rfl).trans rfl
    clear hW
    go_loopw [5] (fun u wr => ∃ k : Nat, k ≤ n ∧ u = .int .i64 k ∧ (⟨x1, x2, ⟨x3, x4, x5, x6⟩⟩ : Th) ∉ xs.take k ∧ Below W.heap.size W wr) (fun u _ => n - (intOf u).toNat)
    case atStart => exact ⟨0, Nat.zero_le _, rfl, by simp, Below.refl _ _⟩
    case round =>
      obtain ⟨k, hk, rfl, hs', hB⟩ := hrel
      obtain ⟨R, hR⟩ : ∃ R : World, R = wr := ⟨_, rfl⟩
      rw [← hR] at hB ⊢
      clear hR
      have HS := Lib.hid hs'
      have HB := Lib.hid hB
      have HBW := Lib.hid (thenBelow HW.out hB)
      clear hs' hB
      by_cases h1 : k < n
      · have hkx : k < xs.length := by rw [HN.out]; exact h1
        obtain ⟨g0, g1, g2, g3, g4, g5⟩ := th_cells H.out k hkx
        have k0 := (HBW.out.cell (p := ⟨b, off + k * 6, none⟩) hbw).trans g0
        have z0 := (HB.out.cell (p := ⟨w.heap.size, 0, none⟩) hs).trans y0
        have k1 := (HBW.out.cell (p := ⟨b, off + k * 6 + 1, none⟩) hbw).trans g1
        have z1 := (HB.out.cell (p := ⟨w.heap.size, 1, none⟩) hs).trans y1
        have k2 := (HBW.out.cell (p := ⟨b, off + k * 6 + 2, none⟩) hbw).trans g2
        have z2 := (HB.out.cell (p := ⟨w.heap.size, 2, none⟩) hs).trans y2
        have k3 := (HBW.out.cell (p := ⟨b, off + k * 6 + 3, none⟩) hbw).trans g3
        have z3 := (HB.out.cell (p := ⟨w.heap.size, 3, none⟩) hs).trans y3
        have k4 := (HBW.out.cell (p := ⟨b, off + k * 6 + 4, none⟩) hbw).trans g4
        have z4 := (HB.out.cell (p := ⟨w.heap.size, 4, none⟩) hs).trans y4
        have k5 := (HBW.out.cell (p := ⟨b, off + k * 6 + 5, none⟩) hbw).trans g5
        have z5 := (HB.out.cell (p := ⟨w.heap.size, 5, none⟩) hs).trans y5
        have HYES := Lib.hid (fun h => mem_yes (g := (⟨x1, x2, ⟨x3, x4, x5, x6⟩⟩ : Th)) hkx h)
        have HNO := Lib.hid (fun h => mem_succ hkx HS.out h)
        generalize xs[k] = x at k0 k1 k2 k3 k4 k5 HYES HNO
        obtain ⟨y1, y2, ⟨y3, y4, y5, y6⟩⟩ := x
        dsimp only at k0 k1 k2 k3 k4 k5
        clear g0 g1 g2 g3 g4 g5
        have m0 : ∀ n : WIn (Below R.heap.size R), n.val.cell? ⟨b, off + k * 6, none⟩ = some (.int .i64 y1) := fun n => keep1 k0 n.ok
        have l0 : ∀ n : WIn (Below R.heap.size R), n.val.cell? ⟨w.heap.size, 0, none⟩ = some (.int .i64 x1) := fun n => keep1 z0 n.ok
        have m1 : ∀ n : WIn (Below R.heap.size R), n.val.cell? ⟨b, off + k * 6 + 1, none⟩ = some (.int .i64 y2) := fun n => keep1 k1 n.ok
        have l1 : ∀ n : WIn (Below R.heap.size R), n.val.cell? ⟨w.heap.size, 1, none⟩ = some (.int .i64 x2) := fun n => keep1 z1 n.ok
        have m2 : ∀ n : WIn (Below R.heap.size R), n.val.cell? ⟨b, off + k * 6 + 2, none⟩ = some (.int .i64 y3) := fun n => keep1 k2 n.ok
        have l2 : ∀ n : WIn (Below R.heap.size R), n.val.cell? ⟨w.heap.size, 2, none⟩ = some (.int .i64 x3) := fun n => keep1 z2 n.ok
        have m3 : ∀ n : WIn (Below R.heap.size R), n.val.cell? ⟨b, off + k * 6 + 3, none⟩ = some (.int .i64 y4) := fun n => keep1 k3 n.ok
        have l3 : ∀ n : WIn (Below R.heap.size R), n.val.cell? ⟨w.heap.size, 3, none⟩ = some (.int .i64 x4) := fun n => keep1 z3 n.ok
        have m4 : ∀ n : WIn (Below R.heap.size R), n.val.cell? ⟨b, off + k * 6 + 4, none⟩ = some (.int .i64 y5) := fun n => keep1 k4 n.ok
        have l4 : ∀ n : WIn (Below R.heap.size R), n.val.cell? ⟨w.heap.size, 4, none⟩ = some (.int .i64 x5) := fun n => keep1 z4 n.ok
        have m5 : ∀ n : WIn (Below R.heap.size R), n.val.cell? ⟨b, off + k * 6 + 5, none⟩ = some (.int .i64 y6) := fun n => keep1 k5 n.ok
        have l5 : ∀ n : WIn (Below R.heap.size R), n.val.cell? ⟨w.heap.size, 5, none⟩ = some (.int .i64 x6) := fun n => keep1 z5 n.ok
        by_cases he : (⟨y1, y2, ⟨y3, y4, y5, y6⟩⟩ : Th) = ⟨x1, x2, ⟨x3, x4, x5, x6⟩⟩
        · have HE := Lib.hid he
          clear he
          go_upto_region 4 with (fail)
          refine wp_cls (by kernel_rfl) (by kernel_rfl) ?_
          iterate 5 go_big_quiet_step (fail)
          go_big_quiet_step (((with_reducible refine (SameTh_any _ _ _ _ _ _ _ _ _ _ _ _ _).mono ?_); rw [decide_eq_true HE.out]; rintro e w1 ⟨rfl, hb⟩; exact ⟨rfl, ⟨w1, thenBelow (WIn.ok _) hb⟩, rfl⟩))
          refine wpQuiet_nil ?_
          intro N
          have NB := Lib.hid (thenBelow HB.out N.ok)
          have NW := Lib.hid (thenBelow HBW.out N.ok)
          go_wp2_with fail
          go_ret
          exact ⟨k, rfl, by rw [HYES.out HE.out.symm]; simp, NW.out⟩
        · have HE := Lib.hid he
          clear he
          go_upto_region 4 with (fail)
          refine wp_cls (by kernel_rfl) (by kernel_rfl) ?_
          iterate 5 go_big_quiet_step (fail)
          go_big_quiet_step (((with_reducible refine (SameTh_any _ _ _ _ _ _ _ _ _ _ _ _ _).mono ?_); rw [decide_eq_false HE.out]; rintro e w1 ⟨rfl, hb⟩; exact ⟨rfl, ⟨w1, thenBelow (WIn.ok _) hb⟩, rfl⟩))
          refine wpQuiet_nil ?_
          intro N
          have NB := Lib.hid (thenBelow HB.out N.ok)
          have NW := Lib.hid (thenBelow HBW.out N.ok)
          go_wp2_with fail
          go_roundw
          case rel => exact ⟨k + 1, by omega, by go_num, HNO.out (fun h => HE.out h.symm), NB.out⟩
          case measure => simp [intOf]; omega
      · have HE := Lib.hid (mem_end (by rw [HN.out]; omega) HS.out)
        go_wp2_with fail
        go_ret
        exact ⟨-1, rfl, by rw [HE.out]; rfl, HBW.out⟩
end Go.Proofs.YtmpbfdfjcfanoaaDoor

/-
  make WITH A SIZE THAT THE WALK HAS COMPUTED, elements of any number of cells; a block of the call's own as a function of its places.
-/
namespace Go.Proofs.YtmpbfdfjcfanoaaDoor
open Go.RowKit Go.Deep
theorem make_n {P : Program} (t e : TypeId) (z : Value) (s bytes : Nat) (ht : P.underlying t = some (.slice e)) (hinfo : (P.info? e).map (fun i => (i.zero, i.size, i.bytes)) = some (some z, s, bytes))
    (n : Nat) (hbytes : bytes * n ≤ 281474976710656) (h63 : n ≤ 9223372036854775807) (w : World) :
    (Instr.makeSlice t (.int .i64 (n : Int)) (.int .i64 (n : Int))).run P w = .ok (.slice (some ⟨w.heap.size, 0, none⟩) n n) (w.alloc (.cells (madeCells z.cells (n * s)) e)) := by
  obtain ⟨i, hi, hzz⟩ := Option.map_eq_some_iff.1 hinfo
  simp only [Prod.mk.injEq] at hzz
  obtain ⟨hz, rfl, rfl⟩ := hzz
  have hb' : (i.bytes : Int) * (n : Int) ≤ 281474976710656 := by
    have h : ((i.bytes * n : Nat) : Int) ≤ 281474976710656 := by omega
    rwa [Int.natCast_mul] at h
  have hr := run_make (P := P) w t e i z ht hi hz .i64 .i64 n n (by omega) (Int.le_refl _) hb' (by omega)
  simp only [Int.toNat_natCast] at hr
  exact hr
theorem made_get (z : Array Value) (m j : Nat) (v : Value) (hj : j < m) (hz : z[j % z.size]! = v) : (madeCells z m)[j]? = some v := by
  subst hz; simp [madeCells, hj]
def up (f : Nat → Int) (i : Nat) (v : Int) : Nat → Int := fun j => if j = i then v else f j
theorem up_same (f : Nat → Int) (i : Nat) (v : Int) : up f i v i = v := by simp [up]
theorem up_ne (f : Nat → Int) {i j : Nat} (v : Int) (h : j ≠ i) : up f i v j = f j := by simp [up, h]
/-- A block of the call's own whose first m cells hold the numbers f. -/
def OwnF (lo : Nat) (w : World) (g m : Nat) (f : Nat → Int) : Prop :=
  lo ≤ g ∧ ∃ cur t, w.heap[g]? = some (.cells cur t (0, 0)) ∧ ∀ j, j < m → cur[j]? = some (.int .i64 (f j))
theorem OwnF.lt {lo : Nat} {w : World} {g m : Nat} {f : Nat → Int} (h : OwnF lo w g m f) : g < w.heap.size := by
  obtain ⟨_, cur, t, hg, _⟩ := h; exact (Array.getElem?_eq_some_iff.1 hg).1
theorem OwnF.cell {lo : Nat} {w : World} {g m : Nat} {f : Nat → Int} (h : OwnF lo w g m f) (j : Nat) (hj : j < m) : w.cell? ⟨g, j, none⟩ = some (.int .i64 (f j)) := by
  obtain ⟨_, cur, t, hg, hc⟩ := h
  have := hc j hj
  simp only [World.cell?, hg]
  simpa using this
theorem OwnF.frozen {lo : Nat} {w : World} {g m : Nat} {f : Nat → Int} (h : OwnF lo w g m f) (j : Nat) : w.frozen? ⟨g, j, none⟩ = false := by
  obtain ⟨_, cur, t, hg, hc⟩ := h
  simp [World.frozen?, hg]
theorem OwnF.but {lo : Nat} {w w' : World} {g m : Nat} {f : Nat → Int} (h : OwnF lo w g m f) (hb : w'.heap[g]? = w.heap[g]?) : OwnF lo w' g m f := by
  obtain ⟨h1, cur, t, hg, hc⟩ := h; exact ⟨h1, cur, t, by rw [hb]; exact hg, hc⟩
theorem OwnF.below {lo : Nat} {w w' : World} {g m : Nat} {f : Nat → Int} (h : OwnF lo w g m f) (hb : Below w.heap.size w w') : OwnF lo w' g m f := h.but (hb.block g h.lt)
theorem OwnF.set {lo : Nat} {w : World} {g m : Nat} {f : Nat → Int} (h : OwnF lo w g m f) (i : Nat) (v : Int) : OwnF lo (w.setCell ⟨g, i, none⟩ (.int .i64 v)) g m (up f i v) := by
  obtain ⟨h1, cur, t, hg, hc⟩ := h
  refine ⟨h1, cur.setIfInBounds i (.int .i64 v), t, heap_setCell_same w g i cur t _ hg, fun j hj => ?_⟩
  have hcj := hc j hj
  have hjc : j < cur.size := (Array.getElem?_eq_some_iff.1 hcj).1
  by_cases e : i = j
  · subst e
    rw [up_same]
    simp [hjc]
  · rw [Array.getElem?_setIfInBounds_ne e, hcj, up_ne _ _ (Ne.symm e)]
theorem OwnF.setOther {lo : Nat} {w : World} {g m : Nat} {f : Nat → Int} (h : OwnF lo w g m f) (a : Addr) (u : Value) (hne : a.block ≠ g) : OwnF lo (w.setCell a u) g m f :=
  h.but (Below.heap_setCell _ _ _ _ (fun e => hne e.symm))
theorem OwnF.grown {lo : Nat} {w w' : World} {g m : Nat} {f : Nat → Int} {r : Option Nat} (h : OwnF lo w g m f) (hg : w.grownBy w' r) (hr : r ≠ some g) : OwnF lo w' g m f :=
  h.but (hg.block g h.lt (Ne.symm hr))
end Go.Proofs.YtmpbfdfjcfanoaaDoor

/-
  append OF ONE ELEMENT that the call has just laid in a block of its own.
-/
namespace Go.Proofs.YtmpbfdfjcfanoaaDoor
open Go.RowKit Go.Deep
/-- What is known of an element type and its slices. -/
structure ElT (P : Program) (T E : TypeId) (z : Value) (size bytes : Nat) : Prop where
  ht : P.underlying T = some (.slice E)
  info : (P.info? E).map (fun i => (i.zero, i.size, i.bytes)) = some (some z, size, bytes)
  hz : z.cells.size = size
  h0 : 0 < size
theorem append_one {P : Program} {T E : TypeId} {z : Value} {size bytes : Nat} (K : ElT P T E z size bytes) {W : World} {ops : Array Oper} {rest : List Oper} {o : Oper} {a : Act} {Q : Exit → Act → World → Prop}
    (hgd : o.guard = none) (s x : Operand) (ho : o.op = .call { callee := .builtin .append, args := #[s, x], argTypes := #[T, T] })
    (base : Nat) (v : Value) (n : Nat) (xs news : List Value) (Hn : Nat) (hs : a.eval s = v) (hx : a.eval x = .slice (some ⟨Hn, 0, none⟩) 1 1) (hH : W.heap.size = Hn) (hown : W.ownsRow base E size v n xs)
    (hl : news.length = size) (h1 : ∀ u ∈ news, u.oneCell' = true) (hn : (n + 1) * bytes ≤ 140737488355328) (h63 : n + 1 ≤ maxLen) (hbase : base ≤ Hn) {B : Array Value} (hB : B = news.toArray)
    (h : ∀ g cap w', w'.ownsRow base E size (.slice (some ⟨g, 0, none⟩) (n + 1) cap) (n + 1) (xs ++ news) → W.grownBy w' v.ownBlock → (v.ownBlock = some g ∨ Hn < g) → base ≤ g → g < w'.heap.size → Hn < w'.heap.size → wpList P ops Q rest (a.put o.dst (.slice (some ⟨g, 0, none⟩) (n + 1) cap)) w') :
    wpList P ops Q (o :: rest) a (W.alloc (.cells B E)) := by
  subst hB hH
  obtain ⟨i, hi, hzz⟩ := Option.map_eq_some_iff.1 K.info
  simp only [Prod.mk.injEq] at hzz
  obtain ⟨hz, hsz, hby⟩ := hzz
  refine wpList_append_lies (W.alloc (.cells news.toArray E)) hgd s x T ho base E i z size bytes K.ht hi hz hsz hby K.hz K.h0 v n xs hs (hown.alloc _) ⟨W.heap.size, 0, none⟩ 1 1 news hx (by omega)
    (World.news_of_block (heap_alloc_new _ _)) h1 (by decide) h63 hn (by simp; omega) (W.heap.size + 1) (by simp) fun g cap w' g1 g2 g3 g4 => ?_
  have hgr : W.grownBy w' v.ownBlock := by
    have ha := World.grownBy_alloc W (.cells news.toArray E) v.ownBlock
    exact ⟨g2.os.trans ha.os, g2.tape.trans ha.tape, g2.output.trans ha.output, Nat.le_trans ha.size g2.size, fun k hk hne => (g2.block k (by simp; omega) hne).trans (ha.block k hk hne)⟩
  refine h g cap w' g1 hgr ?_ ?_ g4 (by have := g2.size; simp at this; omega)
  · rcases g3 with g3 | g3
    · exact .inl g3
    · exact .inr (by omega)
  · rcases g3 with g3 | g3
    · exact (hown.lt g g3).1
    · omega
/-- The elements of a row that the call owns, all but the last. -/
theorem row_cut {w : World} {base : Nat} {e : TypeId} {n : Nat} {xs : List Value} {a : Option Addr} {c : Nat} (h : w.ownsRow base e 1 (.slice a (n + 1) c) (n + 1) xs) : w.ownsRow base e 1 (.slice a n c) n (xs.take n) := by
  obtain ⟨hl, h2⟩ := h
  refine ⟨by rw [List.length_take]; omega, ?_⟩
  rcases h2 with ⟨_, h0⟩ | ⟨g, cap, cur, hv, hb, hg, hn, hm, hs, ht⟩
  · omega
  · simp only [Value.slice.injEq] at hv
    obtain ⟨rfl, _, rfl⟩ := hv
    exact .inr ⟨g, c, cur, rfl, hb, hg, by omega, hm, hs, by rw [← ht, List.take_take, Nat.mul_one, Nat.mul_one, Nat.min_eq_left (by omega)]⟩
theorem rows_shape {w : World} {base : Nat} {e : TypeId} {size : Nat} {v : Value} {n : Nat} {xs : List Value} (h : w.ownsRow base e size v n xs) : ∃ a c, v = .slice a n c := by
  rcases h.2 with ⟨rfl, rfl⟩ | ⟨g, cap, _, rfl, _⟩
  · exact ⟨_, _, rfl⟩
  · exact ⟨_, _, rfl⟩
/-- The last of the elements of a row of one-cell elements that the call owns. -/
theorem row_last {w : World} {base : Nat} {e : TypeId} {n : Nat} {xs : List Value} {a : Option Addr} {c : Nat} (h : w.ownsRow base e 1 (.slice a (n + 1) c) (n + 1) (xs)) : ∃ g, a = some ⟨g, 0, none⟩ ∧ base ≤ g ∧ g < w.heap.size ∧ n < c ∧ c ≤ maxLen ∧ ∀ j, j < n + 1 → w.cell? ⟨g, j, none⟩ = xs[j]? := by
  obtain ⟨hl, h2⟩ := h
  rcases h2 with ⟨_, h0⟩ | ⟨g, cap, cur, hv, hb, hg, hn, hm, hs, ht⟩
  · omega
  · simp only [Value.slice.injEq] at hv
    obtain ⟨rfl, _, rfl⟩ := hv
    refine ⟨g, rfl, hb, (Array.getElem?_eq_some_iff.1 hg).1, by omega, hm, fun j hj => ?_⟩
    rw [← ht, List.getElem?_take_of_lt (by omega)]
    simp only [World.cell?, hg]
    simp
end Go.Proofs.YtmpbfdfjcfanoaaDoor

/-
  differentGuards OF THE PROGRAM.
-/
namespace Go.Proofs.YtmpbfdfjcfanoaaDoor
open Go.RowKit Go.Deep
def thC (g : Th) : List Value := [.int .i64 g.msg, .int .i64 g.coef, .int .i64 g.bd.c, .int .i64 g.bd.n, .int .i64 g.bd.t, .int .i64 g.bd.f]
def thI (g : Th) : Prop := I64 g.msg ∧ I64 g.coef ∧ I64 g.bd.c ∧ I64 g.bd.n ∧ I64 g.bd.t ∧ I64 g.bd.f
theorem flat_len (l : List Th) : (l.flatMap thC).length = l.length * 6 := by
  induction l with
  | nil => rfl
  | cons x xs ih => rw [List.flatMap_cons, List.length_append, ih, List.length_cons]; simp [thC]; omega
theorem flat_get : ∀ (l : List Th) (i : Nat) (hi : i < l.length) (j : Nat), j < 6 → (l.flatMap thC)[i * 6 + j]? = (thC l[i])[j]?
  | [], i, hi, _, _ => absurd hi (by simp)
  | x :: xs, 0, _, j, hj => by
    rw [List.flatMap_cons, List.getElem?_append_left (by simp [thC]; omega)]
    simp
  | x :: xs, i + 1, hi, j, hj => by
    rw [List.flatMap_cons, List.getElem?_append_right (by simp [thC]; omega), show (i + 1) * 6 + j - (thC x).length = i * 6 + j by simp [thC]; omega]
    exact flat_get xs i (by simpa using hi) j hj
/-- A list of guards that the call has made. -/
def OwnTh (lo : Nat) (w : World) (v : Value) (l : List Th) : Prop := w.ownsRow lo 55 6 v l.length (l.flatMap thC) ∧ ∀ g ∈ l, thI g
theorem OwnTh.nil (lo : Nat) (w : World) : OwnTh lo w (.slice none 0 0) [] := ⟨World.ownsRow_nil _ _ _ _, by simp⟩
theorem OwnTh.still {lo : Nat} {w w' : World} {v : Value} {l : List Th} (h : OwnTh lo w v l) (hb : Below w.heap.size w w') : OwnTh lo w' v l := ⟨row_still h.1 hb, h.2⟩
theorem OwnTh.sl {lo : Nat} {w : World} {v : Value} {l : List Th} (h : OwnTh lo w v l) : IsSl 6 ThEl lo w v l := by
  obtain ⟨⟨hl, h2⟩, hI⟩ := h
  rcases h2 with ⟨rfl, h0⟩ | ⟨g, cap, cur, rfl, hb, hg, hn, hm, hc, ht⟩
  · exact ⟨none, 0, by rw [h0], by omega, by simp [maxLen], fun _ => rfl, .inl (List.eq_nil_of_length_eq_zero h0)⟩
  · refine ⟨_, _, rfl, hn, hm, by simp, .inr ⟨g, 0, rfl, hb, (Array.getElem?_eq_some_iff.1 hg).1, fun i hi => ⟨thC l[i], rfl, fun j hj => ?_, rfl, hI _ (List.getElem_mem hi)⟩⟩⟩
    have hcell : w.cell? ⟨g, 0 + i * 6 + j, none⟩ = cur[i * 6 + j]? := by
      simp only [World.cell?, hg]; simp
    rw [hcell, ← Array.getElem?_toList, show cur.toList[i * 6 + j]? = (cur.toList.take (l.length * 6))[i * 6 + j]? by rw [List.getElem?_take_of_lt (by omega)], ht]
    exact flat_get l i hi j hj
theorem addT_len (l : List Th) (g : Th) : (addT l g).length ≤ l.length + 1 := by unfold addT; split <;> simp
theorem elTh : ElT Tryd.prog 49 55 (.agg #[.int .i64 0, .int .i64 0, .int .i64 0, .int .i64 0, .int .i64 0, .int .i64 0]) 6 48 := ⟨Tryd.underlying49, by kernel_rfl, rfl, by decide⟩
theorem info_th : (Tryd.prog.info? 55).map (·.size) = some 6 := by kernel_rfl
theorem inner_succ {gs l0 : List Th} {j : Nat} (h : j < gs.length) : (gs.take (j + 1)).foldl addT l0 = addT ((gs.take j).foldl addT l0) gs[j] := by
  rw [List.take_succ_eq_append_getElem h, List.foldl_append]; rfl
theorem diffG_succ {rs : List Ru} {i : Nat} (h : i < rs.length) : diffG (rs.take (i + 1)) = rs[i].guards.foldl addT (diffG (rs.take i)) := by
  unfold diffG; rw [List.take_succ_eq_append_getElem h, List.foldl_append]; rfl
set_option maxHeartbeats 6400000 in
theorem differentGuards_any {lo : Nat} {w : World} {v : Value} {rs : List Ru} (h : IsSl 18 RuEl lo w v rs) (h8 : rs.length ≤ 8) (h2 : ∀ r ∈ rs, r.guards.length ≤ 2) :
    Calls Tryd.prog 54 #[v] w fun e w' => ∃ v', e = .returned v' ∧ OwnTh w.heap.size w' v' (diffG rs) ∧ Below w.heap.size w w' := by
  have H := Lib.hid h
  have H2 := Lib.hid h2
  rcases sl_cases h with ⟨rfl, a, c, rfl⟩ | ⟨b, off, c, rfl, hbw, _⟩
  · clear h
    go_enter Tryd.func54, Tryd.ntmps54
    go_wp2_with fail
    refine wp_loop_rounds 1 ?_
    rw [rounds_succ]
    go_wp2_with fail
    go_ret
    exact ⟨_, rfl, OwnTh.nil _ _, Below.refl _ _⟩
  · generalize hN : rs.length = n at h8
    have HN := Lib.hid hN
    rw [hN] at H
    clear h h2 hN
    go_enter Tryd.func54, Tryd.ntmps54
    go_wp2_with fail
    go_loopw [3, 10] (fun v u wr => ∃ (i : Nat) (a : Option Addr) (c : Nat) (l : List Th), i ≤ n ∧ u = .int .i64 i ∧ v = .slice a l.length c ∧ l = diffG (rs.take i) ∧ l.length ≤ 2 * i ∧ OwnTh w.heap.size wr (.slice a l.length c) l ∧ Below w.heap.size w wr) (fun _ u _ => n - (intOf u).toNat)
    case atStart => exact ⟨0, none, 0, [], Nat.zero_le _, rfl, rfl, rfl, by simp, OwnTh.nil _ _, Below.refl _ _⟩
    case round =>
      obtain ⟨i, a, ca, l, hi, rfl, rfl, hl, hlen, hO, hB⟩ := hrel
      have HO := Lib.hid hO
      have HB := Lib.hid hB
      have HLI := Lib.hid hl
      clear hO hB hl
      by_cases h1 : i < n
      · have hix : i < rs.length := by rw [HN.out]; exact h1
        obtain ⟨b', off', cs, hab, _, _, hcl, hcc, hel⟩ := H.out.at i hix
        cases hab
        have HL := Lib.hid hcl
        obtain ⟨-, -, -, -, -, pc⟩ := rule_cells hel
        have PC := Lib.hid pc
        have R1 := Lib.hid (rangeBelow (rangeOf hcl hcc) HB.out)
        obtain ⟨_, u7, _, _, _, _, _, _, hcs, _, k7, _⟩ := rule_open hel
        have p7 : cs[7]? = some u7 := by rw [hcs]; rfl
        obtain ⟨a7, c7, rfl⟩ := k7.shape
        have P7 := Lib.hid p7
        have hg2 : rs[i].guards.length ≤ 2 := H2.out _ (List.getElem_mem hix)
        have DS := Lib.hid (diffG_succ hix)
        generalize rs[i].guards = gs at k7 P7 hg2 DS
        have K7 := Lib.hid k7
        clear hcl hcc hel pc hcs p7 k7
        go_upto_region 4 with (fail)
        refine wp_region_lit ?_
        refine wpList_step fun K hK => ?_
        go_simp
        refine hK _ _ ?_
        clear hK K
        refine ld_mid Tryd.underlying76 info_rule (by rfl) (.tmp 12) (by rfl) b (off + i * 18) cs (by rfl) HL.out R1.out ?_
        refine wpList_step fun K hK => ?_
        go_simp
        refine hK _ _ ?_
        clear hK K
        refine st_whole (T := 76) info_rule (by rfl) (.tmp 5) (.tmp 13) (by rfl) wr.heap.size cs (by rfl) (by rfl) HL.out (heap_new _ _ rfl) (by rfl) PC.out (fun Z hZ hbl hsz _ => ?_)
        have ZB := Lib.hid (show Below w.heap.size w Z from hbl _ _ HB.out.size (HB.out.trans ((allocBelow wr _).mono HB.out.size)))
        have ZR := Lib.hid (show Below wr.heap.size wr Z from hbl _ _ (Nat.le_refl _) (allocBelow wr _))
        have z7 : Z.cell? ⟨wr.heap.size, 7, none⟩ = some (.slice a7 gs.length c7) := cellB hZ 7 (by simpa using P7.out)
        have ZO := Lib.hid (HO.out.still ZR.out)
        clear hZ hbl hsz ZR
        refine wpList_nil ?_
        simp only [Act.put]
        generalize hM : gs.length = m at z7 hg2
        have HM := Lib.hid hM
        rw [hM] at K7
        clear hM
        go_wp2_with fail
        go_loopw [3, 17] (fun v u wr' => ∃ (j : Nat) (a : Option Addr) (c : Nat) (l' : List Th), j ≤ m ∧ u = .int .i64 j ∧ v = .slice a l'.length c ∧ l' = (gs.take j).foldl addT l ∧ l'.length ≤ l.length + j ∧ OwnTh w.heap.size wr' (.slice a l'.length c) l' ∧ Below w.heap.size w wr') (fun _ u _ => m - (intOf u).toNat)
        case atStart => exact ⟨0, a, ca, l, Nat.zero_le _, rfl, rfl, rfl, Nat.le_refl _, ZO.out, ZB.out⟩
        case round =>
          obtain ⟨j, aj, cj, l', hj, rfl, rfl, hl', hlen', hOj, hBj⟩ := hrel
          have HOj := Lib.hid hOj
          have HBj := Lib.hid hBj
          have HLJ := Lib.hid hl'
          clear hOj hBj hl'
          by_cases hjm : j < m
          · have hjx : j < gs.length := by rw [HM.out]; exact hjm
            obtain ⟨bg, og, csg, hag, _, hbgw, hcl, hcc, hel⟩ := K7.out.at j hjx
            have hbg2 := hbgw
            cases hag
            obtain ⟨hel1, hI⟩ : csg = thC gs[j] ∧ thI gs[j] := hel
            have HI := Lib.hid hI
            have RG := Lib.hid (rangeBelow (rangeOf hcl hcc) HBj.out)
            have IS := Lib.hid (inner_succ (l0 := l) hjx)
            rw [hel1] at RG
            clear hel1 hcl hcc hI
            generalize gs[j] = x at RG HI IS
            go_upto_region 7 with (fail)
            refine wp_region_lit ?_
            refine wpList_step fun K hK => ?_
            go_simp
            refine hK _ _ ?_
            clear hK K
            refine ld_mid Tryd.underlying55 info_th (by rfl) (.tmp 19) (by rfl) bg (og + j * 6) (thC x) (by rfl) (by rfl) RG.out ?_
            refine wpList_step fun K hK => ?_
            go_simp
            refine hK _ _ ?_
            clear hK K
            obtain ⟨X, hX⟩ : ∃ X : World, X = wr := ⟨_, rfl⟩
            rw [← hX] at HOj HBj ⊢
            clear hX
            refine st_whole (T := 55) info_th (by rfl) (.tmp 7) (.tmp 20) (by rfl) X.heap.size (thC x) (by rfl) (by rfl) (by rfl) (heap_new _ _ rfl) (by rfl) (by intro v hv; simp [thC] at hv; rcases hv with rfl | rfl | rfl | rfl | rfl | rfl <;> rfl) (fun Y hY hbl hsz _ => ?_)
            have YB := Lib.hid (show Below w.heap.size w Y from hbl _ _ HBj.out.size (HBj.out.trans ((allocBelow X _).mono HBj.out.size)))
            have YR := Lib.hid (show Below X.heap.size X Y from hbl _ _ (Nat.le_refl _) (allocBelow X _))
            have y0 : Y.cell? ⟨X.heap.size, 0, none⟩ = some (.int .i64 x.msg) := cellB hY 0 (by rfl)
            have y1 : Y.cell? ⟨X.heap.size, 1, none⟩ = some (.int .i64 x.coef) := cellB hY 1 (by rfl)
            have y2 : Y.cell? ⟨X.heap.size, 2, none⟩ = some (.int .i64 x.bd.c) := cellB hY 2 (by rfl)
            have y3 : Y.cell? ⟨X.heap.size, 3, none⟩ = some (.int .i64 x.bd.n) := cellB hY 3 (by rfl)
            have y4 : Y.cell? ⟨X.heap.size, 4, none⟩ = some (.int .i64 x.bd.t) := cellB hY 4 (by rfl)
            have y5 : Y.cell? ⟨X.heap.size, 5, none⟩ = some (.int .i64 x.bd.f) := cellB hY 5 (by rfl)
            have YO := Lib.hid (HOj.out.still YR.out)
            have hYs : X.heap.size < Y.heap.size := by rw [hsz]; simp
            have HYS := Lib.hid hYs
            clear hY hbl hsz YR RG
            refine wpList_nil ?_
            simp only [Act.put]
            by_cases hin : x ∈ l'
            · have hd : decide (x ∈ l') = true := decide_eq_true hin
              have HD := Lib.hid hd
              have HADD := Lib.hid (show addT l' x = l' from if_pos hin)
              clear hin hd
              go_wp2_with (go_at_call 99; (with_reducible refine (ContainsTh_any x.msg x.coef x.bd.c x.bd.n x.bd.t x.bd.f YO.out.sl).mono ?_); rw [HD.out]; rintro e w2 ⟨rfl, hb2⟩; have HB2 := Lib.hid hb2; clear hb2)
              go_roundw
              case rel => exact ⟨j + 1, aj, cj, l', by omega, by go_num, rfl, by rw [IS.out, ← HLJ.out, HADD.out], by omega, YO.out.still HB2.out, thenBelow YB.out HB2.out⟩
              case measure => simp [intOf]; omega
            · have hd : decide (x ∈ l') = false := decide_eq_false hin
              have HD := Lib.hid hd
              have HADD := Lib.hid (show addT l' x = l' ++ [x] from if_neg hin)
              clear hin hd
              go_wp2_with (first | (go_at_call 99; (with_reducible refine (ContainsTh_any x.msg x.coef x.bd.c x.bd.n x.bd.t x.bd.f YO.out.sl).mono ?_); rw [HD.out]; rintro e w2 ⟨rfl, hb2⟩; have HB2 := Lib.hid hb2; have HO2 := Lib.hid (YO.out.still hb2); have h20 := keep1 y0 hb2; have h21 := keep1 y1 hb2; have h22 := keep1 y2 hb2; have h23 := keep1 y3 hb2; have h24 := keep1 y4 hb2; have h25 := keep1 y5 hb2; clear hb2) | (at_builtin; refine append_one elTh (by rfl) (.tmp 25) (.tmp 27) (by rfl) w.heap.size _ l'.length _ (thC x) w2.heap.size (by rfl) (by rfl) (by rfl) HO2.out.1 (by rfl) (by intro v hv; simp [thC] at hv; rcases hv with rfl | rfl | rfl | rfl | rfl | rfl <;> rfl) (by omega) (by unfold maxLen; omega) ((thenBelow YB.out HB2.out).size) (by rfl) ?_; intro g cap w3 hown hgrow hat hlo hlt hsz))
              go_roundw
              case rel =>
                refine ⟨j + 1, some ⟨g, 0, none⟩, cap, l' ++ [x], by omega, by go_num, by simp, by rw [IS.out, ← HLJ.out, HADD.out], by simp; omega, ⟨?_, ?_⟩, ?_⟩
                · rw [List.length_append, List.flatMap_append]; simpa using hown
                · intro y hy
                  rcases List.mem_append.1 hy with hy | hy
                  · exact HO2.out.2 y hy
                  · rw [List.mem_singleton.1 hy]; exact HI.out
                · exact (thenBelow YB.out HB2.out).grown hgrow (thenBelow YB.out HB2.out).size (row_above HO2.out.1)
              case measure => simp [intOf]; omega
          · obtain rfl : j = m := by omega
            go_wp2_with fail
            go_roundw
            case rel =>
              have e2 : l' = diffG (rs.take (i + 1)) := by rw [HLJ.out, DS.out, List.take_of_length_le (by rw [HM.out]; exact Nat.le_refl _), HLI.out]
              exact ⟨i + 1, aj, cj, l', by omega, by go_num, rfl, e2, by omega, HOj.out, HBj.out⟩
            case measure => simp [intOf]; omega
      · obtain rfl : i = n := by omega
        go_wp2_with fail
        go_ret
        have e2 : diffG (rs.take i) = diffG rs := by rw [List.take_of_length_le (by rw [HN.out]; exact Nat.le_refl _)]
        exact ⟨_, rfl, by rw [← e2, ← HLI.out]; exact HO.out, HB.out⟩
end Go.Proofs.YtmpbfdfjcfanoaaDoor

/-
  distinct OF THE REFERENCE.
-/
namespace Go.Proofs.YtmpbfdfjcfanoaaDoor
open Go.RowKit Go.Deep
theorem row_lower {w : World} {B B' : Nat} {e : TypeId} {size n : Nat} {v : Value} {xs : List Value} (h : w.ownsRow B e size v n xs) (hb : B' ≤ B) : w.ownsRow B' e size v n xs := by
  obtain ⟨h1, h2⟩ := h
  refine ⟨h1, ?_⟩
  rcases h2 with h2 | ⟨g, cap, cur, hv, hg, r⟩
  · exact .inl h2
  · exact .inr ⟨g, cap, cur, hv, Nat.le_trans hb hg, r⟩
set_option maxHeartbeats 6400000 in
theorem distinct_any {lo : Nat} {w : World} {v : Value} {q : Fm} (hq : IsFam lo w v q) (h8 : q.rules.length ≤ 8) (h2 : ∀ r ∈ q.rules, r.guards.length ≤ 2) :
    Calls Tryd.prog 61 #[v] w fun e w' => ∃ v', e = .returned v' ∧ OwnTh w.heap.size w' v' (diffG q.rules) ∧ Below w.heap.size w w' := by
  have G2 := Lib.hid h2
  obtain ⟨v2, v3, v4, v6, v7, v8, v9, rfl, hnm, _, h2, h3, h4, _, h6, h7, h8', h9⟩ := hq
  obtain ⟨a2, c2, rfl⟩ := h2.shape
  obtain ⟨a3, c3, rfl⟩ := h3.shape
  obtain ⟨a4, c4, rfl⟩ := h4.shape
  obtain ⟨a6, c6, rfl⟩ := h6.shape
  obtain ⟨a7, c7, rfl⟩ := h7.shape
  obtain ⟨a8, c8, rfl⟩ := h8'.shape
  have H9 := Lib.hid h9
  clear h2 h3 h4 h6 h7 h8' hnm
  rcases sl_cases h9 with ⟨hnil, a9, c9, rfl⟩ | ⟨b, off, c9, rfl, hbw, _⟩
  · have E := Lib.hid (show diffG q.rules = [] by rw [hnil]; rfl)
    clear h9 H9 h8 hnil
    go_enter Tryd.func61, Tryd.ntmps61
    go_wp2_with fail
    refine wp_loop_rounds 1 ?_
    rw [rounds_succ]
    go_wp2_with fail
    go_ret
    exact ⟨_, rfl, by rw [E.out]; exact OwnTh.nil _ _, allocBelow _ _⟩
  · clear h9
    generalize hN : q.rules.length = n at h8 H9
    have HN := Lib.hid hN
    clear hN
    go_enter Tryd.func61, Tryd.ntmps61
    go_upto_region 1 with (fail)
    obtain ⟨W, hW⟩ : ∃ W : World, W = w.alloc (.cells #[.string q.nm, .int .i64 q.top, .slice a2 q.states.length c2, .slice a3 q.msgs.length c3, .slice a4 q.vals.length c4, .int .i64 q.fault, .slice a6 q.res.length c6, .slice a7 q.init.length c7, .slice a8 q.leader.length c8, .slice (some ⟨b, off, none⟩) n c9] 27) := ⟨_, rfl⟩
    rw [← hW]
    have HW := Lib.hid (show Below w.heap.size w W by rw [hW]; exact allocBelow _ _)
    have HP := Lib.hid (show W.heap[w.heap.size]? = some (.cells #[.string q.nm, .int .i64 q.top, .slice a2 q.states.length c2, .slice a3 q.msgs.length c3, .slice a4 q.vals.length c4, .int .i64 q.fault, .slice a6 q.res.length c6, .slice a7 q.init.length c7, .slice a8 q.leader.length c8, .slice (some ⟨b, off, none⟩) n c9] 27 (0, 0)) by rw [hW]; exact heap_new _ _ rfl)
    clear hW
    go_wp2_with fail
    go_loopw [3, 4] (fun v u wr => ∃ (i : Nat) (a : Option Addr) (c : Nat) (l : List Th), i ≤ n ∧ u = .int .i64 i ∧ v = .slice a l.length c ∧ l = diffG (q.rules.take i) ∧ l.length ≤ 2 * i ∧ OwnTh W.heap.size wr (.slice a l.length c) l ∧ Below W.heap.size W wr) (fun _ u _ => n - (intOf u).toNat)
    case atStart => exact ⟨0, none, 0, [], Nat.zero_le _, rfl, rfl, rfl, by simp, OwnTh.nil _ _, Below.refl _ _⟩
    case round =>
      obtain ⟨i, a, ca, l, hi, rfl, rfl, hl, hlen, hO, hB⟩ := hrel
      have HO := Lib.hid hO
      have HB := Lib.hid hB
      have HLI := Lib.hid hl
      have p9 : wr.cell? ⟨w.heap.size, 9, none⟩ = some (.slice (some ⟨b, off, none⟩) n c9) := cellB (keepB HP.out hB) 9 rfl
      clear hO hB hl
      by_cases h1 : i < n
      · have hix : i < q.rules.length := by rw [HN.out]; exact h1
        obtain ⟨b', off', cs, hab, _, _, hcl, hcc, hel⟩ := H9.out.at i hix
        cases hab
        obtain ⟨_, u7, _, _, _, _, _, _, hcs, _, k7, _⟩ := rule_open hel
        have p7 : cs[7]? = some u7 := by rw [hcs]; rfl
        obtain ⟨a7', c7', rfl⟩ := k7.shape
        have r7 : w.cell? ⟨b, off + i * 18 + 7, none⟩ = some (.slice a7' q.rules[i].guards.length c7') := (hcc 7 (by omega)).trans p7
        have hg2 : q.rules[i].guards.length ≤ 2 := G2.out _ (List.getElem_mem hix)
        have DS := Lib.hid (diffG_succ hix)
        generalize q.rules[i].guards = gs at k7 r7 hg2 DS
        generalize hM : gs.length = m at r7 hg2 k7
        have HM := Lib.hid hM
        have K7 := Lib.hid k7
        have R7 := Lib.hid r7
        clear hcl hcc hel hcs p7 k7 hM r7
        go_wp2_with fail
        go_loopw [3, 5] (fun v u wr' => ∃ (j : Nat) (a : Option Addr) (c : Nat) (l' : List Th), j ≤ m ∧ u = .int .i64 j ∧ v = .slice a l'.length c ∧ l' = (gs.take j).foldl addT l ∧ l'.length ≤ l.length + j ∧ OwnTh W.heap.size wr' (.slice a l'.length c) l' ∧ Below W.heap.size W wr') (fun _ u _ => m - (intOf u).toNat)
        case atStart => exact ⟨0, a, ca, l, Nat.zero_le _, rfl, rfl, rfl, Nat.le_refl _, HO.out, HB.out⟩
        case round =>
          clear p9
          obtain ⟨j, aj, cj, l', hj, rfl, rfl, hl', hlen', hOj, hBj⟩ := hrel
          obtain ⟨X, hX⟩ : ∃ X : World, X = wr := ⟨_, rfl⟩
          rw [← hX] at hOj hBj ⊢
          clear hX
          have HOj := Lib.hid hOj
          have HBj := Lib.hid hBj
          have HLJ := Lib.hid hl'
          have p9 : X.cell? ⟨w.heap.size, 9, none⟩ = some (.slice (some ⟨b, off, none⟩) n c9) := cellB (keepB HP.out hBj) 9 rfl
          have r7 : X.cell? ⟨b, off + i * 18 + 7, none⟩ = some (.slice a7' m c7') := ((thenBelow HW.out hBj).cell (p := ⟨b, off + i * 18 + 7, none⟩) hbw).trans R7.out
          clear hOj hBj hl'
          by_cases hjm : j < m
          · have hjx : j < gs.length := by rw [HM.out]; exact hjm
            obtain ⟨bg, og, csg, hag, _, hbgw, hcl, hcc, hel⟩ := K7.out.at j hjx
            cases hag
            obtain ⟨hel1, hI⟩ : csg = thC gs[j] ∧ thI gs[j] := hel
            have HI := Lib.hid hI
            have RG := Lib.hid (rangeBelow (rangeOf hcl hcc) (thenBelow HW.out HBj.out))
            have IS := Lib.hid (inner_succ (l0 := l) hjx)
            rw [hel1] at RG
            clear hel1 hcl hcc hI
            generalize gs[j] = x at RG HI IS
            go_upto_region 8 with (fail)
            refine wp_region_lit ?_
            iterate 8
              refine wpList_step fun K hK => ?_
              go_simp
              refine hK _ _ ?_
              clear hK K
            refine ld_mid Tryd.underlying55 info_th (by rfl) (.tmp 32) (by rfl) bg (og + j * 6) (thC x) (by rfl) (by rfl) RG.out ?_
            refine wpList_step fun K hK => ?_
            go_simp
            refine hK _ _ ?_
            clear hK K
            refine st_whole (T := 55) info_th (by rfl) (.tmp 6) (.tmp 33) (by rfl) X.heap.size (thC x) (by rfl) (by rfl) (by rfl) (heap_new _ _ rfl) (by rfl) (by intro v hv; simp [thC] at hv; rcases hv with rfl | rfl | rfl | rfl | rfl | rfl <;> rfl) (fun Y hY hbl hsz _ => ?_)
            have YB := Lib.hid (show Below W.heap.size W Y from hbl _ _ HBj.out.size (HBj.out.trans ((allocBelow X _).mono HBj.out.size)))
            have YR := Lib.hid (show Below X.heap.size X Y from hbl _ _ (Nat.le_refl _) (allocBelow X _))
            have y0 : Y.cell? ⟨X.heap.size, 0, none⟩ = some (.int .i64 x.msg) := cellB hY 0 (by rfl)
            have y1 : Y.cell? ⟨X.heap.size, 1, none⟩ = some (.int .i64 x.coef) := cellB hY 1 (by rfl)
            have y2 : Y.cell? ⟨X.heap.size, 2, none⟩ = some (.int .i64 x.bd.c) := cellB hY 2 (by rfl)
            have y3 : Y.cell? ⟨X.heap.size, 3, none⟩ = some (.int .i64 x.bd.n) := cellB hY 3 (by rfl)
            have y4 : Y.cell? ⟨X.heap.size, 4, none⟩ = some (.int .i64 x.bd.t) := cellB hY 4 (by rfl)
            have y5 : Y.cell? ⟨X.heap.size, 5, none⟩ = some (.int .i64 x.bd.f) := cellB hY 5 (by rfl)
            have YO := Lib.hid (HOj.out.still YR.out)
            have hYs : X.heap.size < Y.heap.size := by rw [hsz]; simp
            have HYS := Lib.hid hYs
            clear hY hbl hsz YR RG p9 r7
            refine wpList_nil ?_
            simp only [Act.put]
            by_cases hin : x ∈ l'
            · have hd : decide (x ∈ l') = true := decide_eq_true hin
              have HD := Lib.hid hd
              have HADD := Lib.hid (show addT l' x = l' from if_pos hin)
              clear hin hd
              go_wp2_with (go_at_call 102; (with_reducible refine (ThIndex_any x.msg x.coef x.bd.c x.bd.n x.bd.t x.bd.f YO.out.sl).mono ?_); rintro e w2 ⟨k, rfl, hki, hb2⟩; have hk0 : ¬ k < 0 := (by have := hki.trans HD.out; simpa using this); have HB2 := Lib.hid hb2; clear hb2 hki)
              go_roundw
              case rel => exact ⟨j + 1, aj, cj, l', by omega, by go_num, rfl, by rw [IS.out, ← HLJ.out, HADD.out], by omega, YO.out.still HB2.out, YB.out.trans (HB2.out.mono YB.out.size)⟩
              case measure => simp [intOf]; omega
            · have hd : decide (x ∈ l') = false := decide_eq_false hin
              have HD := Lib.hid hd
              have HADD := Lib.hid (show addT l' x = l' ++ [x] from if_neg hin)
              clear hin hd
              go_wp2_with (first | (go_at_call 102; (with_reducible refine (ThIndex_any x.msg x.coef x.bd.c x.bd.n x.bd.t x.bd.f YO.out.sl).mono ?_); rintro e w2 ⟨k, rfl, hki, hb2⟩; have hk0 : k < 0 := (by have := hki.trans HD.out; simpa using this); have HB2 := Lib.hid hb2; have HO2 := Lib.hid (YO.out.still hb2); have h20 := keep1 y0 hb2; have h21 := keep1 y1 hb2; have h22 := keep1 y2 hb2; have h23 := keep1 y3 hb2; have h24 := keep1 y4 hb2; have h25 := keep1 y5 hb2; clear hb2 hki) | (at_builtin; refine append_one elTh (by rfl) (.tmp 38) (.tmp 40) (by rfl) W.heap.size _ l'.length _ (thC x) w2.heap.size (by rfl) (by rfl) (by rfl) HO2.out.1 (by rfl) (by intro v hv; simp [thC] at hv; rcases hv with rfl | rfl | rfl | rfl | rfl | rfl <;> rfl) (by omega) (by unfold maxLen; omega) ((YB.out.trans (HB2.out.mono YB.out.size)).size) (by rfl) ?_; intro g cap w3 hown hgrow hat hlo hlt hsz))
              go_roundw
              case rel =>
                refine ⟨j + 1, some ⟨g, 0, none⟩, cap, l' ++ [x], by omega, by go_num, by simp, by rw [IS.out, ← HLJ.out, HADD.out], by simp; omega, ⟨?_, ?_⟩, ?_⟩
                · rw [List.length_append, List.flatMap_append]; simpa using hown
                · intro y hy
                  rcases List.mem_append.1 hy with hy | hy
                  · exact HO2.out.2 y hy
                  · rw [List.mem_singleton.1 hy]; exact HI.out
                · exact (YB.out.trans (HB2.out.mono YB.out.size)).grown hgrow (YB.out.trans (HB2.out.mono YB.out.size)).size (row_above HO2.out.1)
              case measure => simp [intOf]; omega
          · obtain rfl : j = m := by omega
            go_wp2_with fail
            go_roundw
            case rel =>
              have e2 : l' = diffG (q.rules.take (i + 1)) := by rw [HLJ.out, DS.out, List.take_of_length_le (by rw [HM.out]; exact Nat.le_refl _), HLI.out]
              exact ⟨i + 1, aj, cj, l', by omega, by go_num, rfl, e2, by omega, HOj.out, HBj.out⟩
            case measure => simp [intOf]; omega
      · obtain rfl : i = n := by omega
        go_wp2_with fail
        go_ret
        have e2 : diffG (q.rules.take i) = diffG q.rules := by rw [List.take_of_length_le (by rw [HN.out]; exact Nat.le_refl _)]
        refine ⟨_, rfl, ?_, thenBelow HW.out HB.out⟩
        rw [← e2, ← HLI.out]
        exact ⟨row_lower HO.out.1 HW.out.size, HO.out.2⟩
end Go.Proofs.YtmpbfdfjcfanoaaDoor

/-
  THE REFERENCE'S NAMES: lists of texts as they lie in memory, HasText, reserved, ValidName.
-/
namespace Go.Proofs.YtmpbfdfjcfanoaaDoor
open Go.RowKit Go.Deep

/-- The value v is a slice that reads as the texts xs in the world w; its cells lie in a block from lo on. -/
def IsStrs (lo : Nat) (w : World) (v : Value) (xs : List ByteArray) : Prop :=
  ∃ (a : Option Addr) (cap : Nat), v = .slice a xs.length cap ∧ xs.length ≤ cap ∧ cap ≤ maxLen ∧ ((∀ x ∈ xs, x.size ≤ maxLen) ∧ (a = none → cap = 0)) ∧
    (xs = [] ∨ ∃ b off, a = some ⟨b, off, none⟩ ∧ lo ≤ b ∧ b < w.heap.size ∧ ∀ i, i < xs.length → w.cell? ⟨b, off + i, none⟩ = some (.string (xs.getD i ⟨#[]⟩)))
theorem IsStrs.below {lo : Nat} {w w' : World} {v : Value} {xs : List ByteArray} (h : IsStrs lo w v xs) (hb : Below w.heap.size w w') : IsStrs lo w' v xs := by
  obtain ⟨a, cap, hv, hl, hm, hi, hc⟩ := h
  refine ⟨a, cap, hv, hl, hm, hi, ?_⟩
  rcases hc with hc | ⟨b, off, ha, hlo, hbk, hcell⟩
  · exact .inl hc
  · exact .inr ⟨b, off, ha, hlo, Nat.lt_of_lt_of_le hbk hb.size, fun i hi => (hb.cell (p := ⟨b, off + i, none⟩) hbk).trans (hcell i hi)⟩
theorem IsStrs.mono {lo lo' : Nat} {w : World} {v : Value} {xs : List ByteArray} (h : IsStrs lo w v xs) (hl : lo' ≤ lo) : IsStrs lo' w v xs := by
  obtain ⟨a, cap, hv, h1, hm, hi, hc⟩ := h
  refine ⟨a, cap, hv, h1, hm, hi, ?_⟩
  rcases hc with hc | ⟨b, off, ha, hlo, r⟩
  · exact .inl hc
  · exact .inr ⟨b, off, ha, Nat.le_trans hl hlo, r⟩
theorem IsStrs.shape {lo : Nat} {w : World} {v : Value} {xs : List ByteArray} (h : IsStrs lo w v xs) : ∃ a cap, v = .slice a xs.length cap := by
  obtain ⟨a, cap, hv, _⟩ := h
  exact ⟨a, cap, hv⟩

def hasT (xs : List ByteArray) (s : ByteArray) : Bool := xs.any fun x => x.toList == s.toList
def hasK (xs : List ByteArray) (s : ByteArray) (k : Nat) : Bool := (xs.take k).any fun x => x.toList == s.toList
theorem hasK_succ {xs : List ByteArray} {s : ByteArray} {k : Nat} (h : k < xs.length) (hk : hasK xs s k = false) (hp : (xs[k].toList == s.toList) = false) : hasK xs s (k + 1) = false := by
  unfold hasK at *; rw [List.take_succ_eq_append_getElem h, List.any_append, hk]; simp only [List.any_cons, List.any_nil, hp, Bool.or_self]
theorem hasT_yes {xs : List ByteArray} {s : ByteArray} {k : Nat} (h : k < xs.length) (hp : (xs[k].toList == s.toList) = true) : hasT xs s = true := by
  unfold hasT; rw [List.any_eq_true]; exact ⟨xs[k], List.getElem_mem h, hp⟩
theorem hasT_no {xs : List ByteArray} {s : ByteArray} {k : Nat} (h : k = xs.length) (hk : hasK xs s k = false) : hasT xs s = false := by
  unfold hasK at hk; rwa [List.take_of_length_le (by omega)] at hk

set_option maxHeartbeats 400000 in
theorem HasText_full (b off n cap : Nat) (s : ByteArray) (w : World) (xs : List ByteArray) (hx : xs.length = n) (hn : n ≤ 9223372036854775807)
    (hc : ∀ i, i < n → w.cell? ⟨b, off + i, none⟩ = some (.string (xs.getD i ⟨#[]⟩))) :
    Calls Tryd.prog 57 #[.slice (some ⟨b, off, none⟩) n cap, .string s] w fun e w' => e = .returned (.bool (hasT xs s)) ∧ w = w' := by
  go_enter Tryd.func57, Tryd.ntmps57
  go_wp2_with fail
  go_loop [5] (fun v => ∃ k : Nat, k ≤ n ∧ v = .int .i64 k ∧ hasK xs s k = false) (fun v => n - (intOf v).toNat)
  case atStart => exact ⟨0, Nat.zero_le _, rfl, rfl⟩
  case round =>
    obtain ⟨k, hk, rfl, hall⟩ := hrel
    have HA := Lib.hid hall
    clear hall
    by_cases h1 : k < n
    · have hxk : xs.getD k ⟨#[]⟩ = xs[k] := by simp [List.getD, List.getElem?_eq_getElem (show k < xs.length by omega)]
      have g1 : w.cell? ⟨b, off + k, none⟩ = some (.string xs[k]) := (hc k h1).trans (by rw [hxk])
      clear hxk
      cases h2 : (xs[k].toList == s.toList) with
      | true =>
        go_wp2_with fail
        go_ret
        exact ⟨ret_bool (by rw [hasT_yes (k := k) (by omega) h2]), rfl⟩
      | false =>
        go_wp2_with fail
        go_round
        case rel => exact ⟨k + 1, by omega, by go_num, hasK_succ (by omega) HA.out h2⟩
        case measure => simp [intOf]; omega
    · go_wp2_with fail
      go_ret
      exact ⟨ret_bool (by rw [hasT_no (by omega) HA.out]), rfl⟩
theorem HasText_empty (a : Option Addr) (cap : Nat) (s : ByteArray) (w : World) :
    Calls Tryd.prog 57 #[.slice a 0 cap, .string s] w fun e w' => e = .returned (.bool (hasT [] s)) ∧ w = w' := by
  go_enter Tryd.func57, Tryd.ntmps57
  go_wp2_with fail
  refine wp_loop_rounds 1 ?_
  rw [rounds_succ]
  go_wp2_with fail
  go_ret
  exact ⟨rfl, rfl⟩
theorem HasText_any {lo : Nat} {w : World} {v : Value} {xs : List ByteArray} (s : ByteArray) (h : IsStrs lo w v xs) :
    Calls Tryd.prog 57 #[v, .string s] w fun e w' => e = .returned (.bool (hasT xs s)) ∧ w = w' := by
  obtain ⟨a, cap, rfl, hl, hm, hi, hc⟩ := h
  unfold maxLen at hm
  rcases hc with rfl | ⟨b, off, rfl, _, hb, hc⟩
  · exact HasText_empty _ _ _ _
  · exact HasText_full _ _ _ _ _ _ _ rfl (by omega) hc

theorem strs_of_alloc (w : World) (t : TypeId) (xs : List ByteArray) (n : Nat) (cs : Array Value) (hn : n = xs.length) (hc : cs = (xs.map Value.string).toArray) (hm : xs.length ≤ maxLen) (hx : ∀ x ∈ xs, x.size ≤ maxLen) :
    IsStrs w.heap.size (w.alloc (.cells cs t)) (.slice (some ⟨w.heap.size, 0, none⟩) n n) xs := by
  subst hn; subst hc
  refine ⟨_, _, rfl, Nat.le_refl _, hm, ⟨hx, fun e => by cases e⟩, .inr ⟨w.heap.size, 0, rfl, Nat.le_refl _, by simp, fun i hi => ?_⟩⟩
  simp [hi]
theorem resW_small : ∀ x ∈ resW.map (fun l => (⟨l.toArray⟩ : ByteArray)), x.size ≤ maxLen := by
  intro x hx
  obtain ⟨l, hl, rfl⟩ := List.mem_map.1 hx
  have : ∀ l ∈ resW, l.length ≤ 12 := by decide
  have h := this l hl
  have e : (⟨l.toArray⟩ : ByteArray).size = l.length := by simp [ByteArray.size]
  rw [e]; unfold maxLen; omega

set_option maxHeartbeats 1600000 in
set_option maxRecDepth 100000 in
theorem reserved_any (w : World) :
    Calls Tryd.prog 100 #[] w fun e w' => ∃ v, e = .returned v ∧ IsStrs w.heap.size w' v (resW.map fun l => ⟨l.toArray⟩) ∧ Below w.heap.size w w' := by
  go_enter Tryd.func100, Tryd.ntmps100
  go_wp2
  go_ret
  exact ⟨_, rfl, strs_of_alloc w _ _ 43 _ rfl rfl (by unfold maxLen; simp [resW]) resW_small, allocBelow _ _⟩

/-- The reserved words as texts. -/
theorem hasT_resW (s : ByteArray) : hasT (resW.map fun l => ⟨l.toArray⟩) s = resB s.toList := by
  unfold hasT resB
  rw [List.any_map]
  congr 1
  funext l
  simp only [Function.comp, ByteArray.toList_mk]
  rw [Bool.eq_iff_iff, beq_iff_eq, beq_iff_eq]; exact eq_comm

set_option maxHeartbeats 1600000 in
theorem rValidName_any (s : ByteArray) (w : World) (hs : s.size ≤ maxLen) :
    Calls Tryd.prog 55 #[.string s] w fun e w' => e = .returned (.bool (nameB s.toList)) ∧ Below w.heap.size w w' := by
  unfold maxLen at hs
  have e : Hid (nameB s.toList = (decide (1 ≤ s.toList.length) && decide (s.toList.length ≤ 12) && !resB s.toList && upB s.toList s.toList.length)) := (rfl : nameB _ = _)
  have el := Lib.hid (len_list s)
  have E1 : inB 1 12 (s.size : Int) = (decide (1 ≤ s.size) && decide (s.size ≤ 12)) := by unfold inB; congr 1 <;> (rw [decide_eq_decide]; omega)
  by_cases h1 : 1 ≤ s.size ∧ s.size ≤ 12
  · have h2 : inB 1 12 (s.size : Int) = true := by rw [E1]; simp [h1]
    clear E1
    have hp0 : 0 < s.size := by omega
    have hg0 : s.toList[0]'(by rw [len_list]; exact hp0) = s[0] := by have := get_list s 0 hp0; rw [← this]; simp [List.getD, len_list, hp0]
    have E0 : leB s[0] = (decide (97 ≤ (s[0].toNat : Int)) && decide ((s[0].toNat : Int) ≤ 122)) := rfl
    by_cases f1 : 97 ≤ (s[0].toNat : Int)
    · by_cases f2 : (s[0].toNat : Int) ≤ 122
      · have HL := Lib.hid (show leB s[0] = true by rw [E0]; simp only [f1, f2, decide_true, Bool.and_self])
        have HG := Lib.hid hg0
        clear E0 hg0
        go_enter Tryd.func55, Tryd.ntmps55
        go_wp2_with (first | (go_at_call 56; refine (swithin_any _ _ _ _).mono ?_; rintro e w' ⟨rfl, rfl⟩))
        go_loop [3] (fun v => ∃ k : Nat, k ≤ s.size ∧ v = .int .i64 k ∧ reB s.toList k = true) (fun v => s.size - (intOf v).toNat)
        case atStart => exact ⟨0, Nat.zero_le _, rfl, rfl⟩
        case round =>
          obtain ⟨k, hk, rfl, hup⟩ := hrel
          have HU := Lib.hid hup
          clear hup
          by_cases hlt : k < s.size
          · have hgk : s.toList[k]'(by rw [len_list]; exact hlt) = s[k] := by have := get_list s k hlt; rw [← this]; simp [List.getD, len_list, hlt]
            have HY := Lib.hid (fun (h : (leB s[k] || diB s[k]) = true) => reB_succ (by rw [len_list]; exact hlt) HU.out (by rw [hgk]; exact h))
            have HN := Lib.hid (fun (h : (leB s[k] || diB s[k]) = false) => reB_no (l := s.toList) (k := k) (by rw [len_list]; exact hlt) (by rw [hgk]; exact h))
            clear hgk
            have hcl : (97 ≤ (s[k].toNat : Int) ∧ (s[k].toNat : Int) ≤ 122) ∨ (48 ≤ (s[k].toNat : Int) ∧ (s[k].toNat : Int) ≤ 57) ∨ (s[k].toNat : Int) = 95 ∨ (s[k].toNat : Int) < 48 ∨ (57 < (s[k].toNat : Int) ∧ (s[k].toNat : Int) < 97 ∧ (s[k].toNat : Int) ≠ 95) ∨ 122 < (s[k].toNat : Int) := by omega
            rcases hcl with ⟨c1, c2⟩ | ⟨c1, c2⟩ | c1 | c1 | ⟨c1, c2, c3⟩ | c1
            · have HA := Lib.hid (HY.out (by have : leB s[k] = true := (by unfold leB; simp; omega); rw [this]; rfl))
              clear HY HN
              go_wp2_with fail
              all_goals
                go_round
                case rel => exact ⟨k + 1, by omega, by go_num, HA.out⟩
                case measure => simp [intOf]; omega
            · have HA := Lib.hid (HY.out (by have : diB s[k] = true := (by unfold diB; simp; omega); rw [this]; simp))
              have c3 : (s[k].toNat : Int) < 97 := by omega
              clear HY HN
              go_wp2_with fail
              all_goals
                go_round
                case rel => exact ⟨k + 1, by omega, by go_num, HA.out⟩
                case measure => simp [intOf]; omega
            · have HA := Lib.hid (HY.out (by have : diB s[k] = true := (by unfold diB; simp; omega); rw [this]; simp))
              have c2 : 57 < (s[k].toNat : Int) := by omega
              have c3 : (s[k].toNat : Int) < 97 := by omega
              have c4 : ((s[k].toNat : Int) == 95) = true := by rw [beq_iff_eq]; exact c1
              have c5 : ((s[k].toNat : Int) != 95) = false := by rw [bne, c4]; rfl
              have d0 : 48 ≤ (s[k].toNat : Int) := by omega
              clear c1
              clear HY HN
              go_wp2_with fail
              all_goals
                go_round
                case rel => exact ⟨k + 1, by omega, by go_num, HA.out⟩
                case measure => simp [intOf]; omega
            · have HA := Lib.hid (HN.out (by have a : leB s[k] = false := (by unfold leB; simp; omega); have b : diB s[k] = false := (by unfold diB; simp; omega); rw [a, b]; rfl))
              have c4 : ((s[k].toNat : Int) == 95) = false := by rw [beq_eq_false_iff_ne]; omega
              have c5 : ((s[k].toNat : Int) != 95) = true := by rw [bne, c4]; rfl
              clear HY HN
              go_wp2_with fail
              all_goals
                go_ret
                exact ⟨ret_bool (by rw [e.out, upB_reB (by rw [len_list]; exact hp0), HA.out]; simp), Below.refl _ _⟩
            · have HA := Lib.hid (HN.out (by have a : leB s[k] = false := (by unfold leB; simp; omega); have b : diB s[k] = false := (by unfold diB; simp; omega); rw [a, b]; rfl))
              have c4 : ((s[k].toNat : Int) == 95) = false := by rw [beq_eq_false_iff_ne]; omega
              have c5 : ((s[k].toNat : Int) != 95) = true := by rw [bne, c4]; rfl
              have d0 : 48 ≤ (s[k].toNat : Int) := by omega
              have d1 : decide ((s[k].toNat : Int) ≤ 57) = false := by rw [decide_eq_false_iff_not]; omega
              clear c3
              clear HY HN
              go_wp2_with fail
              all_goals
                go_ret
                exact ⟨ret_bool (by rw [e.out, upB_reB (by rw [len_list]; exact hp0), HA.out]; simp), Below.refl _ _⟩
            · have HA := Lib.hid (HN.out (by have a : leB s[k] = false := (by unfold leB; simp; omega); have b : diB s[k] = false := (by unfold diB; simp; omega); rw [a, b]; rfl))
              have c4 : ((s[k].toNat : Int) == 95) = false := by rw [beq_eq_false_iff_ne]; omega
              have c5 : ((s[k].toNat : Int) != 95) = true := by rw [bne, c4]; rfl
              have d0 : 48 ≤ (s[k].toNat : Int) := by omega
              have d1 : decide ((s[k].toNat : Int) ≤ 57) = false := by rw [decide_eq_false_iff_not]; omega
              have d2 : decide ((s[k].toNat : Int) ≤ 122) = false := by rw [decide_eq_false_iff_not]; omega
              have d3 : 97 ≤ (s[k].toNat : Int) := by omega
              have d4 : 57 < (s[k].toNat : Int) := by omega
              clear HY HN
              go_wp2_with fail
              all_goals
                go_ret
                exact ⟨ret_bool (by rw [e.out, upB_reB (by rw [len_list]; exact hp0), HA.out]; simp), Below.refl _ _⟩
          · have HE := Lib.hid (show nameB s.toList = !resB s.toList by
              rw [e.out, upB_reB (by rw [len_list]; exact hp0), HG.out, HL.out, el.out, decide_eq_true h1.1, decide_eq_true h1.2]
              have : s.size = k := by omega
              rw [this, HU.out]; simp)
            clear HU
            go_wp2_with (first | (go_at_call 100; refine (reserved_any _).mono ?_; rintro e w1 ⟨v, rfl, hv, hb1⟩; have HV := Lib.hid hv; clear hv) | (go_at_call 57; refine (HasText_any _ HV.out).mono ?_; rintro e w' ⟨rfl, rfl⟩))
            go_ret
            exact ⟨ret_bool (by rw [hasT_resW, HE.out]), hb1⟩
      · have f2' : (122 : Int) < (s[0].toNat : Int) := by omega
        have HL := Lib.hid (show leB s[0] = false by rw [E0]; simp only [f1, f2, decide_true, decide_false, Bool.and_false])
        have HG := Lib.hid hg0
        clear E0 hg0
        go_enter Tryd.func55, Tryd.ntmps55
        go_wp2_with (first | (go_at_call 56; refine (swithin_any _ _ _ _).mono ?_; rintro e w' ⟨rfl, rfl⟩))
        go_ret
        exact ⟨ret_bool (by rw [e.out, upB_first (by rw [len_list]; exact hp0) (by rw [HG.out]; exact HL.out)]; simp), Below.refl _ _⟩
    · have f1' : (s[0].toNat : Int) < 97 := by omega
      have HL := Lib.hid (show leB s[0] = false by rw [E0]; simp only [f1, decide_false, Bool.false_and])
      have HG := Lib.hid hg0
      clear E0 hg0
      go_enter Tryd.func55, Tryd.ntmps55
      go_wp2_with (first | (go_at_call 56; refine (swithin_any _ _ _ _).mono ?_; rintro e w' ⟨rfl, rfl⟩))
      go_ret
      exact ⟨ret_bool (by rw [e.out, upB_first (by rw [len_list]; exact hp0) (by rw [HG.out]; exact HL.out)]; simp), Below.refl _ _⟩
  · have h2 : inB 1 12 (s.size : Int) = false := by rw [E1]; simp; omega
    clear E1
    go_enter Tryd.func55, Tryd.ntmps55
    go_wp2_with (first | (go_at_call 56; refine (swithin_any _ _ _ _).mono ?_; rintro e w' ⟨rfl, rfl⟩))
    go_ret
    exact ⟨ret_bool (by rw [e.out, el.out]; have := h1; revert this; by_cases a : 1 ≤ s.size <;> by_cases b : s.size ≤ 12 <;> simp [a, b]), Below.refl _ _⟩
end Go.Proofs.YtmpbfdfjcfanoaaDoor

/-
  Big: whether a family has long lists or long names.
-/
namespace Go.Proofs.YtmpbfdfjcfanoaaDoor
open Go.RowKit Go.Deep

def bigNk (xs : List ByteArray) (k : Nat) : Bool := (xs.take k).any fun s => decide (500 < s.size)
theorem bigNk_succ {xs : List ByteArray} {k : Nat} (h : k < xs.length) (hk : bigNk xs k = false) (hp : ¬ 500 < xs[k].size) : bigNk xs (k + 1) = false := by
  unfold bigNk at *; rw [List.take_succ_eq_append_getElem h, List.any_append, hk]; simp; omega
theorem bigNk_yes {xs : List ByteArray} {k : Nat} (h : k < xs.length) (hp : 500 < xs[k].size) : bigNk xs xs.length = true := by
  unfold bigNk; rw [List.take_length, List.any_eq_true]; exact ⟨xs[k], List.getElem_mem h, by simpa using hp⟩
def bigN (xs : List ByteArray) : Bool := bigNk xs xs.length

set_option maxHeartbeats 800000 in
theorem bigNames_any {lo : Nat} {w : World} {v : Value} {xs : List ByteArray} (h : IsSl 1 StrEl lo w v xs) :
    Calls Tryd.prog 39 #[v] w fun e w' => e = .returned (.bool (bigN xs)) ∧ w = w' := by
  have hb := h.bound
  have E : Hid (bigN xs = bigNk xs xs.length) := (rfl : bigN xs = _)
  obtain ⟨a, cap, rfl⟩ := h.shape
  have G := Lib.hid h
  clear h
  go_enter Tryd.func39, Tryd.ntmps39
  go_wp2_with fail
  go_loop [3] (fun v => ∃ k : Nat, k ≤ xs.length ∧ v = .int .i64 k ∧ bigNk xs k = false) (fun v => xs.length - (intOf v).toNat)
  case atStart => exact ⟨0, Nat.zero_le _, rfl, rfl⟩
  case round =>
    obtain ⟨k, hk, rfl, hs⟩ := hrel
    have HS := Lib.hid hs
    clear hs
    by_cases h1 : k < xs.length
    · obtain ⟨b, off, cs, rfl, _, _, _, hc, hcs, _⟩ := G.out.at k h1
      have g1 := hc 0 (by omega)
      rw [hcs] at g1
      simp only [Nat.mul_one, Nat.add_zero, List.getElem?_cons_zero] at g1
      clear hc hcs
      by_cases h2 : 500 < (xs[k]'h1).size
      · have h2' : (500 : Int) < (((xs[k]'h1).size : Nat) : Int) := by omega
        go_wp2_with fail
        go_ret
        exact ⟨ret_bool (by rw [E.out, bigNk_yes h1 h2]), rfl⟩
      · have h2' : ¬ (500 : Int) < (((xs[k]'h1).size : Nat) : Int) := by omega
        go_wp2_with fail
        go_round
        case rel => exact ⟨k + 1, by omega, by go_num, bigNk_succ h1 HS.out h2⟩
        case measure => simp [intOf]; omega
    · have HE := Lib.hid (show bigN xs = false by have : k = xs.length := by omega
                                                  rw [E.out, ← this, HS.out])
      go_wp2_with fail
      go_ret
      exact ⟨ret_bool (by rw [HE.out]), rfl⟩

def bigR (r : Ru) : Bool := decide (500 < r.nm.size) || decide (60 < r.resp.length) || decide (60 < r.guards.length) || decide (60 < r.ex.length) || decide (60 < r.fa.length) || decide (60 < r.send.length) || decide (60 < r.left.length) || decide (60 < r.right.length) || decide (60 < r.parent.length)
set_option maxHeartbeats 1600000 in
theorem bigRule_any {lo : Nat} {w : World} {cs : List Value} {r : Ru} (h : RuEl lo w cs r) :
    Calls Tryd.prog 38 #[.agg cs.toArray] w fun e w' => e = .returned (.bool (bigR r)) ∧ Below w.heap.size w w' := by
  obtain ⟨v6, v7, v8, v9, v12, v14, v15, v16, rfl, h0, h1, h2, h3, h4, h5, h6, h7, h8, h9, h10, h11, h12, h13, h14, h15, h16, h17⟩ := h
  have E : Hid (bigR r = (decide (500 < r.nm.size) || decide (60 < r.resp.length) || decide (60 < r.guards.length) || decide (60 < r.ex.length) || decide (60 < r.fa.length) || decide (60 < r.send.length) || decide (60 < r.left.length) || decide (60 < r.right.length) || decide (60 < r.parent.length))) := (rfl : bigR r = _)
  unfold maxLen at h0
  obtain ⟨a6, c6, rfl⟩ := h6.shape
  obtain ⟨a7, c7, rfl⟩ := h7.shape
  obtain ⟨a8, c8, rfl⟩ := h8.shape
  obtain ⟨a9, c9, rfl⟩ := h9.shape
  obtain ⟨a12, c12, rfl⟩ := h12.shape
  obtain ⟨a14, c14, rfl⟩ := h14.shape
  obtain ⟨a15, c15, rfl⟩ := h15.shape
  obtain ⟨a16, c16, rfl⟩ := h16.shape
  have b6 : r.resp.length ≤ 9223372036854775807 := by obtain ⟨_, _, _, hh, hm, _⟩ := h6; unfold maxLen at hm; omega
  have b7 : r.guards.length ≤ 9223372036854775807 := by have := h7.bound; exact this
  have b8 : r.ex.length ≤ 9223372036854775807 := by obtain ⟨_, _, _, hh, hm, _⟩ := h8; unfold maxLen at hm; omega
  have b9 : r.fa.length ≤ 9223372036854775807 := by obtain ⟨_, _, _, hh, hm, _⟩ := h9; unfold maxLen at hm; omega
  have b12 : r.send.length ≤ 9223372036854775807 := by obtain ⟨_, _, _, hh, hm, _⟩ := h12; unfold maxLen at hm; omega
  have b14 : r.left.length ≤ 9223372036854775807 := by obtain ⟨_, _, _, hh, hm, _⟩ := h14; unfold maxLen at hm; omega
  have b15 : r.right.length ≤ 9223372036854775807 := by obtain ⟨_, _, _, hh, hm, _⟩ := h15; unfold maxLen at hm; omega
  have b16 : r.parent.length ≤ 9223372036854775807 := by obtain ⟨_, _, _, hh, hm, _⟩ := h16; unfold maxLen at hm; omega
  clear h1 h2 h3 h4 h5 h6 h7 h8 h9 h10 h11 h12 h13 h14 h15 h16 h17
  by_cases t0 : 500 < r.nm.size
  · have i0 : (500 : Int) < ((r.nm.size : Nat) : Int) := by omega
    go_enter Tryd.func38, Tryd.ntmps38
    go_wp2_with fail
    go_ret
    exact ⟨ret_bool (by rw [E.out, decide_eq_true t0]; simp), allocBelow _ _⟩
  · have i0 : ¬ (500 : Int) < ((r.nm.size : Nat) : Int) := by omega
    by_cases t1 : 60 < r.resp.length
    · have i1 : (60 : Int) < ((r.resp.length : Nat) : Int) := by omega
      go_enter Tryd.func38, Tryd.ntmps38
      go_wp2_with fail
      go_ret
      exact ⟨ret_bool (by rw [E.out, decide_eq_true t1]; simp), allocBelow _ _⟩
    · have i1 : ¬ (60 : Int) < ((r.resp.length : Nat) : Int) := by omega
      by_cases t2 : 60 < r.guards.length
      · have i2 : (60 : Int) < ((r.guards.length : Nat) : Int) := by omega
        go_enter Tryd.func38, Tryd.ntmps38
        go_wp2_with fail
        go_ret
        exact ⟨ret_bool (by rw [E.out, decide_eq_true t2]; simp), allocBelow _ _⟩
      · have i2 : ¬ (60 : Int) < ((r.guards.length : Nat) : Int) := by omega
        by_cases t3 : 60 < r.ex.length
        · have i3 : (60 : Int) < ((r.ex.length : Nat) : Int) := by omega
          go_enter Tryd.func38, Tryd.ntmps38
          go_wp2_with fail
          go_ret
          exact ⟨ret_bool (by rw [E.out, decide_eq_true t3]; simp), allocBelow _ _⟩
        · have i3 : ¬ (60 : Int) < ((r.ex.length : Nat) : Int) := by omega
          by_cases t4 : 60 < r.fa.length
          · have i4 : (60 : Int) < ((r.fa.length : Nat) : Int) := by omega
            go_enter Tryd.func38, Tryd.ntmps38
            go_wp2_with fail
            go_ret
            exact ⟨ret_bool (by rw [E.out, decide_eq_true t4]; simp), allocBelow _ _⟩
          · have i4 : ¬ (60 : Int) < ((r.fa.length : Nat) : Int) := by omega
            by_cases t5 : 60 < r.send.length
            · have i5 : (60 : Int) < ((r.send.length : Nat) : Int) := by omega
              go_enter Tryd.func38, Tryd.ntmps38
              go_wp2_with fail
              go_ret
              exact ⟨ret_bool (by rw [E.out, decide_eq_true t5]; simp), allocBelow _ _⟩
            · have i5 : ¬ (60 : Int) < ((r.send.length : Nat) : Int) := by omega
              by_cases t6 : 60 < r.left.length
              · have i6 : (60 : Int) < ((r.left.length : Nat) : Int) := by omega
                go_enter Tryd.func38, Tryd.ntmps38
                go_wp2_with fail
                go_ret
                exact ⟨ret_bool (by rw [E.out, decide_eq_true t6]; simp), allocBelow _ _⟩
              · have i6 : ¬ (60 : Int) < ((r.left.length : Nat) : Int) := by omega
                by_cases t7 : 60 < r.right.length
                · have i7 : (60 : Int) < ((r.right.length : Nat) : Int) := by omega
                  go_enter Tryd.func38, Tryd.ntmps38
                  go_wp2_with fail
                  go_ret
                  exact ⟨ret_bool (by rw [E.out, decide_eq_true t7]; simp), allocBelow _ _⟩
                · have i7 : ¬ (60 : Int) < ((r.right.length : Nat) : Int) := by omega
                  by_cases t8 : 60 < r.parent.length
                  · have i8 : (60 : Int) < ((r.parent.length : Nat) : Int) := by omega
                    go_enter Tryd.func38, Tryd.ntmps38
                    go_wp2_with fail
                    go_ret
                    exact ⟨ret_bool (by rw [E.out, decide_eq_true t8]; simp), allocBelow _ _⟩
                  · have i8 : ¬ (60 : Int) < ((r.parent.length : Nat) : Int) := by omega
                    go_enter Tryd.func38, Tryd.ntmps38
                    go_wp2_with fail
                    go_ret
                    exact ⟨ret_bool (by rw [E.out, decide_eq_false t0, decide_eq_false t1, decide_eq_false t2, decide_eq_false t3, decide_eq_false t4, decide_eq_false t5, decide_eq_false t6, decide_eq_false t7, decide_eq_false t8]; rfl), allocBelow _ _⟩

def bigRk (xs : List Ru) (k : Nat) : Bool := (xs.take k).any bigR
theorem bigRk_succ {xs : List Ru} {k : Nat} (h : k < xs.length) (hk : bigRk xs k = false) (hp : bigR xs[k] = false) : bigRk xs (k + 1) = false := by
  unfold bigRk at *; rw [List.take_succ_eq_append_getElem h, List.any_append, hk]; simp [hp]
theorem bigRk_yes {xs : List Ru} {k : Nat} (h : k < xs.length) (hp : bigR xs[k] = true) : bigRk xs xs.length = true := by
  unfold bigRk; rw [List.take_length, List.any_eq_true]; exact ⟨xs[k], List.getElem_mem h, hp⟩
def bigF (q : Fm) : Bool := decide (500 < q.nm.size) || decide (60 < q.states.length) || decide (60 < q.msgs.length) || decide (60 < q.vals.length) || decide (60 < q.res.length) || decide (60 < q.init.length) || decide (60 < q.leader.length) || decide (30 < q.rules.length) || bigRk q.rules q.rules.length || bigN q.states || bigN q.msgs || bigN q.vals
set_option maxHeartbeats 3200000 in
theorem Big_any {lo : Nat} {w : World} {v : Value} {q : Fm} (h : IsFam lo w v q) :
    Calls Tryd.prog 13 #[v] w fun e w' => e = .returned (.bool (bigF q)) ∧ Below w.heap.size w w' := by
  obtain ⟨v2, v3, v4, v6, v7, v8, v9, rfl, h0, h1, h2, h3, h4, h5, h6, h7, h8, h9⟩ := h
  have E : Hid (bigF q = (decide (500 < q.nm.size) || decide (60 < q.states.length) || decide (60 < q.msgs.length) || decide (60 < q.vals.length) || decide (60 < q.res.length) || decide (60 < q.init.length) || decide (60 < q.leader.length) || decide (30 < q.rules.length) || bigRk q.rules q.rules.length || bigN q.states || bigN q.msgs || bigN q.vals)) := (rfl : bigF q = _)
  unfold maxLen at h0
  have b2 : q.states.length ≤ 9223372036854775807 := by exact h2.bound
  have b3 : q.msgs.length ≤ 9223372036854775807 := by exact h3.bound
  have b4 : q.vals.length ≤ 9223372036854775807 := by exact h4.bound
  have b6 : q.res.length ≤ 9223372036854775807 := by exact h6.bound
  have b7 : q.init.length ≤ 9223372036854775807 := by obtain ⟨_, _, _, hh, hm, _⟩ := h7; unfold maxLen at hm; omega
  have b8 : q.leader.length ≤ 9223372036854775807 := by obtain ⟨_, _, _, hh, hm, _⟩ := h8; unfold maxLen at hm; omega
  have b9 : q.rules.length ≤ 9223372036854775807 := by exact h9.bound
  obtain ⟨a2, c2, rfl⟩ := h2.shape
  obtain ⟨a3, c3, rfl⟩ := h3.shape
  obtain ⟨a4, c4, rfl⟩ := h4.shape
  obtain ⟨a6, c6, rfl⟩ := h6.shape
  obtain ⟨a7, c7, rfl⟩ := h7.shape
  obtain ⟨a8, c8, rfl⟩ := h8.shape
  obtain ⟨a9, c9, rfl⟩ := h9.shape
  have G2 := Lib.hid h2
  have G3 := Lib.hid h3
  have G4 := Lib.hid h4
  have G9 := Lib.hid h9
  clear h1 h2 h3 h4 h5 h6 h7 h8 h9
  by_cases t0 : 500 < q.nm.size
  · have i0 : (500 : Int) < ((q.nm.size : Nat) : Int) := by omega
    go_enter Tryd.func13, Tryd.ntmps13
    go_wp2_with fail
    go_ret
    exact ⟨ret_bool (by rw [E.out, decide_eq_true t0]; simp), allocBelow _ _⟩
  · have i0 : ¬ (500 : Int) < ((q.nm.size : Nat) : Int) := by omega
    by_cases t1 : 60 < q.states.length
    · have i1 : (60 : Int) < ((q.states.length : Nat) : Int) := by omega
      go_enter Tryd.func13, Tryd.ntmps13
      go_wp2_with fail
      go_ret
      exact ⟨ret_bool (by rw [E.out, decide_eq_true t1]; simp), allocBelow _ _⟩
    · have i1 : ¬ (60 : Int) < ((q.states.length : Nat) : Int) := by omega
      by_cases t2 : 60 < q.msgs.length
      · have i2 : (60 : Int) < ((q.msgs.length : Nat) : Int) := by omega
        go_enter Tryd.func13, Tryd.ntmps13
        go_wp2_with fail
        go_ret
        exact ⟨ret_bool (by rw [E.out, decide_eq_true t2]; simp), allocBelow _ _⟩
      · have i2 : ¬ (60 : Int) < ((q.msgs.length : Nat) : Int) := by omega
        by_cases t3 : 60 < q.vals.length
        · have i3 : (60 : Int) < ((q.vals.length : Nat) : Int) := by omega
          go_enter Tryd.func13, Tryd.ntmps13
          go_wp2_with fail
          go_ret
          exact ⟨ret_bool (by rw [E.out, decide_eq_true t3]; simp), allocBelow _ _⟩
        · have i3 : ¬ (60 : Int) < ((q.vals.length : Nat) : Int) := by omega
          by_cases t4 : 60 < q.res.length
          · have i4 : (60 : Int) < ((q.res.length : Nat) : Int) := by omega
            go_enter Tryd.func13, Tryd.ntmps13
            go_wp2_with fail
            go_ret
            exact ⟨ret_bool (by rw [E.out, decide_eq_true t4]; simp), allocBelow _ _⟩
          · have i4 : ¬ (60 : Int) < ((q.res.length : Nat) : Int) := by omega
            by_cases t5 : 60 < q.init.length
            · have i5 : (60 : Int) < ((q.init.length : Nat) : Int) := by omega
              go_enter Tryd.func13, Tryd.ntmps13
              go_wp2_with fail
              go_ret
              exact ⟨ret_bool (by rw [E.out, decide_eq_true t5]; simp), allocBelow _ _⟩
            · have i5 : ¬ (60 : Int) < ((q.init.length : Nat) : Int) := by omega
              by_cases t6 : 60 < q.leader.length
              · have i6 : (60 : Int) < ((q.leader.length : Nat) : Int) := by omega
                go_enter Tryd.func13, Tryd.ntmps13
                go_wp2_with fail
                go_ret
                exact ⟨ret_bool (by rw [E.out, decide_eq_true t6]; simp), allocBelow _ _⟩
              · have i6 : ¬ (60 : Int) < ((q.leader.length : Nat) : Int) := by omega
                by_cases t7 : 30 < q.rules.length
                · have i7 : (30 : Int) < ((q.rules.length : Nat) : Int) := by omega
                  go_enter Tryd.func13, Tryd.ntmps13
                  go_wp2_with fail
                  go_ret
                  exact ⟨ret_bool (by rw [E.out, decide_eq_true t7]; simp), allocBelow _ _⟩
                · have i7 : ¬ (30 : Int) < ((q.rules.length : Nat) : Int) := by omega
                  have E' := Lib.hid (show bigF q = (bigRk q.rules q.rules.length || bigN q.states || bigN q.msgs || bigN q.vals) by rw [E.out, decide_eq_false t0, decide_eq_false t1, decide_eq_false t2, decide_eq_false t3, decide_eq_false t4, decide_eq_false t5, decide_eq_false t6, decide_eq_false t7]; rfl)
                  clear E
                  go_enter Tryd.func13, Tryd.ntmps13
                  go_wp2_with fail
                  obtain ⟨W, hW⟩ : ∃ W, W = w.alloc (.cells #[.string q.nm, .int .i64 q.top, .slice a2 q.states.length c2, .slice a3 q.msgs.length c3, .slice a4 q.vals.length c4, .int .i64 q.fault, .slice a6 q.res.length c6, .slice a7 q.init.length c7, .slice a8 q.leader.length c8, .slice a9 q.rules.length c9] 27) := ⟨_, rfl⟩
                  rw [← hW]
                  have HA2 := Lib.hid (show W.cell? ⟨w.heap.size, 2, none⟩ = some (.slice a2 q.states.length c2) by rw [hW]; exact (new_cell _ _ _ 2 rfl).trans rfl)
                  have HA3 := Lib.hid (show W.cell? ⟨w.heap.size, 3, none⟩ = some (.slice a3 q.msgs.length c3) by rw [hW]; exact (new_cell _ _ _ 3 rfl).trans rfl)
                  have HA4 := Lib.hid (show W.cell? ⟨w.heap.size, 4, none⟩ = some (.slice a4 q.vals.length c4) by rw [hW]; exact (new_cell _ _ _ 4 rfl).trans rfl)
                  have HA9 := Lib.hid (show W.cell? ⟨w.heap.size, 9, none⟩ = some (.slice a9 q.rules.length c9) by rw [hW]; exact (new_cell _ _ _ 9 rfl).trans rfl)
                  have HBW := Lib.hid (show Below w.heap.size w W by rw [hW]; exact allocBelow _ _)
                  clear hW
                  go_loopw [3] (fun v wr => ∃ k : Nat, k ≤ q.rules.length ∧ v = .int .i64 k ∧ bigRk q.rules k = false ∧ Below W.heap.size W wr) (fun v _ => q.rules.length - (intOf v).toNat)
                  case atStart => exact ⟨0, Nat.zero_le _, rfl, rfl, Below.refl _ _⟩
                  case round =>
                    obtain ⟨k, hk, rfl, hs, hB⟩ := hrel
                    have HS := Lib.hid hs
                    have HB := Lib.hid (thenBelow HBW.out hB)
                    have HBw := Lib.hid hB
                    have z9 := keep1 HA9.out hB
                    by_cases h1 : k < q.rules.length
                    · obtain ⟨b, off, cs, rfl, _, hb, _, hc, hR⟩ := G9.out.at k h1
                      have HR := Lib.hid (RuEl.stays _ _ _ _ _ hR HB.out)
                      generalize hr : q.rules[k]'h1 = r at HR hR
                      have Hr := Lib.hid hr
                      obtain ⟨v6, v7, v8, v9, v12, v14, v15, v16, rfl, m0, m1, m2, m3, m4, m5, m6, m7, m8, m9, m10, m11, m12, m13, m14, m15, m16, m17⟩ := hR
                      obtain ⟨a6r, c6r, rfl⟩ := m6.shape
                      obtain ⟨a7r, c7r, rfl⟩ := m7.shape
                      obtain ⟨a8r, c8r, rfl⟩ := m8.shape
                      obtain ⟨a9r, c9r, rfl⟩ := m9.shape
                      obtain ⟨a12r, c12r, rfl⟩ := m12.shape
                      obtain ⟨a14r, c14r, rfl⟩ := m14.shape
                      obtain ⟨a15r, c15r, rfl⟩ := m15.shape
                      obtain ⟨a16r, c16r, rfl⟩ := m16.shape
                      have g0 : wr.cell? ⟨b, off + k * 18, none⟩ = some (.string r.nm) := keep1 (show w.cell? ⟨b, off + k * 18, none⟩ = some (.string r.nm) from hc 0 (by omega)) HB.out
                      have g1 : wr.cell? ⟨b, off + k * 18 + 1, none⟩ = some (.int .i64 r.kind) := keep1 (show w.cell? ⟨b, off + k * 18 + 1, none⟩ = some (.int .i64 r.kind) from hc 1 (by omega)) HB.out
                      have g2 : wr.cell? ⟨b, off + k * 18 + 2, none⟩ = some (.int .i64 r.frm) := keep1 (show w.cell? ⟨b, off + k * 18 + 2, none⟩ = some (.int .i64 r.frm) from hc 2 (by omega)) HB.out
                      have g3 : wr.cell? ⟨b, off + k * 18 + 3, none⟩ = some (.int .i64 r.to) := keep1 (show w.cell? ⟨b, off + k * 18 + 3, none⟩ = some (.int .i64 r.to) from hc 3 (by omega)) HB.out
                      have g4 : wr.cell? ⟨b, off + k * 18 + 4, none⟩ = some (.int .i64 r.pf) := keep1 (show w.cell? ⟨b, off + k * 18 + 4, none⟩ = some (.int .i64 r.pf) from hc 4 (by omega)) HB.out
                      have g5 : wr.cell? ⟨b, off + k * 18 + 5, none⟩ = some (.int .i64 r.pt) := keep1 (show w.cell? ⟨b, off + k * 18 + 5, none⟩ = some (.int .i64 r.pt) from hc 5 (by omega)) HB.out
                      have g6 : wr.cell? ⟨b, off + k * 18 + 6, none⟩ = some (.slice a6r r.resp.length c6r) := keep1 (show w.cell? ⟨b, off + k * 18 + 6, none⟩ = some (.slice a6r r.resp.length c6r) from hc 6 (by omega)) HB.out
                      have g7 : wr.cell? ⟨b, off + k * 18 + 7, none⟩ = some (.slice a7r r.guards.length c7r) := keep1 (show w.cell? ⟨b, off + k * 18 + 7, none⟩ = some (.slice a7r r.guards.length c7r) from hc 7 (by omega)) HB.out
                      have g8 : wr.cell? ⟨b, off + k * 18 + 8, none⟩ = some (.slice a8r r.ex.length c8r) := keep1 (show w.cell? ⟨b, off + k * 18 + 8, none⟩ = some (.slice a8r r.ex.length c8r) from hc 8 (by omega)) HB.out
                      have g9 : wr.cell? ⟨b, off + k * 18 + 9, none⟩ = some (.slice a9r r.fa.length c9r) := keep1 (show w.cell? ⟨b, off + k * 18 + 9, none⟩ = some (.slice a9r r.fa.length c9r) from hc 9 (by omega)) HB.out
                      have g10 : wr.cell? ⟨b, off + k * 18 + 10, none⟩ = some (.int .i64 r.rd) := keep1 (show w.cell? ⟨b, off + k * 18 + 10, none⟩ = some (.int .i64 r.rd) from hc 10 (by omega)) HB.out
                      have g11 : wr.cell? ⟨b, off + k * 18 + 11, none⟩ = some (.int .i64 r.wr) := keep1 (show w.cell? ⟨b, off + k * 18 + 11, none⟩ = some (.int .i64 r.wr) from hc 11 (by omega)) HB.out
                      have g12 : wr.cell? ⟨b, off + k * 18 + 12, none⟩ = some (.slice a12r r.send.length c12r) := keep1 (show w.cell? ⟨b, off + k * 18 + 12, none⟩ = some (.slice a12r r.send.length c12r) from hc 12 (by omega)) HB.out
                      have g13 : wr.cell? ⟨b, off + k * 18 + 13, none⟩ = some (.int .i64 r.pos) := keep1 (show w.cell? ⟨b, off + k * 18 + 13, none⟩ = some (.int .i64 r.pos) from hc 13 (by omega)) HB.out
                      have g14 : wr.cell? ⟨b, off + k * 18 + 14, none⟩ = some (.slice a14r r.left.length c14r) := keep1 (show w.cell? ⟨b, off + k * 18 + 14, none⟩ = some (.slice a14r r.left.length c14r) from hc 14 (by omega)) HB.out
                      have g15 : wr.cell? ⟨b, off + k * 18 + 15, none⟩ = some (.slice a15r r.right.length c15r) := keep1 (show w.cell? ⟨b, off + k * 18 + 15, none⟩ = some (.slice a15r r.right.length c15r) from hc 15 (by omega)) HB.out
                      have g16 : wr.cell? ⟨b, off + k * 18 + 16, none⟩ = some (.slice a16r r.parent.length c16r) := keep1 (show w.cell? ⟨b, off + k * 18 + 16, none⟩ = some (.slice a16r r.parent.length c16r) from hc 16 (by omega)) HB.out
                      have g17 : wr.cell? ⟨b, off + k * 18 + 17, none⟩ = some (.int .i64 r.dir) := keep1 (show w.cell? ⟨b, off + k * 18 + 17, none⟩ = some (.int .i64 r.dir) from hc 17 (by omega)) HB.out
                      clear hB hs hc hr m0 m1 m2 m3 m4 m5 m6 m7 m8 m9 m10 m11 m12 m13 m14 m15 m16 m17
                      cases h2 : bigR r with
                      | true =>
                        have H2 := Lib.hid h2
                        go_wp2_with (go_at_call 38; refine (bigRule_any HR.out).mono ?_; rintro e w1 ⟨rfl, hb1⟩)
                        go_ret
                        exact ⟨ret_bool (by rw [E'.out, bigRk_yes h1 (by rw [Hr.out]; exact H2.out)]; rfl), thenBelow HB.out hb1⟩
                      | false =>
                        have H2 := Lib.hid h2
                        go_wp2_with (go_at_call 38; refine (bigRule_any HR.out).mono ?_; rintro e w1 ⟨rfl, hb1⟩)
                        go_roundw
                        case rel => exact ⟨k + 1, by omega, by go_num, bigRk_succ h1 HS.out (by rw [Hr.out]; exact H2.out), thenBelow HBw.out hb1⟩
                        case measure => simp [intOf]; omega
                    · have hke : q.rules.length = k := by omega
                      have HE := Lib.hid (show bigRk q.rules q.rules.length = false by rw [hke]; exact HS.out)
                      clear hke
                      have z2 := keep1 HA2.out hB
                      have z3 := keep1 HA3.out hB
                      have z4 := keep1 HA4.out hB
                      clear hB hs
                      cases n2 : bigN q.states with
                      | true =>
                        go_wp2_with (first | (go_at_call 39; (with_reducible refine (bigNames_any (G2.out.below StrEl.stays HB.out)).mono ?_); rintro e w' ⟨rfl, rfl⟩) | (go_at_call 39; (with_reducible refine (bigNames_any (G3.out.below StrEl.stays HB.out)).mono ?_); rintro e w' ⟨rfl, rfl⟩) | (go_at_call 39; (with_reducible refine (bigNames_any (G4.out.below StrEl.stays HB.out)).mono ?_); rintro e w' ⟨rfl, rfl⟩))
                        go_ret
                        exact ⟨ret_bool (by rw [E'.out, HE.out, n2]; rfl), HB.out⟩
                      | false =>
                        cases n3 : bigN q.msgs with
                        | true =>
                          go_wp2_with (first | (go_at_call 39; (with_reducible refine (bigNames_any (G2.out.below StrEl.stays HB.out)).mono ?_); rintro e w' ⟨rfl, rfl⟩) | (go_at_call 39; (with_reducible refine (bigNames_any (G3.out.below StrEl.stays HB.out)).mono ?_); rintro e w' ⟨rfl, rfl⟩) | (go_at_call 39; (with_reducible refine (bigNames_any (G4.out.below StrEl.stays HB.out)).mono ?_); rintro e w' ⟨rfl, rfl⟩))
                          go_ret
                          exact ⟨ret_bool (by rw [E'.out, HE.out, n2, n3]; rfl), HB.out⟩
                        | false =>
                          go_wp2_with (first | (go_at_call 39; (with_reducible refine (bigNames_any (G2.out.below StrEl.stays HB.out)).mono ?_); rintro e w' ⟨rfl, rfl⟩) | (go_at_call 39; (with_reducible refine (bigNames_any (G3.out.below StrEl.stays HB.out)).mono ?_); rintro e w' ⟨rfl, rfl⟩) | (go_at_call 39; (with_reducible refine (bigNames_any (G4.out.below StrEl.stays HB.out)).mono ?_); rintro e w' ⟨rfl, rfl⟩))
                          go_ret
                          exact ⟨ret_bool (by rw [E'.out, HE.out, n2, n3]; rfl), HB.out⟩
end Go.Proofs.YtmpbfdfjcfanoaaDoor

/-
  THE DECIMAL TEXT OF A NUMBER: the contract of strconv.Itoa at this program.
-/
namespace Go.Proofs.YtmpbfdfjcfanoaaDoor
open Go.RowKit Go.Shelf

def renI : Go.Shelf.Ren := ⟨fun | 129 => 130 | 171 => 111 | 243 => 122 | 246 => 124 | 283 => 125 | 284 => 126 | 285 => 127 | 286 => 128 | 317 => 129 | 318 => 131 | 319 => 132 | 320 => 133 | 337 => 134 | 338 => 135 | n => n, fun | 0 => 0 | 2 => 2 | 3 => 3 | 4 => 4 | 5 => 5 | 9 => 9 | 20 => 20 | 37 => 137 | 46 => 34 | 51 => 143 | 53 => 134 | 171 => 133 | 173 => 138 | 212 => 142 | 213 => 144 | 232 => 147 | 233 => 148 | n => n, fun | 17 => 0 | 18 => 1 | 19 => 2 | n => n⟩
theorem laysI : Go.Proofs.LaysM.n171 Tryd.prog renI := {
  mixed := by kernel_rfl
  f129 := Tryd.func130.trans (congrArg some (by kernel_rfl))
  f171 := Tryd.func111.trans (congrArg some (by kernel_rfl))
  f243 := Tryd.func122.trans (congrArg some (by kernel_rfl))
  f246 := Tryd.func124.trans (congrArg some (by kernel_rfl))
  f283 := Tryd.func125.trans (congrArg some (by kernel_rfl))
  f284 := Tryd.func126.trans (congrArg some (by kernel_rfl))
  f285 := Tryd.func127.trans (congrArg some (by kernel_rfl))
  f286 := Tryd.func128.trans (congrArg some (by kernel_rfl))
  f317 := Tryd.func129.trans (congrArg some (by kernel_rfl))
  f318 := Tryd.func131.trans (congrArg some (by kernel_rfl))
  f319 := Tryd.func132.trans (congrArg some (by kernel_rfl))
  f320 := Tryd.func133.trans (congrArg some (by kernel_rfl))
  f337 := Tryd.func134.trans (congrArg some (by kernel_rfl))
  f338 := Tryd.func135.trans (congrArg some (by kernel_rfl))
  t0 := Tryd.underlying0
  a0 := Tryd.isAgg0
  z0 := Tryd.sizeOf0
  v0 := Tryd.zeroValue0
  t2 := Tryd.underlying2
  a2 := Tryd.isAgg2
  z2 := Tryd.sizeOf2
  v2 := Tryd.zeroValue2
  t3 := Tryd.underlying3
  a3 := Tryd.isAgg3
  z3 := Tryd.sizeOf3
  v3 := Tryd.zeroValue3
  t4 := Tryd.underlying4
  a4 := Tryd.isAgg4
  z4 := Tryd.sizeOf4
  v4 := Tryd.zeroValue4
  t5 := Tryd.underlying5
  a5 := Tryd.isAgg5
  z5 := Tryd.sizeOf5
  v5 := Tryd.zeroValue5
  t9 := Tryd.underlying9
  a9 := Tryd.isAgg9
  z9 := Tryd.sizeOf9
  v9 := Tryd.zeroValue9
  t20 := Tryd.underlying20
  a20 := Tryd.isAgg20
  z20 := Tryd.sizeOf20
  v20 := Tryd.zeroValue20
  t37 := Tryd.underlying137
  a37 := Tryd.isAgg137
  z37 := Tryd.sizeOf137
  v37 := Tryd.zeroValue137
  t46 := Tryd.underlying34
  a46 := Tryd.isAgg34
  z46 := Tryd.sizeOf34
  v46 := Tryd.zeroValue34
  t51 := Tryd.underlying143
  a51 := Tryd.isAgg143
  z51 := Tryd.sizeOf143
  v51 := Tryd.zeroValue143
  t53 := Tryd.underlying134
  a53 := Tryd.isAgg134
  z53 := Tryd.sizeOf134
  v53 := Tryd.zeroValue134
  t171 := Tryd.underlying133
  a171 := Tryd.isAgg133
  z171 := Tryd.sizeOf133
  v171 := Tryd.zeroValue133
  t173 := Tryd.underlying138
  a173 := Tryd.isAgg138
  z173 := Tryd.sizeOf138
  v173 := Tryd.zeroValue138
  t212 := Tryd.underlying142
  a212 := Tryd.isAgg142
  z212 := Tryd.sizeOf142
  v212 := Tryd.zeroValue142
  t213 := Tryd.underlying144
  a213 := Tryd.isAgg144
  z213 := Tryd.sizeOf144
  t232 := Tryd.underlying147
  a232 := Tryd.isAgg147
  z232 := Tryd.sizeOf147
  v232 := Tryd.zeroValue147
  t233 := Tryd.underlying148
  a233 := Tryd.isAgg148
  z233 := Tryd.sizeOf148
  v233 := Tryd.zeroValue148
  g17 := by kernel_rfl
  g18 := by kernel_rfl
  g19 := by kernel_rfl
  i0 := by kernel_rfl
  i2 := by kernel_rfl
  i3 := by kernel_rfl
  i4 := by kernel_rfl
  i5 := by kernel_rfl
  i9 := by kernel_rfl
  i20 := by kernel_rfl
  i37 := by kernel_rfl
  i46 := by kernel_rfl
  i51 := by kernel_rfl
  i53 := by kernel_rfl
  i171 := by kernel_rfl
  i173 := by kernel_rfl
  i212 := by kernel_rfl
  i232 := by kernel_rfl
  i233 := by kernel_rfl
  m17 := by kernel_rfl
  m18 := by kernel_rfl
  m19 := by kernel_rfl }
/-- The table that strconv reads, as its initialiser lays it. -/
def TabW (w : World) : Prop := Go.Lib.TabIs Tryd.prog w "internal/strconv.uint64pow10" .u64 Go.Lib.pow10Tab
theorem Itoa_any (n : Int) (h0 : -9223372036854775808 ≤ n) (h1 : n ≤ 9223372036854775807) (w : World) (ht : TabW w) :
    Calls Tryd.prog 111 #[.int .i64 n] w fun e w' => e = .returned (.string ⟨(Go.Lib.itoa n).toArray⟩) ∧ Below w.heap.size w w' := by
  refine (Any.strconv_Itoa laysI n h0 h1 w ht).mono ?_
  rintro e w' ⟨rfl, k, os, rfl⟩
  exact ⟨rfl, Go.Lib.below_grow _ _ (Nat.le_refl _) _ _⟩
/-- The table stays. -/
theorem TabW.below {w w' : World} (h : TabW w) (hb : Below w.heap.size w w') : TabW w' := by
  have := Go.Lib.tabBelow_of_tabIs h
  exact this w' hb
end Go.Proofs.YtmpbfdfjcfanoaaDoor

/-
  THE TEXT OF AN EXPRESSION: formatSigned, formatTerm, FormatLinear of the program.
-/
namespace Go.Proofs.YtmpbfdfjcfanoaaDoor
open Go.RowKit Go.Deep

/-- A number with its sign; a term. -/
def sgnT (x : Int) : List UInt8 := if x < 0 then Go.Lib.itoa x else 43 :: Go.Lib.itoa x
def trmT (k : Int) (p : List UInt8) : List UInt8 := if k = 0 then [] else if k = 1 then 43 :: p else if k = -1 then 45 :: p else sgnT k ++ 42 :: p
theorem fa_range {x : Int} (h : faB x = true) : -100 ≤ x ∧ x ≤ 100 := by unfold faB inB at h; simp at h; omega
theorem sgnT_le {x : Int} (h : -100 ≤ x ∧ x ≤ 100) : (sgnT x).length ≤ 30 := by
  have := Go.Lib.itoa_length_le x (by omega) (by omega)
  unfold sgnT; split <;> simp <;> omega

theorem baA (a b : List UInt8) : (⟨a.toArray⟩ : ByteArray) ++ ⟨b.toArray⟩ = ⟨(a ++ b).toArray⟩ := by
  apply ByteArray.ext; simp
theorem baS (a : List UInt8) : (⟨a.toArray⟩ : ByteArray).size = a.length := by simp [ByteArray.size]
theorem ret_str {a b : ByteArray} (h : a = b) : Ending.returned (.string a) = .returned (.string b) := by rw [h]

set_option maxHeartbeats 400000 in
theorem formatSigned_any (x : Int) (h : -100 ≤ x ∧ x ≤ 100) (w : World) (ht : TabW w) :
    Calls Tryd.prog 86 #[.int .i64 x] w fun e w' => e = .returned (.string ⟨(sgnT x).toArray⟩) ∧ Below w.heap.size w w' := by
  obtain ⟨h1, h2⟩ := h
  have HT := Lib.hid ht
  clear ht
  by_cases hx : x < 0
  · have E := Lib.hid (show sgnT x = Go.Lib.itoa x by unfold sgnT; rw [if_pos hx])
    go_enter Tryd.func86, Tryd.ntmps86
    go_wp2_with (go_at_call 111; refine (Itoa_any x (by omega) (by omega) _ HT.out).mono ?_; rintro e w1 ⟨rfl, hb1⟩)
    go_ret
    exact ⟨ret_str (by rw [E.out]), hb1⟩
  · have E := Lib.hid (show sgnT x = 43 :: Go.Lib.itoa x by unfold sgnT; rw [if_neg hx])
    have hL : ¬ (9223372036854775807 < 1 + (Go.Lib.itoa x).length) := by have := Go.Lib.itoa_length_le x (by omega) (by omega); omega
    go_enter Tryd.func86, Tryd.ntmps86
    go_wp2_with (go_at_call 111; refine (Itoa_any x (by omega) (by omega) _ HT.out).mono ?_; rintro e w1 ⟨rfl, hb1⟩)
    go_ret
    exact ⟨ret_str (by rw [E.out]; exact baA [43] _), hb1⟩

set_option maxHeartbeats 400000 in
theorem formatTerm_any (x : Int) (c : UInt8) (h : -100 ≤ x ∧ x ≤ 100) (w : World) (ht : TabW w) :
    Calls Tryd.prog 85 #[.int .i64 x, .string ⟨#[c]⟩] w fun e w' => e = .returned (.string ⟨(trmT x [c]).toArray⟩) ∧ Below w.heap.size w w' := by
  have HT := Lib.hid ht
  have HR := Lib.hid h
  clear ht h
  by_cases h0 : x = 0
  · subst h0
    go_enter Tryd.func85, Tryd.ntmps85
    go_wp2_with fail
    go_ret
    exact ⟨rfl, Below.refl _ _⟩
  · by_cases h1 : x = 1
    · subst h1
      go_enter Tryd.func85, Tryd.ntmps85
      go_wp2_with fail
      go_ret
      exact ⟨ret_str (baA [43] [c]), Below.refl _ _⟩
    · by_cases h2 : x = -1
      · subst h2
        go_enter Tryd.func85, Tryd.ntmps85
        go_wp2_with fail
        go_ret
        exact ⟨ret_str (baA [45] [c]), Below.refl _ _⟩
      · have E := Lib.hid (show trmT x [c] = sgnT x ++ [42] ++ [c] by unfold trmT; rw [if_neg h0, if_neg h1, if_neg h2]; simp)
        have h0' : (x == 0) = false := by simp [h0]
        have h1' : (x == 1) = false := by simp [h1]
        have h2' : (x == -1) = false := by simp [h2]
        have hl := sgnT_le HR.out
        have hL : ¬ (9223372036854775807 < (sgnT x).length + 1) := by omega
        have hL2 : ¬ (9223372036854775807 < (sgnT x).length + 1 + 1) := by omega
        clear h0 h1 h2
        go_enter Tryd.func85, Tryd.ntmps85
        go_wp2_with (go_at_call 86; refine (formatSigned_any x HR.out _ HT.out).mono ?_; rintro e w1 ⟨rfl, hb1⟩)
        go_ret
        exact ⟨ret_str (by rw [E.out, ← baA, ← baA]), hb1⟩

theorem ext_head (x : UInt8) (l : List UInt8) : ((⟨(x :: l).toArray⟩ : ByteArray).extract 0 1).toList = [x] := by rw [ByteArray.extract_mk, ByteArray.toList_mk]; rfl
theorem ext_tail (x : UInt8) (l : List UInt8) (n : Nat) (h : n = l.length + 1) : (⟨(x :: l).toArray⟩ : ByteArray).extract 1 n = ⟨l.toArray⟩ := by
  subst h; rw [ByteArray.extract_mk]; simp
theorem Trim_plus (l : List UInt8) (hl : l.length ≤ 1000) (w : World) :
    Calls Tryd.prog 87 #[.string ⟨(43 :: l).toArray⟩, .string ⟨#[43]⟩] w fun e w' => e = .returned (.string ⟨l.toArray⟩) ∧ w = w' := by
  have hx := ext_head 43 l
  go_enter Tryd.func87, Tryd.ntmps87
  go_wp2
  go_ret
  exact ⟨ret_str (ext_tail _ _ _ (by simp)), rfl⟩
theorem Trim_other (x : UInt8) (l : List UInt8) (hl : l.length ≤ 1000) (h : x ≠ 43) (w : World) :
    Calls Tryd.prog 87 #[.string ⟨(x :: l).toArray⟩, .string ⟨#[43]⟩] w fun e w' => e = .returned (.string ⟨(x :: l).toArray⟩) ∧ w = w' := by
  have hx : (((⟨(x :: l).toArray⟩ : ByteArray).extract 0 1).toList == [43]) = false := by rw [ext_head]; simp [h]
  clear h
  go_enter Tryd.func87, Tryd.ntmps87
  go_wp2
  go_ret
  exact ⟨rfl, rfl⟩

def trm3 (n t f : Int) : List UInt8 := trmT n [110] ++ trmT t [116] ++ trmT f [102]
def midT (c n t f : Int) : List UInt8 := trm3 n t f ++ (if c = 0 then [] else sgnT c)
def cutT (l : List UInt8) : List UInt8 := if l = [] then [48] else if l.head? = some 43 then l.tail else l
def linT (c n t f : Int) : List UInt8 := cutT (midT c n t f)
theorem trmT_le {x : Int} (c : UInt8) (h : -100 ≤ x ∧ x ≤ 100) : (trmT x [c]).length ≤ 40 := by
  have := sgnT_le h
  unfold trmT; split
  · simp
  · split
    · simp
    · split
      · simp
      · simp; omega

set_option maxHeartbeats 3200000 in
theorem FormatLinear_any (c n t f : Int) (hs : smL c n t f = true) (w : World) (ht : TabW w) :
    Calls Tryd.prog 40 #[.agg #[.int .i64 c, .int .i64 n, .int .i64 t, .int .i64 f]] w fun e w' => e = .returned (.string ⟨(linT c n t f).toArray⟩) ∧ Below w.heap.size w w' := by
  have HT := Lib.hid ht
  have hs' := hs
  unfold smL at hs'
  simp only [Bool.and_eq_true] at hs'
  obtain ⟨⟨⟨hc, hn⟩, ht'⟩, hf⟩ := hs'
  have RC := Lib.hid (fa_range hc)
  have RN := Lib.hid (fa_range hn)
  have RT := Lib.hid (fa_range ht')
  have RF := Lib.hid (fa_range hf)
  have hl1 := trmT_le 110 RN.out
  have hl2 := trmT_le 116 RT.out
  have hl3 := trmT_le 102 RF.out
  have hl4 := sgnT_le RC.out
  clear hc hn ht' hf ht
  have e1 : ¬ (9223372036854775807 < (trmT n [110]).length + (trmT t [116]).length) := by omega
  have e2 : ¬ (9223372036854775807 < (trmT n [110]).length + (trmT t [116]).length + (trmT f [102]).length) := by omega
  go_enter Tryd.func40, Tryd.ntmps40
  go_wp2_with (first | (go_at_call 49; refine (isLarge_any _ _ _ _ _).mono ?_; rintro e w1 ⟨rfl, hb1⟩; have hB1 : Below w.heap.size w w1 := (thenBelow (allocBelow _ _) hb1); have t0 : w1.cell? ⟨w.heap.size, 0, none⟩ = some (.int .i64 c) := keep1 (by simp) hb1; have t1 : w1.cell? ⟨w.heap.size, 1, none⟩ = some (.int .i64 n) := keep1 (by simp) hb1; have t2 : w1.cell? ⟨w.heap.size, 2, none⟩ = some (.int .i64 t) := keep1 (by simp) hb1; have t3 : w1.cell? ⟨w.heap.size, 3, none⟩ = some (.int .i64 f) := keep1 (by simp) hb1; clear hb1))
  have HB1 := Lib.hid hB1
  clear hB1
  go_region_held3 (fun w' => w'.cell? ⟨w.heap.size, 0, none⟩ = some (.int .i64 c) ∧ w'.cell? ⟨w.heap.size, 1, none⟩ = some (.int .i64 n) ∧ w'.cell? ⟨w.heap.size, 2, none⟩ = some (.int .i64 t) ∧ w'.cell? ⟨w.heap.size, 3, none⟩ = some (.int .i64 f) ∧ Below w.heap.size w w') (first | exact ⟨t0, t1, t2, t3, HB1.out⟩ | exact keepF ⟨t0, t1, t2, t3, HB1.out⟩ (drewBelow _) | exact keepF (by assumption) (by assumption)) (first | (go_at_call 85; (with_reducible refine (formatTerm_any n 110 RN.out _ (HT.out.below (heldF (by assumption)))).mono ?_); rintro e w4 ⟨rfl, hb4⟩) | (go_at_call 85; (with_reducible refine (formatTerm_any t 116 RT.out _ (HT.out.below (heldF (by assumption)))).mono ?_); rintro e w5 ⟨rfl, hb5⟩) | (go_at_call 85; (with_reducible refine (formatTerm_any f 102 RF.out _ (HT.out.below (heldF (by assumption)))).mono ?_); rintro e w6 ⟨rfl, hb6⟩))
  obtain ⟨s0, s1, s2, s3, hB6⟩ := (by assumption : _ ∧ _ ∧ _ ∧ _ ∧ Below w.heap.size w w6)
  have HB6 := Lib.hid hB6
  clear t0 t1 t2 t3 s1 s2 s3 hb4 hb5 hb6 hB6 e1 e2
  obtain ⟨L, hL⟩ : ∃ L, trm3 n t f = L := ⟨_, rfl⟩
  have hLl : L.length ≤ 120 := by rw [← hL]; unfold trm3; simp only [List.length_append]; omega
  rw [show (⟨(trmT n [110]).toArray⟩ : ByteArray) ++ ⟨(trmT t [116]).toArray⟩ ++ ⟨(trmT f [102]).toArray⟩ = ⟨L.toArray⟩ by rw [← hL, baA, baA]; rfl]
  have HM := Lib.hid (show midT c n t f = L ++ (if c = 0 then [] else sgnT c) by unfold midT; rw [hL])
  have HLN := Lib.hid (show linT c n t f = cutT (midT c n t f) from rfl)
  clear hL hl1 hl2 hl3
  by_cases hc0 : c = 0
  · subst hc0
    have HM' := Lib.hid (show midT 0 n t f = L by rw [HM.out]; simp)
    clear HM
    cases L with
    | nil =>
      go_wp2_with fail
      go_ret
      exact ⟨ret_str (by rw [HLN.out, HM'.out]; rfl), HB6.out⟩
    | cons x l =>
      have hll : l.length ≤ 1000 := by simp at hLl; omega
      by_cases hx : x = 43
      · subst hx
        go_wp2_with (go_at_call 87; refine (Trim_plus l hll _).mono ?_; rintro e w' ⟨rfl, rfl⟩)
        go_ret
        exact ⟨ret_str (by rw [HLN.out, HM'.out]; rfl), HB6.out⟩
      · have HX := Lib.hid hx
        clear hx
        go_wp2_with (go_at_call 87; refine (Trim_other x l hll HX.out _).mono ?_; rintro e w' ⟨rfl, rfl⟩)
        go_ret
        exact ⟨ret_str (by rw [HLN.out, HM'.out]; unfold cutT; rw [if_neg (by simp), if_neg (by simpa using HX.out)]), HB6.out⟩
  · have HM' := Lib.hid (show midT c n t f = L ++ sgnT c by rw [HM.out, if_neg hc0])
    have hc1 : (c == 0) = false := by simp [hc0]
    have hc2 : (c != 0) = true := by simp [hc0]
    have e3 : ¬ (9223372036854775807 < L.length + (sgnT c).length) := by omega
    have hne : 0 < (sgnT c).length := by
      unfold sgnT; split
      · rename_i h; unfold Go.Lib.itoa; rw [if_pos h]; simp
      · simp
    clear HM hc0
    obtain ⟨M, hM⟩ : ∃ M, L ++ sgnT c = M := ⟨_, rfl⟩
    have hMl : M.length ≤ 200 := by rw [← hM, List.length_append]; omega
    have hM0 : 0 < M.length := by rw [← hM, List.length_append]; omega
    have HMM := Lib.hid hM
    clear hM
    have hem : ((⟨L.toArray⟩ : ByteArray) ++ ⟨(sgnT c).toArray⟩).toList.isEmpty = false := by
      rw [baA, HMM.out, ByteArray.toList_mk]; cases M with
      | nil => simp at hM0
      | cons => rfl
    go_wp2_with (first | (go_at_call 86; (with_reducible refine (formatSigned_any c RC.out _ (HT.out.below HB6.out)).mono ?_); rintro e w7 ⟨rfl, hb7⟩))
    clear hem
    rw [show (⟨L.toArray⟩ : ByteArray) ++ ⟨(sgnT c).toArray⟩ = ⟨M.toArray⟩ by rw [baA, HMM.out]]
    have HB7 := Lib.hid (thenBelow HB6.out hb7)
    clear hb7
    cases M with
    | nil => simp at hM0
    | cons x l =>
      have hll : l.length ≤ 1000 := by simp at hMl; omega
      by_cases hx : x = 43
      · subst hx
        refine (Trim_plus l hll _).mono ?_
        rintro e w' ⟨rfl, rfl⟩
        go_wp2_with fail
        go_ret
        exact ⟨ret_str (by rw [HLN.out, HM'.out, HMM.out]; rfl), HB7.out⟩
      · have HX := Lib.hid hx
        clear hx
        refine (Trim_other x l hll HX.out _).mono ?_
        rintro e w' ⟨rfl, rfl⟩
        go_wp2_with fail
        go_ret
        exact ⟨ret_str (by rw [HLN.out, HM'.out, HMM.out]; unfold cutT; rw [if_neg (by simp), if_neg (by simpa using HX.out)]), HB7.out⟩

/-- An expression with a number beyond the limit has no text. -/
theorem FormatLinear_none (c n t f : Int) (hs : smL c n t f = false) (w : World) :
    Calls Tryd.prog 40 #[.agg #[.int .i64 c, .int .i64 n, .int .i64 t, .int .i64 f]] w fun e w' => e = .returned (.string ⟨#[]⟩) ∧ Below w.heap.size w w' := by
  go_enter Tryd.func40, Tryd.ntmps40
  go_wp2_with (first | (go_at_call 49; refine (isLarge_any _ _ _ _ _).mono ?_; rintro e w1 ⟨rfl, hb1⟩; have hB1 : Below w.heap.size w w1 := (thenBelow (allocBelow _ _) hb1); clear hb1))
  go_ret
  exact ⟨rfl, hB1⟩
end Go.Proofs.YtmpbfdfjcfanoaaDoor

/-
  WHAT EVERY LAW OF THE LAYER ASKS BESIDES: one text and three names.
-/
namespace Go.Proofs.YtmpbfdfjcfanoaaDoor
open Go.RowKit Go.Deep

theorem itoa_one (k : Nat) (h : k < 10) : Go.Lib.itoa (-((k : Int) + 1)) = (45 :: Go.Lib.decDigits (k + 1)) := by
  unfold Go.Lib.itoa; rw [if_pos (by omega)]; congr 2
theorem dec_digit (k : Nat) (h : k < 10) : Go.Lib.decDigits k = [UInt8.ofNat (48 + k)] := by
  rw [Go.Lib.decDigits, dif_pos h]
theorem known_lin : linT (-1) 1 (-3) 0 = [110, 45, 51, 42, 116, 45, 49] := by
  have e1 : Go.Lib.itoa (-1) = [45, 49] := by
    have := itoa_one 0 (by omega); rw [dec_digit 1 (by omega)] at this; exact this
  have e3 : Go.Lib.itoa (-3) = [45, 51] := by
    have := itoa_one 2 (by omega); rw [dec_digit 3 (by omega)] at this; exact this
  have t1 : trmT 1 [110] = [43, 110] := rfl
  have t2 : trmT (-3) [116] = [45, 51, 42, 116] := by unfold trmT sgnT; rw [if_neg (by decide), if_neg (by decide), if_neg (by decide), if_pos (by decide), e3]; rfl
  have t3 : trmT 0 [102] = [] := rfl
  have t4 : sgnT (-1) = [45, 49] := by unfold sgnT; rw [if_pos (by decide), e1]
  unfold linT midT trm3
  rw [t1, t2, t3, if_neg (by decide), t4]
  rfl

theorem FormatLinear_known (w : World) (ht : TabW w) :
    Calls Tryd.prog 40 #[.agg #[.int .i64 (-1), .int .i64 1, .int .i64 (-3), .int .i64 0]] w fun e w' => e = .returned (.string ⟨#[110, 45, 51, 42, 116, 45, 49]⟩) ∧ Below w.heap.size w w' := by
  have := FormatLinear_any (-1) 1 (-3) 0 (by decide) w ht
  rw [known_lin] at this
  exact this
theorem name_yes (w : World) : Calls Tryd.prog 41 #[.string ⟨#[118, 48]⟩] w fun e w' => e = .returned (.bool true) ∧ Below w.heap.size w w' := by
  have := ValidName_any ⟨#[118, 48]⟩ w (by unfold maxLen; simp [ByteArray.size])
  rw [show nameB (⟨#[118, 48]⟩ : ByteArray).toList = true by rw [show (⟨#[118, 48]⟩ : ByteArray) = ⟨[118, 48].toArray⟩ from rfl, ByteArray.toList_mk]; decide] at this
  exact this
theorem name_line (w : World) : Calls Tryd.prog 41 #[.string ⟨#[108, 105, 110, 101]⟩] w fun e w' => e = .returned (.bool false) ∧ Below w.heap.size w w' := by
  have := ValidName_any ⟨#[108, 105, 110, 101]⟩ w (by unfold maxLen; simp [ByteArray.size])
  rw [show nameB (⟨#[108, 105, 110, 101]⟩ : ByteArray).toList = false by rw [show (⟨#[108, 105, 110, 101]⟩ : ByteArray) = ⟨[108, 105, 110, 101].toArray⟩ from rfl, ByteArray.toList_mk]; decide] at this
  exact this
theorem name_empty (w : World) : Calls Tryd.prog 41 #[.string ⟨#[]⟩] w fun e w' => e = .returned (.bool false) ∧ Below w.heap.size w w' := by
  have := ValidName_any ⟨#[]⟩ w (by unfold maxLen; simp [ByteArray.size])
  rw [show nameB (⟨#[]⟩ : ByteArray).toList = false by rw [show (⟨#[]⟩ : ByteArray) = ⟨([] : List UInt8).toArray⟩ from rfl, ByteArray.toList_mk]; decide] at this
  exact this

theorem vknown_any (w : World) (ht : TabW w) : Calls Tryd.prog 14 #[] w fun e w' => e = .returned (.bool true) ∧ Below w.heap.size w w' := by
  have HT := Lib.hid ht
  clear ht
  go_enter Tryd.func14, Tryd.ntmps14
  go_wp2_with (first | (go_at_call 40; refine (FormatLinear_known _ (HT.out.below (by go_grown))).mono ?_; rintro e w1 ⟨rfl, hb1⟩) | (go_at_call 41; (with_reducible refine (name_yes _).mono ?_); rintro e w2 ⟨rfl, hb2⟩) | (go_at_call 41; (with_reducible refine (name_line _).mono ?_); rintro e w3 ⟨rfl, hb3⟩) | (go_at_call 41; (with_reducible refine (name_empty _).mono ?_); rintro e w4 ⟨rfl, hb4⟩))
  go_ret
  exact ⟨rfl, thenBelow (thenBelow (thenBelow hb1 hb2) hb3) hb4⟩
end Go.Proofs.YtmpbfdfjcfanoaaDoor

/-
  ruleError OF THE PROGRAM.
-/
namespace Go.Proofs.YtmpbfdfjcfanoaaDoor
open Go.RowKit Go.Deep
theorem IsSl.take {α : Type} {size : Nat} {P : Nat → World → List Value → α → Prop} {lo : Nat} {w : World} {a : Option Addr} {n cap : Nat} {xs : List α} (h : IsSl size P lo w (.slice a n cap) xs) (k : Nat) (hk : k ≤ xs.length) : IsSl size P lo w (.slice a k cap) (xs.take k) := by
  obtain ⟨a', cap', hv, h1, hm, hn, hc⟩ := h
  simp only [Value.slice.injEq] at hv
  obtain ⟨rfl, rfl, rfl⟩ := hv
  have e : (xs.take k).length = k := by simp; omega
  refine ⟨a, cap, by rw [e], by omega, hm, hn, ?_⟩
  rcases hc with rfl | ⟨b, off, ha, hlo, hb, hc⟩
  · exact .inl (by simp)
  · refine .inr ⟨b, off, ha, hlo, hb, fun i hi => ?_⟩
    obtain ⟨cs, g1, g2, g3⟩ := hc i (by omega)
    exact ⟨cs, g1, g2, by simpa using g3⟩
theorem info_prot : (Tryd.prog.info? 27).map (·.size) = some 10 := by kernel_rfl
theorem ruleE_nm {q : Fm} {i : Nat} {r : Ru} (h : nameB r.nm.toList = false ∨ hasR (q.rules.take i) r.nm = true) : ruleE q i r = 2 := if_pos h
theorem ruleE_rule {q : Fm} {i : Nat} {r : Ru} (h : nameB r.nm.toList = true) (h' : hasR (q.rules.take i) r.nm = false) (hf : fitB r.kind q.top = false ∨ othB r q.top = false) : ruleE q i r = 6 := by
  unfold ruleE; rw [if_neg (by rw [h, h']; simp), if_pos hf]
theorem ruleE_state {q : Fm} {i : Nat} {r : Ru} (h : nameB r.nm.toList = true) (h' : hasR (q.rules.take i) r.nm = false) (hf : fitB r.kind q.top = true) (ho : othB r q.top = true) (hs : stB r q.states.length = false) : ruleE q i r = 5 := by
  unfold ruleE; rw [if_neg (by rw [h, h']; simp), if_neg (by rw [hf, ho]; simp), if_pos hs]
theorem ruleE_part {q : Fm} {i : Nat} {r : Ru} (h : nameB r.nm.toList = true) (h' : hasR (q.rules.take i) r.nm = false) (hf : fitB r.kind q.top = true) (ho : othB r q.top = true) (hs : stB r q.states.length = true) : ruleE q i r = partE q r := by
  unfold ruleE; rw [if_neg (by rw [h, h']; simp), if_neg (by rw [hf, ho]; simp), if_neg (by rw [hs]; simp)]
set_option maxHeartbeats 3200000 in
theorem ruleError_any {lo : Nat} {w : World} {v : Value} {q : Fm} (i : Nat) (hi : i < q.rules.length) (hq : IsFam lo w v q) :
    Calls Tryd.prog 53 #[v, .int .i64 i] w fun e w' => e = .returned (.int .i64 (ruleE q i q.rules[i])) ∧ Below w.heap.size w w' := by
  have HQ := Lib.hid hq
  obtain ⟨v2, v3, v4, v6, v7, v8, v9, rfl, _, _, h2, h3, h4, _, h6, h7, h8, h9⟩ := hq
  have hnn := h2.bound
  have HN := Lib.hid hnn
  have h9b := h9.bound
  obtain ⟨a2, c2, rfl⟩ := h2.shape
  obtain ⟨a3, c3, rfl⟩ := h3.shape
  obtain ⟨a4, c4, rfl⟩ := h4.shape
  obtain ⟨a9, c9, rfl⟩ := h9.shape
  obtain ⟨b, off, cs, rfl, _, hb, hl, hc, hel⟩ := h9.at i hi
  have H9 := Lib.hid h9
  have HC9 := Lib.hid (show q.rules.length ≤ c9 by obtain ⟨_, _, e, h, _⟩ := h9; simp only [Value.slice.injEq] at e; omega)
  obtain ⟨-, p0, hnm, p1, hkI, pc⟩ := rule_cells hel
  have HL := Lib.hid hl
  have HR := Lib.hid (rangeOf hl hc)
  generalize hr : q.rules[i] = r at hel p0 hnm p1 hkI
  have HE := Lib.hid hel
  have P0 := Lib.hid p0
  have P1 := Lib.hid p1
  have PC := Lib.hid pc
  have HNM := Lib.hid hnm
  have HI := Lib.hid hkI
  have hb1 := hb
  clear h2 h3 h4 h6 h7 h8 h9 hc hl hel p0 p1 pc hr hnm hkI hb
  go_enter Tryd.func53, Tryd.ntmps53
  go_upto_region 1 with (fail)
  obtain ⟨W, hW⟩ : ∃ W : World, W = w.alloc (.cells #[.string q.nm, .int .i64 q.top, .slice a2 q.states.length c2, .slice a3 q.msgs.length c3, .slice a4 q.vals.length c4, .int .i64 q.fault, v6, v7, v8, .slice (some ⟨b, off, none⟩) q.rules.length c9] 27) := ⟨_, rfl⟩
  have hs : W.heap.size = w.heap.size + 1 := by rw [hW]; simp
  have HSZ := Lib.hid hs
  rw [← hW]
  have HB := Lib.hid (show Below w.heap.size w W by rw [hW]; exact allocBelow _ _)
  have HP := Lib.hid (show W.heap[w.heap.size]? = some (.cells #[.string q.nm, .int .i64 q.top, .slice a2 q.states.length c2, .slice a3 q.msgs.length c3, .slice a4 q.vals.length c4, .int .i64 q.fault, v6, v7, v8, .slice (some ⟨b, off, none⟩) q.rules.length c9] 27 (0, 0)) by rw [hW]; exact heap_new _ _ rfl)
  clear hW
  have x9 : W.cell? ⟨w.heap.size, 9, none⟩ = some (.slice (some ⟨b, off, none⟩) q.rules.length c9) := cellB HP.out 9 rfl
  refine wp_region_lit ?_
  iterate 4
    refine wpList_step fun K hK => ?_
    go_simp
    refine hK _ _ ?_
    clear hK K
  refine ld_mid Tryd.underlying76 info_rule (by rfl) (.tmp 9) (by rfl) b (off + i * 18) cs (by rfl) HL.out (rangeBelow HR.out HB.out) ?_
  refine wpList_step fun K hK => ?_
  go_simp
  refine hK _ _ ?_
  clear hK K
  refine st_whole (T := 76) info_rule (by rfl) (.tmp 5) (.tmp 10) (by rfl) (w.heap.size + 1) cs (by rfl) (by rfl) HL.out (heap_new W _ hs.symm) (by rfl) PC.out (fun Z hZ hbl hsz hoth => ?_)
  have ZB := Lib.hid (show Below w.heap.size w Z from hbl _ _ (by omega) (HB.out.trans ((allocBelow W _).mono HB.out.size)))
  have ZP := Lib.hid (show Z.heap[w.heap.size]? = some (.cells #[.string q.nm, .int .i64 q.top, .slice a2 q.states.length c2, .slice a3 q.msgs.length c3, .slice a4 q.vals.length c4, .int .i64 q.fault, v6, v7, v8, .slice (some ⟨b, off, none⟩) q.rules.length c9] 27 (0, 0)) from (hoth _ (by omega)).trans ((heap_old W _ (by omega)).trans HP.out))
  have ZG := Lib.hid (show Z.heap[w.heap.size + 1]? = some (.cells cs.toArray 76 (0, 0)) from hZ)
  clear hZ hbl hsz hoth x9
  clear hs
  refine wpList_nil ?_
  simp only [Act.put]
  go_upto_region 2 with (fail)
  have ZGn := Lib.hid (show ∀ n : WIn (Below Z.heap.size Z), n.val.heap[w.heap.size + 1]? = some (.cells cs.toArray 76 (0, 0)) from fun n => keepB ZG.out n.ok)
  have ZPn := Lib.hid (show ∀ n : WIn (Below Z.heap.size Z), n.val.heap[w.heap.size]? = some (.cells #[.string q.nm, .int .i64 q.top, .slice a2 q.states.length c2, .slice a3 q.msgs.length c3, .slice a4 q.vals.length c4, .int .i64 q.fault, v6, v7, v8, .slice (some ⟨b, off, none⟩) q.rules.length c9] 27 (0, 0)) from fun n => keepB ZP.out n.ok)
  have ZBn := Lib.hid (show ∀ n : WIn (Below Z.heap.size Z), Below w.heap.size w n.val from fun n => thenBelow ZB.out n.ok)
  have c0 : ∀ n : WIn (Below Z.heap.size Z), n.val.cell? ⟨w.heap.size + 1, 0, none⟩ = some (.string r.nm) := fun n => cellB (ZGn.out n) 0 (by simpa using P0.out)
  have hic : i ≤ c9 := by have := HC9.out; omega
  have cc9 : ∀ n : WIn (Below Z.heap.size Z), n.val.cell? ⟨w.heap.size, 9, none⟩ = some (.slice (some ⟨b, off, none⟩) q.rules.length c9) := fun n => cellB (ZPn.out n) 9 rfl
  cases n0 : nameB r.nm.toList with
  | false =>
    have N0 := Lib.hid n0
    clear n0
    refine wp_cls (by kernel_rfl) (by kernel_rfl) ?_
    iterate 2 go_big_quiet_step (fail)
    go_big_quiet_step (((with_reducible refine (ValidName_any r.nm _ HNM.out).mono ?_); rw [N0.out]; rintro e w1 ⟨rfl, hb⟩; exact ⟨rfl, ⟨w1, thenBelow (WIn.ok _) hb⟩, rfl⟩))
    repeat (go_big_quiet_step (fail))
    refine wpQuiet_nil ?_
    intro n
    go_wp2_with fail
    go_ret
    exact ⟨ret_int (ruleE_nm (.inl N0.out)).symm, ZBn.out n⟩
  | true =>
    have N0 := Lib.hid n0
    clear n0
    cases h0 : hasR (q.rules.take i) r.nm with
    | true =>
      have H0 := Lib.hid h0
      clear h0
      refine wp_cls (by kernel_rfl) (by kernel_rfl) ?_
      iterate 2 go_big_quiet_step (fail)
      go_big_quiet_step (((with_reducible refine (ValidName_any r.nm _ HNM.out).mono ?_); rw [N0.out]; rintro e w1 ⟨rfl, hb⟩; exact ⟨rfl, ⟨w1, thenBelow (WIn.ok _) hb⟩, rfl⟩))
      iterate 8 go_big_quiet_step (fail)
      go_big_quiet_step (((with_reducible refine (hasRule_any r.nm ((H9.out.below RuEl.stays (ZBn.out _)).take i (by omega))).mono ?_); rw [H0.out]; rintro e w1 ⟨rfl, hb⟩; exact ⟨rfl, ⟨w1, thenBelow (WIn.ok _) hb⟩, rfl⟩))
      repeat (go_big_quiet_step (fail))
      refine wpQuiet_nil ?_
      intro n
      go_wp2_with fail
      go_ret
      exact ⟨ret_int (ruleE_nm (.inr H0.out)).symm, ZBn.out n⟩
    | false =>
      have H0 := Lib.hid h0
      clear h0
      refine wp_cls (by kernel_rfl) (by kernel_rfl) ?_
      iterate 2 go_big_quiet_step (fail)
      go_big_quiet_step (((with_reducible refine (ValidName_any r.nm _ HNM.out).mono ?_); rw [N0.out]; rintro e w1 ⟨rfl, hb⟩; exact ⟨rfl, ⟨w1, thenBelow (WIn.ok _) hb⟩, rfl⟩))
      iterate 8 go_big_quiet_step (fail)
      go_big_quiet_step (((with_reducible refine (hasRule_any r.nm ((H9.out.below RuEl.stays (ZBn.out _)).take i (by omega))).mono ?_); rw [H0.out]; rintro e w1 ⟨rfl, hb⟩; exact ⟨rfl, ⟨w1, thenBelow (WIn.ok _) hb⟩, rfl⟩))
      repeat (go_big_quiet_step (fail))
      refine wpQuiet_nil ?_
      intro n
      have YG := Lib.hid (ZGn.out n)
      have YP := Lib.hid (ZPn.out n)
      have YB := Lib.hid (ZBn.out n)
      generalize n.val = Y at YG YP YB ⊢
      clear n
      have YGn := Lib.hid (show ∀ n : WIn (Below Y.heap.size Y), n.val.heap[w.heap.size + 1]? = some (.cells cs.toArray 76 (0, 0)) from fun n => keepB YG.out n.ok)
      have YPn := Lib.hid (show ∀ n : WIn (Below Y.heap.size Y), n.val.heap[w.heap.size]? = some (.cells #[.string q.nm, .int .i64 q.top, .slice a2 q.states.length c2, .slice a3 q.msgs.length c3, .slice a4 q.vals.length c4, .int .i64 q.fault, v6, v7, v8, .slice (some ⟨b, off, none⟩) q.rules.length c9] 27 (0, 0)) from fun n => keepB YP.out n.ok)
      have YBn := Lib.hid (show ∀ n : WIn (Below Y.heap.size Y), Below w.heap.size w n.val from fun n => thenBelow YB.out n.ok)
      have d1 : ∀ n : WIn (Below Y.heap.size Y), n.val.cell? ⟨w.heap.size + 1, 1, none⟩ = some (.int .i64 r.kind) := fun n => cellB (YGn.out n) 1 (by simpa using P1.out)
      have e1 : ∀ n : WIn (Below Y.heap.size Y), n.val.cell? ⟨w.heap.size, 1, none⟩ = some (.int .i64 q.top) := fun n => cellB (YPn.out n) 1 rfl
      go_upto_region 4 with (fail)
      cases f0 : fitB r.kind q.top with
      | false =>
        have F0 := Lib.hid f0
        clear f0
        refine wp_cls_seq ?_
        iterate 4 go_big_quiet_step (fail)
        go_big_quiet_step (((with_reducible refine (kindFits_any r.kind q.top _).mono ?_); rw [F0.out]; rintro e w1 ⟨rfl, hb⟩; subst hb; exact ⟨rfl, ⟨_, WIn.ok _⟩, rfl⟩))
        repeat (go_big_quiet_step (fail))
        refine wpQuiet_nil ?_
        intro n
        go_wp2_with fail
        go_ret
        exact ⟨ret_int (ruleE_rule N0.out H0.out (.inl F0.out)).symm, YBn.out n⟩
      | true =>
        have F0 := Lib.hid f0
        clear f0
        cases o0 : othB r q.top with
        | false =>
          have O0 := Lib.hid o0
          clear o0
          refine wp_cls_seq ?_
          iterate 4 go_big_quiet_step (fail)
          go_big_quiet_step (((with_reducible refine (kindFits_any r.kind q.top _).mono ?_); rw [F0.out]; rintro e w1 ⟨rfl, hb⟩; subst hb; exact ⟨rfl, ⟨_, WIn.ok _⟩, rfl⟩))
          iterate 2 go_big_quiet_step (fail)
          refine BigFrame.wpQuiet_want (by rfl) (fun K hK => ?_)
          refine quiet_ld Tryd.underlying76 info_rule (.tmp 5) (by rfl) (w.heap.size + 1) 0 cs (by rfl) HL.out (by rintro _ ⟨n, rfl⟩; exact rangeBlock (YGn.out n)) (hK _ ?_)
          clear hK K
          simp only [Act.put, List.setIfInBounds_toArray, List.set_cons_succ, List.set_cons_zero]
          iterate 2 go_big_quiet_step (fail)
          go_big_quiet_step (((with_reducible refine (othersEmpty_any q.top (kind_of_fit F0.out) (HE.out.below (YBn.out _))).mono ?_); rw [O0.out]; rintro e w1 ⟨rfl, hb⟩; exact ⟨rfl, ⟨w1, thenBelow (WIn.ok _) hb⟩, rfl⟩))
          repeat (go_big_quiet_step (fail))
          refine wpQuiet_nil ?_
          intro n
          go_wp2_with fail
          go_ret
          exact ⟨ret_int (ruleE_rule N0.out H0.out (.inr O0.out)).symm, YBn.out n⟩
        | true =>
          have O0 := Lib.hid o0
          clear o0
          refine wp_cls_seq ?_
          iterate 4 go_big_quiet_step (fail)
          go_big_quiet_step (((with_reducible refine (kindFits_any r.kind q.top _).mono ?_); rw [F0.out]; rintro e w1 ⟨rfl, hb⟩; subst hb; exact ⟨rfl, ⟨_, WIn.ok _⟩, rfl⟩))
          iterate 2 go_big_quiet_step (fail)
          refine BigFrame.wpQuiet_want (by rfl) (fun K hK => ?_)
          refine quiet_ld Tryd.underlying76 info_rule (.tmp 5) (by rfl) (w.heap.size + 1) 0 cs (by rfl) HL.out (by rintro _ ⟨n, rfl⟩; exact rangeBlock (YGn.out n)) (hK _ ?_)
          clear hK K
          simp only [Act.put, List.setIfInBounds_toArray, List.set_cons_succ, List.set_cons_zero]
          iterate 2 go_big_quiet_step (fail)
          go_big_quiet_step (((with_reducible refine (othersEmpty_any q.top (kind_of_fit F0.out) (HE.out.below (YBn.out _))).mono ?_); rw [O0.out]; rintro e w1 ⟨rfl, hb⟩; exact ⟨rfl, ⟨w1, thenBelow (WIn.ok _) hb⟩, rfl⟩))
          repeat (go_big_quiet_step (fail))
          refine wpQuiet_nil ?_
          intro n
          clear d1 e1
          have XG := Lib.hid (YGn.out n)
          have XP := Lib.hid (YPn.out n)
          have XB := Lib.hid (YBn.out n)
          generalize n.val = X at XG XP XB ⊢
          clear n
          have XGn := Lib.hid (show ∀ n : WIn (Below X.heap.size X), n.val.heap[w.heap.size + 1]? = some (.cells cs.toArray 76 (0, 0)) from fun n => keepB XG.out n.ok)
          have XPn := Lib.hid (show ∀ n : WIn (Below X.heap.size X), n.val.heap[w.heap.size]? = some (.cells #[.string q.nm, .int .i64 q.top, .slice a2 q.states.length c2, .slice a3 q.msgs.length c3, .slice a4 q.vals.length c4, .int .i64 q.fault, v6, v7, v8, .slice (some ⟨b, off, none⟩) q.rules.length c9] 27 (0, 0)) from fun n => keepB XP.out n.ok)
          have XBn := Lib.hid (show ∀ n : WIn (Below X.heap.size X), Below w.heap.size w n.val from fun n => thenBelow XB.out n.ok)
          have f2 : ∀ n : WIn (Below X.heap.size X), n.val.cell? ⟨w.heap.size, 2, none⟩ = some (.slice a2 q.states.length c2) := fun n => cellB (XPn.out n) 2 rfl
          go_upto_region 6 with (fail)
          cases s0 : stB r q.states.length with
          | false =>
            have S0 := Lib.hid s0
            clear s0
            refine wp_cls_seq ?_
            refine BigFrame.wpQuiet_want (by rfl) (fun K hK => ?_)
            refine quiet_ld Tryd.underlying76 info_rule (.tmp 5) (by rfl) (w.heap.size + 1) 0 cs (by rfl) HL.out (by rintro _ ⟨n, rfl⟩; exact rangeBlock (XGn.out n)) (hK _ ?_)
            clear hK K
            simp only [Act.put, List.setIfInBounds_toArray, List.set_cons_succ, List.set_cons_zero]
            iterate 3 go_big_quiet_step (fail)
            go_big_quiet_step (((with_reducible refine (statesExist_any q.states.length HN.out (HE.out.below (XBn.out _))).mono ?_); rw [S0.out]; rintro e w1 ⟨rfl, hb⟩; exact ⟨rfl, ⟨w1, thenBelow (WIn.ok _) hb⟩, rfl⟩))
            repeat (go_big_quiet_step (fail))
            refine wpQuiet_nil ?_
            intro n
            go_wp2_with fail
            go_ret
            exact ⟨ret_int (ruleE_state N0.out H0.out F0.out O0.out S0.out).symm, XBn.out n⟩
          | true =>
            have S0 := Lib.hid s0
            clear s0
            refine wp_cls_seq ?_
            refine BigFrame.wpQuiet_want (by rfl) (fun K hK => ?_)
            refine quiet_ld Tryd.underlying76 info_rule (.tmp 5) (by rfl) (w.heap.size + 1) 0 cs (by rfl) HL.out (by rintro _ ⟨n, rfl⟩; exact rangeBlock (XGn.out n)) (hK _ ?_)
            clear hK K
            simp only [Act.put, List.setIfInBounds_toArray, List.set_cons_succ, List.set_cons_zero]
            iterate 3 go_big_quiet_step (fail)
            go_big_quiet_step (((with_reducible refine (statesExist_any q.states.length HN.out (HE.out.below (XBn.out _))).mono ?_); rw [S0.out]; rintro e w1 ⟨rfl, hb⟩; exact ⟨rfl, ⟨w1, thenBelow (WIn.ok _) hb⟩, rfl⟩))
            repeat (go_big_quiet_step (fail))
            refine wpQuiet_nil ?_
            intro n
            clear f2
            have VG := Lib.hid (XGn.out n)
            have VP := Lib.hid (XPn.out n)
            have VB := Lib.hid (XBn.out n)
            generalize n.val = V at VG VP VB ⊢
            clear n
            have VGn := Lib.hid (show ∀ n : WIn (Below V.heap.size V), n.val.heap[w.heap.size + 1]? = some (.cells cs.toArray 76 (0, 0)) from fun n => keepB VG.out n.ok)
            have VPn := Lib.hid (show ∀ n : WIn (Below V.heap.size V), n.val.heap[w.heap.size]? = some (.cells #[.string q.nm, .int .i64 q.top, .slice a2 q.states.length c2, .slice a3 q.msgs.length c3, .slice a4 q.vals.length c4, .int .i64 q.fault, v6, v7, v8, .slice (some ⟨b, off, none⟩) q.rules.length c9] 27 (0, 0)) from fun n => keepB VP.out n.ok)
            have VBn := Lib.hid (show ∀ n : WIn (Below V.heap.size V), Below w.heap.size w n.val from fun n => thenBelow VB.out n.ok)
            go_upto_region 8 with (fail)
            refine wp_cls_seq ?_
            refine BigFrame.wpQuiet_want (by rfl) (fun K hK => ?_)
            refine quiet_ld Tryd.underlying27 info_prot (.tmp 2) (by rfl) w.heap.size 0 [.string q.nm, .int .i64 q.top, .slice a2 q.states.length c2, .slice a3 q.msgs.length c3, .slice a4 q.vals.length c4, .int .i64 q.fault, v6, v7, v8, .slice (some ⟨b, off, none⟩) q.rules.length c9] (by rfl) (by rfl) (by rintro _ ⟨n, rfl⟩; exact rangeBlock (VPn.out n)) (hK _ ?_)
            clear hK K
            simp only [Act.put, List.setIfInBounds_toArray, List.set_cons_succ, List.set_cons_zero]
            refine BigFrame.wpQuiet_want (by rfl) (fun K hK => ?_)
            refine quiet_ld Tryd.underlying76 info_rule (.tmp 5) (by rfl) (w.heap.size + 1) 0 cs (by rfl) HL.out (by rintro _ ⟨n, rfl⟩; exact rangeBlock (VGn.out n)) (hK _ ?_)
            clear hK K
            simp only [Act.put, List.setIfInBounds_toArray, List.set_cons_succ, List.set_cons_zero]
            go_big_quiet_step (((with_reducible refine (partsError_any (HQ.out.below (VBn.out _)) (HE.out.below (VBn.out _))).mono ?_); skip; rintro e w1 ⟨rfl, hb⟩; exact ⟨rfl, ⟨w1, thenBelow (WIn.ok _) hb⟩, rfl⟩))
            repeat (go_big_quiet_step (fail))
            refine wpQuiet_nil ?_
            intro n
            go_wp2_with fail
            go_ret
            exact ⟨ret_int (ruleE_part N0.out H0.out F0.out O0.out S0.out).symm, VBn.out n⟩
end Go.Proofs.YtmpbfdfjcfanoaaDoor

/-
  slices.IndexFunc, slices.ContainsFunc OF EXPRESSIONS, with isLarge.
-/
namespace Go.Proofs.YtmpbfdfjcfanoaaDoor
open Go.RowKit Go.Deep
def lrgL (l : Ln) : Bool := !smL l.c l.n l.t l.f
theorem any_succ {α : Type} {p : α → Bool} {xs : List α} {k : Nat} (h : k < xs.length) (hk : (xs.take k).any p = false) (e : p xs[k] = false) : (xs.take (k + 1)).any p = false := by
  rw [List.take_succ_eq_append_getElem h, List.any_append, hk]; simpa using e
theorem any_yes {α : Type} {p : α → Bool} {xs : List α} {k : Nat} (h : k < xs.length) (e : p xs[k] = true) : xs.any p = true := by
  rw [List.any_eq_true]; exact ⟨xs[k], List.getElem_mem h, e⟩
theorem any_end {α : Type} {p : α → Bool} {xs : List α} {k : Nat} (h : k = xs.length) (hk : (xs.take k).any p = false) : xs.any p = false := by
  rwa [List.take_of_length_le (by omega)] at hk
theorem lin_cells {lo : Nat} {w : World} {b off n cap : Nat} {xs : List Ln} (h : IsSl 4 LnEl lo w (.slice (some ⟨b, off, none⟩) n cap) xs) (k : Nat) (hk : k < xs.length) : w.cell? ⟨b, off + k * 4, none⟩ = some (.int .i64 xs[k].c) ∧ w.cell? ⟨b, off + k * 4 + 1, none⟩ = some (.int .i64 xs[k].n) ∧ w.cell? ⟨b, off + k * 4 + 2, none⟩ = some (.int .i64 xs[k].t) ∧ w.cell? ⟨b, off + k * 4 + 3, none⟩ = some (.int .i64 xs[k].f) := by
  obtain ⟨b', off', cs, ha, _, _, _, hc, hel⟩ := h.at k hk
  cases ha
  have h0 := hc 0 (by omega)
  have h1 := hc 1 (by omega)
  have h2 := hc 2 (by omega)
  have h3 := hc 3 (by omega)
  rw [hel.1] at h0 h1 h2 h3
  exact ⟨h0.trans rfl, h1.trans rfl, h2.trans rfl, h3.trans rfl⟩
set_option maxHeartbeats 1600000 in
theorem IndexLarge_any {lo : Nat} {w : World} {v : Value} {xs : List Ln} (h : IsSl 4 LnEl lo w v xs) :
    Calls Tryd.prog 91 #[v, .func (.func 49) #[] #[]] w fun e w' => ∃ i : Int, e = .returned (.int .i64 i) ∧ (decide (0 ≤ i)) = xs.any lrgL ∧ Below w.heap.size w w' := by
  have hn := h.bound
  have H := Lib.hid h
  rcases sl_cases h with ⟨rfl, a, c, rfl⟩ | ⟨b, off, c, rfl, hbw, _⟩
  · clear h
    go_enter Tryd.func91, Tryd.ntmps91
    go_wp2_with fail
    refine wp_loop_rounds 1 ?_
    rw [rounds_succ]
    go_wp2_with fail
    go_ret
    exact ⟨-1, rfl, rfl, Below.refl _ _⟩
  · generalize hN : xs.length = n at hn
    have HN := Lib.hid hN
    rw [hN] at H
    clear h hN
    go_enter Tryd.func91, Tryd.ntmps91
    go_wp2_with fail
    go_loopw [8] (fun u wr => ∃ k : Nat, k ≤ n ∧ u = .int .i64 k ∧ (xs.take k).any lrgL = false ∧ Below w.heap.size w wr) (fun u _ => n - (intOf u).toNat)
    case atStart => exact ⟨0, Nat.zero_le _, rfl, rfl, Below.refl _ _⟩
    case round =>
      obtain ⟨k, hk, rfl, hs, hB⟩ := hrel
      have HS := Lib.hid hs
      have HB := Lib.hid hB
      clear hs hB
      by_cases h1 : k < n
      · have hkx : k < xs.length := by rw [HN.out]; exact h1
        obtain ⟨g1, g2, g3, g4⟩ := lin_cells H.out k hkx
        have k1 := (HB.out.cell (p := ⟨b, off + k * 4, none⟩) hbw).trans g1
        have k2 := (HB.out.cell (p := ⟨b, off + k * 4 + 1, none⟩) hbw).trans g2
        have k3 := (HB.out.cell (p := ⟨b, off + k * 4 + 2, none⟩) hbw).trans g3
        have k4 := (HB.out.cell (p := ⟨b, off + k * 4 + 3, none⟩) hbw).trans g4
        have HYES := Lib.hid (fun h => any_yes (p := lrgL) hkx h)
        have HNO := Lib.hid (fun h => any_succ (p := lrgL) hkx HS.out h)
        generalize xs[k] = x at k1 k2 k3 k4 HYES HNO
        clear g1 g2 g3 g4
        cases he : smL x.c x.n x.t x.f with
        | false =>
          have HE := Lib.hid he
          clear he
          go_wp2_with (go_at_call 49; (with_reducible refine (isLarge_any _ _ _ _ _).mono ?_); rw [HE.out]; rintro e w1 ⟨rfl, hb1⟩; have HB1 := Lib.hid hb1; clear hb1)
          go_ret
          exact ⟨k, rfl, by rw [HYES.out (by unfold lrgL; rw [HE.out]; rfl)]; simp, thenBelow HB.out HB1.out⟩
        | true =>
          have HE := Lib.hid he
          clear he
          go_wp2_with (go_at_call 49; (with_reducible refine (isLarge_any _ _ _ _ _).mono ?_); rw [HE.out]; rintro e w1 ⟨rfl, hb1⟩; have HB1 := Lib.hid hb1; clear hb1)
          go_roundw
          case rel => exact ⟨k + 1, by omega, by go_num, HNO.out (by unfold lrgL; rw [HE.out]; rfl), thenBelow HB.out HB1.out⟩
          case measure => simp [intOf]; omega
      · have HE := Lib.hid (any_end (by rw [HN.out]; omega) HS.out)
        go_wp2_with fail
        go_ret
        exact ⟨-1, rfl, by rw [HE.out]; rfl, HB.out⟩
set_option maxHeartbeats 1600000 in
theorem ContainsLarge_any {lo : Nat} {w : World} {v : Value} {xs : List Ln} (h : IsSl 4 LnEl lo w v xs) :
    Calls Tryd.prog 48 #[v, .func (.func 49) #[] #[]] w fun e w' => e = .returned (.bool (xs.any fun l => !smL l.c l.n l.t l.f)) ∧ Below w.heap.size w w' := by
  have HI := Lib.hid (IndexLarge_any h)
  clear h
  go_enter Tryd.func48, Tryd.ntmps48
  go_wp2_with (go_at_call 91; refine Calls.mono (show Calls _ _ _ _ _ from HI.out) ?_; rintro e w1 ⟨i, rfl, hi, hb⟩; have HI2 := Lib.hid hi; have HB := Lib.hid hb; clear hi hb)
  go_ret
  exact ⟨ret_bool HI2.out, HB.out⟩
end Go.Proofs.YtmpbfdfjcfanoaaDoor
