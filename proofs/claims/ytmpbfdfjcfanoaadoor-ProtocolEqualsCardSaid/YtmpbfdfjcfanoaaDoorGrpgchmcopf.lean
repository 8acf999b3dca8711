import Derived.Test.YtmpbfdfjcfanoaaDoorGrpgefecapg
import Derived.Test.YtmpbfdfjcfanoaaDoorGrpghkcfdaa
set_option linter.all false
namespace Go.Proofs.YtmpbfdfjcfanoaaDoor
open Go.RowKit Go.Deep
set_option maxHeartbeats 3200000 in
theorem SameTh_any (x1 x2 x3 x4 x5 x6 y1 y2 y3 y4 y5 y6 : Int) (w : World) :
    Calls Tryd.prog 103 #[.agg #[.int .i64 x1, .int .i64 x2, .int .i64 x3, .int .i64 x4, .int .i64 x5, .int .i64 x6], .agg #[.int .i64 y1, .int .i64 y2, .int .i64 y3, .int .i64 y4, .int .i64 y5, .int .i64 y6]] w fun e w' => e = .returned (.bool (decide ((⟨x1, x2, ⟨x3, x4, x5, x6⟩⟩ : Th) = ⟨y1, y2, ⟨y3, y4, y5, y6⟩⟩))) ∧ Below w.heap.size w w' := by
  by_cases e0 : x1 = y1
  · subst e0
    by_cases e1 : x2 = y2
    · subst e1
      by_cases e2 : x3 = y3
      · subst e2
        by_cases e3 : x4 = y4
        · subst e3
          by_cases e4 : x5 = y5
          · subst e4
            by_cases e5 : x6 = y6
            · subst e5
              go_enter Tryd.func103, Tryd.ntmps103
              go_wp2_with fail
              go_ret
              exact ⟨ret_bool (by simp), thenBelow (allocBelow _ _) (allocBelow _ _)⟩
            · have e5' : (x6 == y6) = false := by simp [e5]
              have HE := Lib.hid (show decide ((⟨x1, x2, ⟨x3, x4, x5, x6⟩⟩ : Th) = ⟨x1, x2, ⟨x3, x4, x5, y6⟩⟩) = false by rw [decide_eq_false_iff_not]; intro h; simp only [Th.mk.injEq, Ln.mk.injEq] at h; simp_all)
              clear e5
              go_enter Tryd.func103, Tryd.ntmps103
              go_wp2_with fail
              go_ret
              exact ⟨ret_bool HE.out.symm, thenBelow (allocBelow _ _) (allocBelow _ _)⟩
          · have e4' : (x5 == y5) = false := by simp [e4]
            have HE := Lib.hid (show decide ((⟨x1, x2, ⟨x3, x4, x5, x6⟩⟩ : Th) = ⟨x1, x2, ⟨x3, x4, y5, y6⟩⟩) = false by rw [decide_eq_false_iff_not]; intro h; simp only [Th.mk.injEq, Ln.mk.injEq] at h; simp_all)
            clear e4
            go_enter Tryd.func103, Tryd.ntmps103
            go_wp2_with fail
            go_ret
            exact ⟨ret_bool HE.out.symm, thenBelow (allocBelow _ _) (allocBelow _ _)⟩
        · have e3' : (x4 == y4) = false := by simp [e3]
          have HE := Lib.hid (show decide ((⟨x1, x2, ⟨x3, x4, x5, x6⟩⟩ : Th) = ⟨x1, x2, ⟨x3, y4, y5, y6⟩⟩) = false by rw [decide_eq_false_iff_not]; intro h; simp only [Th.mk.injEq, Ln.mk.injEq] at h; simp_all)
          clear e3
          go_enter Tryd.func103, Tryd.ntmps103
          go_wp2_with fail
          go_ret
          exact ⟨ret_bool HE.out.symm, thenBelow (allocBelow _ _) (allocBelow _ _)⟩
      · have e2' : (x3 == y3) = false := by simp [e2]
        have HE := Lib.hid (show decide ((⟨x1, x2, ⟨x3, x4, x5, x6⟩⟩ : Th) = ⟨x1, x2, ⟨y3, y4, y5, y6⟩⟩) = false by rw [decide_eq_false_iff_not]; intro h; simp only [Th.mk.injEq, Ln.mk.injEq] at h; simp_all)
        clear e2
        go_enter Tryd.func103, Tryd.ntmps103
        go_wp2_with fail
        go_ret
        exact ⟨ret_bool HE.out.symm, thenBelow (allocBelow _ _) (allocBelow _ _)⟩
    · have e1' : (x2 == y2) = false := by simp [e1]
      have HE := Lib.hid (show decide ((⟨x1, x2, ⟨x3, x4, x5, x6⟩⟩ : Th) = ⟨x1, y2, ⟨y3, y4, y5, y6⟩⟩) = false by rw [decide_eq_false_iff_not]; intro h; simp only [Th.mk.injEq, Ln.mk.injEq] at h; simp_all)
      clear e1
      go_enter Tryd.func103, Tryd.ntmps103
      go_wp2_with fail
      go_ret
      exact ⟨ret_bool HE.out.symm, thenBelow (allocBelow _ _) (allocBelow _ _)⟩
  · have e0' : (x1 == y1) = false := by simp [e0]
    have HE := Lib.hid (show decide ((⟨x1, x2, ⟨x3, x4, x5, x6⟩⟩ : Th) = ⟨y1, y2, ⟨y3, y4, y5, y6⟩⟩) = false by rw [decide_eq_false_iff_not]; intro h; simp only [Th.mk.injEq, Ln.mk.injEq] at h; simp_all)
    clear e0
    go_enter Tryd.func103, Tryd.ntmps103
    go_wp2_with fail
    go_ret
    exact ⟨ret_bool HE.out.symm, thenBelow (allocBelow _ _) (allocBelow _ _)⟩
end Go.Proofs.YtmpbfdfjcfanoaaDoor
