/-
  THE SMALL FUNCTIONS OF Validate: what each returns, of the program.
-/
import Derived.Test.YtenahfmmijpelaaDoorVSmall
namespace Go.Proofs.YtenahfmmijpelaaDoor
open Go.RowKit Go.Deep
def tooB (q : Fm) : Bool := decide (6 < q.states.length) || decide (3 < q.msgs.length) || decide (3 < q.vals.length) || decide (4 < q.res.length) || decide (8 < q.rules.length)
set_option maxHeartbeats 1600000 in
theorem hasTooMany_any {lo : Nat} {w : World} {v : Value} {q : Fm} (h : IsFam lo w v q) :
    Calls Tryd.prog 30 #[v] w fun e w' => e = .returned (.bool (tooB q)) ∧ Below w.heap.size w w' := by
  obtain ⟨v2, v3, v4, v6, v7, v8, v9, rfl, h0, h1, h2, h3, h4, h5, h6, h7, h8, h9⟩ := h
  have E : Hid (tooB q = (decide (6 < q.states.length) || decide (3 < q.msgs.length) || decide (3 < q.vals.length) || decide (4 < q.res.length) || decide (8 < q.rules.length))) := (rfl : tooB q = _)
  have b2 : q.states.length ≤ 9223372036854775807 := by exact h2.bound
  have b3 : q.msgs.length ≤ 9223372036854775807 := by exact h3.bound
  have b4 : q.vals.length ≤ 9223372036854775807 := by exact h4.bound
  have b6 : q.res.length ≤ 9223372036854775807 := by exact h6.bound
  have b7 : q.init.length ≤ 9223372036854775807 := by obtain ⟨_, _, _, hh, hm, _⟩ := h7; unfold maxLen at hm; omega
  have b8 : q.leader.length ≤ 9223372036854775807 := by obtain ⟨_, _, _, hh, hm, _⟩ := h8; unfold maxLen at hm; omega
  have b9 : q.rules.length ≤ 9223372036854775807 := by exact h9.bound
  obtain ⟨a2, c2, rfl⟩ := h2.shape
  obtain ⟨a3, c3, rfl⟩ := h3.shape
  obtain ⟨a4, c4, rfl⟩ := h4.shape
  obtain ⟨a6, c6, rfl⟩ := h6.shape
  obtain ⟨a7, c7, rfl⟩ := h7.shape
  obtain ⟨a8, c8, rfl⟩ := h8.shape
  obtain ⟨a9, c9, rfl⟩ := h9.shape
  clear h0 h1 h2 h3 h4 h5 h6 h7 h8 h9
  by_cases t0 : 6 < q.states.length
  · have i0 : (6 : Int) < ((q.states.length : Nat) : Int) := by omega
    go_enter Tryd.func30, Tryd.ntmps30
    go_wp2_with fail
    go_ret
    exact ⟨ret_bool (by rw [E.out, decide_eq_true t0]; simp), allocBelow _ _⟩
  · have i0 : ¬ (6 : Int) < ((q.states.length : Nat) : Int) := by omega
    by_cases t1 : 3 < q.msgs.length
    · have i1 : (3 : Int) < ((q.msgs.length : Nat) : Int) := by omega
      go_enter Tryd.func30, Tryd.ntmps30
      go_wp2_with fail
      go_ret
      exact ⟨ret_bool (by rw [E.out, decide_eq_true t1]; simp), allocBelow _ _⟩
    · have i1 : ¬ (3 : Int) < ((q.msgs.length : Nat) : Int) := by omega
      by_cases t2 : 3 < q.vals.length
      · have i2 : (3 : Int) < ((q.vals.length : Nat) : Int) := by omega
        go_enter Tryd.func30, Tryd.ntmps30
        go_wp2_with fail
        go_ret
        exact ⟨ret_bool (by rw [E.out, decide_eq_true t2]; simp), allocBelow _ _⟩
      · have i2 : ¬ (3 : Int) < ((q.vals.length : Nat) : Int) := by omega
        by_cases t3 : 4 < q.res.length
        · have i3 : (4 : Int) < ((q.res.length : Nat) : Int) := by omega
          go_enter Tryd.func30, Tryd.ntmps30
          go_wp2_with fail
          go_ret
          exact ⟨ret_bool (by rw [E.out, decide_eq_true t3]; simp), allocBelow _ _⟩
        · have i3 : ¬ (4 : Int) < ((q.res.length : Nat) : Int) := by omega
          by_cases t4 : 8 < q.rules.length
          · have i4 : (8 : Int) < ((q.rules.length : Nat) : Int) := by omega
            go_enter Tryd.func30, Tryd.ntmps30
            go_wp2_with fail
            go_ret
            exact ⟨ret_bool (by rw [E.out, decide_eq_true t4]; simp), allocBelow _ _⟩
          · have i4 : ¬ (8 : Int) < ((q.rules.length : Nat) : Int) := by omega
            go_enter Tryd.func30, Tryd.ntmps30
            go_wp2_with fail
            go_ret
            exact ⟨ret_bool (by rw [E.out, decide_eq_false t0, decide_eq_false t1, decide_eq_false t2, decide_eq_false t3, decide_eq_false t4]; rfl), allocBelow _ _⟩

/-- A kind fits the topology. -/
def fitB (kind top : Int) : Bool := if kind = 1 ∨ kind = 2 ∨ kind = 3 then top == 1 else if kind = 4 ∨ kind = 5 then !(top == 1) else false
theorem kindFits_any (kind top : Int) (w : World) : Calls Tryd.prog 68 #[.int .i64 kind, .int .i64 top] w fun e w' => e = .returned (.bool (fitB kind top)) ∧ w = w' := by
  by_cases k1 : kind = 1
  · subst k1
    go_enter Tryd.func68, Tryd.ntmps68
    go_wp2_with fail
    go_ret
    exact ⟨rfl, rfl⟩
  · have j1 : (kind == 1) = false := by rw [beq_eq_false_iff_ne]; exact k1
    by_cases k2 : kind = 2
    · subst k2
      go_enter Tryd.func68, Tryd.ntmps68
      go_wp2_with fail
      go_ret
      exact ⟨rfl, rfl⟩
    · have j2 : (kind == 2) = false := by rw [beq_eq_false_iff_ne]; exact k2
      by_cases k3 : kind = 3
      · subst k3
        go_enter Tryd.func68, Tryd.ntmps68
        go_wp2_with fail
        go_ret
        exact ⟨rfl, rfl⟩
      · have j3 : (kind == 3) = false := by rw [beq_eq_false_iff_ne]; exact k3
        by_cases k4 : kind = 4
        · subst k4
          go_enter Tryd.func68, Tryd.ntmps68
          go_wp2_with fail
          go_ret
          exact ⟨rfl, rfl⟩
        · have j4 : (kind == 4) = false := by rw [beq_eq_false_iff_ne]; exact k4
          by_cases k5 : kind = 5
          · subst k5
            go_enter Tryd.func68, Tryd.ntmps68
            go_wp2_with fail
            go_ret
            exact ⟨rfl, rfl⟩
          · have j5 : (kind == 5) = false := by rw [beq_eq_false_iff_ne]; exact k5
            have E := Lib.hid (show fitB kind top = false by unfold fitB; rw [if_neg (by omega), if_neg (by omega)])
            clear k1 k2 k3 k4 k5
            go_enter Tryd.func68, Tryd.ntmps68
            go_wp2_with fail
            go_ret
            exact ⟨ret_bool (by rw [E.out]), rfl⟩
end Go.Proofs.YtenahfmmijpelaaDoor
