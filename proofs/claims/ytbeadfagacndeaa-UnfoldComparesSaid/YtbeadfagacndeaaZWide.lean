/-
  Wide OF THE LAWS OF unfold.
-/
import Derived.Test.YtbeadfagacndeaaCfgCmp
namespace Go.Proofs.Ytbeadfagacndeaa
open Go.RowKit Go.Deep
def wideCf (q : Cf) : Bool := decide (100 < q.sh.length) || decide (100 < q.st.length) || decide (100 < q.se.length) || decide (100 < q.fa.length)
set_option maxHeartbeats 800000 in
theorem Wide_any {lo : Nat} {w : World} {v : Value} {q : Cf} (h : IsCf lo w v q) :
    Calls Try.prog 14 #[v] w fun e w' => e = .returned (.bool (wideCf q)) ∧ Below w.heap.size w w' := by
  obtain ⟨u0, u1, u3, u4, rfl, h0, h1, _, h3, h4, _⟩ := h
  have E : Hid (wideCf q = (decide (100 < q.sh.length) || decide (100 < q.st.length) || decide (100 < q.se.length) || decide (100 < q.fa.length))) := (rfl : wideCf q = _)
  have l0 : q.sh.length ≤ 9223372036854775807 := by obtain ⟨_, _, _, hh, hm, _⟩ := h0; unfold maxLen at hm; omega
  obtain ⟨a0, c0, rfl⟩ := h0.shape
  have l1 : q.st.length ≤ 9223372036854775807 := by obtain ⟨_, _, _, hh, hm, _⟩ := h1; unfold maxLen at hm; omega
  obtain ⟨a1, c1, rfl⟩ := h1.shape
  have l3 : q.se.length ≤ 9223372036854775807 := by obtain ⟨_, _, _, hh, hm, _⟩ := h3; unfold maxLen at hm; omega
  obtain ⟨a3, c3, rfl⟩ := h3.shape
  have l4 : q.fa.length ≤ 9223372036854775807 := by obtain ⟨_, _, _, hh, hm, _⟩ := h4; unfold maxLen at hm; omega
  obtain ⟨a4, c4, rfl⟩ := h4.shape
  clear h0 h1 h3 h4
  by_cases t0 : 100 < q.sh.length
  · have i0 : (100 : Int) < ((q.sh.length : Nat) : Int) := by omega
    go_enter Try.func14, Try.ntmps14
    go_wp2_with fail
    go_ret
    exact ⟨ret_bool (by rw [E.out, decide_eq_true t0]; simp), allocBelow _ _⟩
  · have i0 : ¬ (100 : Int) < ((q.sh.length : Nat) : Int) := by omega
    by_cases t1 : 100 < q.st.length
    · have i1 : (100 : Int) < ((q.st.length : Nat) : Int) := by omega
      go_enter Try.func14, Try.ntmps14
      go_wp2_with fail
      go_ret
      exact ⟨ret_bool (by rw [E.out, decide_eq_true t1]; simp), allocBelow _ _⟩
    · have i1 : ¬ (100 : Int) < ((q.st.length : Nat) : Int) := by omega
      by_cases t3 : 100 < q.se.length
      · have i3 : (100 : Int) < ((q.se.length : Nat) : Int) := by omega
        go_enter Try.func14, Try.ntmps14
        go_wp2_with fail
        go_ret
        exact ⟨ret_bool (by rw [E.out, decide_eq_true t3]; simp), allocBelow _ _⟩
      · have i3 : ¬ (100 : Int) < ((q.se.length : Nat) : Int) := by omega
        by_cases t4 : 100 < q.fa.length
        · have i4 : (100 : Int) < ((q.fa.length : Nat) : Int) := by omega
          go_enter Try.func14, Try.ntmps14
          go_wp2_with fail
          go_ret
          exact ⟨ret_bool (by rw [E.out, decide_eq_true t4]; simp), allocBelow _ _⟩
        · have i4 : ¬ (100 : Int) < ((q.fa.length : Nat) : Int) := by omega
          go_enter Try.func14, Try.ntmps14
          go_wp2_with fail
          go_ret
          exact ⟨ret_bool (by rw [E.out, decide_eq_false t0, decide_eq_false t1, decide_eq_false t3, decide_eq_false t4]; simp), allocBelow _ _⟩
end Go.Proofs.Ytbeadfagacndeaa
