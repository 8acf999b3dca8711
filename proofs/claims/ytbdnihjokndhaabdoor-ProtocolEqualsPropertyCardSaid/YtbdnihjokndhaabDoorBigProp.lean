/-
  BigProperty: whether a property has long lists or a long name.
-/
import Derived.Test.YtbdnihjokndhaabDoorPropBase
namespace Go.Proofs.YtbdnihjokndhaabDoor
open Go.RowKit Go.Deep

def longC (bad : List Rw) (k : Nat) : Bool := (bad.take k).any fun r => decide (60 < r.1.length)
theorem longC_succ {bad : List Rw} {k : Nat} (h : k < bad.length) (hk : longC bad k = false) (hp : ¬ 60 < bad[k].1.length) : longC bad (k + 1) = false := by
  unfold longC at *; rw [List.take_succ_eq_append_getElem h, List.any_append, hk]; simp; omega
theorem longC_yes {bad : List Rw} {k : Nat} (h : k < bad.length) (hp : 60 < bad[k].1.length) : longC bad bad.length = true := by
  unfold longC; rw [List.take_length, List.any_eq_true]; exact ⟨bad[k], List.getElem_mem h, by simpa using hp⟩
def bigQ (q : Pq) : Bool := decide (500 < q.nm.size) || decide (60 < q.start.length) || decide (60 < q.bad.length) || decide (60 < q.adj.length) || decide (60 < q.goal.length) || longC q.bad q.bad.length
theorem bigQ_no {q : Pq} (h : bigQ q = false) : q.start.length ≤ 60 ∧ q.bad.length ≤ 60 ∧ (∀ r ∈ q.bad, r.1.length ≤ 60) ∧ q.adj.length ≤ 60 ∧ q.goal.length ≤ 60 := by
  unfold bigQ longC at h
  simp only [Bool.or_eq_false_iff, decide_eq_false_iff_not, List.take_length, List.any_eq_false, decide_eq_true_eq] at h
  obtain ⟨⟨⟨⟨⟨h0, h1⟩, h2⟩, h3⟩, h4⟩, h5⟩ := h
  exact ⟨by omega, by omega, fun r hr => by have := h5 r hr; omega, by omega, by omega⟩

set_option maxHeartbeats 3200000 in
theorem BigProperty_any {lo : Nat} {w : World} {v : Value} {q : Pq} (h : IsProp lo w v q) :
    Calls Tryd.prog 5 #[v] w fun e w' => e = .returned (.bool (bigQ q)) ∧ Below w.heap.size w w' := by
  obtain ⟨v2, v3, v4, v5, rfl, H2, H3, H4, H5, hnm, _⟩ := h
  obtain ⟨nm, kind, start, bad, adj, goal⟩ := q
  dsimp only at H2 H3 H4 H5 hnm ⊢
  obtain ⟨a0, c0, rfl⟩ := H2.shape
  obtain ⟨a1, c1, rfl⟩ := H3.shape
  obtain ⟨a2, c2, rfl⟩ := H4.shape
  obtain ⟨a3, c3, rfl⟩ := H5.shape
  have GH3 := Lib.hid H3
  have E : Hid (bigQ ⟨nm, kind, start, bad, adj, goal⟩ = (decide (500 < nm.size) || decide (60 < start.length) || decide (60 < bad.length) || decide (60 < adj.length) || decide (60 < goal.length) || longC bad bad.length)) := (rfl : bigQ _ = _)
  unfold maxLen at hnm
  clear H2 H3 H4 H5
  by_cases t0 : 500 < nm.size
  · have i0 : (500 : Int) < (nm.size : Nat) := by omega
    go_enter Tryd.func5, Tryd.ntmps5
    go_wp2_with fail
    go_ret
    exact ⟨ret_bool (by rw [E.out, decide_eq_true t0]; simp), allocBelow _ _⟩
  · have i0 : ¬ (500 : Int) < (nm.size : Nat) := by omega
    by_cases t1 : 60 < start.length
    · have i1 : (60 : Int) < (start.length : Nat) := by omega
      go_enter Tryd.func5, Tryd.ntmps5
      go_wp2_with fail
      go_ret
      exact ⟨ret_bool (by rw [E.out, decide_eq_true t1]; simp), allocBelow _ _⟩
    · have i1 : ¬ (60 : Int) < (start.length : Nat) := by omega
      by_cases t2 : 60 < bad.length
      · have i2 : (60 : Int) < (bad.length : Nat) := by omega
        go_enter Tryd.func5, Tryd.ntmps5
        go_wp2_with fail
        go_ret
        exact ⟨ret_bool (by rw [E.out, decide_eq_true t2]; simp), allocBelow _ _⟩
      · have i2 : ¬ (60 : Int) < (bad.length : Nat) := by omega
        by_cases t3 : 60 < adj.length
        · have i3 : (60 : Int) < (adj.length : Nat) := by omega
          go_enter Tryd.func5, Tryd.ntmps5
          go_wp2_with fail
          go_ret
          exact ⟨ret_bool (by rw [E.out, decide_eq_true t3]; simp), allocBelow _ _⟩
        · have i3 : ¬ (60 : Int) < (adj.length : Nat) := by omega
          by_cases t4 : 60 < goal.length
          · have i4 : (60 : Int) < (goal.length : Nat) := by omega
            go_enter Tryd.func5, Tryd.ntmps5
            go_wp2_with fail
            go_ret
            exact ⟨ret_bool (by rw [E.out, decide_eq_true t4]; simp), allocBelow _ _⟩
          · have i4 : ¬ (60 : Int) < (goal.length : Nat) := by omega
            have E' := Lib.hid (show bigQ ⟨nm, kind, start, bad, adj, goal⟩ = longC bad bad.length by rw [E.out, decide_eq_false t0, decide_eq_false t1, decide_eq_false t2, decide_eq_false t3, decide_eq_false t4]; rfl)
            clear E
            go_enter Tryd.func5, Tryd.ntmps5
            go_wp2_with fail
            obtain ⟨W, hW⟩ : ∃ W, W = w.alloc (.cells #[.string nm, .int .i64 kind, .slice a0 start.length c0, .slice a1 bad.length c1, .slice a2 adj.length c2, .slice a3 goal.length c3] 25) := ⟨_, rfl⟩
            rw [← hW]
            have HA3 := Lib.hid (show W.cell? ⟨w.heap.size, 3, none⟩ = some (.slice a1 bad.length c1) by rw [hW]; exact (new_cell _ _ _ 3 rfl).trans rfl)
            have HBW := Lib.hid (show Below w.heap.size w W by rw [hW]; exact allocBelow _ _)
            clear hW
            have A3 : W.cell? ⟨w.heap.size, 3, none⟩ = some (.slice a1 bad.length c1) := HA3.out
            go_loop [3] (fun v => ∃ k : Nat, k ≤ bad.length ∧ v = .int .i64 k ∧ longC bad k = false) (fun v => bad.length - (intOf v).toNat)
            case atStart => exact ⟨0, Nat.zero_le _, rfl, rfl⟩
            case round =>
              obtain ⟨k, hk, rfl, hs⟩ := hrel
              have HS := Lib.hid hs
              clear hs
              by_cases h1 : k < bad.length
              · obtain ⟨b, off, sv, rfl, hb, q1, q2, q3, _⟩ := GH3.out.at k h1
                obtain ⟨x1, d1, rfl⟩ := q3.shape
                have g1 := keep1 q1 HBW.out
                by_cases h2 : 60 < (bad[k]'h1).1.length
                · have h2' : (60 : Int) < (((bad[k]'h1).1.length : Nat) : Int) := by omega
                  go_wp2_with fail
                  go_ret
                  exact ⟨ret_bool (by rw [E'.out, longC_yes h1 h2]), HBW.out⟩
                · have h2' : ¬ (60 : Int) < (((bad[k]'h1).1.length : Nat) : Int) := by omega
                  go_wp2_with fail
                  go_round
                  case rel => exact ⟨k + 1, by omega, by go_num, longC_succ h1 HS.out h2⟩
                  case measure => simp [intOf]; omega
              · go_wp2_with fail
                go_ret
                exact ⟨ret_bool (by rw [E'.out]; have : k = bad.length := by omega
                                    rw [← this, HS.out]), HBW.out⟩
end Go.Proofs.YtbdnihjokndhaabDoor
