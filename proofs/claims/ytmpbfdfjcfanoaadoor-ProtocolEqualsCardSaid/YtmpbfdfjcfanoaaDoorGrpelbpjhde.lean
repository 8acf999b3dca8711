import Derived.Lib.AppendZeros
import Derived.Laws.AppendOwnNone
import Derived.Lib.Hide
import Derived.Lib.Walk
import Derived.LoopTactic
import Derived.Outline
import Derived.Laws.RangeString
import Derived.Laws.RangeAny
import Derived.Deep.DeepCutAuto
import Derived.Test.YtmpbfdfjcfanoaaDoorGrpcapphkoo
import Derived.Test.YtmpbfdfjcfanoaaDoorGrpjfkenafn
set_option linter.all false
namespace Go.Proofs.YtmpbfdfjcfanoaaDoor
open Go.RowKit Go.Deep
end Go.Proofs.YtmpbfdfjcfanoaaDoor

namespace Go.Proofs.YtmpbfdfjcfanoaaDoor
open Go.RowKit Go.Deep

set_option maxHeartbeats 4000000 in
set_option maxRecDepth 100000 in
theorem isReserved_any (s : ByteArray) (w : World) :
    Calls Tryd.prog 88 #[.string s] w fun e w' => e = .returned (.bool (resB s.toList)) ∧ w = w' := by
  have e : Hid (resB s.toList = resW.any (fun w => s.toList == w)) := (rfl : resB _ = _)
  go_enter Tryd.func88, Tryd.ntmps88
  go_wp2
  all_goals first
    | (exfalso; simp_all only [Bool.false_eq_true]; done)
    | (go_ret; refine ⟨ret_bool ?_, rfl⟩; rw [e.out]; unfold resW; simp only [List.any_cons, List.any_nil, *, Bool.or_true, Bool.true_or, Bool.or_false]; done)

theorem len_list (s : ByteArray) : s.toList.length = s.size := by rw [ByteArray.toList_eq]; simp
theorem get_list (s : ByteArray) (i : Nat) (h : i < s.size) : s.toList.getD i 0 = s[i] := by
  rw [ByteArray.toList_eq]; simp [List.getD, h]; rfl

theorem iterBelow (w : World) (s : ByteArray) (n : Nat) : Below w.heap.size w (w.iter s n) := (Below.refl _ _).alloc (Nat.le_refl _) _
set_option maxHeartbeats 1600000 in
theorem ValidName_any (s : ByteArray) (w : World) (hs : s.size ≤ maxLen) :
    Calls Tryd.prog 41 #[.string s] w fun e w' => e = .returned (.bool (nameB s.toList)) ∧ Below w.heap.size w w' := by
  unfold maxLen at hs
  have e : Hid (nameB s.toList = (decide (1 ≤ s.toList.length) && decide (s.toList.length ≤ 12) && !resB s.toList && upB s.toList s.toList.length)) := (rfl : nameB _ = _)
  have el := Lib.hid (len_list s)
  by_cases h1 : s.size < 1
  · go_enter Tryd.func41, Tryd.ntmps41
    go_wp2_with (go_at_call 88; refine (isReserved_any _ _).mono ?_; rintro e w' ⟨rfl, rfl⟩)
    go_ret
    exact ⟨ret_bool (by rw [e.out, el.out, decide_eq_false (by omega)]; rfl), Below.refl _ _⟩
  · by_cases h2 : 12 < s.size
    · go_enter Tryd.func41, Tryd.ntmps41
      go_wp2_with (go_at_call 88; refine (isReserved_any _ _).mono ?_; rintro e w' ⟨rfl, rfl⟩)
      go_ret
      exact ⟨ret_bool (by rw [e.out, el.out, decide_eq_false (by omega : ¬ s.size ≤ 12)]; simp), Below.refl _ _⟩
    · cases h3 : resB s.toList with
      | true =>
        go_enter Tryd.func41, Tryd.ntmps41
        go_wp2_with (go_at_call 88; refine (isReserved_any _ _).mono ?_; rintro e w' ⟨rfl, rfl⟩)
        go_ret
        exact ⟨ret_bool (by rw [e.out, h3]; simp), Below.refl _ _⟩
      | false =>
        go_enter Tryd.func41, Tryd.ntmps41
        go_wp2_with (go_at_call 88; refine (isReserved_any _ _).mono ?_; rintro e w' ⟨rfl, rfl⟩)
        go_loopw [] (fun w' => ∃ pos : Nat, w' = w.iter s pos ∧ pos ≤ s.size ∧ upB s.toList pos = true) (fun w' => s.size - w'.iterPos w.heap.size)
        case atStart => exact ⟨0, rfl, Nat.zero_le _, upB_zero _⟩
        case round =>
          obtain ⟨pos, rfl, hle, hup⟩ := hrel
          have HU := Lib.hid hup
          clear hup
          by_cases hp : pos < s.size
          · have hg := get_list s pos hp
            obtain ⟨r, p', hnx, hr⟩ : ∃ (r : Int) (p' : Nat), (∀ ty, (Instr.next (.pointer (some ⟨w.heap.size, 0, none⟩)) true ty).run Tryd.prog (w.iter s pos) = .ok (.tuple #[.bool true, .int .i64 pos, .int .i32 r]) (w.iter s p')) ∧ ((r = (s[pos].toNat : Int) ∧ p' = pos + 1) ∨ (128 ≤ r ∧ 128 ≤ s[pos].toNat)) := by
              by_cases ha : s[pos].toNat < 128
              · exact ⟨_, _, fun ty => run_next_ascii w s pos ty hp ha, .inl ⟨rfl, rfl⟩⟩
              · exact ⟨_, _, fun ty => run_next_any w s pos ty hp, .inr ⟨by have := (decode_high s pos hp (by omega)).1; omega, by omega⟩⟩
            have hcl : (97 ≤ r ∧ r ≤ 122) ∨ (48 ≤ r ∧ r ≤ 57) ∨ r = 95 ∨ r < 48 ∨ (57 < r ∧ r < 97 ∧ r ≠ 95) ∨ 122 < r := by omega
            have hat : atB s.toList pos = (leB s[pos] || (decide (pos ≠ 0) && diB s[pos])) := by unfold atB; rw [hg]
            have hno : (128 ≤ s[pos].toNat ∨ (r = (s[pos].toNat : Int) ∧ (r < 48 ∨ (57 < r ∧ r < 97 ∧ r ≠ 95) ∨ 122 < r))) → atB s.toList pos = false := fun h => by
              rw [hat]
              have : leB s[pos] = false := by unfold leB; simp; omega
              have h2 : diB s[pos] = false := by unfold diB; simp; omega
              rw [this, h2]; simp
            have HAT := Lib.hid hat
            have HNO := Lib.hid hno
            have HR := Lib.hid hr
            clear hat hno hr hg
            rcases hcl with ⟨c1, c2⟩ | ⟨c1, c2⟩ | c1 | c1 | ⟨c1, c2, c3⟩ | c1
            · have hr : r = (s[pos].toNat : Int) ∧ p' = pos + 1 := HR.out.elim id fun h => absurd h.1 (by omega)
              obtain rfl : pos + 1 = p' := hr.2.symm
              have HA := Lib.hid (show atB s.toList pos = true by rw [HAT.out]; have : leB s[pos] = true := (by unfold leB; simp; omega); rw [this]; rfl)
              clear hr
              go_wp2
              all_goals
                go_roundw
                case rel => exact ⟨pos + 1, rfl, by omega, upB_succ HU.out HA.out⟩
                case measure => simp; omega
            · have hr : r = (s[pos].toNat : Int) ∧ p' = pos + 1 := HR.out.elim id fun h => absurd h.1 (by omega)
              obtain rfl : pos + 1 = p' := hr.2.symm
              by_cases h0 : pos = 0
              · have HA := Lib.hid (show atB s.toList pos = false by rw [HAT.out]; have : leB s[pos] = false := (by unfold leB; simp; omega); rw [this]; simp [h0])
                have h0' : (((pos : Nat) : Int) == 0) = true := by simp [h0]
                clear hr h0
                go_wp2
                all_goals
                  go_ret
                  exact ⟨ret_bool (by rw [e.out, upB_no (el.out.symm ▸ hp) HA.out]; simp), iterBelow _ _ _⟩
              · have HA := Lib.hid (show atB s.toList pos = true by rw [HAT.out]; have : diB s[pos] = true := (by unfold diB; simp; omega); rw [this]; simp [h0])
                have h0' : (((pos : Nat) : Int) == 0) = false := by simp [h0]
                clear hr h0
                go_wp2
                all_goals
                  go_roundw
                  case rel => exact ⟨pos + 1, rfl, by omega, upB_succ HU.out HA.out⟩
                  case measure => simp; omega
            · have hr : r = (s[pos].toNat : Int) ∧ p' = pos + 1 := HR.out.elim id fun h => absurd h.1 (by omega)
              obtain rfl : pos + 1 = p' := hr.2.symm
              have c2 : 57 < r := by omega
              have c3 : r < 97 := by omega
              have c4 : (r == 95) = true := by simp [c1]
              by_cases h0 : pos = 0
              · have HA := Lib.hid (show atB s.toList pos = false by rw [HAT.out]; have : leB s[pos] = false := (by unfold leB; simp; omega); rw [this]; simp [h0])
                have h0' : (((pos : Nat) : Int) == 0) = true := by simp [h0]
                clear hr h0 c1
                go_wp2
                all_goals
                  go_ret
                  exact ⟨ret_bool (by rw [e.out, upB_no (el.out.symm ▸ hp) HA.out]; simp), iterBelow _ _ _⟩
              · have HA := Lib.hid (show atB s.toList pos = true by rw [HAT.out]; have : diB s[pos] = true := (by unfold diB; simp; omega); rw [this]; simp [h0])
                have h0' : (((pos : Nat) : Int) == 0) = false := by simp [h0]
                clear hr h0 c1
                go_wp2
                all_goals
                  go_roundw
                  case rel => exact ⟨pos + 1, rfl, by omega, upB_succ HU.out HA.out⟩
                  case measure => simp; omega
            · have HA := Lib.hid (HNO.out (HR.out.elim (fun h => .inr ⟨h.1, .inl c1⟩) fun h => absurd h.1 (by omega)))
              have c4 : (r == 95) = false := by simp; omega
              go_wp2
              all_goals
                go_ret
                exact ⟨ret_bool (by rw [e.out, upB_no (el.out.symm ▸ hp) HA.out]; simp), iterBelow _ _ _⟩
            · have HA := Lib.hid (HNO.out (HR.out.elim (fun h => .inr ⟨h.1, .inr (.inl ⟨c1, c2, c3⟩)⟩) fun h => absurd h.1 (by omega)))
              have c4 : (r == 95) = false := by simp; omega
              clear c3
              have c0 : 48 ≤ r := by omega
              have d1 : decide (r ≤ 57) = false := by simp; omega
              go_wp2
              all_goals
                go_ret
                exact ⟨ret_bool (by rw [e.out, upB_no (el.out.symm ▸ hp) HA.out]; simp), iterBelow _ _ _⟩
            · have HA := Lib.hid (HNO.out (HR.out.elim (fun h => .inr ⟨h.1, .inr (.inr c1)⟩) fun h => .inl h.2))
              have c4 : (r == 95) = false := by simp; omega
              have c5 : 97 ≤ r := by omega
              have c6 : 48 ≤ r := by omega
              have c7 : 57 < r := by omega
              have d1 : decide (r ≤ 57) = false := by simp; omega
              have d2 : decide (r ≤ 122) = false := by simp; omega
              go_wp2
              all_goals
                go_ret
                exact ⟨ret_bool (by rw [e.out, upB_no (el.out.symm ▸ hp) HA.out]; simp), iterBelow _ _ _⟩
          · have hnx : ∀ ty, (Instr.next (.pointer (some ⟨w.heap.size, 0, none⟩)) true ty).run Tryd.prog (w.iter s pos) = _ := fun ty => run_next_end w s pos ty hp
            go_wp2
            go_ret
            exact ⟨ret_bool (by rw [e.out, el.out, h3, decide_eq_true (by omega), decide_eq_true (by omega), show s.size = pos by omega, HU.out]; rfl), (Below.refl _ _).alloc (Nat.le_refl _) _⟩
end Go.Proofs.YtmpbfdfjcfanoaaDoor

namespace Go.Proofs.YtmpbfdfjcfanoaaDoor
open Go.RowKit Go.Deep
end Go.Proofs.YtmpbfdfjcfanoaaDoor
