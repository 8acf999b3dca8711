/-
  WHAT EVERY LAW OF THE LAYER ASKS BESIDES: one text and three names.
-/
import Derived.Test.YtenahfmmijpelaaDoorPFmt
import Derived.Test.YtenahfmmijpelaaDoorPNames
namespace Go.Proofs.YtenahfmmijpelaaDoor
open Go.RowKit Go.Deep

theorem itoa_one (k : Nat) (h : k < 10) : Go.Lib.itoa (-((k : Int) + 1)) = (45 :: Go.Lib.decDigits (k + 1)) := by
  unfold Go.Lib.itoa; rw [if_pos (by omega)]; congr 2
theorem dec_digit (k : Nat) (h : k < 10) : Go.Lib.decDigits k = [UInt8.ofNat (48 + k)] := by
  rw [Go.Lib.decDigits, dif_pos h]
theorem known_lin : linT (-1) 1 (-3) 0 = [110, 45, 51, 42, 116, 45, 49] := by
  have e1 : Go.Lib.itoa (-1) = [45, 49] := by
    have := itoa_one 0 (by omega); rw [dec_digit 1 (by omega)] at this; exact this
  have e3 : Go.Lib.itoa (-3) = [45, 51] := by
    have := itoa_one 2 (by omega); rw [dec_digit 3 (by omega)] at this; exact this
  have t1 : trmT 1 [110] = [43, 110] := rfl
  have t2 : trmT (-3) [116] = [45, 51, 42, 116] := by unfold trmT sgnT; rw [if_neg (by decide), if_neg (by decide), if_neg (by decide), if_pos (by decide), e3]; rfl
  have t3 : trmT 0 [102] = [] := rfl
  have t4 : sgnT (-1) = [45, 49] := by unfold sgnT; rw [if_pos (by decide), e1]
  unfold linT midT trm3
  rw [t1, t2, t3, if_neg (by decide), t4]
  rfl

theorem FormatLinear_known (w : World) (ht : TabW w) :
    Calls Tryd.prog 23 #[.agg #[.int .i64 (-1), .int .i64 1, .int .i64 (-3), .int .i64 0]] w fun e w' => e = .returned (.string ⟨#[110, 45, 51, 42, 116, 45, 49]⟩) ∧ Below w.heap.size w w' := by
  have := FormatLinear_any (-1) 1 (-3) 0 (by decide) w ht
  rw [known_lin] at this
  exact this
theorem name_yes (w : World) : Calls Tryd.prog 24 #[.string ⟨#[118, 48]⟩] w fun e w' => e = .returned (.bool true) ∧ Below w.heap.size w w' := by
  have := ValidName_any ⟨#[118, 48]⟩ w (by unfold maxLen; simp [ByteArray.size])
  rw [show nameB (⟨#[118, 48]⟩ : ByteArray).toList = true by rw [show (⟨#[118, 48]⟩ : ByteArray) = ⟨[118, 48].toArray⟩ from rfl, ByteArray.toList_mk]; decide] at this
  exact this
theorem name_line (w : World) : Calls Tryd.prog 24 #[.string ⟨#[108, 105, 110, 101]⟩] w fun e w' => e = .returned (.bool false) ∧ Below w.heap.size w w' := by
  have := ValidName_any ⟨#[108, 105, 110, 101]⟩ w (by unfold maxLen; simp [ByteArray.size])
  rw [show nameB (⟨#[108, 105, 110, 101]⟩ : ByteArray).toList = false by rw [show (⟨#[108, 105, 110, 101]⟩ : ByteArray) = ⟨[108, 105, 110, 101].toArray⟩ from rfl, ByteArray.toList_mk]; decide] at this
  exact this
theorem name_empty (w : World) : Calls Tryd.prog 24 #[.string ⟨#[]⟩] w fun e w' => e = .returned (.bool false) ∧ Below w.heap.size w w' := by
  have := ValidName_any ⟨#[]⟩ w (by unfold maxLen; simp [ByteArray.size])
  rw [show nameB (⟨#[]⟩ : ByteArray).toList = false by rw [show (⟨#[]⟩ : ByteArray) = ⟨([] : List UInt8).toArray⟩ from rfl, ByteArray.toList_mk]; decide] at this
  exact this

theorem vknown_any (w : World) (ht : TabW w) : Calls Tryd.prog 10 #[] w fun e w' => e = .returned (.bool true) ∧ Below w.heap.size w w' := by
  have HT := Lib.hid ht
  clear ht
  go_enter Tryd.func10, Tryd.ntmps10
  go_wp2_with (first | (go_at_call 23; refine (FormatLinear_known _ (HT.out.below (by go_grown))).mono ?_; rintro e w1 ⟨rfl, hb1⟩) | (go_at_call 24; (with_reducible refine (name_yes _).mono ?_); rintro e w2 ⟨rfl, hb2⟩) | (go_at_call 24; (with_reducible refine (name_line _).mono ?_); rintro e w3 ⟨rfl, hb3⟩) | (go_at_call 24; (with_reducible refine (name_empty _).mono ?_); rintro e w4 ⟨rfl, hb4⟩))
  go_ret
  exact ⟨rfl, thenBelow (thenBelow (thenBelow hb1 hb2) hb3) hb4⟩
end Go.Proofs.YtenahfmmijpelaaDoor
