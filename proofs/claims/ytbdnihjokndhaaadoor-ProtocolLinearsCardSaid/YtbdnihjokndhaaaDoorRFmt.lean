/-
  THE REFERENCE'S TEXT OF AN EXPRESSION: digits, Digits, term, FormatLinear.
-/
import Derived.Test.YtbdnihjokndhaaaDoorPFmt
import Derived.LoopN
import Derived.Laws.IdiomStrings
namespace Go.Proofs.YtbdnihjokndhaaaDoor
open Go.RowKit Go.Deep

theorem conv_byte (W : World) (x : Int) (h0 : 0 ≤ x) (h1 : x < 256) :
    (convert 91 9 (.slice (some ⟨W.heap.size, 0, none⟩) 1 1)).run Tryd.prog (W.alloc (.cells #[.int .u8 x] 5)) = .ok (.string ⟨[UInt8.ofNat x.toNat].toArray⟩) (W.alloc (.cells #[.int .u8 x] 5)) := by
  have e : ((UInt8.ofNat x.toNat).toNat : Int) = x := by rw [UInt8.toNat_ofNat']; omega
  exact run_convert_bytes_back (W.alloc (.cells #[.int .u8 x] 5)) 91 9 5 ⟨W.heap.size, 0, none⟩ 1 [UInt8.ofNat x.toNat] Tryd.underlying91 Tryd.underlying5 Tryd.underlying9 (fun j hj => by
    obtain rfl : j = 0 := by simpa using hj
    have e2 : (⟨W.heap.size, 0, none⟩ : Addr).add 0 = ⟨W.heap.size, 0, none⟩ := by simp [Addr.add]
    rw [e2]
    simp only [List.getElem_cons_zero, e]
    simp)

theorem conv_byte' (W : World) (g : Nat) (x : Int) (hg : g = W.heap.size) (h0 : 0 ≤ x) (h1 : x < 256) :
    (convert 91 9 (.slice (some ⟨g, 0, none⟩) 1 1)).run Tryd.prog (W.alloc (.cells #[.int .u8 x] 5)) = .ok (.string ⟨[UInt8.ofNat x.toNat].toArray⟩) (W.alloc (.cells #[.int .u8 x] 5)) := by
  subst hg; exact conv_byte W x h0 h1

set_option maxRecDepth 100000 in
theorem digits_one (n : Int) (h0 : 0 ≤ n) (h : n ≤ 9) (w : World) :
    Calls Tryd.prog 90 #[.int .i64 n] w fun e w' => e = .returned (.string ⟨(Go.Lib.decDigits n.toNat).toArray⟩) ∧ Below w.heap.size w w' := by
  have hcv := conv_byte w (48 + n) (by omega) (by omega)
  have E := Lib.hid (show Go.Lib.decDigits n.toNat = [UInt8.ofNat (48 + n).toNat] by
    rw [Go.Lib.decDigits, dif_pos (by omega)]; congr 2; omega)
  go_enter Tryd.func90, Tryd.ntmps90
  go_wp2_with fail
  refine wp_loop_rounds 1 ?_
  rw [rounds_succ]
  go_wp2_with fail
  go_ret
  exact ⟨ret_str (by rw [E.out]; exact baA _ []), allocBelow _ _⟩
set_option maxRecDepth 100000 in
theorem digits_two (n : Int) (h0 : 10 ≤ n) (h : n ≤ 99) (w : World) :
    Calls Tryd.prog 90 #[.int .i64 n] w fun e w' => e = .returned (.string ⟨(Go.Lib.decDigits n.toNat).toArray⟩) ∧ Below w.heap.size w w' := by
  have E := Lib.hid (show Go.Lib.decDigits n.toNat = [UInt8.ofNat (48 + n / 10).toNat] ++ ([UInt8.ofNat (48 + n % 10).toNat] ++ []) by
    rw [Go.Lib.decDigits, dif_neg (by omega), Go.Lib.decDigits, dif_pos (by omega), show (48 + n / 10).toNat = 48 + n.toNat / 10 by omega, show (48 + n % 10).toNat = 48 + n.toNat % 10 by omega]; rfl)
  have hcv := conv_byte w (48 + n % 10) (by omega) (by omega)
  have hcv2 := conv_byte' (w.alloc (.cells #[.int .u8 (48 + n % 10)] 5)) (w.heap.size + 1) (48 + n / 10) (by simp) (by omega) (by omega)
  go_enter Tryd.func90, Tryd.ntmps90
  go_wp2_with fail
  refine wp_loop_rounds 2 ?_
  rw [rounds_succ]
  go_wp2_with fail
  rw [rounds_succ]
  go_wp2_with fail
  go_ret
  refine ⟨ret_str ?_, (allocBelow _ _).trans ((allocBelow _ _).mono (by simp))⟩
  rw [E.out]
  exact ((congrArg _ (baA [_] [])).trans (baA [_] _))
set_option maxRecDepth 100000 in
theorem digits_three (w : World) :
    Calls Tryd.prog 90 #[.int .i64 100] w fun e w' => e = .returned (.string ⟨(Go.Lib.decDigits 100).toArray⟩) ∧ Below w.heap.size w w' := by
  have hcv := conv_byte w 48 (by omega) (by omega)
  have hcv2 := conv_byte' (w.alloc (.cells #[.int .u8 48] 5)) (w.heap.size + 1) 48 (by simp) (by omega) (by omega)
  have hcv3 := conv_byte' ((w.alloc (.cells #[.int .u8 48] 5)).alloc (.cells #[.int .u8 48] 5)) (w.heap.size + 1 + 1) 49 (by simp) (by omega) (by omega)
  have E := Lib.hid (show Go.Lib.decDigits 100 = [49, 48, 48] by
    rw [Go.Lib.decDigits, dif_neg (by omega), Go.Lib.decDigits, dif_neg (by omega), Go.Lib.decDigits, dif_pos (by omega)]; rfl)
  go_enter Tryd.func90, Tryd.ntmps90
  go_wp2_with fail
  refine wp_loop_rounds 3 ?_
  rw [rounds_succ]
  go_wp2_with fail
  rw [rounds_succ]
  go_wp2_with fail
  rw [rounds_succ]
  go_wp2_with fail
  go_ret
  refine ⟨ret_str ?_, ((allocBelow _ _).trans ((allocBelow _ _).mono (by simp))).trans ((allocBelow _ _).mono (by simp; omega))⟩
  rw [E.out]
  rfl
theorem digits_any (n : Int) (h0 : 0 ≤ n) (h : n ≤ 100) (w : World) :
    Calls Tryd.prog 90 #[.int .i64 n] w fun e w' => e = .returned (.string ⟨(Go.Lib.decDigits n.toNat).toArray⟩) ∧ Below w.heap.size w w' := by
  by_cases h1 : n ≤ 9
  · exact digits_one n h0 h1 w
  · by_cases h2 : n ≤ 99
    · exact digits_two n (by omega) h2 w
    · obtain rfl : n = 100 := by omega
      exact digits_three w
theorem Digits_any (n : Int) (h0 : 0 ≤ n) (h : n ≤ 100) (w : World) :
    Calls Tryd.prog 85 #[.int .i64 n] w fun e w' => e = .returned (.string ⟨(Go.Lib.decDigits n.toNat).toArray⟩) ∧ Below w.heap.size w w' := by
  go_enter Tryd.func85, Tryd.ntmps85
  go_wp2_with (go_at_call 90; refine (digits_any n h0 h _).mono ?_; rintro e w1 ⟨rfl, hb1⟩)
  go_ret
  exact ⟨rfl, hb1⟩

/-- One more term of the reference's text; 'p' is the letter, nothing for the constant. -/
def rtrm (first : Bool) (n : Int) (p : List UInt8) : List UInt8 :=
  if n = 0 then [] else (if n < 0 then [45] else if first then [] else [43]) ++ (if p = [] then Go.Lib.decDigits n.natAbs else if n.natAbs = 1 then p else Go.Lib.decDigits n.natAbs ++ 42 :: p)
theorem dec_le (n : Nat) (h : n ≤ 100) : (Go.Lib.decDigits n).length ≤ 21 := by
  have := Go.Lib.itoa_length_le (n : Int) (by omega) (by omega)
  rwa [Go.Lib.itoa_nonneg] at this
set_option maxHeartbeats 800000 in
theorem term_true_neg (n : Int) (p : List UInt8) (hp : p = [] ∨ ∃ c, p = [c]) (h : -100 ≤ n ∧ n ≤ 100) (hn : n < 0) (w : World) :
    Calls Tryd.prog 70 #[.bool true, .int .i64 n, .string ⟨p.toArray⟩] w fun e w' => e = .returned (.string ⟨(rtrm true n p).toArray⟩) ∧ Below w.heap.size w w' := by
  obtain ⟨g1, g2⟩ := h
  have h0 : n ≠ 0 := by omega
  have h0' : (n == 0) = false := by simp [h0]
  have hl := dec_le (-n).toNat (by omega)
  have eL : ¬ (9223372036854775807 < 1 + (Go.Lib.decDigits (-n).toNat).length) := by omega
  have eL2 : ¬ (9223372036854775807 < 1 + (Go.Lib.decDigits (-n).toNat).length + 1) := by omega
  have eL3 : ¬ (9223372036854775807 < 1 + (Go.Lib.decDigits (-n).toNat).length + 1 + 1) := by omega
  have HR := Lib.hid (show rtrm true n p = [45] ++ (if p = [] then Go.Lib.decDigits (-n).toNat else if n = -1 then p else Go.Lib.decDigits (-n).toNat ++ 42 :: p) by
    have hnn : n.natAbs = (-n).toNat := by omega
    unfold rtrm; rw [if_neg h0, hnn]
    rw [if_pos hn]
    by_cases e : n = -1
    · rw [if_pos e, if_pos (show (-n).toNat = 1 by omega)]
    · rw [if_neg e, if_neg (show ¬ (-n).toNat = 1 by omega)])
  clear h0 hl
  rcases hp with rfl | ⟨c, rfl⟩
  · go_enter Tryd.func70, Tryd.ntmps70
    go_wp2_with (go_at_call 85; refine (Digits_any _ (by omega) (by omega) _).mono ?_; rintro e w1 ⟨rfl, hb1⟩)
    go_ret
    exact ⟨ret_str (by rw [HR.out]; exact baA [45] _), hb1⟩
  · by_cases h1 : n = -1
    · subst h1
      go_enter Tryd.func70, Tryd.ntmps70
      go_wp2_with (go_at_call 85; refine (Digits_any _ (by omega) (by omega) _).mono ?_; rintro e w1 ⟨rfl, hb1⟩)
      go_ret
      exact ⟨ret_str (by rw [HR.out]; exact baA [45] [c]), Below.refl _ _⟩
    · have HR' := Lib.hid (show rtrm true n [c] = [45] ++ Go.Lib.decDigits (-n).toNat ++ [42] ++ [c] by rw [HR.out, if_neg (by simp), if_neg h1]; simp)
      have h1' : (-n == 1) = false := by simp; omega
      clear h1 HR
      go_enter Tryd.func70, Tryd.ntmps70
      go_wp2_with (go_at_call 85; refine (Digits_any _ (by omega) (by omega) _).mono ?_; rintro e w1 ⟨rfl, hb1⟩)
      go_ret
      exact ⟨ret_str (by rw [HR'.out, ← baA, ← baA, ← baA]), hb1⟩
set_option maxHeartbeats 800000 in
theorem term_true_pos (n : Int) (p : List UInt8) (hp : p = [] ∨ ∃ c, p = [c]) (h : -100 ≤ n ∧ n ≤ 100) (hn : 0 < n) (w : World) :
    Calls Tryd.prog 70 #[.bool true, .int .i64 n, .string ⟨p.toArray⟩] w fun e w' => e = .returned (.string ⟨(rtrm true n p).toArray⟩) ∧ Below w.heap.size w w' := by
  obtain ⟨g1, g2⟩ := h
  have h0 : n ≠ 0 := by omega
  have h0' : (n == 0) = false := by simp [h0]
  have hl := dec_le n.toNat (by omega)
  have eL : ¬ (9223372036854775807 < (Go.Lib.decDigits n.toNat).length) := by omega
  have eL2 : ¬ (9223372036854775807 < (Go.Lib.decDigits n.toNat).length + 1) := by omega
  have eL3 : ¬ (9223372036854775807 < (Go.Lib.decDigits n.toNat).length + 1 + 1) := by omega
  have HR := Lib.hid (show rtrm true n p = [] ++ (if p = [] then Go.Lib.decDigits n.toNat else if n = 1 then p else Go.Lib.decDigits n.toNat ++ 42 :: p) by
    have hnn : n.natAbs = n.toNat := by omega
    unfold rtrm; rw [if_neg h0, hnn]
    rw [if_neg (show ¬ n < 0 by omega)]
    by_cases e : n = 1
    · rw [if_pos e, if_pos (show n.toNat = 1 by omega)]; rfl
    · rw [if_neg e, if_neg (show ¬ n.toNat = 1 by omega)]; rfl)
  clear h0 hl
  rcases hp with rfl | ⟨c, rfl⟩
  · go_enter Tryd.func70, Tryd.ntmps70
    go_wp2_with (go_at_call 85; refine (Digits_any _ (by omega) (by omega) _).mono ?_; rintro e w1 ⟨rfl, hb1⟩)
    go_ret
    exact ⟨ret_str (by rw [HR.out]; exact baA [] _), hb1⟩
  · by_cases h1 : n = 1
    · subst h1
      go_enter Tryd.func70, Tryd.ntmps70
      go_wp2_with (go_at_call 85; refine (Digits_any _ (by omega) (by omega) _).mono ?_; rintro e w1 ⟨rfl, hb1⟩)
      go_ret
      exact ⟨ret_str (by rw [HR.out]; exact baA [] [c]), Below.refl _ _⟩
    · have HR' := Lib.hid (show rtrm true n [c] = [] ++ Go.Lib.decDigits n.toNat ++ [42] ++ [c] by rw [HR.out, if_neg (by simp), if_neg h1]; simp)
      have h1' : (n == 1) = false := by simp; omega
      clear h1 HR
      go_enter Tryd.func70, Tryd.ntmps70
      go_wp2_with (go_at_call 85; refine (Digits_any _ (by omega) (by omega) _).mono ?_; rintro e w1 ⟨rfl, hb1⟩)
      go_ret
      exact ⟨ret_str (by rw [HR'.out, ← baA, ← baA, ← baA]), hb1⟩
set_option maxHeartbeats 800000 in
theorem term_false_neg (n : Int) (p : List UInt8) (hp : p = [] ∨ ∃ c, p = [c]) (h : -100 ≤ n ∧ n ≤ 100) (hn : n < 0) (w : World) :
    Calls Tryd.prog 70 #[.bool false, .int .i64 n, .string ⟨p.toArray⟩] w fun e w' => e = .returned (.string ⟨(rtrm false n p).toArray⟩) ∧ Below w.heap.size w w' := by
  obtain ⟨g1, g2⟩ := h
  have h0 : n ≠ 0 := by omega
  have h0' : (n == 0) = false := by simp [h0]
  have hl := dec_le (-n).toNat (by omega)
  have eL : ¬ (9223372036854775807 < 1 + (Go.Lib.decDigits (-n).toNat).length) := by omega
  have eL2 : ¬ (9223372036854775807 < 1 + (Go.Lib.decDigits (-n).toNat).length + 1) := by omega
  have eL3 : ¬ (9223372036854775807 < 1 + (Go.Lib.decDigits (-n).toNat).length + 1 + 1) := by omega
  have HR := Lib.hid (show rtrm false n p = [45] ++ (if p = [] then Go.Lib.decDigits (-n).toNat else if n = -1 then p else Go.Lib.decDigits (-n).toNat ++ 42 :: p) by
    have hnn : n.natAbs = (-n).toNat := by omega
    unfold rtrm; rw [if_neg h0, hnn]
    rw [if_pos hn]
    by_cases e : n = -1
    · rw [if_pos e, if_pos (show (-n).toNat = 1 by omega)]
    · rw [if_neg e, if_neg (show ¬ (-n).toNat = 1 by omega)])
  clear h0 hl
  rcases hp with rfl | ⟨c, rfl⟩
  · go_enter Tryd.func70, Tryd.ntmps70
    go_wp2_with (go_at_call 85; refine (Digits_any _ (by omega) (by omega) _).mono ?_; rintro e w1 ⟨rfl, hb1⟩)
    go_ret
    exact ⟨ret_str (by rw [HR.out]; exact baA [45] _), hb1⟩
  · by_cases h1 : n = -1
    · subst h1
      go_enter Tryd.func70, Tryd.ntmps70
      go_wp2_with (go_at_call 85; refine (Digits_any _ (by omega) (by omega) _).mono ?_; rintro e w1 ⟨rfl, hb1⟩)
      go_ret
      exact ⟨ret_str (by rw [HR.out]; exact baA [45] [c]), Below.refl _ _⟩
    · have HR' := Lib.hid (show rtrm false n [c] = [45] ++ Go.Lib.decDigits (-n).toNat ++ [42] ++ [c] by rw [HR.out, if_neg (by simp), if_neg h1]; simp)
      have h1' : (-n == 1) = false := by simp; omega
      clear h1 HR
      go_enter Tryd.func70, Tryd.ntmps70
      go_wp2_with (go_at_call 85; refine (Digits_any _ (by omega) (by omega) _).mono ?_; rintro e w1 ⟨rfl, hb1⟩)
      go_ret
      exact ⟨ret_str (by rw [HR'.out, ← baA, ← baA, ← baA]), hb1⟩
set_option maxHeartbeats 800000 in
theorem term_false_pos (n : Int) (p : List UInt8) (hp : p = [] ∨ ∃ c, p = [c]) (h : -100 ≤ n ∧ n ≤ 100) (hn : 0 < n) (w : World) :
    Calls Tryd.prog 70 #[.bool false, .int .i64 n, .string ⟨p.toArray⟩] w fun e w' => e = .returned (.string ⟨(rtrm false n p).toArray⟩) ∧ Below w.heap.size w w' := by
  obtain ⟨g1, g2⟩ := h
  have h0 : n ≠ 0 := by omega
  have h0' : (n == 0) = false := by simp [h0]
  have hl := dec_le n.toNat (by omega)
  have eL : ¬ (9223372036854775807 < 1 + (Go.Lib.decDigits n.toNat).length) := by omega
  have eL2 : ¬ (9223372036854775807 < 1 + (Go.Lib.decDigits n.toNat).length + 1) := by omega
  have eL3 : ¬ (9223372036854775807 < 1 + (Go.Lib.decDigits n.toNat).length + 1 + 1) := by omega
  have HR := Lib.hid (show rtrm false n p = [43] ++ (if p = [] then Go.Lib.decDigits n.toNat else if n = 1 then p else Go.Lib.decDigits n.toNat ++ 42 :: p) by
    have hnn : n.natAbs = n.toNat := by omega
    unfold rtrm; rw [if_neg h0, hnn]
    rw [if_neg (show ¬ n < 0 by omega)]
    by_cases e : n = 1
    · rw [if_pos e, if_pos (show n.toNat = 1 by omega)]; rfl
    · rw [if_neg e, if_neg (show ¬ n.toNat = 1 by omega)]; rfl)
  clear h0 hl
  rcases hp with rfl | ⟨c, rfl⟩
  · go_enter Tryd.func70, Tryd.ntmps70
    go_wp2_with (go_at_call 85; refine (Digits_any _ (by omega) (by omega) _).mono ?_; rintro e w1 ⟨rfl, hb1⟩)
    go_ret
    exact ⟨ret_str (by rw [HR.out]; exact baA [43] _), hb1⟩
  · by_cases h1 : n = 1
    · subst h1
      go_enter Tryd.func70, Tryd.ntmps70
      go_wp2_with (go_at_call 85; refine (Digits_any _ (by omega) (by omega) _).mono ?_; rintro e w1 ⟨rfl, hb1⟩)
      go_ret
      exact ⟨ret_str (by rw [HR.out]; exact baA [43] [c]), Below.refl _ _⟩
    · have HR' := Lib.hid (show rtrm false n [c] = [43] ++ Go.Lib.decDigits n.toNat ++ [42] ++ [c] by rw [HR.out, if_neg (by simp), if_neg h1]; simp)
      have h1' : (n == 1) = false := by simp; omega
      clear h1 HR
      go_enter Tryd.func70, Tryd.ntmps70
      go_wp2_with (go_at_call 85; refine (Digits_any _ (by omega) (by omega) _).mono ?_; rintro e w1 ⟨rfl, hb1⟩)
      go_ret
      exact ⟨ret_str (by rw [HR'.out, ← baA, ← baA, ← baA]), hb1⟩
theorem term_zero (b : Bool) (p : List UInt8) (w : World) :
    Calls Tryd.prog 70 #[.bool b, .int .i64 0, .string ⟨p.toArray⟩] w fun e w' => e = .returned (.string ⟨(rtrm b 0 p).toArray⟩) ∧ Below w.heap.size w w' := by
  go_enter Tryd.func70, Tryd.ntmps70
  go_wp2_with fail
  go_ret
  exact ⟨rfl, Below.refl _ _⟩
theorem term_any (b : Bool) (n : Int) (p : List UInt8) (hp : p = [] ∨ ∃ c, p = [c]) (h : -100 ≤ n ∧ n ≤ 100) (w : World) :
    Calls Tryd.prog 70 #[.bool b, .int .i64 n, .string ⟨p.toArray⟩] w fun e w' => e = .returned (.string ⟨(rtrm b n p).toArray⟩) ∧ Below w.heap.size w w' := by
  by_cases h0 : n = 0
  · subst h0; exact term_zero b p w
  · by_cases hn : n < 0
    · cases b
      · exact term_false_neg n p hp h hn w
      · exact term_true_neg n p hp h hn w
    · cases b
      · exact term_false_pos n p hp h (by omega) w
      · exact term_true_pos n p hp h (by omega) w
end Go.Proofs.YtbdnihjokndhaaaDoor
