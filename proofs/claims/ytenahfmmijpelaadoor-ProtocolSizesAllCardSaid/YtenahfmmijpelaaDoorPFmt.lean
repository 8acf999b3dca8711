/-
  THE TEXT OF AN EXPRESSION: formatSigned, formatTerm, FormatLinear of the program.
-/
import Derived.Test.YtenahfmmijpelaaDoorPNum
import Derived.Test.YtenahfmmijpelaaDoorItoa
import Derived.Test.YtenahfmmijpelaaDoorHold
import Derived.StillTailTactics
import Derived.Deep.RegionHeld3
namespace Go.Proofs.YtenahfmmijpelaaDoor
open Go.RowKit Go.Deep

/-- A number with its sign; a term. -/
def sgnT (x : Int) : List UInt8 := if x < 0 then Go.Lib.itoa x else 43 :: Go.Lib.itoa x
def trmT (k : Int) (p : List UInt8) : List UInt8 := if k = 0 then [] else if k = 1 then 43 :: p else if k = -1 then 45 :: p else sgnT k ++ 42 :: p
theorem fa_range {x : Int} (h : faB x = true) : -100 ≤ x ∧ x ≤ 100 := by unfold faB inB at h; simp at h; omega
theorem sgnT_le {x : Int} (h : -100 ≤ x ∧ x ≤ 100) : (sgnT x).length ≤ 30 := by
  have := Go.Lib.itoa_length_le x (by omega) (by omega)
  unfold sgnT; split <;> simp <;> omega

theorem baA (a b : List UInt8) : (⟨a.toArray⟩ : ByteArray) ++ ⟨b.toArray⟩ = ⟨(a ++ b).toArray⟩ := by
  apply ByteArray.ext; simp
theorem baS (a : List UInt8) : (⟨a.toArray⟩ : ByteArray).size = a.length := by simp [ByteArray.size]
theorem ret_str {a b : ByteArray} (h : a = b) : Ending.returned (.string a) = .returned (.string b) := by rw [h]

set_option maxHeartbeats 400000 in
theorem formatSigned_any (x : Int) (h : -100 ≤ x ∧ x ≤ 100) (w : World) (ht : TabW w) :
    Calls Tryd.prog 58 #[.int .i64 x] w fun e w' => e = .returned (.string ⟨(sgnT x).toArray⟩) ∧ Below w.heap.size w w' := by
  obtain ⟨h1, h2⟩ := h
  have HT := Lib.hid ht
  clear ht
  by_cases hx : x < 0
  · have E := Lib.hid (show sgnT x = Go.Lib.itoa x by unfold sgnT; rw [if_pos hx])
    go_enter Tryd.func58, Tryd.ntmps58
    go_wp2_with (go_at_call 81; refine (Itoa_any x (by omega) (by omega) _ HT.out).mono ?_; rintro e w1 ⟨rfl, hb1⟩)
    go_ret
    exact ⟨ret_str (by rw [E.out]), hb1⟩
  · have E := Lib.hid (show sgnT x = 43 :: Go.Lib.itoa x by unfold sgnT; rw [if_neg hx])
    have hL : ¬ (9223372036854775807 < 1 + (Go.Lib.itoa x).length) := by have := Go.Lib.itoa_length_le x (by omega) (by omega); omega
    go_enter Tryd.func58, Tryd.ntmps58
    go_wp2_with (go_at_call 81; refine (Itoa_any x (by omega) (by omega) _ HT.out).mono ?_; rintro e w1 ⟨rfl, hb1⟩)
    go_ret
    exact ⟨ret_str (by rw [E.out]; exact baA [43] _), hb1⟩

set_option maxHeartbeats 400000 in
theorem formatTerm_any (x : Int) (c : UInt8) (h : -100 ≤ x ∧ x ≤ 100) (w : World) (ht : TabW w) :
    Calls Tryd.prog 57 #[.int .i64 x, .string ⟨#[c]⟩] w fun e w' => e = .returned (.string ⟨(trmT x [c]).toArray⟩) ∧ Below w.heap.size w w' := by
  have HT := Lib.hid ht
  have HR := Lib.hid h
  clear ht h
  by_cases h0 : x = 0
  · subst h0
    go_enter Tryd.func57, Tryd.ntmps57
    go_wp2_with fail
    go_ret
    exact ⟨rfl, Below.refl _ _⟩
  · by_cases h1 : x = 1
    · subst h1
      go_enter Tryd.func57, Tryd.ntmps57
      go_wp2_with fail
      go_ret
      exact ⟨ret_str (baA [43] [c]), Below.refl _ _⟩
    · by_cases h2 : x = -1
      · subst h2
        go_enter Tryd.func57, Tryd.ntmps57
        go_wp2_with fail
        go_ret
        exact ⟨ret_str (baA [45] [c]), Below.refl _ _⟩
      · have E := Lib.hid (show trmT x [c] = sgnT x ++ [42] ++ [c] by unfold trmT; rw [if_neg h0, if_neg h1, if_neg h2]; simp)
        have h0' : (x == 0) = false := by simp [h0]
        have h1' : (x == 1) = false := by simp [h1]
        have h2' : (x == -1) = false := by simp [h2]
        have hl := sgnT_le HR.out
        have hL : ¬ (9223372036854775807 < (sgnT x).length + 1) := by omega
        have hL2 : ¬ (9223372036854775807 < (sgnT x).length + 1 + 1) := by omega
        clear h0 h1 h2
        go_enter Tryd.func57, Tryd.ntmps57
        go_wp2_with (go_at_call 58; refine (formatSigned_any x HR.out _ HT.out).mono ?_; rintro e w1 ⟨rfl, hb1⟩)
        go_ret
        exact ⟨ret_str (by rw [E.out, ← baA, ← baA]), hb1⟩

theorem ext_head (x : UInt8) (l : List UInt8) : ((⟨(x :: l).toArray⟩ : ByteArray).extract 0 1).toList = [x] := by rw [ByteArray.extract_mk, ByteArray.toList_mk]; rfl
theorem ext_tail (x : UInt8) (l : List UInt8) (n : Nat) (h : n = l.length + 1) : (⟨(x :: l).toArray⟩ : ByteArray).extract 1 n = ⟨l.toArray⟩ := by
  subst h; rw [ByteArray.extract_mk]; simp
theorem Trim_plus (l : List UInt8) (hl : l.length ≤ 1000) (w : World) :
    Calls Tryd.prog 59 #[.string ⟨(43 :: l).toArray⟩, .string ⟨#[43]⟩] w fun e w' => e = .returned (.string ⟨l.toArray⟩) ∧ w = w' := by
  have hx := ext_head 43 l
  go_enter Tryd.func59, Tryd.ntmps59
  go_wp2
  go_ret
  exact ⟨ret_str (ext_tail _ _ _ (by simp)), rfl⟩
theorem Trim_other (x : UInt8) (l : List UInt8) (hl : l.length ≤ 1000) (h : x ≠ 43) (w : World) :
    Calls Tryd.prog 59 #[.string ⟨(x :: l).toArray⟩, .string ⟨#[43]⟩] w fun e w' => e = .returned (.string ⟨(x :: l).toArray⟩) ∧ w = w' := by
  have hx : (((⟨(x :: l).toArray⟩ : ByteArray).extract 0 1).toList == [43]) = false := by rw [ext_head]; simp [h]
  clear h
  go_enter Tryd.func59, Tryd.ntmps59
  go_wp2
  go_ret
  exact ⟨rfl, rfl⟩

def trm3 (n t f : Int) : List UInt8 := trmT n [110] ++ trmT t [116] ++ trmT f [102]
def midT (c n t f : Int) : List UInt8 := trm3 n t f ++ (if c = 0 then [] else sgnT c)
def cutT (l : List UInt8) : List UInt8 := if l = [] then [48] else if l.head? = some 43 then l.tail else l
def linT (c n t f : Int) : List UInt8 := cutT (midT c n t f)
theorem trmT_le {x : Int} (c : UInt8) (h : -100 ≤ x ∧ x ≤ 100) : (trmT x [c]).length ≤ 40 := by
  have := sgnT_le h
  unfold trmT; split
  · simp
  · split
    · simp
    · split
      · simp
      · simp; omega

set_option maxHeartbeats 3200000 in
theorem FormatLinear_any (c n t f : Int) (hs : smL c n t f = true) (w : World) (ht : TabW w) :
    Calls Tryd.prog 23 #[.agg #[.int .i64 c, .int .i64 n, .int .i64 t, .int .i64 f]] w fun e w' => e = .returned (.string ⟨(linT c n t f).toArray⟩) ∧ Below w.heap.size w w' := by
  have HT := Lib.hid ht
  have hs' := hs
  unfold smL at hs'
  simp only [Bool.and_eq_true] at hs'
  obtain ⟨⟨⟨hc, hn⟩, ht'⟩, hf⟩ := hs'
  have RC := Lib.hid (fa_range hc)
  have RN := Lib.hid (fa_range hn)
  have RT := Lib.hid (fa_range ht')
  have RF := Lib.hid (fa_range hf)
  have hl1 := trmT_le 110 RN.out
  have hl2 := trmT_le 116 RT.out
  have hl3 := trmT_le 102 RF.out
  have hl4 := sgnT_le RC.out
  clear hc hn ht' hf ht
  have e1 : ¬ (9223372036854775807 < (trmT n [110]).length + (trmT t [116]).length) := by omega
  have e2 : ¬ (9223372036854775807 < (trmT n [110]).length + (trmT t [116]).length + (trmT f [102]).length) := by omega
  go_enter Tryd.func23, Tryd.ntmps23
  go_wp2_with (first | (go_at_call 34; refine (isLarge_any _ _ _ _ _).mono ?_; rintro e w1 ⟨rfl, hb1⟩; have hB1 : Below w.heap.size w w1 := (thenBelow (allocBelow _ _) hb1); have t0 : w1.cell? ⟨w.heap.size, 0, none⟩ = some (.int .i64 c) := keep1 (by simp) hb1; have t1 : w1.cell? ⟨w.heap.size, 1, none⟩ = some (.int .i64 n) := keep1 (by simp) hb1; have t2 : w1.cell? ⟨w.heap.size, 2, none⟩ = some (.int .i64 t) := keep1 (by simp) hb1; have t3 : w1.cell? ⟨w.heap.size, 3, none⟩ = some (.int .i64 f) := keep1 (by simp) hb1; clear hb1))
  have HB1 := Lib.hid hB1
  clear hB1
  go_region_held3 (fun w' => w'.cell? ⟨w.heap.size, 0, none⟩ = some (.int .i64 c) ∧ w'.cell? ⟨w.heap.size, 1, none⟩ = some (.int .i64 n) ∧ w'.cell? ⟨w.heap.size, 2, none⟩ = some (.int .i64 t) ∧ w'.cell? ⟨w.heap.size, 3, none⟩ = some (.int .i64 f) ∧ Below w.heap.size w w') (first | exact ⟨t0, t1, t2, t3, HB1.out⟩ | exact keepF ⟨t0, t1, t2, t3, HB1.out⟩ (drewBelow _) | exact keepF (by assumption) (by assumption)) (first | (go_at_call 57; (with_reducible refine (formatTerm_any n 110 RN.out _ (HT.out.below (heldF (by assumption)))).mono ?_); rintro e w4 ⟨rfl, hb4⟩) | (go_at_call 57; (with_reducible refine (formatTerm_any t 116 RT.out _ (HT.out.below (heldF (by assumption)))).mono ?_); rintro e w5 ⟨rfl, hb5⟩) | (go_at_call 57; (with_reducible refine (formatTerm_any f 102 RF.out _ (HT.out.below (heldF (by assumption)))).mono ?_); rintro e w6 ⟨rfl, hb6⟩))
  obtain ⟨s0, s1, s2, s3, hB6⟩ := (by assumption : _ ∧ _ ∧ _ ∧ _ ∧ Below w.heap.size w w6)
  have HB6 := Lib.hid hB6
  clear t0 t1 t2 t3 s1 s2 s3 hb4 hb5 hb6 hB6 e1 e2
  obtain ⟨L, hL⟩ : ∃ L, trm3 n t f = L := ⟨_, rfl⟩
  have hLl : L.length ≤ 120 := by rw [← hL]; unfold trm3; simp only [List.length_append]; omega
  rw [show (⟨(trmT n [110]).toArray⟩ : ByteArray) ++ ⟨(trmT t [116]).toArray⟩ ++ ⟨(trmT f [102]).toArray⟩ = ⟨L.toArray⟩ by rw [← hL, baA, baA]; rfl]
  have HM := Lib.hid (show midT c n t f = L ++ (if c = 0 then [] else sgnT c) by unfold midT; rw [hL])
  have HLN := Lib.hid (show linT c n t f = cutT (midT c n t f) from rfl)
  clear hL hl1 hl2 hl3
  by_cases hc0 : c = 0
  · subst hc0
    have HM' := Lib.hid (show midT 0 n t f = L by rw [HM.out]; simp)
    clear HM
    cases L with
    | nil =>
      go_wp2_with fail
      go_ret
      exact ⟨ret_str (by rw [HLN.out, HM'.out]; rfl), HB6.out⟩
    | cons x l =>
      have hll : l.length ≤ 1000 := by simp at hLl; omega
      by_cases hx : x = 43
      · subst hx
        go_wp2_with (go_at_call 59; refine (Trim_plus l hll _).mono ?_; rintro e w' ⟨rfl, rfl⟩)
        go_ret
        exact ⟨ret_str (by rw [HLN.out, HM'.out]; rfl), HB6.out⟩
      · have HX := Lib.hid hx
        clear hx
        go_wp2_with (go_at_call 59; refine (Trim_other x l hll HX.out _).mono ?_; rintro e w' ⟨rfl, rfl⟩)
        go_ret
        exact ⟨ret_str (by rw [HLN.out, HM'.out]; unfold cutT; rw [if_neg (by simp), if_neg (by simpa using HX.out)]), HB6.out⟩
  · have HM' := Lib.hid (show midT c n t f = L ++ sgnT c by rw [HM.out, if_neg hc0])
    have hc1 : (c == 0) = false := by simp [hc0]
    have hc2 : (c != 0) = true := by simp [hc0]
    have e3 : ¬ (9223372036854775807 < L.length + (sgnT c).length) := by omega
    have hne : 0 < (sgnT c).length := by
      unfold sgnT; split
      · rename_i h; unfold Go.Lib.itoa; rw [if_pos h]; simp
      · simp
    clear HM hc0
    obtain ⟨M, hM⟩ : ∃ M, L ++ sgnT c = M := ⟨_, rfl⟩
    have hMl : M.length ≤ 200 := by rw [← hM, List.length_append]; omega
    have hM0 : 0 < M.length := by rw [← hM, List.length_append]; omega
    have HMM := Lib.hid hM
    clear hM
    have hem : ((⟨L.toArray⟩ : ByteArray) ++ ⟨(sgnT c).toArray⟩).toList.isEmpty = false := by
      rw [baA, HMM.out, ByteArray.toList_mk]; cases M with
      | nil => simp at hM0
      | cons => rfl
    go_wp2_with (first | (go_at_call 58; (with_reducible refine (formatSigned_any c RC.out _ (HT.out.below HB6.out)).mono ?_); rintro e w7 ⟨rfl, hb7⟩))
    clear hem
    rw [show (⟨L.toArray⟩ : ByteArray) ++ ⟨(sgnT c).toArray⟩ = ⟨M.toArray⟩ by rw [baA, HMM.out]]
    have HB7 := Lib.hid (thenBelow HB6.out hb7)
    clear hb7
    cases M with
    | nil => simp at hM0
    | cons x l =>
      have hll : l.length ≤ 1000 := by simp at hMl; omega
      by_cases hx : x = 43
      · subst hx
        refine (Trim_plus l hll _).mono ?_
        rintro e w' ⟨rfl, rfl⟩
        go_wp2_with fail
        go_ret
        exact ⟨ret_str (by rw [HLN.out, HM'.out, HMM.out]; rfl), HB7.out⟩
      · have HX := Lib.hid hx
        clear hx
        refine (Trim_other x l hll HX.out _).mono ?_
        rintro e w' ⟨rfl, rfl⟩
        go_wp2_with fail
        go_ret
        exact ⟨ret_str (by rw [HLN.out, HM'.out, HMM.out]; unfold cutT; rw [if_neg (by simp), if_neg (by simpa using HX.out)]), HB7.out⟩

/-- An expression with a number beyond the limit has no text. -/
theorem FormatLinear_none (c n t f : Int) (hs : smL c n t f = false) (w : World) :
    Calls Tryd.prog 23 #[.agg #[.int .i64 c, .int .i64 n, .int .i64 t, .int .i64 f]] w fun e w' => e = .returned (.string ⟨#[]⟩) ∧ Below w.heap.size w w' := by
  go_enter Tryd.func23, Tryd.ntmps23
  go_wp2_with (first | (go_at_call 34; refine (isLarge_any _ _ _ _ _).mono ?_; rintro e w1 ⟨rfl, hb1⟩; have hB1 : Below w.heap.size w w1 := (thenBelow (allocBelow _ _) hb1); clear hb1))
  go_ret
  exact ⟨rfl, hB1⟩
end Go.Proofs.YtenahfmmijpelaaDoor
