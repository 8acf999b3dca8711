import Derived.Test.YtpadmggccpgajaaDoorProg
import Derived.Shelf.Strconv.Itoa3
import Derived.Lib.AppendIntMem
import Derived.Lib.ItoaLen
import Derived.Lib.Hide
import Derived.WalkSpells
import Derived.StillTailTactics
import Derived.Deep.RegionHeld3
import Derived.Test.YtpadmggccpgajaaDoorGrpnjlkfimo
import Derived.Test.YtpadmggccpgajaaDoorGrphfdclkag
import Derived.Test.YtpadmggccpgajaaDoorGrppdefdlpe
import Derived.Test.YtpadmggccpgajaaDoorGrpafbiheoc
import Derived.Test.YtpadmggccpgajaaDoorGrpfibfgldm
set_option linter.all false
namespace Go.Proofs.YtpadmggccpgajaaDoor
open Go.RowKit Go.Shelf

def renI : Go.Shelf.Ren := ⟨fun | 129 => 186 | 171 => 84 | 243 => 134 | 246 => 164 | 283 => 188 | 284 => 189 | 285 => 190 | 286 => 191 | 317 => 197 | 318 => 198 | 319 => 199 | 320 => 200 | 337 => 202 | 338 => 203 | n => n, fun | 0 => 0 | 2 => 2 | 3 => 3 | 4 => 4 | 5 => 5 | 9 => 9 | 20 => 20 | 37 => 115 | 46 => 71 | 51 => 193 | 53 => 195 | 171 => 196 | 173 => 198 | 212 => 207 | 213 => 208 | 232 => 212 | 233 => 213 | n => n, fun | 17 => 0 | 18 => 1 | 19 => 2 | n => n⟩
theorem laysI : Go.Proofs.LaysM.n171 Tryd.prog renI := {
  mixed := by kernel_rfl
  f129 := Tryd.func186.trans (congrArg some (by kernel_rfl))
  f171 := Tryd.func84.trans (congrArg some (by kernel_rfl))
  f243 := Tryd.func134.trans (congrArg some (by kernel_rfl))
  f246 := Tryd.func164.trans (congrArg some (by kernel_rfl))
  f283 := Tryd.func188.trans (congrArg some (by kernel_rfl))
  f284 := Tryd.func189.trans (congrArg some (by kernel_rfl))
  f285 := Tryd.func190.trans (congrArg some (by kernel_rfl))
  f286 := Tryd.func191.trans (congrArg some (by kernel_rfl))
  f317 := Tryd.func197.trans (congrArg some (by kernel_rfl))
  f318 := Tryd.func198.trans (congrArg some (by kernel_rfl))
  f319 := Tryd.func199.trans (congrArg some (by kernel_rfl))
  f320 := Tryd.func200.trans (congrArg some (by kernel_rfl))
  f337 := Tryd.func202.trans (congrArg some (by kernel_rfl))
  f338 := Tryd.func203.trans (congrArg some (by kernel_rfl))
  t0 := Tryd.underlying0
  a0 := Tryd.isAgg0
  z0 := Tryd.sizeOf0
  v0 := Tryd.zeroValue0
  t2 := Tryd.underlying2
  a2 := Tryd.isAgg2
  z2 := Tryd.sizeOf2
  v2 := Tryd.zeroValue2
  t3 := Tryd.underlying3
  a3 := Tryd.isAgg3
  z3 := Tryd.sizeOf3
  v3 := Tryd.zeroValue3
  t4 := Tryd.underlying4
  a4 := Tryd.isAgg4
  z4 := Tryd.sizeOf4
  v4 := Tryd.zeroValue4
  t5 := Tryd.underlying5
  a5 := Tryd.isAgg5
  z5 := Tryd.sizeOf5
  v5 := Tryd.zeroValue5
  t9 := Tryd.underlying9
  a9 := Tryd.isAgg9
  z9 := Tryd.sizeOf9
  v9 := Tryd.zeroValue9
  t20 := Tryd.underlying20
  a20 := Tryd.isAgg20
  z20 := Tryd.sizeOf20
  v20 := Tryd.zeroValue20
  t37 := Tryd.underlying115
  a37 := Tryd.isAgg115
  z37 := Tryd.sizeOf115
  v37 := Tryd.zeroValue115
  t46 := Tryd.underlying71
  a46 := Tryd.isAgg71
  z46 := Tryd.sizeOf71
  v46 := Tryd.zeroValue71
  t51 := Tryd.underlying193
  a51 := Tryd.isAgg193
  z51 := Tryd.sizeOf193
  v51 := Tryd.zeroValue193
  t53 := Tryd.underlying195
  a53 := Tryd.isAgg195
  z53 := Tryd.sizeOf195
  v53 := Tryd.zeroValue195
  t171 := Tryd.underlying196
  a171 := Tryd.isAgg196
  z171 := Tryd.sizeOf196
  v171 := Tryd.zeroValue196
  t173 := Tryd.underlying198
  a173 := Tryd.isAgg198
  z173 := Tryd.sizeOf198
  v173 := Tryd.zeroValue198
  t212 := Tryd.underlying207
  a212 := Tryd.isAgg207
  z212 := Tryd.sizeOf207
  v212 := Tryd.zeroValue207
  t213 := Tryd.underlying208
  a213 := Tryd.isAgg208
  z213 := Tryd.sizeOf208
  t232 := Tryd.underlying212
  a232 := Tryd.isAgg212
  z232 := Tryd.sizeOf212
  v232 := Tryd.zeroValue212
  t233 := Tryd.underlying213
  a233 := Tryd.isAgg213
  z233 := Tryd.sizeOf213
  v233 := Tryd.zeroValue213
  g17 := by kernel_rfl
  g18 := by kernel_rfl
  g19 := by kernel_rfl
  i0 := by kernel_rfl
  i2 := by kernel_rfl
  i3 := by kernel_rfl
  i4 := by kernel_rfl
  i5 := by kernel_rfl
  i9 := by kernel_rfl
  i20 := by kernel_rfl
  i37 := by kernel_rfl
  i46 := by kernel_rfl
  i51 := by kernel_rfl
  i53 := by kernel_rfl
  i171 := by kernel_rfl
  i173 := by kernel_rfl
  i212 := by kernel_rfl
  i232 := by kernel_rfl
  i233 := by kernel_rfl
  m17 := by kernel_rfl
  m18 := by kernel_rfl
  m19 := by kernel_rfl }
/-- The table that strconv reads, as its initialiser lays it. -/
def TabW (w : World) : Prop := Go.Lib.TabIs Tryd.prog w "internal/strconv.uint64pow10" .u64 Go.Lib.pow10Tab
theorem Itoa_any (n : Int) (h0 : -9223372036854775808 ≤ n) (h1 : n ≤ 9223372036854775807) (w : World) (ht : TabW w) :
    Calls Tryd.prog 84 #[.int .i64 n] w fun e w' => e = .returned (.string ⟨(Go.Lib.itoa n).toArray⟩) ∧ Below w.heap.size w w' := by
  refine (Any.strconv_Itoa laysI n h0 h1 w ht).mono ?_
  rintro e w' ⟨rfl, k, os, rfl⟩
  exact ⟨rfl, Go.Lib.below_grow _ _ (Nat.le_refl _) _ _⟩
/-- The table stays. -/
theorem TabW.below {w w' : World} (h : TabW w) (hb : Below w.heap.size w w') : TabW w' := by
  have := Go.Lib.tabBelow_of_tabIs h
  exact this w' hb
end Go.Proofs.YtpadmggccpgajaaDoor

namespace Go.Proofs.YtpadmggccpgajaaDoor
open Go.RowKit Go.Deep

/-- A number with its sign; a term. -/
def sgnT (x : Int) : List UInt8 := if x < 0 then Go.Lib.itoa x else 43 :: Go.Lib.itoa x
def trmT (k : Int) (p : List UInt8) : List UInt8 := if k = 0 then [] else if k = 1 then 43 :: p else if k = -1 then 45 :: p else sgnT k ++ 42 :: p
theorem fa_range {x : Int} (h : faB x = true) : -100 ≤ x ∧ x ≤ 100 := by unfold faB inB at h; simp at h; omega
theorem sgnT_le {x : Int} (h : -100 ≤ x ∧ x ≤ 100) : (sgnT x).length ≤ 30 := by
  have := Go.Lib.itoa_length_le x (by omega) (by omega)
  unfold sgnT; split <;> simp <;> omega

theorem baA (a b : List UInt8) : (⟨a.toArray⟩ : ByteArray) ++ ⟨b.toArray⟩ = ⟨(a ++ b).toArray⟩ := by
  apply ByteArray.ext; simp
theorem ret_str {a b : ByteArray} (h : a = b) : Ending.returned (.string a) = .returned (.string b) := by rw [h]

set_option maxHeartbeats 400000 in
theorem formatSigned_any (x : Int) (h : -100 ≤ x ∧ x ≤ 100) (w : World) (ht : TabW w) :
    Calls Tryd.prog 91 #[.int .i64 x] w fun e w' => e = .returned (.string ⟨(sgnT x).toArray⟩) ∧ Below w.heap.size w w' := by
  obtain ⟨h1, h2⟩ := h
  have HT := Lib.hid ht
  clear ht
  by_cases hx : x < 0
  · have E := Lib.hid (show sgnT x = Go.Lib.itoa x by unfold sgnT; rw [if_pos hx])
    go_enter Tryd.func91, Tryd.ntmps91
    go_wp2_with (go_at_call 84; refine (Itoa_any x (by omega) (by omega) _ HT.out).mono ?_; rintro e w1 ⟨rfl, hb1⟩)
    go_ret
    exact ⟨ret_str (by rw [E.out]), hb1⟩
  · have E := Lib.hid (show sgnT x = 43 :: Go.Lib.itoa x by unfold sgnT; rw [if_neg hx])
    have hL : ¬ (9223372036854775807 < 1 + (Go.Lib.itoa x).length) := by have := Go.Lib.itoa_length_le x (by omega) (by omega); omega
    go_enter Tryd.func91, Tryd.ntmps91
    go_wp2_with (go_at_call 84; refine (Itoa_any x (by omega) (by omega) _ HT.out).mono ?_; rintro e w1 ⟨rfl, hb1⟩)
    go_ret
    exact ⟨ret_str (by rw [E.out]; exact baA [43] _), hb1⟩

set_option maxHeartbeats 400000 in
theorem formatTerm_any (x : Int) (c : UInt8) (h : -100 ≤ x ∧ x ≤ 100) (w : World) (ht : TabW w) :
    Calls Tryd.prog 90 #[.int .i64 x, .string ⟨#[c]⟩] w fun e w' => e = .returned (.string ⟨(trmT x [c]).toArray⟩) ∧ Below w.heap.size w w' := by
  have HT := Lib.hid ht
  have HR := Lib.hid h
  clear ht h
  by_cases h0 : x = 0
  · subst h0
    go_enter Tryd.func90, Tryd.ntmps90
    go_wp2_with fail
    go_ret
    exact ⟨rfl, Below.refl _ _⟩
  · by_cases h1 : x = 1
    · subst h1
      go_enter Tryd.func90, Tryd.ntmps90
      go_wp2_with fail
      go_ret
      exact ⟨ret_str (baA [43] [c]), Below.refl _ _⟩
    · by_cases h2 : x = -1
      · subst h2
        go_enter Tryd.func90, Tryd.ntmps90
        go_wp2_with fail
        go_ret
        exact ⟨ret_str (baA [45] [c]), Below.refl _ _⟩
      · have E := Lib.hid (show trmT x [c] = sgnT x ++ [42] ++ [c] by unfold trmT; rw [if_neg h0, if_neg h1, if_neg h2]; simp)
        have h0' : (x == 0) = false := by simp [h0]
        have h1' : (x == 1) = false := by simp [h1]
        have h2' : (x == -1) = false := by simp [h2]
        have hl := sgnT_le HR.out
        have hL : ¬ (9223372036854775807 < (sgnT x).length + 1) := by omega
        have hL2 : ¬ (9223372036854775807 < (sgnT x).length + 1 + 1) := by omega
        clear h0 h1 h2
        go_enter Tryd.func90, Tryd.ntmps90
        go_wp2_with (go_at_call 91; refine (formatSigned_any x HR.out _ HT.out).mono ?_; rintro e w1 ⟨rfl, hb1⟩)
        go_ret
        exact ⟨ret_str (by rw [E.out, ← baA, ← baA]), hb1⟩

theorem ext_head (x : UInt8) (l : List UInt8) : ((⟨(x :: l).toArray⟩ : ByteArray).extract 0 1).toList = [x] := by rw [ByteArray.extract_mk, ByteArray.toList_mk]; rfl
theorem ext_tail (x : UInt8) (l : List UInt8) (n : Nat) (h : n = l.length + 1) : (⟨(x :: l).toArray⟩ : ByteArray).extract 1 n = ⟨l.toArray⟩ := by
  subst h; rw [ByteArray.extract_mk]; simp
theorem Trim_plus (l : List UInt8) (hl : l.length ≤ 1000) (w : World) :
    Calls Tryd.prog 92 #[.string ⟨(43 :: l).toArray⟩, .string ⟨#[43]⟩] w fun e w' => e = .returned (.string ⟨l.toArray⟩) ∧ w = w' := by
  have hx := ext_head 43 l
  go_enter Tryd.func92, Tryd.ntmps92
  go_wp2
  go_ret
  exact ⟨ret_str (ext_tail _ _ _ (by simp)), rfl⟩
theorem Trim_other (x : UInt8) (l : List UInt8) (hl : l.length ≤ 1000) (h : x ≠ 43) (w : World) :
    Calls Tryd.prog 92 #[.string ⟨(x :: l).toArray⟩, .string ⟨#[43]⟩] w fun e w' => e = .returned (.string ⟨(x :: l).toArray⟩) ∧ w = w' := by
  have hx : (((⟨(x :: l).toArray⟩ : ByteArray).extract 0 1).toList == [43]) = false := by rw [ext_head]; simp [h]
  clear h
  go_enter Tryd.func92, Tryd.ntmps92
  go_wp2
  go_ret
  exact ⟨rfl, rfl⟩

def trm3 (n t f : Int) : List UInt8 := trmT n [110] ++ trmT t [116] ++ trmT f [102]
def midT (c n t f : Int) : List UInt8 := trm3 n t f ++ (if c = 0 then [] else sgnT c)
def cutT (l : List UInt8) : List UInt8 := if l = [] then [48] else if l.head? = some 43 then l.tail else l
def linT (c n t f : Int) : List UInt8 := cutT (midT c n t f)
theorem trmT_le {x : Int} (c : UInt8) (h : -100 ≤ x ∧ x ≤ 100) : (trmT x [c]).length ≤ 40 := by
  have := sgnT_le h
  unfold trmT; split
  · simp
  · split
    · simp
    · split
      · simp
      · simp; omega

set_option maxHeartbeats 3200000 in
theorem FormatLinear_any (c n t f : Int) (hs : smL c n t f = true) (w : World) (ht : TabW w) :
    Calls Tryd.prog 46 #[.agg #[.int .i64 c, .int .i64 n, .int .i64 t, .int .i64 f]] w fun e w' => e = .returned (.string ⟨(linT c n t f).toArray⟩) ∧ Below w.heap.size w w' := by
  have HT := Lib.hid ht
  have hs' := hs
  unfold smL at hs'
  simp only [Bool.and_eq_true] at hs'
  obtain ⟨⟨⟨hc, hn⟩, ht'⟩, hf⟩ := hs'
  have RC := Lib.hid (fa_range hc)
  have RN := Lib.hid (fa_range hn)
  have RT := Lib.hid (fa_range ht')
  have RF := Lib.hid (fa_range hf)
  have hl1 := trmT_le 110 RN.out
  have hl2 := trmT_le 116 RT.out
  have hl3 := trmT_le 102 RF.out
  have hl4 := sgnT_le RC.out
  clear hc hn ht' hf ht
  have e1 : ¬ (9223372036854775807 < (trmT n [110]).length + (trmT t [116]).length) := by omega
  have e2 : ¬ (9223372036854775807 < (trmT n [110]).length + (trmT t [116]).length + (trmT f [102]).length) := by omega
  go_enter Tryd.func46, Tryd.ntmps46
  go_wp2_with (first | (go_at_call 89; refine (isLarge_any _ _ _ _ _).mono ?_; rintro e w1 ⟨rfl, hb1⟩; have hB1 : Below w.heap.size w w1 := (thenBelow (allocBelow _ _) hb1); have t0 : w1.cell? ⟨w.heap.size, 0, none⟩ = some (.int .i64 c) := keep1 (by simp) hb1; have t1 : w1.cell? ⟨w.heap.size, 1, none⟩ = some (.int .i64 n) := keep1 (by simp) hb1; have t2 : w1.cell? ⟨w.heap.size, 2, none⟩ = some (.int .i64 t) := keep1 (by simp) hb1; have t3 : w1.cell? ⟨w.heap.size, 3, none⟩ = some (.int .i64 f) := keep1 (by simp) hb1; clear hb1))
  have HB1 := Lib.hid hB1
  clear hB1
  go_region_held3 (fun w' => w'.cell? ⟨w.heap.size, 0, none⟩ = some (.int .i64 c) ∧ w'.cell? ⟨w.heap.size, 1, none⟩ = some (.int .i64 n) ∧ w'.cell? ⟨w.heap.size, 2, none⟩ = some (.int .i64 t) ∧ w'.cell? ⟨w.heap.size, 3, none⟩ = some (.int .i64 f) ∧ Below w.heap.size w w') (first | exact ⟨t0, t1, t2, t3, HB1.out⟩ | exact keepF ⟨t0, t1, t2, t3, HB1.out⟩ (drewBelow _) | exact keepF (by assumption) (by assumption)) (first | (go_at_call 90; (with_reducible refine (formatTerm_any n 110 RN.out _ (HT.out.below (heldF (by assumption)))).mono ?_); rintro e w4 ⟨rfl, hb4⟩) | (go_at_call 90; (with_reducible refine (formatTerm_any t 116 RT.out _ (HT.out.below (heldF (by assumption)))).mono ?_); rintro e w5 ⟨rfl, hb5⟩) | (go_at_call 90; (with_reducible refine (formatTerm_any f 102 RF.out _ (HT.out.below (heldF (by assumption)))).mono ?_); rintro e w6 ⟨rfl, hb6⟩))
  obtain ⟨s0, s1, s2, s3, hB6⟩ := (by assumption : _ ∧ _ ∧ _ ∧ _ ∧ Below w.heap.size w w6)
  have HB6 := Lib.hid hB6
  clear t0 t1 t2 t3 s1 s2 s3 hb4 hb5 hb6 hB6 e1 e2
  obtain ⟨L, hL⟩ : ∃ L, trm3 n t f = L := ⟨_, rfl⟩
  have hLl : L.length ≤ 120 := by rw [← hL]; unfold trm3; simp only [List.length_append]; omega
  rw [show (⟨(trmT n [110]).toArray⟩ : ByteArray) ++ ⟨(trmT t [116]).toArray⟩ ++ ⟨(trmT f [102]).toArray⟩ = ⟨L.toArray⟩ by rw [← hL, baA, baA]; rfl]
  have HM := Lib.hid (show midT c n t f = L ++ (if c = 0 then [] else sgnT c) by unfold midT; rw [hL])
  have HLN := Lib.hid (show linT c n t f = cutT (midT c n t f) from rfl)
  clear hL hl1 hl2 hl3
  by_cases hc0 : c = 0
  · subst hc0
    have HM' := Lib.hid (show midT 0 n t f = L by rw [HM.out]; simp)
    clear HM
    cases L with
    | nil =>
      go_wp2_with fail
      go_ret
      exact ⟨ret_str (by rw [HLN.out, HM'.out]; rfl), HB6.out⟩
    | cons x l =>
      have hll : l.length ≤ 1000 := by simp at hLl; omega
      by_cases hx : x = 43
      · subst hx
        go_wp2_with (go_at_call 92; refine (Trim_plus l hll _).mono ?_; rintro e w' ⟨rfl, rfl⟩)
        go_ret
        exact ⟨ret_str (by rw [HLN.out, HM'.out]; rfl), HB6.out⟩
      · have HX := Lib.hid hx
        clear hx
        go_wp2_with (go_at_call 92; refine (Trim_other x l hll HX.out _).mono ?_; rintro e w' ⟨rfl, rfl⟩)
        go_ret
        exact ⟨ret_str (by rw [HLN.out, HM'.out]; unfold cutT; rw [if_neg (by simp), if_neg (by simpa using HX.out)]), HB6.out⟩
  · have HM' := Lib.hid (show midT c n t f = L ++ sgnT c by rw [HM.out, if_neg hc0])
    have hc1 : (c == 0) = false := by simp [hc0]
    have hc2 : (c != 0) = true := by simp [hc0]
    have e3 : ¬ (9223372036854775807 < L.length + (sgnT c).length) := by omega
    have hne : 0 < (sgnT c).length := by
      unfold sgnT; split
      · rename_i h; unfold Go.Lib.itoa; rw [if_pos h]; simp
      · simp
    clear HM hc0
    obtain ⟨M, hM⟩ : ∃ M, L ++ sgnT c = M := ⟨_, rfl⟩
    have hMl : M.length ≤ 200 := by rw [← hM, List.length_append]; omega
    have hM0 : 0 < M.length := by rw [← hM, List.length_append]; omega
    have HMM := Lib.hid hM
    clear hM
    have hem : ((⟨L.toArray⟩ : ByteArray) ++ ⟨(sgnT c).toArray⟩).toList.isEmpty = false := by
      rw [baA, HMM.out, ByteArray.toList_mk]; cases M with
      | nil => simp at hM0
      | cons => rfl
    go_wp2_with (first | (go_at_call 91; (with_reducible refine (formatSigned_any c RC.out _ (HT.out.below HB6.out)).mono ?_); rintro e w7 ⟨rfl, hb7⟩))
    clear hem
    rw [show (⟨L.toArray⟩ : ByteArray) ++ ⟨(sgnT c).toArray⟩ = ⟨M.toArray⟩ by rw [baA, HMM.out]]
    have HB7 := Lib.hid (thenBelow HB6.out hb7)
    clear hb7
    cases M with
    | nil => simp at hM0
    | cons x l =>
      have hll : l.length ≤ 1000 := by simp at hMl; omega
      by_cases hx : x = 43
      · subst hx
        refine (Trim_plus l hll _).mono ?_
        rintro e w' ⟨rfl, rfl⟩
        go_wp2_with fail
        go_ret
        exact ⟨ret_str (by rw [HLN.out, HM'.out, HMM.out]; rfl), HB7.out⟩
      · have HX := Lib.hid hx
        clear hx
        refine (Trim_other x l hll HX.out _).mono ?_
        rintro e w' ⟨rfl, rfl⟩
        go_wp2_with fail
        go_ret
        exact ⟨ret_str (by rw [HLN.out, HM'.out, HMM.out]; unfold cutT; rw [if_neg (by simp), if_neg (by simpa using HX.out)]), HB7.out⟩

end Go.Proofs.YtpadmggccpgajaaDoor

namespace Go.Proofs.YtpadmggccpgajaaDoor
open Go.RowKit Go.Deep

theorem itoa_one (k : Nat) (h : k < 10) : Go.Lib.itoa (-((k : Int) + 1)) = (45 :: Go.Lib.decDigits (k + 1)) := by
  unfold Go.Lib.itoa; rw [if_pos (by omega)]; congr 2
theorem dec_digit (k : Nat) (h : k < 10) : Go.Lib.decDigits k = [UInt8.ofNat (48 + k)] := by
  rw [Go.Lib.decDigits, dif_pos h]
theorem known_lin : linT (-1) 1 (-3) 0 = [110, 45, 51, 42, 116, 45, 49] := by
  have e1 : Go.Lib.itoa (-1) = [45, 49] := by
    have := itoa_one 0 (by omega); rw [dec_digit 1 (by omega)] at this; exact this
  have e3 : Go.Lib.itoa (-3) = [45, 51] := by
    have := itoa_one 2 (by omega); rw [dec_digit 3 (by omega)] at this; exact this
  have t1 : trmT 1 [110] = [43, 110] := rfl
  have t2 : trmT (-3) [116] = [45, 51, 42, 116] := by unfold trmT sgnT; rw [if_neg (by decide), if_neg (by decide), if_neg (by decide), if_pos (by decide), e3]; rfl
  have t3 : trmT 0 [102] = [] := rfl
  have t4 : sgnT (-1) = [45, 49] := by unfold sgnT; rw [if_pos (by decide), e1]
  unfold linT midT trm3
  rw [t1, t2, t3, if_neg (by decide), t4]
  rfl

theorem FormatLinear_known (w : World) (ht : TabW w) :
    Calls Tryd.prog 46 #[.agg #[.int .i64 (-1), .int .i64 1, .int .i64 (-3), .int .i64 0]] w fun e w' => e = .returned (.string ⟨#[110, 45, 51, 42, 116, 45, 49]⟩) ∧ Below w.heap.size w w' := by
  have := FormatLinear_any (-1) 1 (-3) 0 (by decide) w ht
  rw [known_lin] at this
  exact this
theorem name_yes (w : World) : Calls Tryd.prog 47 #[.string ⟨#[118, 48]⟩] w fun e w' => e = .returned (.bool true) ∧ Below w.heap.size w w' := by
  have := ValidName_any ⟨#[118, 48]⟩ w (by unfold maxLen; simp [ByteArray.size])
  rw [show nameB (⟨#[118, 48]⟩ : ByteArray).toList = true by rw [show (⟨#[118, 48]⟩ : ByteArray) = ⟨[118, 48].toArray⟩ from rfl, ByteArray.toList_mk]; decide] at this
  exact this
theorem name_line (w : World) : Calls Tryd.prog 47 #[.string ⟨#[108, 105, 110, 101]⟩] w fun e w' => e = .returned (.bool false) ∧ Below w.heap.size w w' := by
  have := ValidName_any ⟨#[108, 105, 110, 101]⟩ w (by unfold maxLen; simp [ByteArray.size])
  rw [show nameB (⟨#[108, 105, 110, 101]⟩ : ByteArray).toList = false by rw [show (⟨#[108, 105, 110, 101]⟩ : ByteArray) = ⟨[108, 105, 110, 101].toArray⟩ from rfl, ByteArray.toList_mk]; decide] at this
  exact this
theorem name_empty (w : World) : Calls Tryd.prog 47 #[.string ⟨#[]⟩] w fun e w' => e = .returned (.bool false) ∧ Below w.heap.size w w' := by
  have := ValidName_any ⟨#[]⟩ w (by unfold maxLen; simp [ByteArray.size])
  rw [show nameB (⟨#[]⟩ : ByteArray).toList = false by rw [show (⟨#[]⟩ : ByteArray) = ⟨([] : List UInt8).toArray⟩ from rfl, ByteArray.toList_mk]; decide] at this
  exact this

theorem vknown_any (w : World) (ht : TabW w) : Calls Tryd.prog 14 #[] w fun e w' => e = .returned (.bool true) ∧ Below w.heap.size w w' := by
  have HT := Lib.hid ht
  clear ht
  go_enter Tryd.func14, Tryd.ntmps14
  go_wp2_with (first | (go_at_call 46; refine (FormatLinear_known _ (HT.out.below (by go_grown))).mono ?_; rintro e w1 ⟨rfl, hb1⟩) | (go_at_call 47; (with_reducible refine (name_yes _).mono ?_); rintro e w2 ⟨rfl, hb2⟩) | (go_at_call 47; (with_reducible refine (name_line _).mono ?_); rintro e w3 ⟨rfl, hb3⟩) | (go_at_call 47; (with_reducible refine (name_empty _).mono ?_); rintro e w4 ⟨rfl, hb4⟩))
  go_ret
  exact ⟨rfl, thenBelow (thenBelow (thenBelow hb1 hb2) hb3) hb4⟩
end Go.Proofs.YtpadmggccpgajaaDoor

namespace Go.Proofs.YtpadmggccpgajaaDoor
open Go.RowKit Go.Deep
theorem IsSl.take {α : Type} {size : Nat} {P : Nat → World → List Value → α → Prop} {lo : Nat} {w : World} {a : Option Addr} {n cap : Nat} {xs : List α} (h : IsSl size P lo w (.slice a n cap) xs) (k : Nat) (hk : k ≤ xs.length) : IsSl size P lo w (.slice a k cap) (xs.take k) := by
  obtain ⟨a', cap', hv, h1, hm, hn, hc⟩ := h
  simp only [Value.slice.injEq] at hv
  obtain ⟨rfl, rfl, rfl⟩ := hv
  have e : (xs.take k).length = k := by simp; omega
  refine ⟨a, cap, by rw [e], by omega, hm, hn, ?_⟩
  rcases hc with rfl | ⟨b, off, ha, hlo, hb, hc⟩
  · exact .inl (by simp)
  · refine .inr ⟨b, off, ha, hlo, hb, fun i hi => ?_⟩
    obtain ⟨cs, g1, g2, g3⟩ := hc i (by omega)
    exact ⟨cs, g1, g2, by simpa using g3⟩
theorem info_prot : (Tryd.prog.info? 27).map (·.size) = some 10 := by kernel_rfl
theorem ruleE_nm {q : Fm} {i : Nat} {r : Ru} (h : nameB r.nm.toList = false ∨ hasR (q.rules.take i) r.nm = true) : ruleE q i r = 2 := if_pos h
theorem ruleE_rule {q : Fm} {i : Nat} {r : Ru} (h : nameB r.nm.toList = true) (h' : hasR (q.rules.take i) r.nm = false) (hf : fitB r.kind q.top = false ∨ othB r q.top = false) : ruleE q i r = 6 := by
  unfold ruleE; rw [if_neg (by rw [h, h']; simp), if_pos hf]
theorem ruleE_state {q : Fm} {i : Nat} {r : Ru} (h : nameB r.nm.toList = true) (h' : hasR (q.rules.take i) r.nm = false) (hf : fitB r.kind q.top = true) (ho : othB r q.top = true) (hs : stB r q.states.length = false) : ruleE q i r = 5 := by
  unfold ruleE; rw [if_neg (by rw [h, h']; simp), if_neg (by rw [hf, ho]; simp), if_pos hs]
theorem ruleE_part {q : Fm} {i : Nat} {r : Ru} (h : nameB r.nm.toList = true) (h' : hasR (q.rules.take i) r.nm = false) (hf : fitB r.kind q.top = true) (ho : othB r q.top = true) (hs : stB r q.states.length = true) : ruleE q i r = partE q r := by
  unfold ruleE; rw [if_neg (by rw [h, h']; simp), if_neg (by rw [hf, ho]; simp), if_neg (by rw [hs]; simp)]
set_option maxHeartbeats 3200000 in
theorem ruleError_any {lo : Nat} {w : World} {v : Value} {q : Fm} (i : Nat) (hi : i < q.rules.length) (hq : IsFam lo w v q) :
    Calls Tryd.prog 109 #[v, .int .i64 i] w fun e w' => e = .returned (.int .i64 (ruleE q i q.rules[i])) ∧ Below w.heap.size w w' := by
  have HQ := Lib.hid hq
  obtain ⟨v2, v3, v4, v6, v7, v8, v9, rfl, _, _, h2, h3, h4, _, h6, h7, h8, h9⟩ := hq
  have hnn := h2.bound
  have HN := Lib.hid hnn
  have h9b := h9.bound
  obtain ⟨a2, c2, rfl⟩ := h2.shape
  obtain ⟨a3, c3, rfl⟩ := h3.shape
  obtain ⟨a4, c4, rfl⟩ := h4.shape
  obtain ⟨a9, c9, rfl⟩ := h9.shape
  obtain ⟨b, off, cs, rfl, _, hb, hl, hc, hel⟩ := h9.at i hi
  have H9 := Lib.hid h9
  have HC9 := Lib.hid (show q.rules.length ≤ c9 by obtain ⟨_, _, e, h, _⟩ := h9; simp only [Value.slice.injEq] at e; omega)
  obtain ⟨-, p0, hnm, p1, hkI, pc⟩ := rule_cells hel
  have HL := Lib.hid hl
  have HR := Lib.hid (rangeOf hl hc)
  generalize hr : q.rules[i] = r at hel p0 hnm p1 hkI
  have HE := Lib.hid hel
  have P0 := Lib.hid p0
  have P1 := Lib.hid p1
  have PC := Lib.hid pc
  have HNM := Lib.hid hnm
  have HI := Lib.hid hkI
  have hb1 := hb
  clear h2 h3 h4 h6 h7 h8 h9 hc hl hel p0 p1 pc hr hnm hkI hb
  go_enter Tryd.func109, Tryd.ntmps109
  go_upto_region 1 with (fail)
  obtain ⟨W, hW⟩ : ∃ W : World, W = w.alloc (.cells #[.string q.nm, .int .i64 q.top, .slice a2 q.states.length c2, .slice a3 q.msgs.length c3, .slice a4 q.vals.length c4, .int .i64 q.fault, v6, v7, v8, .slice (some ⟨b, off, none⟩) q.rules.length c9] 27) := ⟨_, rfl⟩
  have hs : W.heap.size = w.heap.size + 1 := by rw [hW]; simp
  have HSZ := Lib.hid hs
  rw [← hW]
  have HB := Lib.hid (show Below w.heap.size w W by rw [hW]; exact allocBelow _ _)
  have HP := Lib.hid (show W.heap[w.heap.size]? = some (.cells #[.string q.nm, .int .i64 q.top, .slice a2 q.states.length c2, .slice a3 q.msgs.length c3, .slice a4 q.vals.length c4, .int .i64 q.fault, v6, v7, v8, .slice (some ⟨b, off, none⟩) q.rules.length c9] 27 (0, 0)) by rw [hW]; exact heap_new _ _ rfl)
  clear hW
  have x9 : W.cell? ⟨w.heap.size, 9, none⟩ = some (.slice (some ⟨b, off, none⟩) q.rules.length c9) := cellB HP.out 9 rfl
  refine wp_region_lit ?_
  iterate 4
    refine wpList_step fun K hK => ?_
    go_simp
    refine hK _ _ ?_
    clear hK K
  refine ld_mid Tryd.underlying81 info_rule (by rfl) (.tmp 9) (by rfl) b (off + i * 18) cs (by rfl) HL.out (rangeBelow HR.out HB.out) ?_
  refine wpList_step fun K hK => ?_
  go_simp
  refine hK _ _ ?_
  clear hK K
  refine st_whole (T := 81) info_rule (by rfl) (.tmp 5) (.tmp 10) (by rfl) (w.heap.size + 1) cs (by rfl) (by rfl) HL.out (heap_new W _ hs.symm) (by rfl) PC.out (fun Z hZ hbl hsz hoth => ?_)
  have ZB := Lib.hid (show Below w.heap.size w Z from hbl _ _ (by omega) (HB.out.trans ((allocBelow W _).mono HB.out.size)))
  have ZP := Lib.hid (show Z.heap[w.heap.size]? = some (.cells #[.string q.nm, .int .i64 q.top, .slice a2 q.states.length c2, .slice a3 q.msgs.length c3, .slice a4 q.vals.length c4, .int .i64 q.fault, v6, v7, v8, .slice (some ⟨b, off, none⟩) q.rules.length c9] 27 (0, 0)) from (hoth _ (by omega)).trans ((heap_old W _ (by omega)).trans HP.out))
  have ZG := Lib.hid (show Z.heap[w.heap.size + 1]? = some (.cells cs.toArray 81 (0, 0)) from hZ)
  clear hZ hbl hsz hoth x9
  clear hs
  refine wpList_nil ?_
  simp only [Act.put]
  go_upto_region 2 with (fail)
  have ZGn := Lib.hid (show ∀ n : WIn (Below Z.heap.size Z), n.val.heap[w.heap.size + 1]? = some (.cells cs.toArray 81 (0, 0)) from fun n => keepB ZG.out n.ok)
  have ZPn := Lib.hid (show ∀ n : WIn (Below Z.heap.size Z), n.val.heap[w.heap.size]? = some (.cells #[.string q.nm, .int .i64 q.top, .slice a2 q.states.length c2, .slice a3 q.msgs.length c3, .slice a4 q.vals.length c4, .int .i64 q.fault, v6, v7, v8, .slice (some ⟨b, off, none⟩) q.rules.length c9] 27 (0, 0)) from fun n => keepB ZP.out n.ok)
  have ZBn := Lib.hid (show ∀ n : WIn (Below Z.heap.size Z), Below w.heap.size w n.val from fun n => thenBelow ZB.out n.ok)
  have c0 : ∀ n : WIn (Below Z.heap.size Z), n.val.cell? ⟨w.heap.size + 1, 0, none⟩ = some (.string r.nm) := fun n => cellB (ZGn.out n) 0 (by simpa using P0.out)
  have hic : i ≤ c9 := by have := HC9.out; omega
  have cc9 : ∀ n : WIn (Below Z.heap.size Z), n.val.cell? ⟨w.heap.size, 9, none⟩ = some (.slice (some ⟨b, off, none⟩) q.rules.length c9) := fun n => cellB (ZPn.out n) 9 rfl
  cases n0 : nameB r.nm.toList with
  | false =>
    have N0 := Lib.hid n0
    clear n0
    refine wp_cls (by kernel_rfl) (by kernel_rfl) ?_
    iterate 2 go_big_quiet_step (fail)
    go_big_quiet_step (((with_reducible refine (ValidName_any r.nm _ HNM.out).mono ?_); rw [N0.out]; rintro e w1 ⟨rfl, hb⟩; exact ⟨rfl, ⟨w1, thenBelow (WIn.ok _) hb⟩, rfl⟩))
    repeat (go_big_quiet_step (fail))
    refine wpQuiet_nil ?_
    intro n
    go_wp2_with fail
    go_ret
    exact ⟨ret_int (ruleE_nm (.inl N0.out)).symm, ZBn.out n⟩
  | true =>
    have N0 := Lib.hid n0
    clear n0
    cases h0 : hasR (q.rules.take i) r.nm with
    | true =>
      have H0 := Lib.hid h0
      clear h0
      refine wp_cls (by kernel_rfl) (by kernel_rfl) ?_
      iterate 2 go_big_quiet_step (fail)
      go_big_quiet_step (((with_reducible refine (ValidName_any r.nm _ HNM.out).mono ?_); rw [N0.out]; rintro e w1 ⟨rfl, hb⟩; exact ⟨rfl, ⟨w1, thenBelow (WIn.ok _) hb⟩, rfl⟩))
      iterate 8 go_big_quiet_step (fail)
      go_big_quiet_step (((with_reducible refine (hasRule_any r.nm ((H9.out.below RuEl.stays (ZBn.out _)).take i (by omega))).mono ?_); rw [H0.out]; rintro e w1 ⟨rfl, hb⟩; exact ⟨rfl, ⟨w1, thenBelow (WIn.ok _) hb⟩, rfl⟩))
      repeat (go_big_quiet_step (fail))
      refine wpQuiet_nil ?_
      intro n
      go_wp2_with fail
      go_ret
      exact ⟨ret_int (ruleE_nm (.inr H0.out)).symm, ZBn.out n⟩
    | false =>
      have H0 := Lib.hid h0
      clear h0
      refine wp_cls (by kernel_rfl) (by kernel_rfl) ?_
      iterate 2 go_big_quiet_step (fail)
      go_big_quiet_step (((with_reducible refine (ValidName_any r.nm _ HNM.out).mono ?_); rw [N0.out]; rintro e w1 ⟨rfl, hb⟩; exact ⟨rfl, ⟨w1, thenBelow (WIn.ok _) hb⟩, rfl⟩))
      iterate 8 go_big_quiet_step (fail)
      go_big_quiet_step (((with_reducible refine (hasRule_any r.nm ((H9.out.below RuEl.stays (ZBn.out _)).take i (by omega))).mono ?_); rw [H0.out]; rintro e w1 ⟨rfl, hb⟩; exact ⟨rfl, ⟨w1, thenBelow (WIn.ok _) hb⟩, rfl⟩))
      repeat (go_big_quiet_step (fail))
      refine wpQuiet_nil ?_
      intro n
      have YG := Lib.hid (ZGn.out n)
      have YP := Lib.hid (ZPn.out n)
      have YB := Lib.hid (ZBn.out n)
      generalize n.val = Y at YG YP YB ⊢
      clear n
      have YGn := Lib.hid (show ∀ n : WIn (Below Y.heap.size Y), n.val.heap[w.heap.size + 1]? = some (.cells cs.toArray 81 (0, 0)) from fun n => keepB YG.out n.ok)
      have YPn := Lib.hid (show ∀ n : WIn (Below Y.heap.size Y), n.val.heap[w.heap.size]? = some (.cells #[.string q.nm, .int .i64 q.top, .slice a2 q.states.length c2, .slice a3 q.msgs.length c3, .slice a4 q.vals.length c4, .int .i64 q.fault, v6, v7, v8, .slice (some ⟨b, off, none⟩) q.rules.length c9] 27 (0, 0)) from fun n => keepB YP.out n.ok)
      have YBn := Lib.hid (show ∀ n : WIn (Below Y.heap.size Y), Below w.heap.size w n.val from fun n => thenBelow YB.out n.ok)
      have d1 : ∀ n : WIn (Below Y.heap.size Y), n.val.cell? ⟨w.heap.size + 1, 1, none⟩ = some (.int .i64 r.kind) := fun n => cellB (YGn.out n) 1 (by simpa using P1.out)
      have e1 : ∀ n : WIn (Below Y.heap.size Y), n.val.cell? ⟨w.heap.size, 1, none⟩ = some (.int .i64 q.top) := fun n => cellB (YPn.out n) 1 rfl
      go_upto_region 4 with (fail)
      cases f0 : fitB r.kind q.top with
      | false =>
        have F0 := Lib.hid f0
        clear f0
        refine wp_cls_seq ?_
        iterate 4 go_big_quiet_step (fail)
        go_big_quiet_step (((with_reducible refine (kindFits_any r.kind q.top _).mono ?_); rw [F0.out]; rintro e w1 ⟨rfl, hb⟩; subst hb; exact ⟨rfl, ⟨_, WIn.ok _⟩, rfl⟩))
        repeat (go_big_quiet_step (fail))
        refine wpQuiet_nil ?_
        intro n
        go_wp2_with fail
        go_ret
        exact ⟨ret_int (ruleE_rule N0.out H0.out (.inl F0.out)).symm, YBn.out n⟩
      | true =>
        have F0 := Lib.hid f0
        clear f0
        cases o0 : othB r q.top with
        | false =>
          have O0 := Lib.hid o0
          clear o0
          refine wp_cls_seq ?_
          iterate 4 go_big_quiet_step (fail)
          go_big_quiet_step (((with_reducible refine (kindFits_any r.kind q.top _).mono ?_); rw [F0.out]; rintro e w1 ⟨rfl, hb⟩; subst hb; exact ⟨rfl, ⟨_, WIn.ok _⟩, rfl⟩))
          iterate 2 go_big_quiet_step (fail)
          refine BigFrame.wpQuiet_want (by rfl) (fun K hK => ?_)
          refine quiet_ld Tryd.underlying81 info_rule (.tmp 5) (by rfl) (w.heap.size + 1) 0 cs (by rfl) HL.out (by rintro _ ⟨n, rfl⟩; exact rangeBlock (YGn.out n)) (hK _ ?_)
          clear hK K
          simp only [Act.put, List.setIfInBounds_toArray, List.set_cons_succ, List.set_cons_zero]
          iterate 2 go_big_quiet_step (fail)
          go_big_quiet_step (((with_reducible refine (othersEmpty_any q.top (kind_of_fit F0.out) (HE.out.below (YBn.out _))).mono ?_); rw [O0.out]; rintro e w1 ⟨rfl, hb⟩; exact ⟨rfl, ⟨w1, thenBelow (WIn.ok _) hb⟩, rfl⟩))
          repeat (go_big_quiet_step (fail))
          refine wpQuiet_nil ?_
          intro n
          go_wp2_with fail
          go_ret
          exact ⟨ret_int (ruleE_rule N0.out H0.out (.inr O0.out)).symm, YBn.out n⟩
        | true =>
          have O0 := Lib.hid o0
          clear o0
          refine wp_cls_seq ?_
          iterate 4 go_big_quiet_step (fail)
          go_big_quiet_step (((with_reducible refine (kindFits_any r.kind q.top _).mono ?_); rw [F0.out]; rintro e w1 ⟨rfl, hb⟩; subst hb; exact ⟨rfl, ⟨_, WIn.ok _⟩, rfl⟩))
          iterate 2 go_big_quiet_step (fail)
          refine BigFrame.wpQuiet_want (by rfl) (fun K hK => ?_)
          refine quiet_ld Tryd.underlying81 info_rule (.tmp 5) (by rfl) (w.heap.size + 1) 0 cs (by rfl) HL.out (by rintro _ ⟨n, rfl⟩; exact rangeBlock (YGn.out n)) (hK _ ?_)
          clear hK K
          simp only [Act.put, List.setIfInBounds_toArray, List.set_cons_succ, List.set_cons_zero]
          iterate 2 go_big_quiet_step (fail)
          go_big_quiet_step (((with_reducible refine (othersEmpty_any q.top (kind_of_fit F0.out) (HE.out.below (YBn.out _))).mono ?_); rw [O0.out]; rintro e w1 ⟨rfl, hb⟩; exact ⟨rfl, ⟨w1, thenBelow (WIn.ok _) hb⟩, rfl⟩))
          repeat (go_big_quiet_step (fail))
          refine wpQuiet_nil ?_
          intro n
          clear d1 e1
          have XG := Lib.hid (YGn.out n)
          have XP := Lib.hid (YPn.out n)
          have XB := Lib.hid (YBn.out n)
          generalize n.val = X at XG XP XB ⊢
          clear n
          have XGn := Lib.hid (show ∀ n : WIn (Below X.heap.size X), n.val.heap[w.heap.size + 1]? = some (.cells cs.toArray 81 (0, 0)) from fun n => keepB XG.out n.ok)
          have XPn := Lib.hid (show ∀ n : WIn (Below X.heap.size X), n.val.heap[w.heap.size]? = some (.cells #[.string q.nm, .int .i64 q.top, .slice a2 q.states.length c2, .slice a3 q.msgs.length c3, .slice a4 q.vals.length c4, .int .i64 q.fault, v6, v7, v8, .slice (some ⟨b, off, none⟩) q.rules.length c9] 27 (0, 0)) from fun n => keepB XP.out n.ok)
          have XBn := Lib.hid (show ∀ n : WIn (Below X.heap.size X), Below w.heap.size w n.val from fun n => thenBelow XB.out n.ok)
          have f2 : ∀ n : WIn (Below X.heap.size X), n.val.cell? ⟨w.heap.size, 2, none⟩ = some (.slice a2 q.states.length c2) := fun n => cellB (XPn.out n) 2 rfl
          go_upto_region 6 with (fail)
          cases s0 : stB r q.states.length with
          | false =>
            have S0 := Lib.hid s0
            clear s0
            refine wp_cls_seq ?_
            refine BigFrame.wpQuiet_want (by rfl) (fun K hK => ?_)
            refine quiet_ld Tryd.underlying81 info_rule (.tmp 5) (by rfl) (w.heap.size + 1) 0 cs (by rfl) HL.out (by rintro _ ⟨n, rfl⟩; exact rangeBlock (XGn.out n)) (hK _ ?_)
            clear hK K
            simp only [Act.put, List.setIfInBounds_toArray, List.set_cons_succ, List.set_cons_zero]
            iterate 3 go_big_quiet_step (fail)
            go_big_quiet_step (((with_reducible refine (statesExist_any q.states.length HN.out (HE.out.below (XBn.out _))).mono ?_); rw [S0.out]; rintro e w1 ⟨rfl, hb⟩; exact ⟨rfl, ⟨w1, thenBelow (WIn.ok _) hb⟩, rfl⟩))
            repeat (go_big_quiet_step (fail))
            refine wpQuiet_nil ?_
            intro n
            go_wp2_with fail
            go_ret
            exact ⟨ret_int (ruleE_state N0.out H0.out F0.out O0.out S0.out).symm, XBn.out n⟩
          | true =>
            have S0 := Lib.hid s0
            clear s0
            refine wp_cls_seq ?_
            refine BigFrame.wpQuiet_want (by rfl) (fun K hK => ?_)
            refine quiet_ld Tryd.underlying81 info_rule (.tmp 5) (by rfl) (w.heap.size + 1) 0 cs (by rfl) HL.out (by rintro _ ⟨n, rfl⟩; exact rangeBlock (XGn.out n)) (hK _ ?_)
            clear hK K
            simp only [Act.put, List.setIfInBounds_toArray, List.set_cons_succ, List.set_cons_zero]
            iterate 3 go_big_quiet_step (fail)
            go_big_quiet_step (((with_reducible refine (statesExist_any q.states.length HN.out (HE.out.below (XBn.out _))).mono ?_); rw [S0.out]; rintro e w1 ⟨rfl, hb⟩; exact ⟨rfl, ⟨w1, thenBelow (WIn.ok _) hb⟩, rfl⟩))
            repeat (go_big_quiet_step (fail))
            refine wpQuiet_nil ?_
            intro n
            clear f2
            have VG := Lib.hid (XGn.out n)
            have VP := Lib.hid (XPn.out n)
            have VB := Lib.hid (XBn.out n)
            generalize n.val = V at VG VP VB ⊢
            clear n
            have VGn := Lib.hid (show ∀ n : WIn (Below V.heap.size V), n.val.heap[w.heap.size + 1]? = some (.cells cs.toArray 81 (0, 0)) from fun n => keepB VG.out n.ok)
            have VPn := Lib.hid (show ∀ n : WIn (Below V.heap.size V), n.val.heap[w.heap.size]? = some (.cells #[.string q.nm, .int .i64 q.top, .slice a2 q.states.length c2, .slice a3 q.msgs.length c3, .slice a4 q.vals.length c4, .int .i64 q.fault, v6, v7, v8, .slice (some ⟨b, off, none⟩) q.rules.length c9] 27 (0, 0)) from fun n => keepB VP.out n.ok)
            have VBn := Lib.hid (show ∀ n : WIn (Below V.heap.size V), Below w.heap.size w n.val from fun n => thenBelow VB.out n.ok)
            go_upto_region 8 with (fail)
            refine wp_cls_seq ?_
            refine BigFrame.wpQuiet_want (by rfl) (fun K hK => ?_)
            refine quiet_ld Tryd.underlying27 info_prot (.tmp 2) (by rfl) w.heap.size 0 [.string q.nm, .int .i64 q.top, .slice a2 q.states.length c2, .slice a3 q.msgs.length c3, .slice a4 q.vals.length c4, .int .i64 q.fault, v6, v7, v8, .slice (some ⟨b, off, none⟩) q.rules.length c9] (by rfl) (by rfl) (by rintro _ ⟨n, rfl⟩; exact rangeBlock (VPn.out n)) (hK _ ?_)
            clear hK K
            simp only [Act.put, List.setIfInBounds_toArray, List.set_cons_succ, List.set_cons_zero]
            refine BigFrame.wpQuiet_want (by rfl) (fun K hK => ?_)
            refine quiet_ld Tryd.underlying81 info_rule (.tmp 5) (by rfl) (w.heap.size + 1) 0 cs (by rfl) HL.out (by rintro _ ⟨n, rfl⟩; exact rangeBlock (VGn.out n)) (hK _ ?_)
            clear hK K
            simp only [Act.put, List.setIfInBounds_toArray, List.set_cons_succ, List.set_cons_zero]
            go_big_quiet_step (((with_reducible refine (partsError_any (HQ.out.below (VBn.out _)) (HE.out.below (VBn.out _))).mono ?_); skip; rintro e w1 ⟨rfl, hb⟩; exact ⟨rfl, ⟨w1, thenBelow (WIn.ok _) hb⟩, rfl⟩))
            repeat (go_big_quiet_step (fail))
            refine wpQuiet_nil ?_
            intro n
            go_wp2_with fail
            go_ret
            exact ⟨ret_int (ruleE_part N0.out H0.out F0.out O0.out S0.out).symm, VBn.out n⟩
end Go.Proofs.YtpadmggccpgajaaDoor

namespace Go.Proofs.YtpadmggccpgajaaDoor
open Go.RowKit Go.Deep
def lrgL (l : Ln) : Bool := !smL l.c l.n l.t l.f
theorem any_succ {α : Type} {p : α → Bool} {xs : List α} {k : Nat} (h : k < xs.length) (hk : (xs.take k).any p = false) (e : p xs[k] = false) : (xs.take (k + 1)).any p = false := by
  rw [List.take_succ_eq_append_getElem h, List.any_append, hk]; simpa using e
theorem any_yes {α : Type} {p : α → Bool} {xs : List α} {k : Nat} (h : k < xs.length) (e : p xs[k] = true) : xs.any p = true := by
  rw [List.any_eq_true]; exact ⟨xs[k], List.getElem_mem h, e⟩
theorem any_end {α : Type} {p : α → Bool} {xs : List α} {k : Nat} (h : k = xs.length) (hk : (xs.take k).any p = false) : xs.any p = false := by
  rwa [List.take_of_length_le (by omega)] at hk
theorem lin_cells {lo : Nat} {w : World} {b off n cap : Nat} {xs : List Ln} (h : IsSl 4 LnEl lo w (.slice (some ⟨b, off, none⟩) n cap) xs) (k : Nat) (hk : k < xs.length) : w.cell? ⟨b, off + k * 4, none⟩ = some (.int .i64 xs[k].c) ∧ w.cell? ⟨b, off + k * 4 + 1, none⟩ = some (.int .i64 xs[k].n) ∧ w.cell? ⟨b, off + k * 4 + 2, none⟩ = some (.int .i64 xs[k].t) ∧ w.cell? ⟨b, off + k * 4 + 3, none⟩ = some (.int .i64 xs[k].f) := by
  obtain ⟨b', off', cs, ha, _, _, _, hc, hel⟩ := h.at k hk
  cases ha
  have h0 := hc 0 (by omega)
  have h1 := hc 1 (by omega)
  have h2 := hc 2 (by omega)
  have h3 := hc 3 (by omega)
  rw [hel.1] at h0 h1 h2 h3
  exact ⟨h0.trans rfl, h1.trans rfl, h2.trans rfl, h3.trans rfl⟩
set_option maxHeartbeats 1600000 in
theorem IndexLarge_any {lo : Nat} {w : World} {v : Value} {xs : List Ln} (h : IsSl 4 LnEl lo w v xs) :
    Calls Tryd.prog 145 #[v, .func (.func 89) #[] #[]] w fun e w' => ∃ i : Int, e = .returned (.int .i64 i) ∧ (decide (0 ≤ i)) = xs.any lrgL ∧ Below w.heap.size w w' := by
  have hn := h.bound
  have H := Lib.hid h
  rcases sl_cases h with ⟨rfl, a, c, rfl⟩ | ⟨b, off, c, rfl, hbw, _⟩
  · clear h
    go_enter Tryd.func145, Tryd.ntmps145
    go_wp2_with fail
    refine wp_loop_rounds 1 ?_
    rw [rounds_succ]
    go_wp2_with fail
    go_ret
    exact ⟨-1, rfl, rfl, Below.refl _ _⟩
  · generalize hN : xs.length = n at hn
    have HN := Lib.hid hN
    rw [hN] at H
    clear h hN
    go_enter Tryd.func145, Tryd.ntmps145
    go_wp2_with fail
    go_loopw [8] (fun u wr => ∃ k : Nat, k ≤ n ∧ u = .int .i64 k ∧ (xs.take k).any lrgL = false ∧ Below w.heap.size w wr) (fun u _ => n - (intOf u).toNat)
    case atStart => exact ⟨0, Nat.zero_le _, rfl, rfl, Below.refl _ _⟩
    case round =>
      obtain ⟨k, hk, rfl, hs, hB⟩ := hrel
      have HS := Lib.hid hs
      have HB := Lib.hid hB
      clear hs hB
      by_cases h1 : k < n
      · have hkx : k < xs.length := by rw [HN.out]; exact h1
        obtain ⟨g1, g2, g3, g4⟩ := lin_cells H.out k hkx
        have k1 := (HB.out.cell (p := ⟨b, off + k * 4, none⟩) hbw).trans g1
        have k2 := (HB.out.cell (p := ⟨b, off + k * 4 + 1, none⟩) hbw).trans g2
        have k3 := (HB.out.cell (p := ⟨b, off + k * 4 + 2, none⟩) hbw).trans g3
        have k4 := (HB.out.cell (p := ⟨b, off + k * 4 + 3, none⟩) hbw).trans g4
        have HYES := Lib.hid (fun h => any_yes (p := lrgL) hkx h)
        have HNO := Lib.hid (fun h => any_succ (p := lrgL) hkx HS.out h)
        generalize xs[k] = x at k1 k2 k3 k4 HYES HNO
        clear g1 g2 g3 g4
        cases he : smL x.c x.n x.t x.f with
        | false =>
          have HE := Lib.hid he
          clear he
          go_wp2_with (go_at_call 89; (with_reducible refine (isLarge_any _ _ _ _ _).mono ?_); rw [HE.out]; rintro e w1 ⟨rfl, hb1⟩; have HB1 := Lib.hid hb1; clear hb1)
          go_ret
          exact ⟨k, rfl, by rw [HYES.out (by unfold lrgL; rw [HE.out]; rfl)]; simp, thenBelow HB.out HB1.out⟩
        | true =>
          have HE := Lib.hid he
          clear he
          go_wp2_with (go_at_call 89; (with_reducible refine (isLarge_any _ _ _ _ _).mono ?_); rw [HE.out]; rintro e w1 ⟨rfl, hb1⟩; have HB1 := Lib.hid hb1; clear hb1)
          go_roundw
          case rel => exact ⟨k + 1, by omega, by go_num, HNO.out (by unfold lrgL; rw [HE.out]; rfl), thenBelow HB.out HB1.out⟩
          case measure => simp [intOf]; omega
      · have HE := Lib.hid (any_end (by rw [HN.out]; omega) HS.out)
        go_wp2_with fail
        go_ret
        exact ⟨-1, rfl, by rw [HE.out]; rfl, HB.out⟩
set_option maxHeartbeats 1600000 in
theorem ContainsLarge_any {lo : Nat} {w : World} {v : Value} {xs : List Ln} (h : IsSl 4 LnEl lo w v xs) :
    Calls Tryd.prog 107 #[v, .func (.func 89) #[] #[]] w fun e w' => e = .returned (.bool (xs.any fun l => !smL l.c l.n l.t l.f)) ∧ Below w.heap.size w w' := by
  have HI := Lib.hid (IndexLarge_any h)
  clear h
  go_enter Tryd.func107, Tryd.ntmps107
  go_wp2_with (go_at_call 145; refine Calls.mono (show Calls _ _ _ _ _ from HI.out) ?_; rintro e w1 ⟨i, rfl, hi, hb⟩; have HI2 := Lib.hid hi; have HB := Lib.hid hb; clear hi hb)
  go_ret
  exact ⟨ret_bool HI2.out, HB.out⟩
end Go.Proofs.YtpadmggccpgajaaDoor
