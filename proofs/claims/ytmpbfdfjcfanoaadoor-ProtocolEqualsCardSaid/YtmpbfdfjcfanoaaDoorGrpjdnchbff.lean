import Derived.Test.YtmpbfdfjcfanoaaDoorProg
import Derived.Shelf.Strconv.Itoa3
import Derived.Lib.AppendIntMem
import Derived.Lib.ItoaLen
import Derived.Lib.Hide
import Derived.WalkSpells
import Derived.StillTailTactics
import Derived.Deep.RegionHeld3
import Derived.Test.YtmpbfdfjcfanoaaDoorGrpneebdajk
import Derived.Test.YtmpbfdfjcfanoaaDoorGrpjfkenafn
import Derived.Test.YtmpbfdfjcfanoaaDoorGrpelbpjhde
import Derived.Test.YtmpbfdfjcfanoaaDoorGrpghkcfdaa
set_option linter.all false
namespace Go.Proofs.YtmpbfdfjcfanoaaDoor
open Go.RowKit Go.Shelf

def renI : Go.Shelf.Ren := ⟨fun | 129 => 130 | 171 => 111 | 243 => 122 | 246 => 124 | 283 => 125 | 284 => 126 | 285 => 127 | 286 => 128 | 317 => 129 | 318 => 131 | 319 => 132 | 320 => 133 | 337 => 134 | 338 => 135 | n => n, fun | 0 => 0 | 2 => 2 | 3 => 3 | 4 => 4 | 5 => 5 | 9 => 9 | 20 => 20 | 37 => 137 | 46 => 34 | 51 => 143 | 53 => 134 | 171 => 133 | 173 => 138 | 212 => 142 | 213 => 144 | 232 => 147 | 233 => 148 | n => n, fun | 17 => 0 | 18 => 1 | 19 => 2 | n => n⟩
theorem laysI : Go.Proofs.LaysM.n171 Tryd.prog renI := {
  mixed := by kernel_rfl
  f129 := Tryd.func130.trans (congrArg some (by kernel_rfl))
  f171 := Tryd.func111.trans (congrArg some (by kernel_rfl))
  f243 := Tryd.func122.trans (congrArg some (by kernel_rfl))
  f246 := Tryd.func124.trans (congrArg some (by kernel_rfl))
  f283 := Tryd.func125.trans (congrArg some (by kernel_rfl))
  f284 := Tryd.func126.trans (congrArg some (by kernel_rfl))
  f285 := Tryd.func127.trans (congrArg some (by kernel_rfl))
  f286 := Tryd.func128.trans (congrArg some (by kernel_rfl))
  f317 := Tryd.func129.trans (congrArg some (by kernel_rfl))
  f318 := Tryd.func131.trans (congrArg some (by kernel_rfl))
  f319 := Tryd.func132.trans (congrArg some (by kernel_rfl))
  f320 := Tryd.func133.trans (congrArg some (by kernel_rfl))
  f337 := Tryd.func134.trans (congrArg some (by kernel_rfl))
  f338 := Tryd.func135.trans (congrArg some (by kernel_rfl))
  t0 := Tryd.underlying0
  a0 := Tryd.isAgg0
  z0 := Tryd.sizeOf0
  v0 := Tryd.zeroValue0
  t2 := Tryd.underlying2
  a2 := Tryd.isAgg2
  z2 := Tryd.sizeOf2
  v2 := Tryd.zeroValue2
  t3 := Tryd.underlying3
  a3 := Tryd.isAgg3
  z3 := Tryd.sizeOf3
  v3 := Tryd.zeroValue3
  t4 := Tryd.underlying4
  a4 := Tryd.isAgg4
  z4 := Tryd.sizeOf4
  v4 := Tryd.zeroValue4
  t5 := Tryd.underlying5
  a5 := Tryd.isAgg5
  z5 := Tryd.sizeOf5
  v5 := Tryd.zeroValue5
  t9 := Tryd.underlying9
  a9 := Tryd.isAgg9
  z9 := Tryd.sizeOf9
  v9 := Tryd.zeroValue9
  t20 := Tryd.underlying20
  a20 := Tryd.isAgg20
  z20 := Tryd.sizeOf20
  v20 := Tryd.zeroValue20
  t37 := Tryd.underlying137
  a37 := Tryd.isAgg137
  z37 := Tryd.sizeOf137
  v37 := Tryd.zeroValue137
  t46 := Tryd.underlying34
  a46 := Tryd.isAgg34
  z46 := Tryd.sizeOf34
  v46 := Tryd.zeroValue34
  t51 := Tryd.underlying143
  a51 := Tryd.isAgg143
  z51 := Tryd.sizeOf143
  v51 := Tryd.zeroValue143
  t53 := Tryd.underlying134
  a53 := Tryd.isAgg134
  z53 := Tryd.sizeOf134
  v53 := Tryd.zeroValue134
  t171 := Tryd.underlying133
  a171 := Tryd.isAgg133
  z171 := Tryd.sizeOf133
  v171 := Tryd.zeroValue133
  t173 := Tryd.underlying138
  a173 := Tryd.isAgg138
  z173 := Tryd.sizeOf138
  v173 := Tryd.zeroValue138
  t212 := Tryd.underlying142
  a212 := Tryd.isAgg142
  z212 := Tryd.sizeOf142
  v212 := Tryd.zeroValue142
  t213 := Tryd.underlying144
  a213 := Tryd.isAgg144
  z213 := Tryd.sizeOf144
  t232 := Tryd.underlying147
  a232 := Tryd.isAgg147
  z232 := Tryd.sizeOf147
  v232 := Tryd.zeroValue147
  t233 := Tryd.underlying148
  a233 := Tryd.isAgg148
  z233 := Tryd.sizeOf148
  v233 := Tryd.zeroValue148
  g17 := by kernel_rfl
  g18 := by kernel_rfl
  g19 := by kernel_rfl
  i0 := by kernel_rfl
  i2 := by kernel_rfl
  i3 := by kernel_rfl
  i4 := by kernel_rfl
  i5 := by kernel_rfl
  i9 := by kernel_rfl
  i20 := by kernel_rfl
  i37 := by kernel_rfl
  i46 := by kernel_rfl
  i51 := by kernel_rfl
  i53 := by kernel_rfl
  i171 := by kernel_rfl
  i173 := by kernel_rfl
  i212 := by kernel_rfl
  i232 := by kernel_rfl
  i233 := by kernel_rfl
  m17 := by kernel_rfl
  m18 := by kernel_rfl
  m19 := by kernel_rfl }
/-- The table that strconv reads, as its initialiser lays it. -/
def TabW (w : World) : Prop := Go.Lib.TabIs Tryd.prog w "internal/strconv.uint64pow10" .u64 Go.Lib.pow10Tab
theorem Itoa_any (n : Int) (h0 : -9223372036854775808 ≤ n) (h1 : n ≤ 9223372036854775807) (w : World) (ht : TabW w) :
    Calls Tryd.prog 111 #[.int .i64 n] w fun e w' => e = .returned (.string ⟨(Go.Lib.itoa n).toArray⟩) ∧ Below w.heap.size w w' := by
  refine (Any.strconv_Itoa laysI n h0 h1 w ht).mono ?_
  rintro e w' ⟨rfl, k, os, rfl⟩
  exact ⟨rfl, Go.Lib.below_grow _ _ (Nat.le_refl _) _ _⟩
/-- The table stays. -/
theorem TabW.below {w w' : World} (h : TabW w) (hb : Below w.heap.size w w') : TabW w' := by
  have := Go.Lib.tabBelow_of_tabIs h
  exact this w' hb
end Go.Proofs.YtmpbfdfjcfanoaaDoor

namespace Go.Proofs.YtmpbfdfjcfanoaaDoor
open Go.RowKit Go.Deep

/-- A number with its sign; a term. -/
def sgnT (x : Int) : List UInt8 := if x < 0 then Go.Lib.itoa x else 43 :: Go.Lib.itoa x
def trmT (k : Int) (p : List UInt8) : List UInt8 := if k = 0 then [] else if k = 1 then 43 :: p else if k = -1 then 45 :: p else sgnT k ++ 42 :: p
theorem fa_range {x : Int} (h : faB x = true) : -100 ≤ x ∧ x ≤ 100 := by unfold faB inB at h; simp at h; omega
theorem sgnT_le {x : Int} (h : -100 ≤ x ∧ x ≤ 100) : (sgnT x).length ≤ 30 := by
  have := Go.Lib.itoa_length_le x (by omega) (by omega)
  unfold sgnT; split <;> simp <;> omega

theorem baA (a b : List UInt8) : (⟨a.toArray⟩ : ByteArray) ++ ⟨b.toArray⟩ = ⟨(a ++ b).toArray⟩ := by
  apply ByteArray.ext; simp
theorem ret_str {a b : ByteArray} (h : a = b) : Ending.returned (.string a) = .returned (.string b) := by rw [h]

set_option maxHeartbeats 400000 in
theorem formatSigned_any (x : Int) (h : -100 ≤ x ∧ x ≤ 100) (w : World) (ht : TabW w) :
    Calls Tryd.prog 86 #[.int .i64 x] w fun e w' => e = .returned (.string ⟨(sgnT x).toArray⟩) ∧ Below w.heap.size w w' := by
  obtain ⟨h1, h2⟩ := h
  have HT := Lib.hid ht
  clear ht
  by_cases hx : x < 0
  · have E := Lib.hid (show sgnT x = Go.Lib.itoa x by unfold sgnT; rw [if_pos hx])
    go_enter Tryd.func86, Tryd.ntmps86
    go_wp2_with (go_at_call 111; refine (Itoa_any x (by omega) (by omega) _ HT.out).mono ?_; rintro e w1 ⟨rfl, hb1⟩)
    go_ret
    exact ⟨ret_str (by rw [E.out]), hb1⟩
  · have E := Lib.hid (show sgnT x = 43 :: Go.Lib.itoa x by unfold sgnT; rw [if_neg hx])
    have hL : ¬ (9223372036854775807 < 1 + (Go.Lib.itoa x).length) := by have := Go.Lib.itoa_length_le x (by omega) (by omega); omega
    go_enter Tryd.func86, Tryd.ntmps86
    go_wp2_with (go_at_call 111; refine (Itoa_any x (by omega) (by omega) _ HT.out).mono ?_; rintro e w1 ⟨rfl, hb1⟩)
    go_ret
    exact ⟨ret_str (by rw [E.out]; exact baA [43] _), hb1⟩

set_option maxHeartbeats 400000 in
theorem formatTerm_any (x : Int) (c : UInt8) (h : -100 ≤ x ∧ x ≤ 100) (w : World) (ht : TabW w) :
    Calls Tryd.prog 85 #[.int .i64 x, .string ⟨#[c]⟩] w fun e w' => e = .returned (.string ⟨(trmT x [c]).toArray⟩) ∧ Below w.heap.size w w' := by
  have HT := Lib.hid ht
  have HR := Lib.hid h
  clear ht h
  by_cases h0 : x = 0
  · subst h0
    go_enter Tryd.func85, Tryd.ntmps85
    go_wp2_with fail
    go_ret
    exact ⟨rfl, Below.refl _ _⟩
  · by_cases h1 : x = 1
    · subst h1
      go_enter Tryd.func85, Tryd.ntmps85
      go_wp2_with fail
      go_ret
      exact ⟨ret_str (baA [43] [c]), Below.refl _ _⟩
    · by_cases h2 : x = -1
      · subst h2
        go_enter Tryd.func85, Tryd.ntmps85
        go_wp2_with fail
        go_ret
        exact ⟨ret_str (baA [45] [c]), Below.refl _ _⟩
      · have E := Lib.hid (show trmT x [c] = sgnT x ++ [42] ++ [c] by unfold trmT; rw [if_neg h0, if_neg h1, if_neg h2]; simp)
        have h0' : (x == 0) = false := by simp [h0]
        have h1' : (x == 1) = false := by simp [h1]
        have h2' : (x == -1) = false := by simp [h2]
        have hl := sgnT_le HR.out
        have hL : ¬ (9223372036854775807 < (sgnT x).length + 1) := by omega
        have hL2 : ¬ (9223372036854775807 < (sgnT x).length + 1 + 1) := by omega
        clear h0 h1 h2
        go_enter Tryd.func85, Tryd.ntmps85
        go_wp2_with (go_at_call 86; refine (formatSigned_any x HR.out _ HT.out).mono ?_; rintro e w1 ⟨rfl, hb1⟩)
        go_ret
        exact ⟨ret_str (by rw [E.out, ← baA, ← baA]), hb1⟩

theorem ext_head (x : UInt8) (l : List UInt8) : ((⟨(x :: l).toArray⟩ : ByteArray).extract 0 1).toList = [x] := by rw [ByteArray.extract_mk, ByteArray.toList_mk]; rfl
theorem ext_tail (x : UInt8) (l : List UInt8) (n : Nat) (h : n = l.length + 1) : (⟨(x :: l).toArray⟩ : ByteArray).extract 1 n = ⟨l.toArray⟩ := by
  subst h; rw [ByteArray.extract_mk]; simp
theorem Trim_plus (l : List UInt8) (hl : l.length ≤ 1000) (w : World) :
    Calls Tryd.prog 87 #[.string ⟨(43 :: l).toArray⟩, .string ⟨#[43]⟩] w fun e w' => e = .returned (.string ⟨l.toArray⟩) ∧ w = w' := by
  have hx := ext_head 43 l
  go_enter Tryd.func87, Tryd.ntmps87
  go_wp2
  go_ret
  exact ⟨ret_str (ext_tail _ _ _ (by simp)), rfl⟩
theorem Trim_other (x : UInt8) (l : List UInt8) (hl : l.length ≤ 1000) (h : x ≠ 43) (w : World) :
    Calls Tryd.prog 87 #[.string ⟨(x :: l).toArray⟩, .string ⟨#[43]⟩] w fun e w' => e = .returned (.string ⟨(x :: l).toArray⟩) ∧ w = w' := by
  have hx : (((⟨(x :: l).toArray⟩ : ByteArray).extract 0 1).toList == [43]) = false := by rw [ext_head]; simp [h]
  clear h
  go_enter Tryd.func87, Tryd.ntmps87
  go_wp2
  go_ret
  exact ⟨rfl, rfl⟩

def trm3 (n t f : Int) : List UInt8 := trmT n [110] ++ trmT t [116] ++ trmT f [102]
def midT (c n t f : Int) : List UInt8 := trm3 n t f ++ (if c = 0 then [] else sgnT c)
def cutT (l : List UInt8) : List UInt8 := if l = [] then [48] else if l.head? = some 43 then l.tail else l
def linT (c n t f : Int) : List UInt8 := cutT (midT c n t f)
theorem trmT_le {x : Int} (c : UInt8) (h : -100 ≤ x ∧ x ≤ 100) : (trmT x [c]).length ≤ 40 := by
  have := sgnT_le h
  unfold trmT; split
  · simp
  · split
    · simp
    · split
      · simp
      · simp; omega

set_option maxHeartbeats 3200000 in
theorem FormatLinear_any (c n t f : Int) (hs : smL c n t f = true) (w : World) (ht : TabW w) :
    Calls Tryd.prog 40 #[.agg #[.int .i64 c, .int .i64 n, .int .i64 t, .int .i64 f]] w fun e w' => e = .returned (.string ⟨(linT c n t f).toArray⟩) ∧ Below w.heap.size w w' := by
  have HT := Lib.hid ht
  have hs' := hs
  unfold smL at hs'
  simp only [Bool.and_eq_true] at hs'
  obtain ⟨⟨⟨hc, hn⟩, ht'⟩, hf⟩ := hs'
  have RC := Lib.hid (fa_range hc)
  have RN := Lib.hid (fa_range hn)
  have RT := Lib.hid (fa_range ht')
  have RF := Lib.hid (fa_range hf)
  have hl1 := trmT_le 110 RN.out
  have hl2 := trmT_le 116 RT.out
  have hl3 := trmT_le 102 RF.out
  have hl4 := sgnT_le RC.out
  clear hc hn ht' hf ht
  have e1 : ¬ (9223372036854775807 < (trmT n [110]).length + (trmT t [116]).length) := by omega
  have e2 : ¬ (9223372036854775807 < (trmT n [110]).length + (trmT t [116]).length + (trmT f [102]).length) := by omega
  go_enter Tryd.func40, Tryd.ntmps40
  go_wp2_with (first | (go_at_call 49; refine (isLarge_any _ _ _ _ _).mono ?_; rintro e w1 ⟨rfl, hb1⟩; have hB1 : Below w.heap.size w w1 := (thenBelow (allocBelow _ _) hb1); have t0 : w1.cell? ⟨w.heap.size, 0, none⟩ = some (.int .i64 c) := keep1 (by simp) hb1; have t1 : w1.cell? ⟨w.heap.size, 1, none⟩ = some (.int .i64 n) := keep1 (by simp) hb1; have t2 : w1.cell? ⟨w.heap.size, 2, none⟩ = some (.int .i64 t) := keep1 (by simp) hb1; have t3 : w1.cell? ⟨w.heap.size, 3, none⟩ = some (.int .i64 f) := keep1 (by simp) hb1; clear hb1))
  have HB1 := Lib.hid hB1
  clear hB1
  go_region_held3 (fun w' => w'.cell? ⟨w.heap.size, 0, none⟩ = some (.int .i64 c) ∧ w'.cell? ⟨w.heap.size, 1, none⟩ = some (.int .i64 n) ∧ w'.cell? ⟨w.heap.size, 2, none⟩ = some (.int .i64 t) ∧ w'.cell? ⟨w.heap.size, 3, none⟩ = some (.int .i64 f) ∧ Below w.heap.size w w') (first | exact ⟨t0, t1, t2, t3, HB1.out⟩ | exact keepF ⟨t0, t1, t2, t3, HB1.out⟩ (drewBelow _) | exact keepF (by assumption) (by assumption)) (first | (go_at_call 85; (with_reducible refine (formatTerm_any n 110 RN.out _ (HT.out.below (heldF (by assumption)))).mono ?_); rintro e w4 ⟨rfl, hb4⟩) | (go_at_call 85; (with_reducible refine (formatTerm_any t 116 RT.out _ (HT.out.below (heldF (by assumption)))).mono ?_); rintro e w5 ⟨rfl, hb5⟩) | (go_at_call 85; (with_reducible refine (formatTerm_any f 102 RF.out _ (HT.out.below (heldF (by assumption)))).mono ?_); rintro e w6 ⟨rfl, hb6⟩))
  obtain ⟨s0, s1, s2, s3, hB6⟩ := (by assumption : _ ∧ _ ∧ _ ∧ _ ∧ Below w.heap.size w w6)
  have HB6 := Lib.hid hB6
  clear t0 t1 t2 t3 s1 s2 s3 hb4 hb5 hb6 hB6 e1 e2
  obtain ⟨L, hL⟩ : ∃ L, trm3 n t f = L := ⟨_, rfl⟩
  have hLl : L.length ≤ 120 := by rw [← hL]; unfold trm3; simp only [List.length_append]; omega
  rw [show (⟨(trmT n [110]).toArray⟩ : ByteArray) ++ ⟨(trmT t [116]).toArray⟩ ++ ⟨(trmT f [102]).toArray⟩ = ⟨L.toArray⟩ by rw [← hL, baA, baA]; rfl]
  have HM := Lib.hid (show midT c n t f = L ++ (if c = 0 then [] else sgnT c) by unfold midT; rw [hL])
  have HLN := Lib.hid (show linT c n t f = cutT (midT c n t f) from rfl)
  clear hL hl1 hl2 hl3
  by_cases hc0 : c = 0
  · subst hc0
    have HM' := Lib.hid (show midT 0 n t f = L by rw [HM.out]; simp)
    clear HM
    cases L with
    | nil =>
      go_wp2_with fail
      go_ret
      exact ⟨ret_str (by rw [HLN.out, HM'.out]; rfl), HB6.out⟩
    | cons x l =>
      have hll : l.length ≤ 1000 := by simp at hLl; omega
      by_cases hx : x = 43
      · subst hx
        go_wp2_with (go_at_call 87; refine (Trim_plus l hll _).mono ?_; rintro e w' ⟨rfl, rfl⟩)
        go_ret
        exact ⟨ret_str (by rw [HLN.out, HM'.out]; rfl), HB6.out⟩
      · have HX := Lib.hid hx
        clear hx
        go_wp2_with (go_at_call 87; refine (Trim_other x l hll HX.out _).mono ?_; rintro e w' ⟨rfl, rfl⟩)
        go_ret
        exact ⟨ret_str (by rw [HLN.out, HM'.out]; unfold cutT; rw [if_neg (by simp), if_neg (by simpa using HX.out)]), HB6.out⟩
  · have HM' := Lib.hid (show midT c n t f = L ++ sgnT c by rw [HM.out, if_neg hc0])
    have hc1 : (c == 0) = false := by simp [hc0]
    have hc2 : (c != 0) = true := by simp [hc0]
    have e3 : ¬ (9223372036854775807 < L.length + (sgnT c).length) := by omega
    have hne : 0 < (sgnT c).length := by
      unfold sgnT; split
      · rename_i h; unfold Go.Lib.itoa; rw [if_pos h]; simp
      · simp
    clear HM hc0
    obtain ⟨M, hM⟩ : ∃ M, L ++ sgnT c = M := ⟨_, rfl⟩
    have hMl : M.length ≤ 200 := by rw [← hM, List.length_append]; omega
    have hM0 : 0 < M.length := by rw [← hM, List.length_append]; omega
    have HMM := Lib.hid hM
    clear hM
    have hem : ((⟨L.toArray⟩ : ByteArray) ++ ⟨(sgnT c).toArray⟩).toList.isEmpty = false := by
      rw [baA, HMM.out, ByteArray.toList_mk]; cases M with
      | nil => simp at hM0
      | cons => rfl
    go_wp2_with (first | (go_at_call 86; (with_reducible refine (formatSigned_any c RC.out _ (HT.out.below HB6.out)).mono ?_); rintro e w7 ⟨rfl, hb7⟩))
    clear hem
    rw [show (⟨L.toArray⟩ : ByteArray) ++ ⟨(sgnT c).toArray⟩ = ⟨M.toArray⟩ by rw [baA, HMM.out]]
    have HB7 := Lib.hid (thenBelow HB6.out hb7)
    clear hb7
    cases M with
    | nil => simp at hM0
    | cons x l =>
      have hll : l.length ≤ 1000 := by simp at hMl; omega
      by_cases hx : x = 43
      · subst hx
        refine (Trim_plus l hll _).mono ?_
        rintro e w' ⟨rfl, rfl⟩
        go_wp2_with fail
        go_ret
        exact ⟨ret_str (by rw [HLN.out, HM'.out, HMM.out]; rfl), HB7.out⟩
      · have HX := Lib.hid hx
        clear hx
        refine (Trim_other x l hll HX.out _).mono ?_
        rintro e w' ⟨rfl, rfl⟩
        go_wp2_with fail
        go_ret
        exact ⟨ret_str (by rw [HLN.out, HM'.out, HMM.out]; unfold cutT; rw [if_neg (by simp), if_neg (by simpa using HX.out)]), HB7.out⟩

end Go.Proofs.YtmpbfdfjcfanoaaDoor

namespace Go.Proofs.YtmpbfdfjcfanoaaDoor
open Go.RowKit Go.Deep

theorem itoa_one (k : Nat) (h : k < 10) : Go.Lib.itoa (-((k : Int) + 1)) = (45 :: Go.Lib.decDigits (k + 1)) := by
  unfold Go.Lib.itoa; rw [if_pos (by omega)]; congr 2
theorem dec_digit (k : Nat) (h : k < 10) : Go.Lib.decDigits k = [UInt8.ofNat (48 + k)] := by
  rw [Go.Lib.decDigits, dif_pos h]
theorem known_lin : linT (-1) 1 (-3) 0 = [110, 45, 51, 42, 116, 45, 49] := by
  have e1 : Go.Lib.itoa (-1) = [45, 49] := by
    have := itoa_one 0 (by omega); rw [dec_digit 1 (by omega)] at this; exact this
  have e3 : Go.Lib.itoa (-3) = [45, 51] := by
    have := itoa_one 2 (by omega); rw [dec_digit 3 (by omega)] at this; exact this
  have t1 : trmT 1 [110] = [43, 110] := rfl
  have t2 : trmT (-3) [116] = [45, 51, 42, 116] := by unfold trmT sgnT; rw [if_neg (by decide), if_neg (by decide), if_neg (by decide), if_pos (by decide), e3]; rfl
  have t3 : trmT 0 [102] = [] := rfl
  have t4 : sgnT (-1) = [45, 49] := by unfold sgnT; rw [if_pos (by decide), e1]
  unfold linT midT trm3
  rw [t1, t2, t3, if_neg (by decide), t4]
  rfl

theorem FormatLinear_known (w : World) (ht : TabW w) :
    Calls Tryd.prog 40 #[.agg #[.int .i64 (-1), .int .i64 1, .int .i64 (-3), .int .i64 0]] w fun e w' => e = .returned (.string ⟨#[110, 45, 51, 42, 116, 45, 49]⟩) ∧ Below w.heap.size w w' := by
  have := FormatLinear_any (-1) 1 (-3) 0 (by decide) w ht
  rw [known_lin] at this
  exact this
theorem name_yes (w : World) : Calls Tryd.prog 41 #[.string ⟨#[118, 48]⟩] w fun e w' => e = .returned (.bool true) ∧ Below w.heap.size w w' := by
  have := ValidName_any ⟨#[118, 48]⟩ w (by unfold maxLen; simp [ByteArray.size])
  rw [show nameB (⟨#[118, 48]⟩ : ByteArray).toList = true by rw [show (⟨#[118, 48]⟩ : ByteArray) = ⟨[118, 48].toArray⟩ from rfl, ByteArray.toList_mk]; decide] at this
  exact this
theorem name_line (w : World) : Calls Tryd.prog 41 #[.string ⟨#[108, 105, 110, 101]⟩] w fun e w' => e = .returned (.bool false) ∧ Below w.heap.size w w' := by
  have := ValidName_any ⟨#[108, 105, 110, 101]⟩ w (by unfold maxLen; simp [ByteArray.size])
  rw [show nameB (⟨#[108, 105, 110, 101]⟩ : ByteArray).toList = false by rw [show (⟨#[108, 105, 110, 101]⟩ : ByteArray) = ⟨[108, 105, 110, 101].toArray⟩ from rfl, ByteArray.toList_mk]; decide] at this
  exact this
theorem name_empty (w : World) : Calls Tryd.prog 41 #[.string ⟨#[]⟩] w fun e w' => e = .returned (.bool false) ∧ Below w.heap.size w w' := by
  have := ValidName_any ⟨#[]⟩ w (by unfold maxLen; simp [ByteArray.size])
  rw [show nameB (⟨#[]⟩ : ByteArray).toList = false by rw [show (⟨#[]⟩ : ByteArray) = ⟨([] : List UInt8).toArray⟩ from rfl, ByteArray.toList_mk]; decide] at this
  exact this

theorem vknown_any (w : World) (ht : TabW w) : Calls Tryd.prog 14 #[] w fun e w' => e = .returned (.bool true) ∧ Below w.heap.size w w' := by
  have HT := Lib.hid ht
  clear ht
  go_enter Tryd.func14, Tryd.ntmps14
  go_wp2_with (first | (go_at_call 40; refine (FormatLinear_known _ (HT.out.below (by go_grown))).mono ?_; rintro e w1 ⟨rfl, hb1⟩) | (go_at_call 41; (with_reducible refine (name_yes _).mono ?_); rintro e w2 ⟨rfl, hb2⟩) | (go_at_call 41; (with_reducible refine (name_line _).mono ?_); rintro e w3 ⟨rfl, hb3⟩) | (go_at_call 41; (with_reducible refine (name_empty _).mono ?_); rintro e w4 ⟨rfl, hb4⟩))
  go_ret
  exact ⟨rfl, thenBelow (thenBelow (thenBelow hb1 hb2) hb3) hb4⟩
end Go.Proofs.YtmpbfdfjcfanoaaDoor

namespace Go.Proofs.YtmpbfdfjcfanoaaDoor
open Go.RowKit Go.Deep
theorem IsSl.take {α : Type} {size : Nat} {P : Nat → World → List Value → α → Prop} {lo : Nat} {w : World} {a : Option Addr} {n cap : Nat} {xs : List α} (h : IsSl size P lo w (.slice a n cap) xs) (k : Nat) (hk : k ≤ xs.length) : IsSl size P lo w (.slice a k cap) (xs.take k) := by
  obtain ⟨a', cap', hv, h1, hm, hn, hc⟩ := h
  simp only [Value.slice.injEq] at hv
  obtain ⟨rfl, rfl, rfl⟩ := hv
  have e : (xs.take k).length = k := by simp; omega
  refine ⟨a, cap, by rw [e], by omega, hm, hn, ?_⟩
  rcases hc with rfl | ⟨b, off, ha, hlo, hb, hc⟩
  · exact .inl (by simp)
  · refine .inr ⟨b, off, ha, hlo, hb, fun i hi => ?_⟩
    obtain ⟨cs, g1, g2, g3⟩ := hc i (by omega)
    exact ⟨cs, g1, g2, by simpa using g3⟩
end Go.Proofs.YtmpbfdfjcfanoaaDoor

namespace Go.Proofs.YtmpbfdfjcfanoaaDoor
open Go.RowKit Go.Deep
end Go.Proofs.YtmpbfdfjcfanoaaDoor
