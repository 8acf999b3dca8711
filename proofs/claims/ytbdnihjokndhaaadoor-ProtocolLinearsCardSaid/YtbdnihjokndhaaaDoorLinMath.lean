/-
  THE TWO WAYS TO THE TEXT OF AN EXPRESSION ARE ONE, as plain facts on lists of bytes.
-/
import Derived.Test.YtbdnihjokndhaaaDoorRFmt
namespace Go.Proofs.YtbdnihjokndhaaaDoor
open Go.RowKit Go.Deep
/-- The reference's text, step by step. -/
def addT (r : List UInt8) (x : Int) (p : List UInt8) : List UInt8 := r ++ rtrm r.isEmpty x p
def rlinT (c n t f : Int) : List UInt8 := addT (addT (addT (rtrm true n [110]) t [116]) f [102]) c []
def bodT (x : Int) (p : List UInt8) : List UInt8 := if p = [] then Go.Lib.decDigits x.natAbs else if x.natAbs = 1 then p else Go.Lib.decDigits x.natAbs ++ 42 :: p
def sT (x : Int) (p : List UInt8) : List UInt8 := if x = 0 then [] else (if x < 0 then 45 else 43) :: bodT x p
def stripT (l : List UInt8) : List UInt8 := if l.head? = some 43 then l.tail else l
theorem dec_ne (k : Nat) : Go.Lib.decDigits k ≠ [] := by
  rw [Go.Lib.decDigits]; split <;> simp
theorem bod_ne (x : Int) (p : List UInt8) : bodT x p ≠ [] := by
  unfold bodT; split
  · exact dec_ne _
  · split
    · assumption
    · simp
theorem itoa_sgn (x : Int) : sgnT x = (if x < 0 then 45 else 43) :: Go.Lib.decDigits x.natAbs := by
  unfold sgnT Go.Lib.itoa
  by_cases hx : x < 0
  · rw [if_pos hx, if_pos hx, if_pos hx]
  · rw [if_neg hx, if_neg hx, if_neg hx, show x.toNat = x.natAbs by omega]
theorem trm_sT (x : Int) (c : UInt8) : trmT x [c] = sT x [c] := by
  unfold trmT sT bodT
  by_cases h0 : x = 0
  · rw [if_pos h0, if_pos h0]
  · rw [if_neg h0, if_neg h0, if_neg (by simp : ¬ ([c] : List UInt8) = [])]
    by_cases h1 : x = 1
    · subst h1; rfl
    · rw [if_neg h1]
      by_cases h2 : x = -1
      · subst h2; rfl
      · rw [if_neg h2, if_neg (show ¬ x.natAbs = 1 by omega), itoa_sgn x]; rfl
theorem con_sT (c : Int) : (if c = 0 then [] else sgnT c) = sT c [] := by
  unfold sT bodT
  by_cases h0 : c = 0
  · rw [if_pos h0, if_pos h0]
  · rw [if_neg h0, if_neg h0, itoa_sgn c, if_pos rfl]
theorem rtrm_false (x : Int) (p : List UInt8) : rtrm false x p = sT x p := by
  unfold rtrm sT bodT
  by_cases h0 : x = 0
  · rw [if_pos h0, if_pos h0]
  · rw [if_neg h0, if_neg h0]
    by_cases h : x < 0
    · rw [if_pos h, if_pos h]; rfl
    · rw [if_neg h, if_neg h]; rfl
theorem rtrm_true (x : Int) (p : List UInt8) : rtrm true x p = stripT (sT x p) := by
  unfold rtrm sT stripT bodT
  by_cases h0 : x = 0
  · rw [if_pos h0, if_pos h0]; rfl
  · rw [if_neg h0, if_neg h0]
    by_cases h : x < 0
    · rw [if_pos h, if_pos h]; rfl
    · rw [if_neg h, if_neg h]; rfl
theorem strip_sT (x : Int) (p : List UInt8) : stripT (sT x p) = [] ↔ sT x p = [] := by
  unfold sT stripT
  by_cases h0 : x = 0
  · rw [if_pos h0]; simp
  · rw [if_neg h0]
    by_cases h : x < 0
    · rw [if_pos h]; simp
    · rw [if_neg h]; simp [bod_ne]
theorem strip_app {u : List UInt8} (h : u ≠ []) (v : List UInt8) : stripT (u ++ v) = stripT u ++ v := by
  cases u with
  | nil => exact absurd rfl h
  | cons a u => unfold stripT; by_cases e : a = 43 <;> simp [e]
theorem add_strip {r u : List UInt8} (h : r = stripT u) (h' : r = [] ↔ u = []) (x : Int) (p : List UInt8) : addT r x p = stripT (u ++ sT x p) ∧ (addT r x p = [] ↔ u ++ sT x p = []) := by
  by_cases hu : u = []
  · have hr := h'.2 hu
    subst hu; subst hr
    unfold addT
    rw [show ([] : List UInt8).isEmpty = true from rfl, List.nil_append, List.nil_append, rtrm_true]
    exact ⟨rfl, strip_sT x p⟩
  · have hr : r ≠ [] := fun e => hu (h'.1 e)
    unfold addT
    rw [show r.isEmpty = false by cases r with | nil => exact absurd rfl hr
                                               | cons => rfl, rtrm_false, strip_app hu, ← h]
    exact ⟨rfl, by simp [hr, hu]⟩
theorem rlin_strip (c n t f : Int) : rlinT c n t f = stripT (midT c n t f) ∧ (rlinT c n t f = [] ↔ midT c n t f = []) := by
  have h1 := add_strip (rtrm_true n [110]) (by rw [rtrm_true]; exact strip_sT n [110]) t [116]
  have h2 := add_strip h1.1 h1.2 f [102]
  have h3 := add_strip h2.1 h2.2 c []
  unfold rlinT midT trm3
  rw [trm_sT, trm_sT, trm_sT, con_sT]
  exact h3
theorem rlin_cut (c n t f : Int) : (if rlinT c n t f = [] then [48] else rlinT c n t f) = linT c n t f := by
  obtain ⟨h1, h2⟩ := rlin_strip c n t f
  unfold linT cutT
  by_cases e : midT c n t f = []
  · rw [if_pos e, if_pos (h2.2 e)]
  · rw [if_neg e, if_neg (fun x => e (h2.1 x)), h1]; rfl
theorem rtrm_le (b : Bool) {x : Int} (p : List UInt8) (hp : p = [] ∨ ∃ c, p = [c]) (h : -100 ≤ x ∧ x ≤ 100) : (rtrm b x p).length ≤ 40 := by
  have hd := dec_le x.natAbs (by omega)
  unfold rtrm
  split
  · simp
  · rw [List.length_append]
    have h1 : (if x < 0 then ([45] : List UInt8) else if b = true then [] else [43]).length ≤ 1 := by by_cases a : x < 0 <;> by_cases e : b = true <;> simp [a, e]
    have h2 : (if p = [] then Go.Lib.decDigits x.natAbs else if x.natAbs = 1 then p else Go.Lib.decDigits x.natAbs ++ 42 :: p).length ≤ 30 := by
      rcases hp with rfl | ⟨c, rfl⟩
      · rw [if_pos rfl]; omega
      · rw [if_neg (by simp)]; split
        · simp
        · simp; omega
    omega
set_option maxHeartbeats 1600000 in
theorem rFormatLinear_any (c n t f : Int) (hs : smL c n t f = true) (w : World) :
    Calls Tryd.prog 39 #[.agg #[.int .i64 c, .int .i64 n, .int .i64 t, .int .i64 f]] w fun e w' => e = .returned (.string ⟨(linT c n t f).toArray⟩) ∧ Below w.heap.size w w' := by
  have hs' := hs
  unfold smL at hs'
  simp only [Bool.and_eq_true] at hs'
  obtain ⟨⟨⟨hc, hn⟩, ht'⟩, hf⟩ := hs'
  have RC := Lib.hid (fa_range hc)
  have RN := Lib.hid (fa_range hn)
  have RT := Lib.hid (fa_range ht')
  have RF := Lib.hid (fa_range hf)
  clear hc hn ht' hf
  go_enter Tryd.func39, Tryd.ntmps39
  go_wp2_with (first | (go_at_call 62; refine (few_any _ _ _ _ _).mono ?_; rintro e w1 ⟨rfl, hb1⟩; have hB1 : Below w.heap.size w w1 := (thenBelow (allocBelow _ _) hb1); have t0 : w1.cell? ⟨w.heap.size, 0, none⟩ = some (.int .i64 c) := keep1 (by simp) hb1; have t1 : w1.cell? ⟨w.heap.size, 1, none⟩ = some (.int .i64 n) := keep1 (by simp) hb1; have t2 : w1.cell? ⟨w.heap.size, 2, none⟩ = some (.int .i64 t) := keep1 (by simp) hb1; have t3 : w1.cell? ⟨w.heap.size, 3, none⟩ = some (.int .i64 f) := keep1 (by simp) hb1; clear hb1))
  refine (term_any true n [110] (.inr ⟨_, rfl⟩) RN.out _).mono ?_
  rintro e w2 ⟨rfl, hb2⟩
  obtain ⟨L1, hL1⟩ : ∃ L, rtrm true n [110] = L := ⟨_, rfl⟩
  have hl1 : L1.length ≤ 40 := by rw [← hL1]; exact rtrm_le true [110] (.inr ⟨_, rfl⟩) RN.out
  rw [hL1]
  have H1 := Lib.hid hL1
  have s00 := keep1 t0 hb2
  have s01 := keep1 t2 hb2
  have s02 := keep1 t3 hb2
  have HB2 := Lib.hid (thenBelow hB1 hb2)
  clear hL1 t0 t1 t2 t3 hb2 hB1
  go_wp2_with fail
  have q1 := rtrm_le L1.isEmpty [116] (.inr ⟨_, rfl⟩) RT.out
  have e1 : ¬ (9223372036854775807 < L1.length + (rtrm L1.isEmpty t [116]).length) := by omega
  refine (term_any L1.isEmpty t [116] (.inr ⟨_, rfl⟩) RT.out _).mono ?_
  rintro e w3 ⟨rfl, hb3⟩
  have s10 := keep1 s00 hb3
  have s11 := keep1 s02 hb3
  have HB3 := Lib.hid (thenBelow HB2.out hb3)
  clear s00 s02 hb3
  go_wp2_with fail
  obtain ⟨L2, hL2⟩ : ∃ L, L1 ++ rtrm L1.isEmpty t [116] = L := ⟨_, rfl⟩
  have hl2 : L2.length ≤ 80 := by rw [← hL2, List.length_append]; omega
  have H2 := Lib.hid hL2
  rw [show (⟨L1.toArray⟩ : ByteArray) ++ ⟨(rtrm L1.isEmpty t [116]).toArray⟩ = ⟨L2.toArray⟩ by rw [baA, hL2]]
  simp only [ByteArray.toList_mk]
  clear hL2 q1 e1 hl1
  have q2 := rtrm_le L2.isEmpty [102] (.inr ⟨_, rfl⟩) RF.out
  have e2 : ¬ (9223372036854775807 < L2.length + (rtrm L2.isEmpty f [102]).length) := by omega
  refine (term_any L2.isEmpty f [102] (.inr ⟨_, rfl⟩) RF.out _).mono ?_
  rintro e w4 ⟨rfl, hb4⟩
  have s20 := keep1 s10 hb4
  have HB4 := Lib.hid (thenBelow HB3.out hb4)
  clear s10 hb4
  go_wp2_with fail
  obtain ⟨L3, hL3⟩ : ∃ L, L2 ++ rtrm L2.isEmpty f [102] = L := ⟨_, rfl⟩
  have hl3 : L3.length ≤ 120 := by rw [← hL3, List.length_append]; omega
  have H3 := Lib.hid hL3
  rw [show (⟨L2.toArray⟩ : ByteArray) ++ ⟨(rtrm L2.isEmpty f [102]).toArray⟩ = ⟨L3.toArray⟩ by rw [baA, hL3]]
  simp only [ByteArray.toList_mk]
  clear hL3 q2 e2 hl2
  have q3 := rtrm_le L3.isEmpty [] (.inl rfl) RC.out
  have e3 : ¬ (9223372036854775807 < L3.length + (rtrm L3.isEmpty c []).length) := by omega
  obtain ⟨L4, hL4⟩ : ∃ L, L3 ++ rtrm L3.isEmpty c [] = L := ⟨_, rfl⟩
  have HE := Lib.hid (show (if L4 = [] then [48] else L4) = linT c n t f by
    rw [← rlin_cut]; unfold rlinT addT; rw [H1.out, H2.out, H3.out, hL4])
  have HS := Lib.hid (show (⟨L3.toArray⟩ : ByteArray) ++ ⟨(rtrm L3.isEmpty c []).toArray⟩ = ⟨L4.toArray⟩ by rw [baA, hL4])
  clear hL4
  refine (term_any L3.isEmpty c [] (.inl rfl) RC.out _).mono ?_
  rintro e w5 ⟨rfl, hb5⟩
  have HB5 := Lib.hid (thenBelow HB4.out hb5)
  clear s20 hb5
  cases L4 with
  | nil =>
    have hem : ((⟨L3.toArray⟩ : ByteArray) ++ ⟨(rtrm L3.isEmpty c []).toArray⟩).toList.isEmpty = true := by rw [HS.out, ByteArray.toList_mk]; rfl
    go_wp2_with fail
    go_ret
    exact ⟨ret_str (by rw [← HE.out]; rfl), HB5.out⟩
  | cons x l =>
    have hem : ((⟨L3.toArray⟩ : ByteArray) ++ ⟨(rtrm L3.isEmpty c []).toArray⟩).toList.isEmpty = false := by rw [HS.out, ByteArray.toList_mk]; rfl
    go_wp2_with fail
    go_ret
    exact ⟨ret_str (by rw [← HE.out]; exact HS.out), HB5.out⟩
theorem rFormatLinear_none (c n t f : Int) (hs : smL c n t f = false) (w : World) :
    Calls Tryd.prog 39 #[.agg #[.int .i64 c, .int .i64 n, .int .i64 t, .int .i64 f]] w fun e w' => e = .returned (.string ⟨#[]⟩) ∧ Below w.heap.size w w' := by
  go_enter Tryd.func39, Tryd.ntmps39
  go_wp2_with (first | (go_at_call 62; refine (few_any _ _ _ _ _).mono ?_; rintro e w1 ⟨rfl, hb1⟩; have hB1 : Below w.heap.size w w1 := (thenBelow (allocBelow _ _) hb1); clear hb1))
  go_ret
  exact ⟨rfl, hB1⟩
end Go.Proofs.YtbdnihjokndhaaaDoor
