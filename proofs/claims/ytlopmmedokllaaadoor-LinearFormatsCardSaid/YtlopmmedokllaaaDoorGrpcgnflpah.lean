import Derived.Test.YtlopmmedokllaaaDoorProg
import Derived.Shelf.Strconv.Itoa3
import Derived.Lib.AppendIntMem
import Derived.Lib.ItoaLen
import Derived.Lib.Hide
import Derived.WalkSpells
import Derived.Laws.AppendOwn
import Derived.Deep.RegionWith
import Derived.LoopN
import Derived.Laws.IdiomStrings
import Derived.Deep.RegionHeld3
import Derived.ChangeArms
import Derived.Test.YtlopmmedokllaaaDoorRows
import Derived.Lib.LaidTab
import Derived.LaidSub
import Derived.Test.YtlopmmedokllaaaDoorGrpnghkkfge
set_option linter.all false
namespace Go.Proofs.YtlopmmedokllaaaDoor
open Go.RowKit Go.Shelf
def renI : Go.Shelf.Ren := ⟨fun | 129 => 42 | 171 => 15 | 243 => 28 | 246 => 35 | 283 => 37 | 284 => 38 | 285 => 39 | 286 => 40 | 317 => 41 | 318 => 43 | 319 => 44 | 320 => 45 | 337 => 46 | 338 => 47 | n => n, fun | 0 => 0 | 2 => 2 | 3 => 3 | 4 => 4 | 5 => 5 | 9 => 9 | 20 => 20 | 37 => 38 | 46 => 74 | 51 => 72 | 53 => 65 | 171 => 64 | 173 => 68 | 212 => 71 | 213 => 73 | 232 => 77 | 233 => 78 | n => n, fun | 17 => 0 | 18 => 1 | 19 => 2 | n => n⟩
theorem laysI : Go.Proofs.LaysM.n171 Tryd.prog renI := {
  mixed := by kernel_rfl
  f129 := Tryd.func42.trans (congrArg some (by kernel_rfl))
  f171 := Tryd.func15.trans (congrArg some (by kernel_rfl))
  f243 := Tryd.func28.trans (congrArg some (by kernel_rfl))
  f246 := Tryd.func35.trans (congrArg some (by kernel_rfl))
  f283 := Tryd.func37.trans (congrArg some (by kernel_rfl))
  f284 := Tryd.func38.trans (congrArg some (by kernel_rfl))
  f285 := Tryd.func39.trans (congrArg some (by kernel_rfl))
  f286 := Tryd.func40.trans (congrArg some (by kernel_rfl))
  f317 := Tryd.func41.trans (congrArg some (by kernel_rfl))
  f318 := Tryd.func43.trans (congrArg some (by kernel_rfl))
  f319 := Tryd.func44.trans (congrArg some (by kernel_rfl))
  f320 := Tryd.func45.trans (congrArg some (by kernel_rfl))
  f337 := Tryd.func46.trans (congrArg some (by kernel_rfl))
  f338 := Tryd.func47.trans (congrArg some (by kernel_rfl))
  t0 := Tryd.underlying0
  a0 := Tryd.isAgg0
  z0 := Tryd.sizeOf0
  v0 := Tryd.zeroValue0
  t2 := Tryd.underlying2
  a2 := Tryd.isAgg2
  z2 := Tryd.sizeOf2
  v2 := Tryd.zeroValue2
  t3 := Tryd.underlying3
  a3 := Tryd.isAgg3
  z3 := Tryd.sizeOf3
  v3 := Tryd.zeroValue3
  t4 := Tryd.underlying4
  a4 := Tryd.isAgg4
  z4 := Tryd.sizeOf4
  v4 := Tryd.zeroValue4
  t5 := Tryd.underlying5
  a5 := Tryd.isAgg5
  z5 := Tryd.sizeOf5
  v5 := Tryd.zeroValue5
  t9 := Tryd.underlying9
  a9 := Tryd.isAgg9
  z9 := Tryd.sizeOf9
  v9 := Tryd.zeroValue9
  t20 := Tryd.underlying20
  a20 := Tryd.isAgg20
  z20 := Tryd.sizeOf20
  v20 := Tryd.zeroValue20
  t37 := Tryd.underlying38
  a37 := Tryd.isAgg38
  z37 := Tryd.sizeOf38
  v37 := Tryd.zeroValue38
  t46 := Tryd.underlying74
  a46 := Tryd.isAgg74
  z46 := Tryd.sizeOf74
  v46 := Tryd.zeroValue74
  t51 := Tryd.underlying72
  a51 := Tryd.isAgg72
  z51 := Tryd.sizeOf72
  v51 := Tryd.zeroValue72
  t53 := Tryd.underlying65
  a53 := Tryd.isAgg65
  z53 := Tryd.sizeOf65
  v53 := Tryd.zeroValue65
  t171 := Tryd.underlying64
  a171 := Tryd.isAgg64
  z171 := Tryd.sizeOf64
  v171 := Tryd.zeroValue64
  t173 := Tryd.underlying68
  a173 := Tryd.isAgg68
  z173 := Tryd.sizeOf68
  v173 := Tryd.zeroValue68
  t212 := Tryd.underlying71
  a212 := Tryd.isAgg71
  z212 := Tryd.sizeOf71
  v212 := Tryd.zeroValue71
  t213 := Tryd.underlying73
  a213 := Tryd.isAgg73
  z213 := Tryd.sizeOf73
  t232 := Tryd.underlying77
  a232 := Tryd.isAgg77
  z232 := Tryd.sizeOf77
  v232 := Tryd.zeroValue77
  t233 := Tryd.underlying78
  a233 := Tryd.isAgg78
  z233 := Tryd.sizeOf78
  v233 := Tryd.zeroValue78
  g17 := by kernel_rfl
  g18 := by kernel_rfl
  g19 := by kernel_rfl
  i0 := by kernel_rfl
  i2 := by kernel_rfl
  i3 := by kernel_rfl
  i4 := by kernel_rfl
  i5 := by kernel_rfl
  i9 := by kernel_rfl
  i20 := by kernel_rfl
  i37 := by kernel_rfl
  i46 := by kernel_rfl
  i51 := by kernel_rfl
  i53 := by kernel_rfl
  i171 := by kernel_rfl
  i173 := by kernel_rfl
  i212 := by kernel_rfl
  i232 := by kernel_rfl
  i233 := by kernel_rfl
  m17 := by kernel_rfl
  m18 := by kernel_rfl
  m19 := by kernel_rfl }
/-- The table that strconv reads, as its initialiser lays it. -/
def TabW (w : World) : Prop := Go.Lib.TabIs Tryd.prog w "internal/strconv.uint64pow10" .u64 Go.Lib.pow10Tab
theorem Itoa_any (n : Int) (h0 : -9223372036854775808 ≤ n) (h1 : n ≤ 9223372036854775807) (w : World) (ht : TabW w) :
    Calls Tryd.prog 15 #[.int .i64 n] w fun e w' => e = .returned (.string ⟨(Go.Lib.itoa n).toArray⟩) ∧ Below w.heap.size w w' := by
  refine (Any.strconv_Itoa laysI n h0 h1 w ht).mono ?_
  rintro e w' ⟨rfl, k, os, rfl⟩
  exact ⟨rfl, Go.Lib.below_grow _ _ (Nat.le_refl _) _ _⟩
/-- The table stays. -/
theorem TabW.below {w w' : World} (h : TabW w) (hb : Below w.heap.size w w') : TabW w' := by
  have := Go.Lib.tabBelow_of_tabIs h
  exact this w' hb
end Go.Proofs.YtlopmmedokllaaaDoor
namespace Go.Proofs.YtlopmmedokllaaaDoor
open Go.RowKit Go.Deep
theorem lbA (a b : List UInt8) : (⟨a.toArray⟩ : ByteArray) ++ ⟨b.toArray⟩ = ⟨(a ++ b).toArray⟩ := by
  apply ByteArray.ext; simp
theorem lret {a b : ByteArray} (h : a = b) : Ending.returned (.string a) = .returned (.string b) := by rw [h]
theorem ldec_le (n : Nat) (h : n ≤ 9223372036854775807) : (Go.Lib.decDigits n).length ≤ 21 := by
  have := Go.Lib.itoa_length_le (n : Int) (by omega) (by omega)
  rwa [Go.Lib.itoa_nonneg] at this
theorem ldec_big (m : Int) (h : 9 < m) : Go.Lib.decDigits m.toNat = Go.Lib.decDigits (m / 10).toNat ++ [UInt8.ofNat (48 + m % 10).toNat] := by
  rw [Go.Lib.decDigits, dif_neg (by omega), show (m / 10).toNat = m.toNat / 10 by omega, show (48 + m % 10).toNat = 48 + m.toNat % 10 by omega]
theorem ldec_one (m : Int) (h0 : 0 ≤ m) (h : m ≤ 9) : Go.Lib.decDigits m.toNat = [UInt8.ofNat (48 + m).toNat] := by
  rw [Go.Lib.decDigits, dif_pos (by omega), show (48 + m).toNat = 48 + m.toNat by omega]

/-- The text of a term without its sign. -/
def ltrm (c : Int) (i : Nat) : List UInt8 := if c.natAbs = 1 then 120 :: Go.Lib.decDigits i else Go.Lib.decDigits c.natAbs ++ 42 :: 120 :: Go.Lib.decDigits i
/-- The text of the first terms. -/
def ltxt (xs : List Int) : Nat → List UInt8
  | 0 => []
  | k + 1 => if xs.getD k 0 = 0 then ltxt xs k else ltxt xs k ++ (signOf (xs.getD k 0) (ltxt xs k) ++ ltrm (xs.getD k 0) k)
/-- The text of a row. -/
def lmid (xs : List Int) (c : Int) : List UInt8 := if c = 0 ∧ ltxt xs xs.length ≠ [] then ltxt xs xs.length else ltxt xs xs.length ++ (signOf c (ltxt xs xs.length) ++ Go.Lib.decDigits c.natAbs)
def lrow (xs : List Int) (c : Int) : List UInt8 := lmid xs c ++ [32, 62, 61, 32, 48]

theorem lsign_le (c : Int) (l : List UInt8) : (signOf c l).length ≤ 3 := by
  unfold signOf; split
  · split <;> simp
  · split <;> simp
theorem ltrm_le {c : Int} {i : Nat} (hc : smB c = true) (hi : i ≤ 1000) : (ltrm c i).length ≤ 44 := by
  have := smB_true.1 hc
  have h1 := ldec_le c.natAbs (by omega)
  have h2 := ldec_le i (by omega)
  unfold ltrm; split
  · simp; omega
  · simp; omega
theorem smB_at {xs : List Int} (h : xs.all smB = true) {k : Nat} (hk : k < xs.length) : smB (xs.getD k 0) = true := by
  have e : xs.getD k 0 = xs[k] := by simp [hk]
  rw [e]; exact List.all_eq_true.1 h _ (List.getElem_mem hk)
theorem ltxt_le {xs : List Int} (h : xs.all smB = true) (hn : xs.length ≤ 1000) : ∀ k, k ≤ xs.length → (ltxt xs k).length ≤ 47 * k
  | 0, _ => by simp [ltxt]
  | k + 1, hk => by
    have ih := ltxt_le h hn k (by omega)
    have h1 := lsign_le (xs.getD k 0) (ltxt xs k)
    have h2 := ltrm_le (i := k) (smB_at h (by omega : k < xs.length)) (by omega)
    unfold ltxt; split
    · omega
    · rw [List.length_append, List.length_append]; omega
theorem ltxt_zero {xs : List Int} {k : Nat} (h : xs.getD k 0 = 0) : ltxt xs (k + 1) = ltxt xs k := by rw [ltxt, if_pos h]
theorem ltxt_more {xs : List Int} {k : Nat} (h : xs.getD k 0 ≠ 0) : ltxt xs (k + 1) = ltxt xs k ++ signOf (xs.getD k 0) (ltxt xs k) ++ ltrm (xs.getD k 0) k := by rw [ltxt, if_neg h, List.append_assoc]
theorem lmid_none {xs : List Int} {c : Int} (hc : c = 0) (h : ltxt xs xs.length ≠ []) : lmid xs c = ltxt xs xs.length := by rw [lmid, if_pos ⟨hc, h⟩]
theorem lmid_some {xs : List Int} {c : Int} (h : ¬ (c = 0 ∧ ltxt xs xs.length ≠ [])) : lmid xs c = ltxt xs xs.length ++ signOf c (ltxt xs xs.length) ++ Go.Lib.decDigits c.natAbs := by rw [lmid, if_neg h, List.append_assoc]
theorem lmid_le {xs : List Int} {c : Int} (h : smR (xs, c) = true) (hn : xs.length ≤ 1000) : (lmid xs c).length ≤ 48000 := by
  obtain ⟨h1, h2⟩ := smR_true.1 h
  have a := ltxt_le h1 hn xs.length (Nat.le_refl _)
  have b := lsign_le c (ltxt xs xs.length)
  have := smB_true.1 h2
  have d := ldec_le c.natAbs (by omega)
  unfold lmid; split
  · omega
  · rw [List.length_append, List.length_append]; omega
/-- A Builder stays where no block changes. -/
theorem bld_keep {T e : TypeId} {B b : Nat} {bs : List Value} {w w' : World} (h : Lib.IsBuilder T e B b bs w) (hb : Below w.heap.size w w') : Lib.IsBuilder T e B b bs w' := by
  have key : ∀ p, Lib.BuilderAt T e B b p bs w → Lib.BuilderAt T e B b p bs w' := fun p k => by
    have hlt := Lib.BuilderAt.lt k
    obtain ⟨h1, v, h2, h3, h4⟩ := k
    refine ⟨h1, v, (hb.block b hlt).trans h2, h3.kept (row := none) ⟨hb.os, hb.tape, hb.output, hb.size, fun k hk _ => hb.block k hk⟩ ?_, h4⟩
    cases e : v.ownBlock with
    | none => exact .inl rfl
    | some g => exact .inr (by simp)
  exact h.elim (fun k => .inl (key _ k)) fun k => .inr (key _ k)

theorem lItoa (n : Int) (h0 : 0 ≤ n) (h : n ≤ 9223372036854775807) (w : World) (ht : TabW w) :
    Calls Tryd.prog 15 #[.int .i64 n] w fun e w' => e = .returned (.string ⟨(Go.Lib.decDigits n.toNat).toArray⟩) ∧ Below w.heap.size w w' := by
  have := Itoa_any n (by omega) h w ht
  rw [show Go.Lib.itoa n = Go.Lib.decDigits n.toNat by have := Go.Lib.itoa_nonneg n.toNat; rwa [show ((n.toNat : Nat) : Int) = n by omega] at this] at this
  exact this
set_option maxHeartbeats 800000 in
theorem termText_any (c : Int) (i : Nat) (hc : smB c = true) (hi : i ≤ 1000) (w : World) (ht : TabW w) :
    Calls Tryd.prog 13 #[.int .i64 c, .int .i64 i] w fun e w' => e = .returned (.string ⟨(ltrm c i).toArray⟩) ∧ Below w.heap.size w w' := by
  have HT := hid0 ht
  obtain ⟨g1, g2⟩ := smB_true.1 hc
  have hl := ldec_le i (by omega)
  have hi0 : (0 : Int) ≤ (i : Int) := by omega
  have hi1 : (i : Int) ≤ 9223372036854775807 := by omega
  have hti : (i : Int).toNat = i := by omega
  clear ht hc
  have eL : ¬ (9223372036854775807 < 1 + (Go.Lib.decDigits i).length) := by omega
  by_cases h1 : c.natAbs = 1
  · have E := hid0 (show ltrm c i = 120 :: Go.Lib.decDigits i by unfold ltrm; rw [if_pos h1])
    have h2 : c = 1 ∨ c = -1 := by omega
    clear h1
    rcases h2 with rfl | rfl
    · go_enter Tryd.func13, Tryd.ntmps13
      go_wp2_with (go_at_call 15; refine (lItoa i hi0 hi1 _ HT.out).mono ?_; rw [hti]; rintro e w1 ⟨rfl, hb1⟩)
      go_ret
      exact ⟨lret (by rw [E.out]; exact lbA [120] _), hb1⟩
    · go_enter Tryd.func13, Tryd.ntmps13
      go_wp2_with (go_at_call 15; refine (lItoa i hi0 hi1 _ HT.out).mono ?_; rw [hti]; rintro e w1 ⟨rfl, hb1⟩)
      go_ret
      exact ⟨lret (by rw [E.out]; exact lbA [120] _), hb1⟩
  · have hm : (max c (-c) : Int) = (c.natAbs : Int) := by omega
    have hm0 : (0 : Int) ≤ (c.natAbs : Int) := by omega
    have hm1 : (c.natAbs : Int) ≤ 9223372036854775807 := by omega
    have htm : (c.natAbs : Int).toNat = c.natAbs := by omega
    have hl2 := ldec_le c.natAbs (by omega)
    have eL2 : ¬ (9223372036854775807 < (Go.Lib.decDigits c.natAbs).length + 1) := by omega
    have eL3 : ¬ (9223372036854775807 < (Go.Lib.decDigits c.natAbs).length + 1 + (1 + (Go.Lib.decDigits i).length)) := by omega
    have E := hid0 (show ltrm c i = (Go.Lib.decDigits c.natAbs ++ [42]) ++ ([120] ++ Go.Lib.decDigits i) by unfold ltrm; rw [if_neg h1]; simp)
    have h2 : (c == 1) = false := by simp; omega
    have h3 : (c == -1) = false := by simp; omega
    clear h1
    go_enter Tryd.func13, Tryd.ntmps13
    go_wp2_with (first | (go_at_call 15; refine (lItoa i hi0 hi1 _ HT.out).mono ?_; rw [hti]; rintro e w1 ⟨rfl, hb1⟩) | (go_at_call 15; rw [hm]; refine (lItoa c.natAbs hm0 hm1 _ (HT.out.below hb1)).mono ?_; rw [htm]; rintro e w2 ⟨rfl, hb2⟩) | (go_at_call 15; refine (lItoa c.natAbs hm0 hm1 _ (HT.out.below hb1)).mono ?_; rw [htm]; rintro e w2 ⟨rfl, hb2⟩))
    go_ret
    exact ⟨lret (by rw [E.out, ← lbA, ← lbA, ← lbA]), thenBelow hb1 hb2⟩
end Go.Proofs.YtlopmmedokllaaaDoor
namespace Go.Proofs.YtlopmmedokllaaaDoor
open Go.RowKit
/-- A cell that was there stays there. -/
theorem keep1 {W w1 : World} {p : Addr} {u : Value} (h : W.cell? p = some u) (hb : Below W.heap.size W w1) : w1.cell? p = some u := (hb.cell (cell_lt h)).trans h
end Go.Proofs.YtlopmmedokllaaaDoor
namespace Go.Proofs.YtlopmmedokllaaaDoor
open Go.RowKit Go.Deep
theorem lFmt_arg {lo : Nat} {u : Value} {xs : List Int} {c : Int} (w : World) (H : IsInts lo w u xs) (hn : 96 < xs.length) :
    Calls Tryd.prog 6 #[.agg #[u, .int .i64 c]] w fun e w' => e = .returned (.tuple #[.string ⟨#[]⟩, .int .i64 1]) ∧ Below w.heap.size w w' := by
  obtain ⟨a, cap, rfl⟩ := H.shape
  have h1 : (96 : Int) < xs.length := by omega
  clear hn H
  go_enter Tryd.func6, Tryd.ntmps6
  go_wp2
  go_ret2
  exact ⟨rfl, allocBelow _ _⟩
theorem lFmt_large {u : Value} {xs : List Int} {c : Int} (w : World) (H : IsInts 0 w u xs) (hn : xs.length ≤ 96) (hs : smR (xs, c) = false) :
    Calls Tryd.prog 6 #[.agg #[u, .int .i64 c]] w fun e w' => e = .returned (.tuple #[.string ⟨#[]⟩, .int .i64 4]) ∧ Below w.heap.size w w' := by
  have HI := hid0 H
  obtain ⟨a, cap, rfl⟩ := H.shape
  have h1 : ¬ (96 : Int) < xs.length := by omega
  clear hn H
  go_enter Tryd.func6, Tryd.ntmps6
  go_wp2_with (go_at_call 11; refine (small_any _ (HI.out.below (by go_grown))).mono ?_; rw [hs]; rintro e w1 ⟨rfl, hb1⟩)
  go_ret2
  exact ⟨rfl, thenBelow (allocBelow _ _) hb1⟩

/-- What holds behind each round. -/
def lInv (B : Nat) (xs : List Int) (k : Nat) (w : World) : Prop := Lib.IsBuilder 40 5 B B (Lib.byteCells (ltxt xs k)) w
theorem lInv_more {B : Nat} {xs : List Int} {k : Nat} {w : World} {x : Int} (hx : ltxt xs (k + 1) = ltxt xs k ++ signOf x (ltxt xs k) ++ ltrm x k) (h : Lib.IsBuilder 40 5 B B (Lib.byteCells (ltxt xs k ++ signOf x (ltxt xs k) ++ (⟨(ltrm x k).toArray⟩ : ByteArray).data.toList)) w) : lInv B xs (k + 1) w := by
  unfold lInv; rw [hx]; simpa using h

theorem lmid_bld {B : Nat} {xs : List Int} {c : Int} {w : World} {D : List UInt8} (hx : lmid xs c = ltxt xs xs.length ++ signOf c (ltxt xs xs.length) ++ D) (h : Lib.IsBuilder 40 5 B B (Lib.byteCells (ltxt xs xs.length ++ signOf c (ltxt xs xs.length) ++ (⟨D.toArray⟩ : ByteArray).data.toList)) w) : Lib.IsBuilder 40 5 B B (Lib.byteCells (lmid xs c)) w := by
  rw [hx]; simpa using h
theorem lrow_bld {B : Nat} {xs : List Int} {c : Int} {w : World} (h : Lib.IsBuilder 40 5 B B (Lib.byteCells (lmid xs c ++ (⟨#[32, 62, 61, 32, 48]⟩ : ByteArray).data.toList)) w) : Lib.IsBuilder 40 5 B B (Lib.byteCells (lrow xs c)) w := h
theorem lrow_ne (xs : List Int) (c : Int) : lrow xs c ≠ [] := by simp [lrow]

set_option maxHeartbeats 4800000 in
set_option maxRecDepth 100000 in
theorem lFmt_ne {u : Value} {xs : List Int} {c : Int} (w : World) (H : IsInts 0 w u xs) (hn : xs.length ≤ 96) (hs : smR (xs, c) = true) (ht : TabW w) (hcz : c ≠ 0) :
    Calls Tryd.prog 6 #[.agg #[u, .int .i64 c]] w fun e w' => e = .returned (.tuple #[.string ⟨(lrow xs c).toArray⟩, .int .i64 0]) ∧ Below w.heap.size w w' := by
  have HI := hid0 H
  have HT := hid0 ht
  obtain ⟨a, cap, rfl, hl, hm, hi, hc⟩ := H
  have h1 : ¬ (96 : Int) < xs.length := by omega
  have SA := hid0 (smR_true.1 hs).1
  have SC := hid0 (smR_true.1 hs).2
  have HC := hid0 hc
  have HN := hid0 hn
  clear hn hl hm hi hc ht
  go_enter Tryd.func6, Tryd.ntmps6
  go_wp2_with (go_at_call 11; refine (small_any _ (HI.out.below (by go_grown))).mono ?_; rw [hs]; rintro e w1 ⟨rfl, hb1⟩; obtain ⟨p1, p2⟩ := blk hb1 (n := w.heap.size) (by go_size); have hz1 : w.heap.size < w1.heap.size := (by have := hb1.size; simp at this; omega))
  have hB1 : Below w.heap.size w w1 := thenBelow (allocBelow _ _) hb1
  have y1 : w1.cell? ⟨w.heap.size, 1, none⟩ = some (.int .i64 c) := by rw [p1]; simp
  have hW1 : Hid (Below w1.heap.size w1 (w1.alloc (.cells #[.pointer none, .slice none 0 0] 40))) := allocBelow _ _
  have HF := hid0 (Lib.fresh_isBuilder 40 5 w1)
  clear p1 p2 hb1 h1
  go_loopw [17] (fun v wr => ∃ k : Nat, k ≤ xs.length ∧ v = .int .i64 k ∧ lInv w1.heap.size xs k wr ∧ Below w1.heap.size w1 wr) (fun v _ => xs.length - (intOf v).toNat)
  case atStart => exact ⟨0, Nat.zero_le _, rfl, HF.out, hW1.out⟩
  case round =>
    obtain ⟨k, hk, rfl, hI, hb⟩ := hrel
    have HB := hid0 hb
    have KI := hid0 hI
    have z1 := keep1 y1 hb
    have hlen := ltxt_le SA.out (by have := HN.out; omega) k hk
    have hk96 := HN.out
    have hsz := hb.size
    clear hb hI y1
    by_cases h1 : k < xs.length
    · rcases HC.out with rfl | ⟨b, off, rfl, _, hbk, hcell⟩
      · exact absurd h1 (by simp)
      · have g1 : wr.cell? ⟨b, off + k, none⟩ = some (.int .i64 (xs.getD k 0)) := ((thenBelow hB1 HB.out).cell (p := ⟨b, off + k, none⟩) hbk).trans (hcell k h1)
        have SX := hid0 (smB_at SA.out h1)
        have LZ := hid0 (@ltxt_zero xs k)
        have LM := hid0 (@ltxt_more xs k)
        obtain ⟨x, hx⟩ : ∃ x, xs.getD k 0 = x := ⟨_, rfl⟩
        have hx' : xs[k] = x := by rw [← hx]; simp [h1]
        rw [hx] at g1 SX LZ LM
        by_cases hz : x = 0
        · have hz' : (x == 0) = true := by simp [hz]
          have L1 := hid0 (LZ.out hz)
          clear hz hlen
          go_wp2_with fail
          go_roundw
          case rel => exact ⟨k + 1, by omega, by go_num, by show lInv _ _ _ _; unfold lInv; rw [L1.out]; exact KI.out, HB.out⟩
          case measure => simp [intOf]; omega
        · have hz' : (x == 0) = false := by simp [hz]
          have L1 := hid0 (LM.out hz)
          have q3 := ltrm_le (i := k) SX.out (by omega)
          have q4 : (ltxt xs k).length + (⟨(ltrm x k).toArray⟩ : ByteArray).size ≤ 100000 := by simp [ByteArray.size]; omega
          have hk1000 : k ≤ 1000 := by omega
          have HT4 := hid0 (HT.out.below (thenBelow hB1 HB.out))
          have Q4 := hid0 q4
          clear hz q4
          go_wp2_with (first | (go_at_call 13; refine (termText_any x k SX.out hk1000 _ HT4.out).mono ?_; rintro e w4 ⟨rfl, hb4⟩; have K4 := hid0 (bld_keep KI.out hb4); have HB4 := hid0 (Below.trans HB.out (hb4.mono hsz))) | (go_at_call 12; refine (writeItem_any w1.heap.size w1.heap.size _ _ _ _ K4.out Q4.out HB4.out.size).mono ?_; rintro e w5 ⟨rfl, K5, hb5⟩))
          go_roundw
          case rel => exact ⟨k + 1, by omega, by go_num, lInv_more L1.out K5.out, HB4.out.trans hb5⟩
          case measure => simp [intOf]; omega
    · obtain rfl : k = xs.length := by omega
      have LW := hid0 (show (lmid xs c).length + (⟨#[32, 62, 61, 32, 48]⟩ : ByteArray).size ≤ 200000 by have := lmid_le hs (by omega); have e : (⟨#[32, 62, 61, 32, 48]⟩ : ByteArray).size = 5 := rfl; omega)
      have KB : Hid (Lib.IsBuilder 40 5 w1.heap.size w1.heap.size (Lib.byteCells (ltxt xs xs.length)) wr) := KI.out
      have KD : Hid (Lib.IsBuilder 40 5 w1.heap.size w1.heap.size (Lib.byteCells (ltxt xs xs.length)) wr.drew) := KI.out
      have HBd : Hid (Below w1.heap.size w1 wr.drew) := HB.out.drew
      have zd : Hid (wr.drew.cell? ⟨w.heap.size, 1, none⟩ = some (.int .i64 c)) := z1
      have HTd := hid0 (HT.out.below (thenBelow hB1 HBd.out))
      have hc' : (c == 0) = false := by simp [hcz]
      have EM := hid0 (lmid_some (xs := xs) (c := c) fun e => hcz e.1)
      have hab := smB_true.1 SC.out
      have hm : (max c (-c) : Int) = (c.natAbs : Int) := by omega
      have hm0 : (0 : Int) ≤ (c.natAbs : Int) := by omega
      have hm1 : (c.natAbs : Int) ≤ 9223372036854775807 := by omega
      have htm : (c.natAbs : Int).toNat = c.natAbs := by omega
      have Q4 := hid0 (show (ltxt xs xs.length).length + (⟨(Go.Lib.decDigits c.natAbs).toArray⟩ : ByteArray).size ≤ 100000 by have := ldec_le c.natAbs (by omega); simp [ByteArray.size]; omega)
      have hn1 : -9223372036854775808 ≤ -c := by omega
      have hn2 : -c ≤ 9223372036854775807 := by omega
      have hwr : IntKind.i64.wrap (-c) = -c := IntWalk.i64_in _ (by omega)
      clear hlen hab
      go_wp2_with fail
      go_region_with (first | (go_at_call 15; rw [hm]; refine (lItoa c.natAbs hm0 hm1 _ HTd.out).mono ?_; rw [htm]; rintro e w4 ⟨rfl, hb4⟩; have z4 := keep1 zd.out hb4; have K4 := hid0 (bld_keep KD.out hb4); have HB4 := hid0 (Below.trans HBd.out (hb4.mono hsz))) | (go_at_call 15; refine (lItoa c.natAbs hm0 hm1 _ HTd.out).mono ?_; rw [htm]; rintro e w4 ⟨rfl, hb4⟩; have z4 := keep1 zd.out hb4; have K4 := hid0 (bld_keep KD.out hb4); have HB4 := hid0 (Below.trans HBd.out (hb4.mono hsz))) | (go_at_call 12; refine (writeItem_any w1.heap.size w1.heap.size _ _ _ _ K4.out Q4.out HB4.out.size).mono ?_; rintro e w5 ⟨rfl, K5, hb5⟩; have K6 := hid0 (lmid_bld EM.out K5.out); have HB5 := hid0 (HB4.out.trans hb5)))
      all_goals
        go_wp2_with (first | (go_at_call 16; refine (B_Write' w1.heap.size w1.heap.size _ _ _ K6.out LW.out HB5.out.size).mono ?_; rintro e w7 ⟨rfl, K7, hb7⟩; have K8 := hid0 (lrow_bld K7.out)) | (go_at_call 17; refine (B_String w1.heap.size w1.heap.size _ _ K8.out (lrow_ne _ _)).mono ?_; rintro e w9 ⟨rfl, hb9⟩))
        go_ret2
        exact ⟨by rfl, thenBelow hB1 ((HB5.out.trans hb7).trans hb9)⟩
set_option maxHeartbeats 4800000 in
set_option maxRecDepth 100000 in
theorem lFmt_z0 {u : Value} {xs : List Int} (w : World) (H : IsInts 0 w u xs) (hn : xs.length ≤ 96) (hs : smR (xs, 0) = true) (ht : TabW w) (he : ltxt xs xs.length = []) :
    Calls Tryd.prog 6 #[.agg #[u, .int .i64 0]] w fun e w' => e = .returned (.tuple #[.string ⟨(lrow xs 0).toArray⟩, .int .i64 0]) ∧ Below w.heap.size w w' := by
  have HI := hid0 H
  have HT := hid0 ht
  obtain ⟨a, cap, rfl, hl, hm, hi, hc⟩ := H
  have h1 : ¬ (96 : Int) < xs.length := by omega
  have SA := hid0 (smR_true.1 hs).1
  have SC := hid0 (smR_true.1 hs).2
  have HC := hid0 hc
  have HN := hid0 hn
  clear hn hl hm hi hc ht
  go_enter Tryd.func6, Tryd.ntmps6
  go_wp2_with (go_at_call 11; refine (small_any _ (HI.out.below (by go_grown))).mono ?_; rw [hs]; rintro e w1 ⟨rfl, hb1⟩; obtain ⟨p1, p2⟩ := blk hb1 (n := w.heap.size) (by go_size); have hz1 : w.heap.size < w1.heap.size := (by have := hb1.size; simp at this; omega))
  have hB1 : Below w.heap.size w w1 := thenBelow (allocBelow _ _) hb1
  have y1 : w1.cell? ⟨w.heap.size, 1, none⟩ = some (.int .i64 0) := by rw [p1]; simp
  have hW1 : Hid (Below w1.heap.size w1 (w1.alloc (.cells #[.pointer none, .slice none 0 0] 40))) := allocBelow _ _
  have HF := hid0 (Lib.fresh_isBuilder 40 5 w1)
  clear p1 p2 hb1 h1
  go_loopw [17] (fun v wr => ∃ k : Nat, k ≤ xs.length ∧ v = .int .i64 k ∧ lInv w1.heap.size xs k wr ∧ Below w1.heap.size w1 wr) (fun v _ => xs.length - (intOf v).toNat)
  case atStart => exact ⟨0, Nat.zero_le _, rfl, HF.out, hW1.out⟩
  case round =>
    obtain ⟨k, hk, rfl, hI, hb⟩ := hrel
    have HB := hid0 hb
    have KI := hid0 hI
    have z1 := keep1 y1 hb
    have hlen := ltxt_le SA.out (by have := HN.out; omega) k hk
    have hk96 := HN.out
    have hsz := hb.size
    clear hb hI y1
    by_cases h1 : k < xs.length
    · rcases HC.out with rfl | ⟨b, off, rfl, _, hbk, hcell⟩
      · exact absurd h1 (by simp)
      · have g1 : wr.cell? ⟨b, off + k, none⟩ = some (.int .i64 (xs.getD k 0)) := ((thenBelow hB1 HB.out).cell (p := ⟨b, off + k, none⟩) hbk).trans (hcell k h1)
        have SX := hid0 (smB_at SA.out h1)
        have LZ := hid0 (@ltxt_zero xs k)
        have LM := hid0 (@ltxt_more xs k)
        obtain ⟨x, hx⟩ : ∃ x, xs.getD k 0 = x := ⟨_, rfl⟩
        have hx' : xs[k] = x := by rw [← hx]; simp [h1]
        rw [hx] at g1 SX LZ LM
        by_cases hz : x = 0
        · have hz' : (x == 0) = true := by simp [hz]
          have L1 := hid0 (LZ.out hz)
          clear hz hlen
          go_wp2_with fail
          go_roundw
          case rel => exact ⟨k + 1, by omega, by go_num, by show lInv _ _ _ _; unfold lInv; rw [L1.out]; exact KI.out, HB.out⟩
          case measure => simp [intOf]; omega
        · have hz' : (x == 0) = false := by simp [hz]
          have L1 := hid0 (LM.out hz)
          have q3 := ltrm_le (i := k) SX.out (by omega)
          have q4 : (ltxt xs k).length + (⟨(ltrm x k).toArray⟩ : ByteArray).size ≤ 100000 := by simp [ByteArray.size]; omega
          have hk1000 : k ≤ 1000 := by omega
          have HT4 := hid0 (HT.out.below (thenBelow hB1 HB.out))
          have Q4 := hid0 q4
          clear hz q4
          go_wp2_with (first | (go_at_call 13; refine (termText_any x k SX.out hk1000 _ HT4.out).mono ?_; rintro e w4 ⟨rfl, hb4⟩; have K4 := hid0 (bld_keep KI.out hb4); have HB4 := hid0 (Below.trans HB.out (hb4.mono hsz))) | (go_at_call 12; refine (writeItem_any w1.heap.size w1.heap.size _ _ _ _ K4.out Q4.out HB4.out.size).mono ?_; rintro e w5 ⟨rfl, K5, hb5⟩))
          go_roundw
          case rel => exact ⟨k + 1, by omega, by go_num, lInv_more L1.out K5.out, HB4.out.trans hb5⟩
          case measure => simp [intOf]; omega
    · obtain rfl : k = xs.length := by omega
      have LW := hid0 (show (lmid xs 0).length + (⟨#[32, 62, 61, 32, 48]⟩ : ByteArray).size ≤ 200000 by have := lmid_le hs (by omega); have e : (⟨#[32, 62, 61, 32, 48]⟩ : ByteArray).size = 5 := rfl; omega)
      have KB : Hid (Lib.IsBuilder 40 5 w1.heap.size w1.heap.size (Lib.byteCells (ltxt xs xs.length)) wr) := KI.out
      have KD : Hid (Lib.IsBuilder 40 5 w1.heap.size w1.heap.size (Lib.byteCells (ltxt xs xs.length)) wr.drew) := KI.out
      have HBd : Hid (Below w1.heap.size w1 wr.drew) := HB.out.drew
      have zd : Hid (wr.drew.cell? ⟨w.heap.size, 1, none⟩ = some (.int .i64 0)) := z1
      have HTd := hid0 (HT.out.below (thenBelow hB1 HBd.out))
      have EM := hid0 (show lmid xs 0 = ltxt xs xs.length ++ signOf 0 (ltxt xs xs.length) ++ Go.Lib.decDigits 0 from lmid_some fun e => e.2 he)
      have hm0 : (0 : Int) ≤ 0 := by decide
      have hm1 : (0 : Int) ≤ 9223372036854775807 := by decide
      have htm : (0 : Int).toNat = 0 := rfl
      have Q4 := hid0 (show (ltxt xs xs.length).length + (⟨(Go.Lib.decDigits 0).toArray⟩ : ByteArray).size ≤ 100000 by have := ldec_le 0 (by omega); simp [ByteArray.size]; omega)
      have hl0 : (((ltxt xs xs.length).length : Nat) : Int) = 0 := by rw [he]; rfl
      have hl1 : ((((ltxt xs xs.length).length : Nat) : Int) == 0) = true := by rw [hl0]; rfl
      clear he hlen
      go_wp2_with (go_at_call 14; (with_reducible refine (B_Len' w1.heap.size w1.heap.size _ _ KB.out).mono ?_); rintro e w' ⟨rfl, rfl⟩)
      go_region_with (first | (go_at_call 15; refine (lItoa 0 hm0 hm1 _ HTd.out).mono ?_; rw [htm]; rintro e w4 ⟨rfl, hb4⟩; have z4 := keep1 zd.out hb4; have K4 := hid0 (bld_keep KD.out hb4); have HB4 := hid0 (Below.trans HBd.out (hb4.mono hsz))) | (go_at_call 15; refine (lItoa 0 hm0 hm1 _ HTd.out).mono ?_; rw [htm]; rintro e w4 ⟨rfl, hb4⟩; have z4 := keep1 zd.out hb4; have K4 := hid0 (bld_keep KD.out hb4); have HB4 := hid0 (Below.trans HBd.out (hb4.mono hsz))) | (go_at_call 12; refine (writeItem_any w1.heap.size w1.heap.size _ _ _ _ K4.out Q4.out HB4.out.size).mono ?_; rintro e w5 ⟨rfl, K5, hb5⟩; have K6 := hid0 (lmid_bld EM.out K5.out); have HB5 := hid0 (HB4.out.trans hb5)))
      all_goals
        go_wp2_with (first | (go_at_call 16; refine (B_Write' w1.heap.size w1.heap.size _ _ _ K6.out LW.out HB5.out.size).mono ?_; rintro e w7 ⟨rfl, K7, hb7⟩; have K8 := hid0 (lrow_bld K7.out)) | (go_at_call 17; refine (B_String w1.heap.size w1.heap.size _ _ K8.out (lrow_ne _ _)).mono ?_; rintro e w9 ⟨rfl, hb9⟩))
        go_ret2
        exact ⟨by rfl, thenBelow hB1 ((HB5.out.trans hb7).trans hb9)⟩
set_option maxHeartbeats 4800000 in
set_option maxRecDepth 100000 in
theorem lFmt_z1 {u : Value} {xs : List Int} (w : World) (H : IsInts 0 w u xs) (hn : xs.length ≤ 96) (hs : smR (xs, 0) = true) (ht : TabW w) (he : ¬ ltxt xs xs.length = []) :
    Calls Tryd.prog 6 #[.agg #[u, .int .i64 0]] w fun e w' => e = .returned (.tuple #[.string ⟨(lrow xs 0).toArray⟩, .int .i64 0]) ∧ Below w.heap.size w w' := by
  have HI := hid0 H
  have HT := hid0 ht
  obtain ⟨a, cap, rfl, hl, hm, hi, hc⟩ := H
  have h1 : ¬ (96 : Int) < xs.length := by omega
  have SA := hid0 (smR_true.1 hs).1
  have SC := hid0 (smR_true.1 hs).2
  have HC := hid0 hc
  have HN := hid0 hn
  clear hn hl hm hi hc ht
  go_enter Tryd.func6, Tryd.ntmps6
  go_wp2_with (go_at_call 11; refine (small_any _ (HI.out.below (by go_grown))).mono ?_; rw [hs]; rintro e w1 ⟨rfl, hb1⟩; obtain ⟨p1, p2⟩ := blk hb1 (n := w.heap.size) (by go_size); have hz1 : w.heap.size < w1.heap.size := (by have := hb1.size; simp at this; omega))
  have hB1 : Below w.heap.size w w1 := thenBelow (allocBelow _ _) hb1
  have y1 : w1.cell? ⟨w.heap.size, 1, none⟩ = some (.int .i64 0) := by rw [p1]; simp
  have hW1 : Hid (Below w1.heap.size w1 (w1.alloc (.cells #[.pointer none, .slice none 0 0] 40))) := allocBelow _ _
  have HF := hid0 (Lib.fresh_isBuilder 40 5 w1)
  clear p1 p2 hb1 h1
  go_loopw [17] (fun v wr => ∃ k : Nat, k ≤ xs.length ∧ v = .int .i64 k ∧ lInv w1.heap.size xs k wr ∧ Below w1.heap.size w1 wr) (fun v _ => xs.length - (intOf v).toNat)
  case atStart => exact ⟨0, Nat.zero_le _, rfl, HF.out, hW1.out⟩
  case round =>
    obtain ⟨k, hk, rfl, hI, hb⟩ := hrel
    have HB := hid0 hb
    have KI := hid0 hI
    have z1 := keep1 y1 hb
    have hlen := ltxt_le SA.out (by have := HN.out; omega) k hk
    have hk96 := HN.out
    have hsz := hb.size
    clear hb hI y1
    by_cases h1 : k < xs.length
    · rcases HC.out with rfl | ⟨b, off, rfl, _, hbk, hcell⟩
      · exact absurd h1 (by simp)
      · have g1 : wr.cell? ⟨b, off + k, none⟩ = some (.int .i64 (xs.getD k 0)) := ((thenBelow hB1 HB.out).cell (p := ⟨b, off + k, none⟩) hbk).trans (hcell k h1)
        have SX := hid0 (smB_at SA.out h1)
        have LZ := hid0 (@ltxt_zero xs k)
        have LM := hid0 (@ltxt_more xs k)
        obtain ⟨x, hx⟩ : ∃ x, xs.getD k 0 = x := ⟨_, rfl⟩
        have hx' : xs[k] = x := by rw [← hx]; simp [h1]
        rw [hx] at g1 SX LZ LM
        by_cases hz : x = 0
        · have hz' : (x == 0) = true := by simp [hz]
          have L1 := hid0 (LZ.out hz)
          clear hz hlen
          go_wp2_with fail
          go_roundw
          case rel => exact ⟨k + 1, by omega, by go_num, by show lInv _ _ _ _; unfold lInv; rw [L1.out]; exact KI.out, HB.out⟩
          case measure => simp [intOf]; omega
        · have hz' : (x == 0) = false := by simp [hz]
          have L1 := hid0 (LM.out hz)
          have q3 := ltrm_le (i := k) SX.out (by omega)
          have q4 : (ltxt xs k).length + (⟨(ltrm x k).toArray⟩ : ByteArray).size ≤ 100000 := by simp [ByteArray.size]; omega
          have hk1000 : k ≤ 1000 := by omega
          have HT4 := hid0 (HT.out.below (thenBelow hB1 HB.out))
          have Q4 := hid0 q4
          clear hz q4
          go_wp2_with (first | (go_at_call 13; refine (termText_any x k SX.out hk1000 _ HT4.out).mono ?_; rintro e w4 ⟨rfl, hb4⟩; have K4 := hid0 (bld_keep KI.out hb4); have HB4 := hid0 (Below.trans HB.out (hb4.mono hsz))) | (go_at_call 12; refine (writeItem_any w1.heap.size w1.heap.size _ _ _ _ K4.out Q4.out HB4.out.size).mono ?_; rintro e w5 ⟨rfl, K5, hb5⟩))
          go_roundw
          case rel => exact ⟨k + 1, by omega, by go_num, lInv_more L1.out K5.out, HB4.out.trans hb5⟩
          case measure => simp [intOf]; omega
    · obtain rfl : k = xs.length := by omega
      have LW := hid0 (show (lmid xs 0).length + (⟨#[32, 62, 61, 32, 48]⟩ : ByteArray).size ≤ 200000 by have := lmid_le hs (by omega); have e : (⟨#[32, 62, 61, 32, 48]⟩ : ByteArray).size = 5 := rfl; omega)
      have KB : Hid (Lib.IsBuilder 40 5 w1.heap.size w1.heap.size (Lib.byteCells (ltxt xs xs.length)) wr) := KI.out
      have KD : Hid (Lib.IsBuilder 40 5 w1.heap.size w1.heap.size (Lib.byteCells (ltxt xs xs.length)) wr.drew) := KI.out
      have HBd : Hid (Below w1.heap.size w1 wr.drew) := HB.out.drew
      have zd : Hid (wr.drew.cell? ⟨w.heap.size, 1, none⟩ = some (.int .i64 0)) := z1
      have HTd := hid0 (HT.out.below (thenBelow hB1 HBd.out))
      have EC := hid0 (show lmid xs 0 = ltxt xs xs.length from lmid_none rfl he)
      have hl1 : ((((ltxt xs xs.length).length : Nat) : Int) == 0) = false := by
        have : (ltxt xs xs.length).length ≠ 0 := fun e => he (List.eq_nil_of_length_eq_zero e)
        simp; omega
      have HB5 := HB
      have K6 : Hid (Lib.IsBuilder 40 5 w1.heap.size w1.heap.size (Lib.byteCells (lmid xs 0)) wr) := by rw [EC.out]; exact KI.out
      clear he hlen
      go_wp2_with (first | (go_at_call 14; (with_reducible refine (B_Len' w1.heap.size w1.heap.size _ _ KB.out).mono ?_); rintro e w' ⟨rfl, rfl⟩) | (go_at_call 16; refine (B_Write' w1.heap.size w1.heap.size _ _ _ K6.out LW.out HB5.out.size).mono ?_; rintro e w7 ⟨rfl, K7, hb7⟩; have K8 := hid0 (lrow_bld K7.out)) | (go_at_call 17; refine (B_String w1.heap.size w1.heap.size _ _ K8.out (lrow_ne _ _)).mono ?_; rintro e w9 ⟨rfl, hb9⟩))
      go_ret2
      exact ⟨by rfl, thenBelow hB1 ((HB5.out.trans hb7).trans hb9)⟩
/-- n lies from lo to hi. -/
def inB (lo hi n : Int) : Bool := decide (lo ≤ n) && decide (n ≤ hi)
theorem within_any (n lo hi : Int) (w : World) :
    Calls Tryd.prog 30 #[.int .i64 n, .int .i64 lo, .int .i64 hi] w fun e w' => e = .returned (.bool (inB lo hi n)) ∧ w = w' := by
  have e : Hid (inB lo hi n = (decide (lo ≤ n) && decide (n ≤ hi))) := (rfl : inB lo hi n = _)
  by_cases h1 : lo ≤ n
  · by_cases h2 : n ≤ hi
    · go_enter Tryd.func30, Tryd.ntmps30
      go_wp2
      go_ret
      exact ⟨ret_bool (by rw [e.out]; simp; omega), rfl⟩
    · go_enter Tryd.func30, Tryd.ntmps30
      go_wp2
      go_ret
      exact ⟨ret_bool (by rw [e.out]; simp; omega), rfl⟩
  · go_enter Tryd.func30, Tryd.ntmps30
    go_wp2
    go_ret
    exact ⟨ret_bool (by rw [e.out]; simp; omega), rfl⟩
theorem within_sm (n : Int) (w : World) : Calls Tryd.prog 30 #[.int .i64 n, .int .i64 (-68719476736), .int .i64 68719476736] w fun e w' => e = .returned (.bool (smB n)) ∧ w = w' := within_any _ _ _ _
set_option maxHeartbeats 400000 in
theorem rSmall_full (b off n cap : Nat) (c : Int) (w : World) (xs : List Int) (hx : xs.length = n) (hn : n ≤ 9223372036854775807) (hb : b < w.heap.size)
    (hc : ∀ i, i < n → w.cell? ⟨b, off + i, none⟩ = some (.int .i64 (xs.getD i 0))) :
    Calls Tryd.prog 18 #[.agg #[.slice (some ⟨b, off, none⟩) n cap, .int .i64 c]] w fun e w' => e = .returned (.bool (xs.all smB && smB c)) ∧ Below w.heap.size w w' := by
  go_enter Tryd.func18, Tryd.ntmps18
  go_wp2_with fail
  go_loop [3] (fun v => ∃ k : Nat, k ≤ n ∧ v = .int .i64 k ∧ (xs.take k).all smB = true) (fun v => n - (intOf v).toNat)
  case atStart => exact ⟨0, Nat.zero_le _, rfl, rfl⟩
  case round =>
    obtain ⟨k, hk, rfl, hall⟩ := hrel
    have HA : Hid ((xs.take k).all smB = true) := hall
    clear hall
    by_cases h1 : k < n
    · have g1 : (w.alloc (.cells #[.slice (some ⟨b, off, none⟩) n cap, .int .i64 c] 24)).cell? ⟨b, off + k, none⟩ = some (.int .i64 (xs.getD k 0)) := (World.cell?_alloc_past _ _ _ (by simpa using hb)).trans (hc k h1)
      go_wp2_with (go_at_call 30; refine (within_sm _ _).mono ?_; rintro e w' ⟨rfl, rfl⟩)
      · have hp : (!smB xs[k]) = true := by assumption
        go_ret
        exact ⟨ret_bool (by rw [all_no (k := k) (by omega) (by simpa using hp)]; rfl), allocBelow _ _⟩
      · have hp : (!smB xs[k]) = false := by assumption
        go_round
        case rel => exact ⟨k + 1, by omega, by go_num, take_all (by omega) HA.out (by simpa using hp)⟩
        case measure => simp [intOf]; omega
    · go_wp2_with (go_at_call 30; refine (within_sm _ _).mono ?_; rintro e w' ⟨rfl, rfl⟩)
      go_ret
      exact ⟨ret_bool (by rw [all_take (by omega) HA.out]; rfl), allocBelow _ _⟩

theorem rSmall_empty (a : Option Addr) (cap : Nat) (c : Int) (w : World) :
    Calls Tryd.prog 18 #[.agg #[.slice a 0 cap, .int .i64 c]] w fun e w' => e = .returned (.bool (([] : List Int).all smB && smB c)) ∧ Below w.heap.size w w' := by
  go_enter Tryd.func18, Tryd.ntmps18
  go_wp2_with fail
  refine wp_loop_rounds 1 ?_
  rw [rounds_succ]
  go_wp2_with (go_at_call 30; refine (within_sm _ _).mono ?_; rintro e w' ⟨rfl, rfl⟩)
  go_ret
  exact ⟨ret_bool rfl, allocBelow _ _⟩

theorem rSmall_any {lo : Nat} {w : World} {v : Value} {xs : List Int} (c : Int) (h : IsInts lo w v xs) :
    Calls Tryd.prog 18 #[.agg #[v, .int .i64 c]] w fun e w' => e = .returned (.bool (smR (xs, c))) ∧ Below w.heap.size w w' := by
  obtain ⟨a, cap, rfl, hl, hm, hi, hc⟩ := h
  unfold maxLen at hm
  rcases hc with rfl | ⟨b, off, rfl, _, hb, hc⟩
  · exact rSmall_empty _ _ _ _
  · exact rSmall_full _ _ _ _ _ _ _ rfl (by omega) hb hc

theorem lconv_byte (W : World) (x : Int) (h0 : 0 ≤ x) (h1 : x < 256) :
    (convert 38 9 (.slice (some ⟨W.heap.size, 0, none⟩) 1 1)).run Tryd.prog (W.alloc (.cells #[.int .u8 x] 5)) = .ok (.string ⟨[UInt8.ofNat x.toNat].toArray⟩) (W.alloc (.cells #[.int .u8 x] 5)) := by
  have e : ((UInt8.ofNat x.toNat).toNat : Int) = x := by rw [UInt8.toNat_ofNat']; omega
  exact run_convert_bytes_back (W.alloc (.cells #[.int .u8 x] 5)) 38 9 5 ⟨W.heap.size, 0, none⟩ 1 [UInt8.ofNat x.toNat] Tryd.underlying38 Tryd.underlying5 Tryd.underlying9 (fun j hj => by
    obtain rfl : j = 0 := by simpa using hj
    have e2 : (⟨W.heap.size, 0, none⟩ : Addr).add 0 = ⟨W.heap.size, 0, none⟩ := by simp [Addr.add]
    rw [e2]
    simp only [List.getElem_cons_zero, e]
    simp)

theorem labs_any (x : Int) (w : World) (hx : smB x = true) : Calls Tryd.prog 31 #[.int .i64 x] w fun e w' => e = .returned (.int .i64 x.natAbs) ∧ w = w' := by
  rw [smB_true] at hx
  obtain ⟨h1, h2⟩ := hx
  by_cases h : x < 0
  · have e : Hid ((x.natAbs : Int) = -x) := by show _ = _; omega
    go_enter Tryd.func31, Tryd.ntmps31
    go_wp2
    go_ret
    exact ⟨ret_int e.out.symm, rfl⟩
  · have e : Hid ((x.natAbs : Int) = x) := by show _ = _; omega
    go_enter Tryd.func31, Tryd.ntmps31
    go_wp2
    go_ret
    exact ⟨ret_int e.out.symm, rfl⟩

set_option maxHeartbeats 800000 in
set_option maxRecDepth 100000 in
theorem ldigits_any (n : Int) (h0 : 0 ≤ n) (h : n ≤ 9223372036854775807) (w : World) :
    Calls Tryd.prog 20 #[.int .i64 n] w fun e w' => e = .returned (.string ⟨(Go.Lib.decDigits n.toNat).toArray⟩) ∧ Below w.heap.size w w' := by
  have hd := ldec_le n.toNat (by omega)
  go_enter Tryd.func20, Tryd.ntmps20
  go_wp2_with fail
  go_loopw [0, 3] (fun u v wr => ∃ (m : Int) (l : List UInt8), 0 ≤ m ∧ m ≤ n ∧ v = .string ⟨l.toArray⟩ ∧ u = .int .i64 m ∧ Go.Lib.decDigits m.toNat ++ l = Go.Lib.decDigits n.toNat ∧ Below w.heap.size w wr) (fun u _ _ => (intOf u).toNat)
  case atStart => exact ⟨n, [], h0, Int.le_refl _, rfl, rfl, by simp, Below.refl _ _⟩
  case round =>
    obtain ⟨m, l, hm0, hmn, rfl, rfl, hE, hb⟩ := hrel
    have HE := hid0 hE
    have HB := hid0 hb
    have hll : l.length ≤ 21 := by have := congrArg List.length hE; rw [List.length_append] at this; omega
    clear hE hb
    have eL : ¬ (9223372036854775807 < 1 + l.length) := by omega
    by_cases h9 : 9 < m
    · have hcv := lconv_byte wr (48 + m % 10) (by omega) (by omega)
      go_wp2_with fail
      go_roundw
      case rel => exact ⟨m / 10, UInt8.ofNat (48 + m % 10).toNat :: l, by omega, by omega, congrArg Value.string (lbA [_] l), by go_num, by rw [← HE.out, ldec_big m h9, List.append_assoc]; rfl, thenBelow HB.out (allocBelow _ _)⟩
      case measure => simp [intOf]; omega
    · have hcv := lconv_byte wr (48 + m) (by omega) (by omega)
      go_wp2_with fail
      go_ret
      exact ⟨lret (by rw [← HE.out, ldec_one m hm0 (by omega)]; exact lbA [_] l), thenBelow HB.out (allocBelow _ _)⟩

def sgB (f : Bool) (n : Int) : List UInt8 := if f = true then (if n < 0 then [45] else []) else if n < 0 then [32, 45, 32] else [32, 43, 32]
theorem sgB_of (n : Int) (l : List UInt8) : sgB (decide (l = [])) n = signOf n l := by
  unfold sgB signOf; by_cases h : l = [] <;> simp [h]
theorem ldig_abs (n : Int) (hs : smB n = true) (w : World) :
    Calls Tryd.prog 20 #[.int .i64 n.natAbs] w fun e w' => e = .returned (.string ⟨(Go.Lib.decDigits n.natAbs).toArray⟩) ∧ Below w.heap.size w w' := by
  have := smB_true.1 hs
  have h := ldigits_any n.natAbs (by omega) (by omega) w
  rwa [show ((n.natAbs : Nat) : Int).toNat = n.natAbs by omega] at h

set_option maxHeartbeats 1600000 in
theorem litem_const (f : Bool) (n : Int) (hs : smB n = true) (w : World) :
    Calls Tryd.prog 19 #[.bool f, .int .i64 n, .string ⟨#[]⟩] w fun e w' => e = .returned (.string ⟨(sgB f n ++ Go.Lib.decDigits n.natAbs).toArray⟩) ∧ Below w.heap.size w w' := by
  have HS := hid0 hs
  have hb := smB_true.1 hs
  have hd := ldec_le n.natAbs (by omega)
  clear hs
  have e0 : ¬ (9223372036854775807 < (Go.Lib.decDigits n.natAbs).length) := by omega
  have e1 : ¬ (9223372036854775807 < 1 + (Go.Lib.decDigits n.natAbs).length) := by omega
  have e3 : ¬ (9223372036854775807 < 3 + (Go.Lib.decDigits n.natAbs).length) := by omega
  cases f
  · by_cases hn : n < 0
    · have E := hid0 (show sgB false n = [32, 45, 32] by simp [sgB, hn])
      go_enter Tryd.func19, Tryd.ntmps19
      go_wp2_with (first | (go_at_call 31; refine (labs_any n _ HS.out).mono ?_; rintro e w' ⟨rfl, rfl⟩) | (go_at_call 20; refine (ldig_abs n HS.out _).mono ?_; rintro e w1 ⟨rfl, hb1⟩))
      go_ret
      exact ⟨lret (by rw [E.out]; exact lbA [32, 45, 32] _), hb1⟩
    · have E := hid0 (show sgB false n = [32, 43, 32] by simp [sgB, hn])
      go_enter Tryd.func19, Tryd.ntmps19
      go_wp2_with (first | (go_at_call 31; refine (labs_any n _ HS.out).mono ?_; rintro e w' ⟨rfl, rfl⟩) | (go_at_call 20; refine (ldig_abs n HS.out _).mono ?_; rintro e w1 ⟨rfl, hb1⟩))
      go_ret
      exact ⟨lret (by rw [E.out]; exact lbA [32, 43, 32] _), hb1⟩
  · by_cases hn : n < 0
    · have E := hid0 (show sgB true n = [45] by simp [sgB, hn])
      go_enter Tryd.func19, Tryd.ntmps19
      go_wp2_with (first | (go_at_call 31; refine (labs_any n _ HS.out).mono ?_; rintro e w' ⟨rfl, rfl⟩) | (go_at_call 20; refine (ldig_abs n HS.out _).mono ?_; rintro e w1 ⟨rfl, hb1⟩))
      go_ret
      exact ⟨lret (by rw [E.out]; exact lbA [45] _), hb1⟩
    · have E := hid0 (show sgB true n = [] by simp [sgB, hn])
      go_enter Tryd.func19, Tryd.ntmps19
      go_wp2_with (first | (go_at_call 31; refine (labs_any n _ HS.out).mono ?_; rintro e w' ⟨rfl, rfl⟩) | (go_at_call 20; refine (ldig_abs n HS.out _).mono ?_; rintro e w1 ⟨rfl, hb1⟩))
      go_ret
      exact ⟨lret (by rw [E.out]; exact lbA [] _), hb1⟩

def ltrmP (n : Int) (p : List UInt8) : List UInt8 := if n.natAbs = 1 then 120 :: p else Go.Lib.decDigits n.natAbs ++ 42 :: 120 :: p
theorem ltrmP_of (n : Int) (i : Nat) : ltrmP n (Go.Lib.decDigits i) = ltrm n i := rfl
set_option maxHeartbeats 1600000 in
theorem litem_term (f : Bool) (n : Int) {p : List UInt8} (hp : p.length ≤ 1000) (hs : smB n = true) (w : World) :
    Calls Tryd.prog 19 #[.bool f, .int .i64 n, .string ⟨(120 :: p).toArray⟩] w fun e w' => e = .returned (.string ⟨(sgB f n ++ ltrmP n p).toArray⟩) ∧ Below w.heap.size w w' := by
  have HS := hid0 hs
  have hb := smB_true.1 hs
  have hd := ldec_le n.natAbs (by omega)
  clear hs
  have a0 : ¬ (9223372036854775807 < p.length + 1) := by omega
  have a1 : ¬ (9223372036854775807 < 1 + (p.length + 1)) := by omega
  have a3 : ¬ (9223372036854775807 < 3 + (p.length + 1)) := by omega
  have e0 : ¬ (9223372036854775807 < (Go.Lib.decDigits n.natAbs).length) := by omega
  have e1 : ¬ (9223372036854775807 < 1 + (Go.Lib.decDigits n.natAbs).length) := by omega
  have e3 : ¬ (9223372036854775807 < 3 + (Go.Lib.decDigits n.natAbs).length) := by omega
  have f0 : ¬ (9223372036854775807 < (Go.Lib.decDigits n.natAbs).length + 1) := by omega
  have f1 : ¬ (9223372036854775807 < 1 + (Go.Lib.decDigits n.natAbs).length + 1) := by omega
  have f3 : ¬ (9223372036854775807 < 3 + (Go.Lib.decDigits n.natAbs).length + 1) := by omega
  have g0 : ¬ (9223372036854775807 < (Go.Lib.decDigits n.natAbs).length + 1 + (p.length + 1)) := by omega
  have g1 : ¬ (9223372036854775807 < 1 + (Go.Lib.decDigits n.natAbs).length + 1 + (p.length + 1)) := by omega
  have g3 : ¬ (9223372036854775807 < 3 + (Go.Lib.decDigits n.natAbs).length + 1 + (p.length + 1)) := by omega
  by_cases h1 : n.natAbs = 1
  · have T := hid0 (show ltrmP n p = 120 :: p by unfold ltrmP; rw [if_pos h1])
    have h1' : ((n.natAbs : Int) == 1) = true := by simp; omega
    clear h1
    cases f
    · by_cases hn : n < 0
      · have E := hid0 (show sgB false n = [32, 45, 32] by simp [sgB, hn])
        go_enter Tryd.func19, Tryd.ntmps19
        go_wp2_with (first | (go_at_call 31; refine (labs_any n _ HS.out).mono ?_; rintro e w' ⟨rfl, rfl⟩) | (go_at_call 20; refine (ldig_abs n HS.out _).mono ?_; rintro e w1 ⟨rfl, hb1⟩))
        go_ret
        exact ⟨lret (by rw [E.out, T.out]; exact lbA [32, 45, 32] _), Below.refl _ _⟩
      · have E := hid0 (show sgB false n = [32, 43, 32] by simp [sgB, hn])
        go_enter Tryd.func19, Tryd.ntmps19
        go_wp2_with (first | (go_at_call 31; refine (labs_any n _ HS.out).mono ?_; rintro e w' ⟨rfl, rfl⟩) | (go_at_call 20; refine (ldig_abs n HS.out _).mono ?_; rintro e w1 ⟨rfl, hb1⟩))
        go_ret
        exact ⟨lret (by rw [E.out, T.out]; exact lbA [32, 43, 32] _), Below.refl _ _⟩
    · by_cases hn : n < 0
      · have E := hid0 (show sgB true n = [45] by simp [sgB, hn])
        go_enter Tryd.func19, Tryd.ntmps19
        go_wp2_with (first | (go_at_call 31; refine (labs_any n _ HS.out).mono ?_; rintro e w' ⟨rfl, rfl⟩) | (go_at_call 20; refine (ldig_abs n HS.out _).mono ?_; rintro e w1 ⟨rfl, hb1⟩))
        go_ret
        exact ⟨lret (by rw [E.out, T.out]; exact lbA [45] _), Below.refl _ _⟩
      · have E := hid0 (show sgB true n = [] by simp [sgB, hn])
        go_enter Tryd.func19, Tryd.ntmps19
        go_wp2_with (first | (go_at_call 31; refine (labs_any n _ HS.out).mono ?_; rintro e w' ⟨rfl, rfl⟩) | (go_at_call 20; refine (ldig_abs n HS.out _).mono ?_; rintro e w1 ⟨rfl, hb1⟩))
        go_ret
        exact ⟨lret (by rw [E.out, T.out]; exact lbA [] _), Below.refl _ _⟩
  · have T := hid0 (show ltrmP n p = (Go.Lib.decDigits n.natAbs ++ [42]) ++ 120 :: p by unfold ltrmP; rw [if_neg h1]; simp)
    have h1' : ((n.natAbs : Int) == 1) = false := by simp; omega
    clear h1
    cases f
    · by_cases hn : n < 0
      · have E := hid0 (show sgB false n = [32, 45, 32] by simp [sgB, hn])
        go_enter Tryd.func19, Tryd.ntmps19
        go_wp2_with (first | (go_at_call 31; refine (labs_any n _ HS.out).mono ?_; rintro e w' ⟨rfl, rfl⟩) | (go_at_call 20; refine (ldig_abs n HS.out _).mono ?_; rintro e w1 ⟨rfl, hb1⟩))
        go_ret
        exact ⟨lret (by rw [E.out, T.out, ← lbA [32, 45, 32], ← lbA, ← lbA]; apply ByteArray.ext; simp), hb1⟩
      · have E := hid0 (show sgB false n = [32, 43, 32] by simp [sgB, hn])
        go_enter Tryd.func19, Tryd.ntmps19
        go_wp2_with (first | (go_at_call 31; refine (labs_any n _ HS.out).mono ?_; rintro e w' ⟨rfl, rfl⟩) | (go_at_call 20; refine (ldig_abs n HS.out _).mono ?_; rintro e w1 ⟨rfl, hb1⟩))
        go_ret
        exact ⟨lret (by rw [E.out, T.out, ← lbA [32, 43, 32], ← lbA, ← lbA]; apply ByteArray.ext; simp), hb1⟩
    · by_cases hn : n < 0
      · have E := hid0 (show sgB true n = [45] by simp [sgB, hn])
        go_enter Tryd.func19, Tryd.ntmps19
        go_wp2_with (first | (go_at_call 31; refine (labs_any n _ HS.out).mono ?_; rintro e w' ⟨rfl, rfl⟩) | (go_at_call 20; refine (ldig_abs n HS.out _).mono ?_; rintro e w1 ⟨rfl, hb1⟩))
        go_ret
        exact ⟨lret (by rw [E.out, T.out, ← lbA [45], ← lbA, ← lbA]; apply ByteArray.ext; simp), hb1⟩
      · have E := hid0 (show sgB true n = [] by simp [sgB, hn])
        go_enter Tryd.func19, Tryd.ntmps19
        go_wp2_with (first | (go_at_call 31; refine (labs_any n _ HS.out).mono ?_; rintro e w' ⟨rfl, rfl⟩) | (go_at_call 20; refine (ldig_abs n HS.out _).mono ?_; rintro e w1 ⟨rfl, hb1⟩))
        go_ret
        exact ⟨lret (by rw [E.out, T.out, ← lbA [], ← lbA, ← lbA]; apply ByteArray.ext; simp), hb1⟩
theorem rFmt_arg {lo : Nat} {u : Value} {xs : List Int} {c : Int} (w : World) (H : IsInts lo w u xs) (hn : 96 < xs.length) :
    Calls Tryd.prog 7 #[.agg #[u, .int .i64 c]] w fun e w' => e = .returned (.tuple #[.string ⟨#[]⟩, .int .i64 1]) ∧ Below w.heap.size w w' := by
  obtain ⟨a, cap, rfl⟩ := H.shape
  have h1 : (96 : Int) < xs.length := by omega
  clear hn H
  go_enter Tryd.func7, Tryd.ntmps7
  go_wp2
  go_ret2
  exact ⟨rfl, allocBelow _ _⟩
theorem rFmt_large {u : Value} {xs : List Int} {c : Int} (w : World) (H : IsInts 0 w u xs) (hn : xs.length ≤ 96) (hs : smR (xs, c) = false) :
    Calls Tryd.prog 7 #[.agg #[u, .int .i64 c]] w fun e w' => e = .returned (.tuple #[.string ⟨#[]⟩, .int .i64 4]) ∧ Below w.heap.size w w' := by
  have HI := hid0 H
  obtain ⟨a, cap, rfl⟩ := H.shape
  have h1 : ¬ (96 : Int) < xs.length := by omega
  clear hn H
  go_enter Tryd.func7, Tryd.ntmps7
  go_wp2_with (go_at_call 18; refine (rSmall_any _ (HI.out.below (by go_grown))).mono ?_; rw [hs]; rintro e w1 ⟨rfl, hb1⟩)
  go_ret2
  exact ⟨rfl, thenBelow (allocBelow _ _) hb1⟩

theorem lret3 {l a b c : List UInt8} (h : l = a ++ b ++ c) : Hid ((⟨l.toArray⟩ : ByteArray) = ⟨a.toArray⟩ ++ ⟨b.toArray⟩ ++ ⟨c.toArray⟩) := by
  show _ = _; rw [h, lbA, lbA]
theorem lret2 {l a c : List UInt8} (h : l = a ++ c) : Hid ((⟨l.toArray⟩ : ByteArray) = ⟨a.toArray⟩ ++ ⟨c.toArray⟩) := by
  show _ = _; rw [h, lbA]
theorem sgB_emp (n : Int) (l : List UInt8) : sgB l.isEmpty n = signOf n l := by
  rw [← sgB_of]; cases l <;> rfl
theorem sgB_le (f : Bool) (n : Int) : (sgB f n).length ≤ 3 := by
  unfold sgB; split
  · split <;> simp
  · split <;> simp
set_option maxHeartbeats 2400000 in
set_option maxRecDepth 100000 in
theorem rFmt_ok {u : Value} {xs : List Int} {c : Int} (w : World) (H : IsInts 0 w u xs) (hn : xs.length ≤ 96) (hs : smR (xs, c) = true) :
    Calls Tryd.prog 7 #[.agg #[u, .int .i64 c]] w fun e w' => e = .returned (.tuple #[.string ⟨(lrow xs c).toArray⟩, .int .i64 0]) ∧ Below w.heap.size w w' := by
  have HI := hid0 H
  obtain ⟨a, cap, rfl, hl, hm, hi, hc⟩ := H
  have h1 : ¬ (96 : Int) < xs.length := by omega
  have SA := hid0 (smR_true.1 hs).1
  have SC := hid0 (smR_true.1 hs).2
  have HC := hid0 hc
  have HN := hid0 hn
  clear hn hl hm hi hc
  go_enter Tryd.func7, Tryd.ntmps7
  go_wp2_with (go_at_call 18; refine (rSmall_any _ (HI.out.below (by go_grown))).mono ?_; rw [hs]; rintro e w1 ⟨rfl, hb1⟩)
  have hB1 : Below w.heap.size w w1 := thenBelow (allocBelow _ _) hb1
  obtain ⟨p1, p2⟩ := blk hb1 (n := w.heap.size) (by go_size)
  have y0 : w1.cell? ⟨w.heap.size, 0, none⟩ = some (.slice a xs.length cap) := by rw [p1]; simp
  have y1 : w1.cell? ⟨w.heap.size, 1, none⟩ = some (.int .i64 c) := by rw [p1]; simp
  clear p1 p2 hb1 h1
  go_loopw [4, 5] (fun v u wr => ∃ k : Nat, k ≤ xs.length ∧ u = .int .i64 k ∧ v = .string ⟨(ltxt xs k).toArray⟩ ∧ Below w1.heap.size w1 wr) (fun _ u _ => xs.length - (intOf u).toNat)
  case atStart => exact ⟨0, Nat.zero_le _, rfl, rfl, Below.refl _ _⟩
  case round =>
    obtain ⟨k, hk, rfl, rfl, hb⟩ := hrel
    have HB := hid0 hb
    have z0 := keep1 y0 hb
    have z1 := keep1 y1 hb
    have hlen := ltxt_le SA.out (by have := HN.out; omega) k hk
    have hk96 := HN.out
    clear hb y0 y1
    by_cases h1 : k < xs.length
    · rcases HC.out with rfl | ⟨b, off, rfl, _, hbk, hcell⟩
      · exact absurd h1 (by simp)
      · have g1 : wr.cell? ⟨b, off + k, none⟩ = some (.int .i64 (xs.getD k 0)) := ((thenBelow hB1 HB.out).cell (p := ⟨b, off + k, none⟩) hbk).trans (hcell k h1)
        have SX := hid0 (smB_at SA.out h1)
        have LZ := hid0 (@ltxt_zero xs k)
        have LM := hid0 (@ltxt_more xs k)
        obtain ⟨x, hx⟩ : ∃ x, xs.getD k 0 = x := ⟨_, rfl⟩
        have hx' : xs[k] = x := by rw [← hx]; simp [h1]
        rw [hx] at g1 SX LZ LM
        by_cases hz : x = 0
        · have hz' : (x == 0) = true := by simp [hz]
          have L1 := hid0 (LZ.out hz)
          clear hz hlen
          go_wp2_with fail
          go_roundw
          case rel => exact ⟨k + 1, by omega, by go_num, by rw [L1.out], HB.out⟩
          case measure => simp [intOf]; omega
        · have hz' : (x == 0) = false := by simp [hz]
          have L1 := hid0 (LM.out hz)
          have hi0 : (0 : Int) ≤ (k : Int) := by omega
          have hi1 : (k : Int) ≤ 9223372036854775807 := by omega
          have hti : (k : Int).toNat = k := by omega
          have hdk := ldec_le k (by omega)
          have hdk' : (Go.Lib.decDigits k).length ≤ 1000 := by omega
          have q1 : ¬ (9223372036854775807 < 1 + (Go.Lib.decDigits k).length) := by omega
          have q2 := lsign_le x (ltxt xs k)
          have q3 := ltrm_le (i := k) SX.out (by omega)
          have q4 : ∀ F, ¬ (9223372036854775807 < (ltxt xs k).length + ((sgB F x).length + (ltrm x k).length)) := fun F => by have := sgB_le F x; omega
          clear hz
          go_wp2_with fail
          go_region_held3 (fun w' => w'.cell? ⟨w.heap.size, 0, none⟩ = some (.slice (some ⟨b, off, none⟩) xs.length cap) ∧ w'.cell? ⟨b, off + k, none⟩ = some (.int .i64 x) ∧ Below wr.heap.size wr w') (first | exact ⟨z0, g1, Below.refl _ _⟩ | exact keepS ⟨z0, g1, Below.refl _ _⟩ (drewBelow _) | exact keepS (by assumption) (by assumption)) (first | (go_at_call 20; refine (ldigits_any k hi0 hi1 _).mono ?_; rw [hti]; rintro e w4 ⟨rfl, hb4⟩) | (go_at_call 19; refine (litem_term _ x hdk' SX.out _).mono ?_; rw [ltrmP_of]; rintro e w5 ⟨rfl, hb5⟩))
          obtain ⟨-, -, hb6⟩ := (by assumption : _ ∧ _ ∧ Below wr.heap.size wr w5)
          go_wp2_with fail
          go_roundw
          case rel => exact ⟨k + 1, by omega, by go_num, congrArg Value.string (by rw [L1.out, lbA, sgB_emp, List.append_assoc]), thenBelow HB.out hb6⟩
          case measure => simp [intOf]; omega
    · obtain rfl : k = xs.length := by omega
      have hdc : (Go.Lib.decDigits c.natAbs).length ≤ 21 := ldec_le _ (by have := smB_true.1 SC.out; omega)
      have q4 : ∀ F, ¬ (9223372036854775807 < (ltxt xs xs.length).length + ((sgB F c).length + (Go.Lib.decDigits c.natAbs).length)) := fun F => by have := sgB_le F c; omega
      have q5 : ∀ F, ¬ (9223372036854775807 < (ltxt xs xs.length).length + ((sgB F c).length + (Go.Lib.decDigits c.natAbs).length) + 5) := fun F => by have := sgB_le F c; omega
      have q6 : ¬ (9223372036854775807 < (ltxt xs xs.length).length + 5) := by omega
      by_cases hcz : c = 0
      · subst hcz
        by_cases he : ltxt xs xs.length = []
        · have he' : (ltxt xs xs.length).isEmpty = true := by rw [he]; rfl
          have E := lret3 (show lrow xs 0 = ltxt xs xs.length ++ (sgB true 0 ++ Go.Lib.decDigits 0) ++ [32, 62, 61, 32, 48] by
            rw [lrow, lmid_some (fun e => e.2 he), ← sgB_emp, he']; simp only [List.append_assoc, Int.natAbs_zero])
          have r4 : ∀ F, ¬ (9223372036854775807 < (ltxt xs xs.length).length + ((sgB F 0).length + (Go.Lib.decDigits 0).length)) := q4
          have r5 : ∀ F, ¬ (9223372036854775807 < (ltxt xs xs.length).length + ((sgB F 0).length + (Go.Lib.decDigits 0).length) + 5) := q5
          clear he q4 q5
          go_wp2_with (go_at_call 19; refine (litem_const _ 0 SC.out _).mono ?_; rintro e w5 ⟨rfl, hb5⟩)
          go_ret2
          exact ⟨by rw [E.out]; rfl, thenBelow hB1 (thenBelow HB.out hb5)⟩
        · have he' : (ltxt xs xs.length).isEmpty = false := by cases h : ltxt xs xs.length with | nil => exact absurd h he | cons _ _ => rfl
          have E := lret2 (show lrow xs 0 = ltxt xs xs.length ++ [32, 62, 61, 32, 48] by rw [lrow, lmid_none rfl he])
          clear he
          go_wp2_with fail
          go_ret2
          exact ⟨by rw [E.out]; rfl, thenBelow hB1 HB.out⟩
      · have hc' : (c == 0) = false := by simp [hcz]
        have E := lret3 (show lrow xs c = ltxt xs xs.length ++ (sgB (ltxt xs xs.length).isEmpty c ++ Go.Lib.decDigits c.natAbs) ++ [32, 62, 61, 32, 48] by
          rw [lrow, lmid_some (fun e => hcz e.1), ← sgB_emp]; simp only [List.append_assoc])
        go_wp2_with (go_at_call 19; refine (litem_const _ c SC.out _).mono ?_; rintro e w5 ⟨rfl, hb5⟩)
        go_ret2
        exact ⟨by rw [E.out]; rfl, thenBelow hB1 (thenBelow HB.out hb5)⟩
/-- The text and the error. -/
def fmtT (xs : List Int) (c : Int) : List UInt8 := if 96 < xs.length then [] else if smR (xs, c) = true then lrow xs c else []
def fmtE (xs : List Int) (c : Int) : Int := if 96 < xs.length then 1 else if smR (xs, c) = true then 0 else 4
theorem lFormat {u : Value} {xs : List Int} (c : Int) {w : World} (H : IsInts 0 w u xs) (ht : TabW w) :
    Calls Tryd.prog 6 #[.agg #[u, .int .i64 c]] w fun e w' => e = .returned (.tuple #[.string ⟨(fmtT xs c).toArray⟩, .int .i64 (fmtE xs c)]) ∧ Below w.heap.size w w' := by
  unfold fmtT fmtE
  by_cases h : 96 < xs.length
  · rw [if_pos h, if_pos h]; exact lFmt_arg w H h
  · rw [if_neg h, if_neg h]
    cases hs : smR (xs, c) with
    | false => exact lFmt_large w H (by omega) hs
    | true =>
      by_cases hc : c = 0
      · subst hc
        by_cases he : ltxt xs xs.length = []
        · exact lFmt_z0 w H (by omega) hs ht he
        · exact lFmt_z1 w H (by omega) hs ht he
      · exact lFmt_ne w H (by omega) hs ht hc
theorem rFormat {u : Value} {xs : List Int} (c : Int) {w : World} (H : IsInts 0 w u xs) :
    Calls Tryd.prog 7 #[.agg #[u, .int .i64 c]] w fun e w' => e = .returned (.tuple #[.string ⟨(fmtT xs c).toArray⟩, .int .i64 (fmtE xs c)]) ∧ Below w.heap.size w w' := by
  unfold fmtT fmtE
  by_cases h : 96 < xs.length
  · rw [if_pos h, if_pos h]; exact rFmt_arg w H h
  · rw [if_neg h, if_neg h]
    cases hs : smR (xs, c) with
    | false => exact rFmt_large w H (by omega) hs
    | true => exact rFmt_ok w H (by omega) hs

set_option maxHeartbeats 1600000 in
theorem walk_Formats {u : Value} {xs : List Int} {c : Int} (w : World) (H0 : IsInts 0 w u xs) (_b0 : I64 c) (ht : TabW w) :
    Calls Tryd.prog 3 #[.agg #[u, .int .i64 c]] w fun e w' => e = .returned (.bool true) ∧ Below w.heap.size w w' := by
  obtain ⟨a, cap, rfl⟩ := H0.shape
  have G0 := hid0 H0
  have HT := hid0 ht
  clear H0 ht
  by_cases h1 : 200 < xs.length
  · have h1' : (200 : Int) < xs.length := by omega
    go_enter Tryd.func3, Tryd.ntmps3
    go_wp2_with (first | (go_at_call 4; refine (long_any _ _ _ _ _).mono ?_; rintro e w1 ⟨rfl, hb1⟩; have hB1 : Below w.heap.size w w1 := (Below.trans (by go_grown) (hb1.mono (by go_size))); obtain ⟨p1, p2⟩ := blk hb1 (n := w.heap.size) (by go_size); have hz1 : w.heap.size < w1.heap.size := (by have := hb1.size; simp at this; omega); clear hb1) | (go_at_call 5; refine (known_any _).mono ?_; rintro e wk ⟨rfl, hbk⟩))
    go_ret
    exact ⟨rfl, thenBelow hB1 hbk⟩
  · have h1' : ¬ (200 : Int) < xs.length := by omega
    go_enter Tryd.func3, Tryd.ntmps3
    go_wp2_with (first | (go_at_call 4; refine (long_any _ _ _ _ _).mono ?_; rintro e w1 ⟨rfl, hb1⟩; have hB1 : Below w.heap.size w w1 := (Below.trans (by go_grown) (hb1.mono (by go_size))); obtain ⟨p1, p2⟩ := blk hb1 (n := w.heap.size) (by go_size); have hz1 : w.heap.size < w1.heap.size := (by have := hb1.size; simp at this; omega); clear hb1) | (go_at_call 6; refine (lFormat c (G0.out.below hB1) (HT.out.below hB1)).mono ?_; rintro e w2 ⟨rfl, hb2⟩; have hB2 : Below w.heap.size w w2 := (thenBelow hB1 hb2); obtain ⟨p3, p4⟩ := blk hb2 (n := w.heap.size) hz1; have hz2 : w.heap.size < w2.heap.size := (by have := hb2.size; omega); clear hb2) | (go_at_call 7; refine (rFormat c (G0.out.below hB2)).mono ?_; rintro e w3 ⟨rfl, hb3⟩; have hB3 : Below w.heap.size w w3 := (thenBelow hB2 hb3); clear hb3) | (go_at_call 5; refine (known_any _).mono ?_; rintro e wk ⟨rfl, hbk⟩))
    go_ret
    exact ⟨rfl, thenBelow hB3 hbk⟩
end Go.Proofs.YtlopmmedokllaaaDoor
namespace Go.Proofs.YtlopmmedokllaaaDoor
open Go.RowKit Go.Deep Go.ChangeShapes Go.WideShapes Go.ChangeAt Go.Joins
theorem cells_int : Tryd.prog.cellsOf 3 = 1 := by kernel_rfl
theorem cells_ints : Tryd.prog.cellsOf 22 = 1 := by kernel_rfl
theorem cells_row : Tryd.prog.cellsOf 24 = 2 := by kernel_rfl
section
variable {H : Type} {enc : TypeId × Value → H} {w : World} {base : Nat} {sp : Nat → Bool} {held : Bool}

theorem int_of_trod {n : Nat} {v : Value} {x : DataW H × List MemPlace} (h : DataW.trod enc Tryd.prog w base sp held n 3 [v] = some x) : ∃ c, v = .int .i64 c ∧ I64 c := by
  obtain ⟨c, e1, _, e3⟩ := DataW.trod_int Tryd.underlying3 h
  simp at e1
  exact ⟨c, e1, I64.of_wf e3⟩

set_option maxRecDepth 100000 in
theorem row_of_trod {n : Nat} {cs : List Value} {x : DataW H × List MemPlace} (h : DataW.trod enc Tryd.prog w base sp held n 24 cs = some x) :
    ∃ v c xs, cs = [v, .int .i64 c] ∧ IsInts 0 w v xs ∧ I64 c := by
  obtain ⟨ys, m, _, _, hlen, _, hf⟩ := DataW.trod_struct Tryd.underlying24 h
  rw [cells_row] at hlen
  match cs, hlen with
  | [v0, v1], _ =>
    have h0 : DataW.trod enc Tryd.prog w base sp held m 22 (([v0, v1].drop 0).take (Tryd.prog.cellsOf 22)) = ys[0]? := hf 0 _ rfl
    have h1 : DataW.trod enc Tryd.prog w base sp held m 3 (([v0, v1].drop 1).take (Tryd.prog.cellsOf 3)) = ys[1]? := hf 1 _ rfl
    rw [cells_ints] at h0
    rw [cells_int] at h1
    simp only [List.drop_zero, List.take_succ_cons, List.take_zero] at h0
    simp only [List.drop_succ_cons, List.drop_zero, List.take_succ_cons, List.take_zero] at h1
    have hx : ∀ i, i < 2 → ∃ y, ys[i]? = some y := fun i hi => ⟨ys[i]'(by simp at *; omega), List.getElem?_eq_getElem _⟩
    obtain ⟨y0, e0⟩ := hx 0 (by omega)
    obtain ⟨y1, e1⟩ := hx 1 (by omega)
    rw [e0] at h0
    rw [e1] at h1
    obtain ⟨xs, hxs⟩ := ints_of_trod Tryd.underlying22 Tryd.underlying3 cells_int h0
    obtain ⟨c, rfl, hc⟩ := int_of_trod h1
    exact ⟨v0, c, xs, rfl, hxs, hc⟩

end

set_option maxRecDepth 100000 in
/-- The laws' arguments, by value. -/
theorem arg_row {H : Type} {enc : TypeId × Value → H} {w : World} {r : Reach} {b0 : Nat} {v : Value} {d : DataW H} {p : List MemPlace} (hv : Value.okWide Tryd.prog w r b0 24 v) (h : DataW.Trod enc Tryd.prog w 0 (fun _ => true) true 24 v d p) :
    ∃ u c xs, v = .agg #[u, .int .i64 c] ∧ IsInts 0 w u xs ∧ I64 c := by
  obtain ⟨cs, rfl, _⟩ := okWide_struct Tryd.underlying24 hv
  obtain ⟨fuel, hf⟩ := h
  obtain ⟨u, c, xs, e, h1, h2⟩ := row_of_trod hf
  have e2 : cs = #[u, .int .i64 c] := by obtain ⟨l⟩ := cs; simp [Value.cells] at e; simpa using e
  exact ⟨u, c, xs, by rw [e2], h1, h2⟩
end Go.Proofs.YtlopmmedokllaaaDoor
namespace Go.Proofs.YtlopmmedokllaaaDoor
open Go.RowKit Go.Deep
theorem tab_of_laid {W : World} (h : laidMetH Tryd.prog [("math/bits.deBruijn32tab", Rows.laid_math_bits_deBruijn32tab), ("math/bits.deBruijn64tab", Rows.laid_math_bits_deBruijn64tab), ("internal/strconv.uint64pow10", Rows.laid_internal_strconv_uint64pow10)] W) : TabW W := by
  have h1 := h.filter fun x => x.1 == "internal/strconv.uint64pow10"
  have h2 := (laidMetH_iff.1 h1).1
  have e : ((([("math/bits.deBruijn32tab", Rows.laid_math_bits_deBruijn32tab), ("math/bits.deBruijn64tab", Rows.laid_math_bits_deBruijn64tab), ("internal/strconv.uint64pow10", Rows.laid_internal_strconv_uint64pow10)] : List (String × DataW Unit)).filter fun x => x.1 == "internal/strconv.uint64pow10").filter fun x => x.2.handleName?.isNone) = [("internal/strconv.uint64pow10", Go.Lib.tabData .u64 Go.Lib.pow10Tab)] := by kernel_rfl
  rw [e] at h2
  exact Go.Lib.tabIs_of_head (g := 0) (t := 71) (e := 65) (n := 20) (by kernel_rfl) (by kernel_rfl) Tryd.underlying71 Tryd.underlying65 (by kernel_rfl) (by kernel_rfl) h2
end Go.Proofs.YtlopmmedokllaaaDoor
