/-
  THE TEXT OF ONE ROW: the contracts of strings.Builder at this program, the texts of single digits, and what FormatRow returns for the row that every law asks of it.
-/
import Derived.Test.YtbdnihjokndhaaaDoorSmall
import Derived.Shelf.Strings.Builder1
import Derived.WalkSpells
import Derived.StillTailTactics
namespace Go.Proofs.YtbdnihjokndhaaaDoor
open Go.RowKit Go.Shelf

def renB : Go.Shelf.Ren := ⟨fun | 240 => 88 | 276 => 92 | 166 => 77 | 170 => 75 | 169 => 78 | n => n, fun | 0 => 0 | 3 => 3 | 4 => 4 | 5 => 5 | 9 => 9 | 20 => 20 | 37 => 91 | 70 => 90 | 72 => 93 | 75 => 98 | 80 => 101 | 127 => 103 | 164 => 106 | n => n, fun | n => n⟩
theorem laysB240 : Go.Proofs.Lays.n240 Tryd.prog renB := {
  mixed := by kernel_rfl
  f240 := Tryd.func88.trans (congrArg some (by kernel_rfl))
  f276 := Tryd.func92.trans (congrArg some (by kernel_rfl))
  t0 := Tryd.underlying0
  a0 := Tryd.isAgg0
  z0 := Tryd.sizeOf0
  v0 := Tryd.zeroValue0
  t4 := Tryd.underlying4
  a4 := Tryd.isAgg4
  z4 := Tryd.sizeOf4
  v4 := Tryd.zeroValue4
  t9 := Tryd.underlying9
  a9 := Tryd.isAgg9
  z9 := Tryd.sizeOf9
  v9 := Tryd.zeroValue9
  t20 := Tryd.underlying20
  a20 := Tryd.isAgg20
  z20 := Tryd.sizeOf20
  v20 := Tryd.zeroValue20
  t70 := Tryd.underlying90
  a70 := Tryd.isAgg90
  z70 := Tryd.sizeOf90
  v70 := Tryd.zeroValue90
  t72 := Tryd.underlying93
  a72 := Tryd.isAgg93
  z72 := Tryd.sizeOf93
  v72 := Tryd.zeroValue93
  t164 := Tryd.underlying106
  a164 := Tryd.isAgg106
  z164 := Tryd.sizeOf106
  v164 := Tryd.zeroValue106 }
theorem laysB166 : Go.Proofs.Lays.n166 Tryd.prog renB := {
  mixed := by kernel_rfl
  f166 := Tryd.func77.trans (congrArg some (by kernel_rfl))
  f240 := Tryd.func88.trans (congrArg some (by kernel_rfl))
  f276 := Tryd.func92.trans (congrArg some (by kernel_rfl))
  t0 := Tryd.underlying0
  a0 := Tryd.isAgg0
  z0 := Tryd.sizeOf0
  v0 := Tryd.zeroValue0
  t3 := Tryd.underlying3
  a3 := Tryd.isAgg3
  z3 := Tryd.sizeOf3
  v3 := Tryd.zeroValue3
  t4 := Tryd.underlying4
  a4 := Tryd.isAgg4
  z4 := Tryd.sizeOf4
  v4 := Tryd.zeroValue4
  t9 := Tryd.underlying9
  a9 := Tryd.isAgg9
  z9 := Tryd.sizeOf9
  v9 := Tryd.zeroValue9
  t20 := Tryd.underlying20
  a20 := Tryd.isAgg20
  z20 := Tryd.sizeOf20
  v20 := Tryd.zeroValue20
  t37 := Tryd.underlying91
  a37 := Tryd.isAgg91
  z37 := Tryd.sizeOf91
  v37 := Tryd.zeroValue91
  t70 := Tryd.underlying90
  a70 := Tryd.isAgg90
  z70 := Tryd.sizeOf90
  v70 := Tryd.zeroValue90
  t72 := Tryd.underlying93
  a72 := Tryd.isAgg93
  z72 := Tryd.sizeOf93
  v72 := Tryd.zeroValue93
  t75 := Tryd.underlying98
  a75 := Tryd.isAgg98
  z75 := Tryd.sizeOf98
  v75 := Tryd.zeroValue98
  t164 := Tryd.underlying106
  a164 := Tryd.isAgg106
  z164 := Tryd.sizeOf106
  v164 := Tryd.zeroValue106 }
theorem laysB170 : Go.Proofs.Lays.n170 Tryd.prog renB := {
  mixed := by kernel_rfl
  f170 := Tryd.func75.trans (congrArg some (by kernel_rfl))
  t0 := Tryd.underlying0
  a0 := Tryd.isAgg0
  z0 := Tryd.sizeOf0
  v0 := Tryd.zeroValue0
  t3 := Tryd.underlying3
  a3 := Tryd.isAgg3
  z3 := Tryd.sizeOf3
  v3 := Tryd.zeroValue3
  t37 := Tryd.underlying91
  a37 := Tryd.isAgg91
  z37 := Tryd.sizeOf91
  v37 := Tryd.zeroValue91
  t70 := Tryd.underlying90
  a70 := Tryd.isAgg90
  z70 := Tryd.sizeOf90
  v70 := Tryd.zeroValue90
  t72 := Tryd.underlying93
  a72 := Tryd.isAgg93
  z72 := Tryd.sizeOf93
  v72 := Tryd.zeroValue93 }
theorem laysB169 : Go.Proofs.Lays.n169 Tryd.prog renB := {
  mixed := by kernel_rfl
  f169 := Tryd.func78.trans (congrArg some (by kernel_rfl))
  t0 := Tryd.underlying0
  a0 := Tryd.isAgg0
  z0 := Tryd.sizeOf0
  v0 := Tryd.zeroValue0
  t3 := Tryd.underlying3
  a3 := Tryd.isAgg3
  z3 := Tryd.sizeOf3
  v3 := Tryd.zeroValue3
  t9 := Tryd.underlying9
  a9 := Tryd.isAgg9
  z9 := Tryd.sizeOf9
  v9 := Tryd.zeroValue9
  t37 := Tryd.underlying91
  a37 := Tryd.isAgg91
  z37 := Tryd.sizeOf91
  v37 := Tryd.zeroValue91
  t70 := Tryd.underlying90
  a70 := Tryd.isAgg90
  z70 := Tryd.sizeOf90
  v70 := Tryd.zeroValue90
  t72 := Tryd.underlying93
  a72 := Tryd.isAgg93
  z72 := Tryd.sizeOf93
  v72 := Tryd.zeroValue93
  t127 := Tryd.underlying103
  a127 := Tryd.isAgg103
  z127 := Tryd.sizeOf103
  v127 := Tryd.zeroValue103 }
theorem extraB : Builder.Extra Tryd.prog renB := {
  sizeBuilder := by kernel_rfl
  liesBuilder := by kernel_rfl
  t5 := Tryd.underlying5
  a5 := Tryd.isAgg5
  z5 := Tryd.sizeOf5
  v5 := Tryd.zeroValue5
  infoByte := by kernel_rfl
  cellsByte := by kernel_rfl
  sizeByte := by kernel_rfl
  neB5 := by decide }

theorem B_Len (B b : Nat) (bs : List Value) (w : World) (h : Lib.IsBuilder 93 5 B b bs w) :
    Calls Tryd.prog 75 #[.pointer (some ⟨b, 0, none⟩)] w fun e w' => e = .returned (.int .i64 bs.length) ∧ w' = w := Any.Builder_Len laysB170 B b bs w h
theorem B_WriteString (B b : Nat) (bs : List Value) (s : ByteArray) (w : World) (h : Lib.IsBuilder 93 5 B b bs w) (hlen : bs.length + s.size ≤ 140737488355328) (hBw : B ≤ w.heap.size) :
    Calls Tryd.prog 77 #[.pointer (some ⟨b, 0, none⟩), .string s] w fun e w' => e = .returned (.tuple #[.int .i64 s.size, .nilIface]) ∧ (Lib.BuilderAt 93 5 B b (.pointer (some ⟨b, 0, none⟩)) (bs ++ Lib.strCells s) w' ∧ Below B w w') := Any.Builder_WriteString laysB166 extraB B b bs s w h hlen hBw
theorem B_String (B b : Nat) (l : List UInt8) (w : World) (h : Lib.IsBuilder 93 5 B b (Lib.byteCells l) w) (h0 : l ≠ []) :
    Calls Tryd.prog 78 #[.pointer (some ⟨b, 0, none⟩)] w fun e w' => e = .returned (.string ⟨l.toArray⟩) ∧ Below B w w' := Any.Builder_String laysB169 extraB B b l w h h0

theorem itoa0 (w : World) : Calls Tryd.prog 76 #[.int .i64 0] w fun e w' => e = .returned (.string ⟨#[48]⟩) ∧ w = w' := by
  go_enter Tryd.func76, Tryd.ntmps76
  go_wp2
  go_ret
  exact ⟨by rfl, rfl⟩
theorem itoa1 (w : World) : Calls Tryd.prog 76 #[.int .i64 1] w fun e w' => e = .returned (.string ⟨#[49]⟩) ∧ w = w' := by
  go_enter Tryd.func76, Tryd.ntmps76
  go_wp2
  go_ret
  exact ⟨by rfl, rfl⟩
theorem itoa2 (w : World) : Calls Tryd.prog 76 #[.int .i64 2] w fun e w' => e = .returned (.string ⟨#[50]⟩) ∧ w = w' := by
  go_enter Tryd.func76, Tryd.ntmps76
  go_wp2
  go_ret
  exact ⟨by rfl, rfl⟩
theorem itoa3 (w : World) : Calls Tryd.prog 76 #[.int .i64 3] w fun e w' => e = .returned (.string ⟨#[51]⟩) ∧ w = w' := by
  go_enter Tryd.func76, Tryd.ntmps76
  go_wp2
  go_ret
  exact ⟨by rfl, rfl⟩
set_option maxRecDepth 100000 in
theorem term20 (w : World) : Calls Tryd.prog 74 #[.int .i64 2, .int .i64 0] w fun e w' => e = .returned (.string ⟨#[50, 42, 120, 48]⟩) ∧ w = w' := by
  have hmx : (max 2 (-2) : Int) = 2 := rfl
  go_enter Tryd.func74, Tryd.ntmps74
  go_wp2_with (first | ((with_reducible refine (itoa0 _).mono ?_); rintro e w' ⟨rfl, rfl⟩) | ((with_reducible refine (itoa2 _).mono ?_); rintro e w' ⟨rfl, rfl⟩))
  go_ret
  exact ⟨by rfl, rfl⟩
set_option maxRecDepth 100000 in
theorem term11 (w : World) : Calls Tryd.prog 74 #[.int .i64 (-1), .int .i64 1] w fun e w' => e = .returned (.string ⟨#[120, 49]⟩) ∧ w = w' := by
  go_enter Tryd.func74, Tryd.ntmps74
  go_wp2_with ((with_reducible refine (itoa1 _).mono ?_); rintro e w' ⟨rfl, rfl⟩)
  go_ret
  exact ⟨by rfl, rfl⟩

theorem B_Len' (B b : Nat) (l : List UInt8) (w : World) (h : Lib.IsBuilder 93 5 B b (Lib.byteCells l) w) :
    Calls Tryd.prog 75 #[.pointer (some ⟨b, 0, none⟩)] w fun e w' => e = .returned (.int .i64 l.length) ∧ w = w' :=
  (B_Len B b _ w h).mono fun e w' hh => ⟨by rw [hh.1, Lib.byteCells_length], hh.2.symm⟩
theorem B_Write' (B b : Nat) (l : List UInt8) (s : ByteArray) (w : World) (h : Lib.IsBuilder 93 5 B b (Lib.byteCells l) w) (hlen : l.length + s.size ≤ 200000) (hBw : B ≤ w.heap.size) :
    Calls Tryd.prog 77 #[.pointer (some ⟨b, 0, none⟩), .string s] w fun e w' => e = .returned (.tuple #[.int .i64 s.size, .nilIface]) ∧ Hid (Lib.IsBuilder 93 5 B b (Lib.byteCells (l ++ s.data.toList)) w') ∧ Below B w w' :=
  (B_WriteString B b _ s w h (by rw [Lib.byteCells_length]; omega) hBw).mono fun e w' hh => ⟨hh.1, by show Lib.IsBuilder _ _ _ _ _ _; rw [Lib.byteCells_append, ← Lib.strCells_eq]; exact .inr hh.2.1, hh.2.2⟩

/-- writeItem: the sign as the place asks for it, then the item. -/
def signOf (c : Int) (l : List UInt8) : List UInt8 := if l = [] then (if c < 0 then [45] else []) else if c < 0 then [32, 45, 32] else [32, 43, 32]
set_option maxHeartbeats 800000 in
theorem writeItem_any (B b : Nat) (l : List UInt8) (c : Int) (s : ByteArray) (w : World) (h : Lib.IsBuilder 93 5 B b (Lib.byteCells l) w) (hlen : l.length + s.size ≤ 100000) (hBw : B ≤ w.heap.size) :
    Calls Tryd.prog 73 #[.pointer (some ⟨b, 0, none⟩), .int .i64 c, .string s] w fun e w' => e = .returned (.tuple #[]) ∧ Hid (Lib.IsBuilder 93 5 B b (Lib.byteCells (l ++ signOf c l ++ s.data.toList)) w') ∧ Below B w w' := by
  have H := hid0 h
  clear h
  by_cases hl : l = []
  · subst hl
    by_cases hc : c < 0
    · have E : Hid (signOf c [] = [45]) := by show _ = _; simp [signOf, hc]
      simp only [List.length_nil] at hlen
      go_enter Tryd.func73, Tryd.ntmps73
      go_wp2_with (first | (go_at_call 75; (with_reducible refine (B_Len' B b [] _ H.out).mono ?_); rintro e w' ⟨rfl, rfl⟩) | ((with_reducible refine (B_Write' B b [] _ _ H.out (by decide) hBw).mono ?_); rintro e w1 ⟨rfl, H1, hb1⟩; have hBw1 : B ≤ w1.heap.size := Nat.le_trans hBw hb1.size) | ((with_reducible refine (B_Write' B b _ _ _ H1.out (by simp; omega) hBw1).mono ?_); rintro e w2 ⟨rfl, H2, hb2⟩))
      go_end0
      exact ⟨rfl, by rw [E.out]; exact H2.out, hb1.trans hb2⟩
    · have E : Hid (signOf c [] = []) := by show _ = _; simp [signOf, hc]
      simp only [List.length_nil] at hlen
      go_enter Tryd.func73, Tryd.ntmps73
      go_wp2_with (first | (go_at_call 75; (with_reducible refine (B_Len' B b [] _ H.out).mono ?_); rintro e w' ⟨rfl, rfl⟩) | ((with_reducible refine (B_Write' B b [] _ _ H.out (by simp; omega) hBw).mono ?_); rintro e w1 ⟨rfl, H1, hb1⟩; have hBw1 : B ≤ w1.heap.size := Nat.le_trans hBw hb1.size))
      go_end0
      exact ⟨rfl, by rw [E.out]; exact H1.out, hb1⟩
  · have hl0 : 0 < l.length := by cases l with | nil => exact absurd rfl hl | cons x xs => simp
    have hl1 : (((l.length : Nat) : Int) == 0) = false := by simp; omega
    by_cases hc : c < 0
    · have E : Hid (signOf c l = [32, 45, 32]) := by show _ = _; simp [signOf, hc, hl]
      clear hl
      go_enter Tryd.func73, Tryd.ntmps73
      go_wp2_with (first | (go_at_call 75; (with_reducible refine (B_Len' B b l _ H.out).mono ?_); rintro e w' ⟨rfl, rfl⟩) | ((with_reducible refine (B_Write' B b l _ _ H.out (by (have : l.length ≤ 100000 := by omega); exact Nat.add_le_add this (by decide : _ ≤ 100000)) hBw).mono ?_); rintro e w1 ⟨rfl, H1, hb1⟩; have hBw1 : B ≤ w1.heap.size := Nat.le_trans hBw hb1.size) | ((with_reducible refine (B_Write' B b _ _ _ H1.out (by simp; omega) hBw1).mono ?_); rintro e w2 ⟨rfl, H2, hb2⟩))
      go_end0
      exact ⟨rfl, by rw [E.out]; exact H2.out, hb1.trans hb2⟩
    · have E : Hid (signOf c l = [32, 43, 32]) := by show _ = _; simp [signOf, hc, hl]
      clear hl
      go_enter Tryd.func73, Tryd.ntmps73
      go_wp2_with (first | (go_at_call 75; (with_reducible refine (B_Len' B b l _ H.out).mono ?_); rintro e w' ⟨rfl, rfl⟩) | ((with_reducible refine (B_Write' B b l _ _ H.out (by (have : l.length ≤ 100000 := by omega); exact Nat.add_le_add this (by decide : _ ≤ 100000)) hBw).mono ?_); rintro e w1 ⟨rfl, H1, hb1⟩; have hBw1 : B ≤ w1.heap.size := Nat.le_trans hBw hb1.size) | ((with_reducible refine (B_Write' B b _ _ _ H1.out (by simp; omega) hBw1).mono ?_); rintro e w2 ⟨rfl, H2, hb2⟩))
      go_end0
      exact ⟨rfl, by rw [E.out]; exact H2.out, hb1.trans hb2⟩

set_option maxHeartbeats 1600000 in
set_option maxRecDepth 100000 in
theorem format_known (b off cap : Nat) (w : World) (hb : b < w.heap.size) (hi : IsInts 0 w (.slice (some ⟨b, off, none⟩) 3 cap) [2, -1, 0])
    (c0 : w.cell? ⟨b, off, none⟩ = some (.int .i64 2)) (c1 : w.cell? ⟨b, off + 1, none⟩ = some (.int .i64 (-1))) (c2 : w.cell? ⟨b, off + 2, none⟩ = some (.int .i64 0)) :
    Calls Tryd.prog 41 #[.agg #[.slice (some ⟨b, off, none⟩) 3 cap, .int .i64 (-3)]] w fun e w' => e = .returned (.tuple #[.string ⟨#[50, 42, 120, 48, 32, 45, 32, 120, 49, 32, 45, 32, 51, 32, 62, 61, 32, 48]⟩, .int .i64 0]) ∧ Below w.heap.size w w' := by
  have HI := hid0 hi
  have S : smR ([2, -1, 0], -3) = true := by decide
  clear hi
  go_enter Tryd.func41, Tryd.ntmps41
  go_wp2_with (first | (go_at_call 42; refine (small_any _ (HI.out.below (by go_grown))).mono ?_; rintro e w1 ⟨rfl, hb1⟩; have hB1 : Below w.heap.size w w1 := (thenBelow (allocBelow _ _) hb1); obtain ⟨p1, p2⟩ := blk hb1 (n := w.heap.size) (by go_size); have hz1 : w.heap.size < w1.heap.size := (by have := hb1.size; simp at this; omega)))
  have hW1 : Below w1.heap.size w1 (w1.alloc (.cells #[.pointer none, .slice none 0 0] 93)) := allocBelow _ _
  have HF := hid0 (Lib.fresh_isBuilder 93 5 w1)
  have g0 : (w1.alloc (.cells #[.pointer none, .slice none 0 0] 93)).cell? ⟨b, off, none⟩ = some (.int .i64 2) := ((thenBelow hB1 hW1).cell (p := ⟨b, off, none⟩) hb).trans c0
  have y0 : (w1.alloc (.cells #[.pointer none, .slice none 0 0] 93)).cell? ⟨w.heap.size, 1, none⟩ = some (.int .i64 (-3)) := by rw [World.cell?_alloc_past _ _ _ (by simpa using hz1), p1]; simp
  refine wp_loop_rounds 4 ?_
  rw [rounds_succ]
  go_wp2_with (first | ((with_reducible refine (term20 _).mono ?_); rintro e w' ⟨rfl, rfl⟩) | (go_at_call 73; refine (writeItem_any w1.heap.size w1.heap.size [] _ _ _ HF.out (by decide) (by go_size)).mono ?_; rintro e v1 ⟨rfl, K1, hv1⟩))
  have HV1 : Below w1.heap.size w1 v1 := hW1.trans hv1
  have g1 : v1.cell? ⟨b, off + 1, none⟩ = some (.int .i64 (-1)) := ((thenBelow hB1 HV1).cell (p := ⟨b, off + 1, none⟩) hb).trans c1
  rw [rounds_succ]
  go_wp2_with (first | ((with_reducible refine (term11 _).mono ?_); rintro e w' ⟨rfl, rfl⟩) | (go_at_call 73; refine (writeItem_any w1.heap.size w1.heap.size _ _ _ _ K1.out (by decide) HV1.size).mono ?_; rintro e v2 ⟨rfl, K2, hv2⟩))
  have HV2 : Below w1.heap.size w1 v2 := HV1.trans hv2
  have g2 : v2.cell? ⟨b, off + 2, none⟩ = some (.int .i64 0) := ((thenBelow hB1 HV2).cell (p := ⟨b, off + 2, none⟩) hb).trans c2
  rw [rounds_succ]
  go_wp2_with fail
  have y2 : v2.cell? ⟨w.heap.size, 1, none⟩ = some (.int .i64 (-3)) := ((hv1.trans hv2).cell (p := ⟨w.heap.size, 1, none⟩) hz1).trans y0
  have hmx : (max (-3) 3 : Int) = 3 := rfl
  rw [rounds_succ]
  go_wp2_with fail
  have KD1 : Hid (Lib.IsBuilder 93 5 w1.heap.size w1.heap.size (Lib.byteCells ([] ++ signOf 2 [] ++ (⟨#[50, 42, 120, 48]⟩ : ByteArray).data.toList ++ signOf (-1) ([] ++ signOf 2 [] ++ (⟨#[50, 42, 120, 48]⟩ : ByteArray).data.toList) ++ (⟨#[120, 49]⟩ : ByteArray).data.toList)) v2.drew) := K2.out
  have hw3 : IntKind.i64.wrap 3 = 3 := IntWalk.i64_in _ (by omega)
  refine wp_region_still_tail 9 (by kernel_rfl) (by kernel_rfl) ?_
  simp only [List.take_succ_cons, List.take_zero, List.drop_succ_cons, List.drop_zero]
  change wpStill _ _ v2.drew _ _ _
  have y3 : v2.drew.cell? ⟨w.heap.size, 1, none⟩ = some (.int .i64 (-3)) := y2
  iterate 8 still_step
  still_call ((itoa3 _).mono fun _ _ hh => ⟨hh.1, hh.2.symm⟩)
  refine wpStill_nil ?_
  go_wp2_with (first | (go_at_call 73; refine (writeItem_any w1.heap.size w1.heap.size _ _ _ _ KD1.out (by decide) HV2.size).mono ?_; rintro e v3 ⟨rfl, K3, hv3⟩) | (go_at_call 77; refine (B_Write' w1.heap.size w1.heap.size _ _ _ K3.out (by decide) (Nat.le_trans HV2.size hv3.size)).mono ?_; rintro e v4 ⟨rfl, K4, hv4⟩) | (go_at_call 78; refine (B_String w1.heap.size w1.heap.size _ _ K4.out (by decide)).mono ?_; rintro e v5 ⟨rfl, hv5⟩))
  go_ret2
  exact ⟨by rfl, thenBelow hB1 (HV2.trans ((Below.refl _ _).drew.trans (hv3.trans (hv4.trans hv5))))⟩
end Go.Proofs.YtbdnihjokndhaaaDoor
