import Derived.Shelf.Strings.Builder1
import Derived.WalkSpells
import Derived.StillTailTactics
import Derived.Lib.SliceRun
import Derived.Shelf.SlSortCmp.NoneTotal
import Derived.Shelf.Lay
import Derived.Shelf.SlGeneric
import Derived.Ground.SlsfProg
import Derived.Test.YtbbglendddepfaaDoorGrpagblkdjo
import Derived.Test.YtbbglendddepfaaDoorGrphiooaika
import Derived.Test.YtbbglendddepfaaDoorGrpomklliff
set_option linter.all false
namespace Go.Proofs.YtbbglendddepfaaDoor
open Go.RowKit Go.Shelf

def renB : Go.Shelf.Ren := ⟨fun | 240 => 75 | 276 => 90 | 166 => 53 | 170 => 51 | 169 => 54 | n => n, fun | 0 => 0 | 3 => 3 | 4 => 4 | 5 => 5 | 9 => 9 | 20 => 20 | 37 => 72 | 70 => 71 | 72 => 74 | 75 => 80 | 80 => 83 | 127 => 94 | 164 => 104 | n => n, fun | n => n⟩
theorem laysB166 : Go.Proofs.Lays.n166 Tryd.prog renB := {
  mixed := by kernel_rfl
  f166 := Tryd.func53.trans (congrArg some (by kernel_rfl))
  f240 := Tryd.func75.trans (congrArg some (by kernel_rfl))
  f276 := Tryd.func90.trans (congrArg some (by kernel_rfl))
  t0 := Tryd.underlying0
  a0 := Tryd.isAgg0
  z0 := Tryd.sizeOf0
  v0 := Tryd.zeroValue0
  t3 := Tryd.underlying3
  a3 := Tryd.isAgg3
  z3 := Tryd.sizeOf3
  v3 := Tryd.zeroValue3
  t4 := Tryd.underlying4
  a4 := Tryd.isAgg4
  z4 := Tryd.sizeOf4
  v4 := Tryd.zeroValue4
  t9 := Tryd.underlying9
  a9 := Tryd.isAgg9
  z9 := Tryd.sizeOf9
  v9 := Tryd.zeroValue9
  t20 := Tryd.underlying20
  a20 := Tryd.isAgg20
  z20 := Tryd.sizeOf20
  v20 := Tryd.zeroValue20
  t37 := Tryd.underlying72
  a37 := Tryd.isAgg72
  z37 := Tryd.sizeOf72
  v37 := Tryd.zeroValue72
  t70 := Tryd.underlying71
  a70 := Tryd.isAgg71
  z70 := Tryd.sizeOf71
  v70 := Tryd.zeroValue71
  t72 := Tryd.underlying74
  a72 := Tryd.isAgg74
  z72 := Tryd.sizeOf74
  v72 := Tryd.zeroValue74
  t75 := Tryd.underlying80
  a75 := Tryd.isAgg80
  z75 := Tryd.sizeOf80
  v75 := Tryd.zeroValue80
  t164 := Tryd.underlying104
  a164 := Tryd.isAgg104
  z164 := Tryd.sizeOf104
  v164 := Tryd.zeroValue104 }
theorem laysB170 : Go.Proofs.Lays.n170 Tryd.prog renB := {
  mixed := by kernel_rfl
  f170 := Tryd.func51.trans (congrArg some (by kernel_rfl))
  t0 := Tryd.underlying0
  a0 := Tryd.isAgg0
  z0 := Tryd.sizeOf0
  v0 := Tryd.zeroValue0
  t3 := Tryd.underlying3
  a3 := Tryd.isAgg3
  z3 := Tryd.sizeOf3
  v3 := Tryd.zeroValue3
  t37 := Tryd.underlying72
  a37 := Tryd.isAgg72
  z37 := Tryd.sizeOf72
  v37 := Tryd.zeroValue72
  t70 := Tryd.underlying71
  a70 := Tryd.isAgg71
  z70 := Tryd.sizeOf71
  v70 := Tryd.zeroValue71
  t72 := Tryd.underlying74
  a72 := Tryd.isAgg74
  z72 := Tryd.sizeOf74
  v72 := Tryd.zeroValue74 }
theorem laysB169 : Go.Proofs.Lays.n169 Tryd.prog renB := {
  mixed := by kernel_rfl
  f169 := Tryd.func54.trans (congrArg some (by kernel_rfl))
  t0 := Tryd.underlying0
  a0 := Tryd.isAgg0
  z0 := Tryd.sizeOf0
  v0 := Tryd.zeroValue0
  t3 := Tryd.underlying3
  a3 := Tryd.isAgg3
  z3 := Tryd.sizeOf3
  v3 := Tryd.zeroValue3
  t9 := Tryd.underlying9
  a9 := Tryd.isAgg9
  z9 := Tryd.sizeOf9
  v9 := Tryd.zeroValue9
  t37 := Tryd.underlying72
  a37 := Tryd.isAgg72
  z37 := Tryd.sizeOf72
  v37 := Tryd.zeroValue72
  t70 := Tryd.underlying71
  a70 := Tryd.isAgg71
  z70 := Tryd.sizeOf71
  v70 := Tryd.zeroValue71
  t72 := Tryd.underlying74
  a72 := Tryd.isAgg74
  z72 := Tryd.sizeOf74
  v72 := Tryd.zeroValue74
  t127 := Tryd.underlying94
  a127 := Tryd.isAgg94
  z127 := Tryd.sizeOf94
  v127 := Tryd.zeroValue94 }
theorem extraB : Builder.Extra Tryd.prog renB := {
  sizeBuilder := by kernel_rfl
  liesBuilder := by kernel_rfl
  t5 := Tryd.underlying5
  a5 := Tryd.isAgg5
  z5 := Tryd.sizeOf5
  v5 := Tryd.zeroValue5
  infoByte := by kernel_rfl
  cellsByte := by kernel_rfl
  sizeByte := by kernel_rfl
  neB5 := by decide }

theorem B_Len (B b : Nat) (bs : List Value) (w : World) (h : Lib.IsBuilder 74 5 B b bs w) :
    Calls Tryd.prog 51 #[.pointer (some ⟨b, 0, none⟩)] w fun e w' => e = .returned (.int .i64 bs.length) ∧ w' = w := Any.Builder_Len laysB170 B b bs w h
theorem B_WriteString (B b : Nat) (bs : List Value) (s : ByteArray) (w : World) (h : Lib.IsBuilder 74 5 B b bs w) (hlen : bs.length + s.size ≤ 140737488355328) (hBw : B ≤ w.heap.size) :
    Calls Tryd.prog 53 #[.pointer (some ⟨b, 0, none⟩), .string s] w fun e w' => e = .returned (.tuple #[.int .i64 s.size, .nilIface]) ∧ (Lib.BuilderAt 74 5 B b (.pointer (some ⟨b, 0, none⟩)) (bs ++ Lib.strCells s) w' ∧ Below B w w') := Any.Builder_WriteString laysB166 extraB B b bs s w h hlen hBw
theorem B_String (B b : Nat) (l : List UInt8) (w : World) (h : Lib.IsBuilder 74 5 B b (Lib.byteCells l) w) (h0 : l ≠ []) :
    Calls Tryd.prog 54 #[.pointer (some ⟨b, 0, none⟩)] w fun e w' => e = .returned (.string ⟨l.toArray⟩) ∧ Below B w w' := Any.Builder_String laysB169 extraB B b l w h h0

theorem itoa0 (w : World) : Calls Tryd.prog 52 #[.int .i64 0] w fun e w' => e = .returned (.string ⟨#[48]⟩) ∧ w = w' := by
  go_enter Tryd.func52, Tryd.ntmps52
  go_wp2
  go_ret
  exact ⟨by rfl, rfl⟩
theorem itoa1 (w : World) : Calls Tryd.prog 52 #[.int .i64 1] w fun e w' => e = .returned (.string ⟨#[49]⟩) ∧ w = w' := by
  go_enter Tryd.func52, Tryd.ntmps52
  go_wp2
  go_ret
  exact ⟨by rfl, rfl⟩
theorem itoa2 (w : World) : Calls Tryd.prog 52 #[.int .i64 2] w fun e w' => e = .returned (.string ⟨#[50]⟩) ∧ w = w' := by
  go_enter Tryd.func52, Tryd.ntmps52
  go_wp2
  go_ret
  exact ⟨by rfl, rfl⟩
theorem itoa3 (w : World) : Calls Tryd.prog 52 #[.int .i64 3] w fun e w' => e = .returned (.string ⟨#[51]⟩) ∧ w = w' := by
  go_enter Tryd.func52, Tryd.ntmps52
  go_wp2
  go_ret
  exact ⟨by rfl, rfl⟩
set_option maxRecDepth 100000 in
theorem term20 (w : World) : Calls Tryd.prog 50 #[.int .i64 2, .int .i64 0] w fun e w' => e = .returned (.string ⟨#[50, 42, 120, 48]⟩) ∧ w = w' := by
  have hmx : (max 2 (-2) : Int) = 2 := rfl
  go_enter Tryd.func50, Tryd.ntmps50
  go_wp2_with (first | ((with_reducible refine (itoa0 _).mono ?_); rintro e w' ⟨rfl, rfl⟩) | ((with_reducible refine (itoa2 _).mono ?_); rintro e w' ⟨rfl, rfl⟩))
  go_ret
  exact ⟨by rfl, rfl⟩
set_option maxRecDepth 100000 in
theorem term11 (w : World) : Calls Tryd.prog 50 #[.int .i64 (-1), .int .i64 1] w fun e w' => e = .returned (.string ⟨#[120, 49]⟩) ∧ w = w' := by
  go_enter Tryd.func50, Tryd.ntmps50
  go_wp2_with ((with_reducible refine (itoa1 _).mono ?_); rintro e w' ⟨rfl, rfl⟩)
  go_ret
  exact ⟨by rfl, rfl⟩

theorem B_Len' (B b : Nat) (l : List UInt8) (w : World) (h : Lib.IsBuilder 74 5 B b (Lib.byteCells l) w) :
    Calls Tryd.prog 51 #[.pointer (some ⟨b, 0, none⟩)] w fun e w' => e = .returned (.int .i64 l.length) ∧ w = w' :=
  (B_Len B b _ w h).mono fun e w' hh => ⟨by rw [hh.1, Lib.byteCells_length], hh.2.symm⟩
theorem B_Write' (B b : Nat) (l : List UInt8) (s : ByteArray) (w : World) (h : Lib.IsBuilder 74 5 B b (Lib.byteCells l) w) (hlen : l.length + s.size ≤ 200000) (hBw : B ≤ w.heap.size) :
    Calls Tryd.prog 53 #[.pointer (some ⟨b, 0, none⟩), .string s] w fun e w' => e = .returned (.tuple #[.int .i64 s.size, .nilIface]) ∧ Hid (Lib.IsBuilder 74 5 B b (Lib.byteCells (l ++ s.data.toList)) w') ∧ Below B w w' :=
  (B_WriteString B b _ s w h (by rw [Lib.byteCells_length]; omega) hBw).mono fun e w' hh => ⟨hh.1, by show Lib.IsBuilder _ _ _ _ _ _; rw [Lib.byteCells_append, ← Lib.strCells_eq]; exact .inr hh.2.1, hh.2.2⟩

/-- writeItem: the sign as the place asks for it, then the item. -/
def signOf (c : Int) (l : List UInt8) : List UInt8 := if l = [] then (if c < 0 then [45] else []) else if c < 0 then [32, 45, 32] else [32, 43, 32]
set_option maxHeartbeats 800000 in
theorem writeItem_any (B b : Nat) (l : List UInt8) (c : Int) (s : ByteArray) (w : World) (h : Lib.IsBuilder 74 5 B b (Lib.byteCells l) w) (hlen : l.length + s.size ≤ 100000) (hBw : B ≤ w.heap.size) :
    Calls Tryd.prog 49 #[.pointer (some ⟨b, 0, none⟩), .int .i64 c, .string s] w fun e w' => e = .returned (.tuple #[]) ∧ Hid (Lib.IsBuilder 74 5 B b (Lib.byteCells (l ++ signOf c l ++ s.data.toList)) w') ∧ Below B w w' := by
  have H := hid0 h
  clear h
  by_cases hl : l = []
  · subst hl
    by_cases hc : c < 0
    · have E : Hid (signOf c [] = [45]) := by show _ = _; simp [signOf, hc]
      simp only [List.length_nil] at hlen
      go_enter Tryd.func49, Tryd.ntmps49
      go_wp2_with (first | (go_at_call 51; (with_reducible refine (B_Len' B b [] _ H.out).mono ?_); rintro e w' ⟨rfl, rfl⟩) | ((with_reducible refine (B_Write' B b [] _ _ H.out (by decide) hBw).mono ?_); rintro e w1 ⟨rfl, H1, hb1⟩; have hBw1 : B ≤ w1.heap.size := Nat.le_trans hBw hb1.size) | ((with_reducible refine (B_Write' B b _ _ _ H1.out (by simp; omega) hBw1).mono ?_); rintro e w2 ⟨rfl, H2, hb2⟩))
      go_end0
      exact ⟨rfl, by rw [E.out]; exact H2.out, hb1.trans hb2⟩
    · have E : Hid (signOf c [] = []) := by show _ = _; simp [signOf, hc]
      simp only [List.length_nil] at hlen
      go_enter Tryd.func49, Tryd.ntmps49
      go_wp2_with (first | (go_at_call 51; (with_reducible refine (B_Len' B b [] _ H.out).mono ?_); rintro e w' ⟨rfl, rfl⟩) | ((with_reducible refine (B_Write' B b [] _ _ H.out (by simp; omega) hBw).mono ?_); rintro e w1 ⟨rfl, H1, hb1⟩; have hBw1 : B ≤ w1.heap.size := Nat.le_trans hBw hb1.size))
      go_end0
      exact ⟨rfl, by rw [E.out]; exact H1.out, hb1⟩
  · have hl0 : 0 < l.length := by cases l with | nil => exact absurd rfl hl | cons x xs => simp
    have hl1 : (((l.length : Nat) : Int) == 0) = false := by simp; omega
    by_cases hc : c < 0
    · have E : Hid (signOf c l = [32, 45, 32]) := by show _ = _; simp [signOf, hc, hl]
      clear hl
      go_enter Tryd.func49, Tryd.ntmps49
      go_wp2_with (first | (go_at_call 51; (with_reducible refine (B_Len' B b l _ H.out).mono ?_); rintro e w' ⟨rfl, rfl⟩) | ((with_reducible refine (B_Write' B b l _ _ H.out (by (have : l.length ≤ 100000 := by omega); exact Nat.add_le_add this (by decide : _ ≤ 100000)) hBw).mono ?_); rintro e w1 ⟨rfl, H1, hb1⟩; have hBw1 : B ≤ w1.heap.size := Nat.le_trans hBw hb1.size) | ((with_reducible refine (B_Write' B b _ _ _ H1.out (by simp; omega) hBw1).mono ?_); rintro e w2 ⟨rfl, H2, hb2⟩))
      go_end0
      exact ⟨rfl, by rw [E.out]; exact H2.out, hb1.trans hb2⟩
    · have E : Hid (signOf c l = [32, 43, 32]) := by show _ = _; simp [signOf, hc, hl]
      clear hl
      go_enter Tryd.func49, Tryd.ntmps49
      go_wp2_with (first | (go_at_call 51; (with_reducible refine (B_Len' B b l _ H.out).mono ?_); rintro e w' ⟨rfl, rfl⟩) | ((with_reducible refine (B_Write' B b l _ _ H.out (by (have : l.length ≤ 100000 := by omega); exact Nat.add_le_add this (by decide : _ ≤ 100000)) hBw).mono ?_); rintro e w1 ⟨rfl, H1, hb1⟩; have hBw1 : B ≤ w1.heap.size := Nat.le_trans hBw hb1.size) | ((with_reducible refine (B_Write' B b _ _ _ H1.out (by simp; omega) hBw1).mono ?_); rintro e w2 ⟨rfl, H2, hb2⟩))
      go_end0
      exact ⟨rfl, by rw [E.out]; exact H2.out, hb1.trans hb2⟩

set_option maxHeartbeats 1600000 in
set_option maxRecDepth 100000 in
theorem format_known (b off cap : Nat) (w : World) (hb : b < w.heap.size) (hi : IsInts 0 w (.slice (some ⟨b, off, none⟩) 3 cap) [2, -1, 0])
    (c0 : w.cell? ⟨b, off, none⟩ = some (.int .i64 2)) (c1 : w.cell? ⟨b, off + 1, none⟩ = some (.int .i64 (-1))) (c2 : w.cell? ⟨b, off + 2, none⟩ = some (.int .i64 0)) :
    Calls Tryd.prog 24 #[.agg #[.slice (some ⟨b, off, none⟩) 3 cap, .int .i64 (-3)]] w fun e w' => e = .returned (.tuple #[.string ⟨#[50, 42, 120, 48, 32, 45, 32, 120, 49, 32, 45, 32, 51, 32, 62, 61, 32, 48]⟩, .int .i64 0]) ∧ Below w.heap.size w w' := by
  have HI := hid0 hi
  have S : smR ([2, -1, 0], -3) = true := by decide
  clear hi
  go_enter Tryd.func24, Tryd.ntmps24
  go_wp2_with (first | (go_at_call 48; refine (small_any _ (HI.out.below (by go_grown))).mono ?_; rintro e w1 ⟨rfl, hb1⟩; have hB1 : Below w.heap.size w w1 := (thenBelow (allocBelow _ _) hb1); obtain ⟨p1, p2⟩ := blk hb1 (n := w.heap.size) (by go_size); have hz1 : w.heap.size < w1.heap.size := (by have := hb1.size; simp at this; omega)))
  have hW1 : Below w1.heap.size w1 (w1.alloc (.cells #[.pointer none, .slice none 0 0] 74)) := allocBelow _ _
  have HF := hid0 (Lib.fresh_isBuilder 74 5 w1)
  have g0 : (w1.alloc (.cells #[.pointer none, .slice none 0 0] 74)).cell? ⟨b, off, none⟩ = some (.int .i64 2) := ((thenBelow hB1 hW1).cell (p := ⟨b, off, none⟩) hb).trans c0
  have y0 : (w1.alloc (.cells #[.pointer none, .slice none 0 0] 74)).cell? ⟨w.heap.size, 1, none⟩ = some (.int .i64 (-3)) := by rw [World.cell?_alloc_past _ _ _ (by simpa using hz1), p1]; simp
  refine wp_loop_rounds 4 ?_
  rw [rounds_succ]
  go_wp2_with (first | ((with_reducible refine (term20 _).mono ?_); rintro e w' ⟨rfl, rfl⟩) | (go_at_call 49; refine (writeItem_any w1.heap.size w1.heap.size [] _ _ _ HF.out (by decide) (by go_size)).mono ?_; rintro e v1 ⟨rfl, K1, hv1⟩))
  have HV1 : Below w1.heap.size w1 v1 := hW1.trans hv1
  have g1 : v1.cell? ⟨b, off + 1, none⟩ = some (.int .i64 (-1)) := ((thenBelow hB1 HV1).cell (p := ⟨b, off + 1, none⟩) hb).trans c1
  rw [rounds_succ]
  go_wp2_with (first | ((with_reducible refine (term11 _).mono ?_); rintro e w' ⟨rfl, rfl⟩) | (go_at_call 49; refine (writeItem_any w1.heap.size w1.heap.size _ _ _ _ K1.out (by decide) HV1.size).mono ?_; rintro e v2 ⟨rfl, K2, hv2⟩))
  have HV2 : Below w1.heap.size w1 v2 := HV1.trans hv2
  have g2 : v2.cell? ⟨b, off + 2, none⟩ = some (.int .i64 0) := ((thenBelow hB1 HV2).cell (p := ⟨b, off + 2, none⟩) hb).trans c2
  rw [rounds_succ]
  go_wp2_with fail
  have y2 : v2.cell? ⟨w.heap.size, 1, none⟩ = some (.int .i64 (-3)) := ((hv1.trans hv2).cell (p := ⟨w.heap.size, 1, none⟩) hz1).trans y0
  have hmx : (max (-3) 3 : Int) = 3 := rfl
  rw [rounds_succ]
  go_wp2_with fail
  have KD1 : Hid (Lib.IsBuilder 74 5 w1.heap.size w1.heap.size (Lib.byteCells ([] ++ signOf 2 [] ++ (⟨#[50, 42, 120, 48]⟩ : ByteArray).data.toList ++ signOf (-1) ([] ++ signOf 2 [] ++ (⟨#[50, 42, 120, 48]⟩ : ByteArray).data.toList) ++ (⟨#[120, 49]⟩ : ByteArray).data.toList)) v2.drew) := K2.out
  have hw3 : IntKind.i64.wrap 3 = 3 := IntWalk.i64_in _ (by omega)
  refine wp_region_still_tail 9 (by kernel_rfl) (by kernel_rfl) ?_
  simp only [List.take_succ_cons, List.take_zero, List.drop_succ_cons, List.drop_zero]
  change wpStill _ _ v2.drew _ _ _
  have y3 : v2.drew.cell? ⟨w.heap.size, 1, none⟩ = some (.int .i64 (-3)) := y2
  iterate 8 still_step
  still_call ((itoa3 _).mono fun _ _ hh => ⟨hh.1, hh.2.symm⟩)
  refine wpStill_nil ?_
  go_wp2_with (first | (go_at_call 49; refine (writeItem_any w1.heap.size w1.heap.size _ _ _ _ KD1.out (by decide) HV2.size).mono ?_; rintro e v3 ⟨rfl, K3, hv3⟩) | (go_at_call 53; refine (B_Write' w1.heap.size w1.heap.size _ _ _ K3.out (by decide) (Nat.le_trans HV2.size hv3.size)).mono ?_; rintro e v4 ⟨rfl, K4, hv4⟩) | (go_at_call 54; refine (B_String w1.heap.size w1.heap.size _ _ K4.out (by decide)).mono ?_; rintro e v5 ⟨rfl, hv5⟩))
  go_ret2
  exact ⟨by rfl, thenBelow hB1 (HV2.trans ((Below.refl _ _).drew.trans (hv3.trans (hv4.trans hv5))))⟩
end Go.Proofs.YtbbglendddepfaaDoor

namespace Go.Proofs.YtbbglendddepfaaDoor
open Go.RowKit Go.Deep

theorem lit_ints {w : World} {b : Nat} {cs : Array Value} {t : TypeId} {xs : List Int} (hg : w.heap[b]? = some (.cells cs t (0, 0))) (hc : cs = (xs.map (Value.int .i64)).toArray) (hi : ∀ x ∈ xs, -1000 ≤ x ∧ x ≤ 1000) (hn : xs.length ≤ 1000) :
    IsInts 0 w (.slice (some ⟨b, 0, none⟩) xs.length xs.length) xs :=
  ints_of_block hg (Nat.zero_le _) rfl (Nat.le_refl _) (by unfold maxLen; omega) (fun x hx => by have := hi x hx; constructor <;> omega) fun i h => by subst hc; simp [h]

theorem tightenK {w : World} {b : Nat} (hg : w.heap[b]? = some (.cells #[.int .i64 2, .int .i64 (-4)] 3 (0, 0))) :
    Calls Tryd.prog 30 #[.agg #[.slice (some ⟨b, 0, none⟩) 2 2, .int .i64 (-3)]] w fun e w' => ∃ g, e = .returned (.agg #[.slice (some ⟨g, 0, none⟩) 2 2, .int .i64 (-2)]) ∧ OwnInts w.heap.size w' g [1, -2] ∧ Below w.heap.size w w' :=
  Tighten_every (xs := [2, -4]) (-3) (lit_ints (xs := [2, -4]) hg rfl (by decide) (by decide)) (by decide)
theorem valueK {w : World} {lo b : Nat} {v : Value} (h : IsInts lo w v [1, -2]) (hg : w.heap[b]? = some (.cells #[.int .i64 2, .int .i64 0] 3 (0, 0))) :
    Calls Tryd.prog 31 #[.agg #[v, .int .i64 (-2)], .slice (some ⟨b, 0, none⟩) 2 2] w fun e w' => e = .returned (.tuple #[.int .i64 0, .int .i64 0]) ∧ Below w.heap.size w w' :=
  Value_any (xs := [1, -2]) (ys := [2, 0]) (-2) h (lit_ints (xs := [2, 0]) hg rfl (by decide) (by decide))
theorem formatK {w : World} {b : Nat} (hg : w.heap[b]? = some (.cells #[.int .i64 2, .int .i64 (-1), .int .i64 0] 3 (0, 0))) :
    Calls Tryd.prog 24 #[.agg #[.slice (some ⟨b, 0, none⟩) 3 3, .int .i64 (-3)]] w fun e w' => e = .returned (.tuple #[.string ⟨#[50, 42, 120, 48, 32, 45, 32, 120, 49, 32, 45, 32, 51, 32, 62, 61, 32, 48]⟩, .int .i64 0]) ∧ Below w.heap.size w w' :=
  format_known b 0 3 w (Array.getElem?_eq_some_iff.1 hg).1 (lit_ints (xs := [2, -1, 0]) hg rfl (by decide) (by decide)) (by simp [World.cell?, hg]) (by simp [World.cell?, hg]) (by simp [World.cell?, hg])
theorem satK {w : World} {b p : Nat} {u : Value} (h : IsInts 0 w u [1, -2]) (hg : w.heap[b]? = some (.cells #[u, .int .i64 (-2)] 39 (0, 0))) (hp : w.heap[p]? = some (.cells #[.int .i64 2, .int .i64 0] 3 (0, 0))) :
    Calls Tryd.prog 15 #[.agg #[.int .i64 2, .slice (some ⟨b, 0, none⟩) 1 1], .slice (some ⟨p, 0, none⟩) 2 2] w fun e w' => e = .returned (.bool true) ∧ Below w.heap.size w w' :=
  Satisfies_any (lo := 0) (lo' := 0) (rs := [([1, -2], -2)]) (ys := [2, 0]) 2 ⟨_, _, rfl, by decide, by unfold maxLen; decide, .inr ⟨b, 0, rfl, Nat.zero_le _, (Array.getElem?_eq_some_iff.1 hg).1, fun i hi => by
    obtain rfl : i = 0 := by simpa using hi
    exact ⟨u, by simp [World.cell?, hg], by simp [World.cell?, hg], h, by simp [I64]⟩⟩⟩ (lit_ints (xs := [2, 0]) hp rfl (by decide) (by decide))

set_option maxHeartbeats 1600000 in
theorem known_any (w : World) : Calls Tryd.prog 12 #[] w fun e w' => e = .returned (.bool true) ∧ Below w.heap.size w w' := by
  go_enter Tryd.func12, Tryd.ntmps12
  go_wp2_with (first | (go_at_call 30; refine (tightenK (heap_new _ _ (by go_size))).mono ?_; rintro e w1 ⟨g, rfl, hO, hb1⟩; have HO := hid0 hO.ints; have hB1 : Below w.heap.size w w1 := (thenBelow (allocBelow _ _) hb1); clear hO hb1) | (go_at_call 31; refine (valueK ((HO.out.mono (Nat.zero_le _)).below (by go_grown)) (heap_new _ _ (by go_size))).mono ?_; rintro e w2 ⟨rfl, hb2⟩; have hB2 : Below w1.heap.size w1 w2 := (Below.trans (by go_grown) (hb2.mono (by go_size))); obtain ⟨p1, p2⟩ := blk hb2 (n := w1.heap.size) (by go_size); have hz2 : w1.heap.size < w2.heap.size := (by have := hb2.size; simp at this; omega); clear hb2) | (go_at_call 24; refine (formatK (heap_new _ _ (by go_size))).mono ?_; rintro e w3 ⟨rfl, hb3⟩; have hB3 : Below w1.heap.size w1 w3 := (thenBelow hB2 (thenBelow (allocBelow _ _) hb3)); obtain ⟨q1, q2⟩ := blk hb3 (n := w1.heap.size) (by go_size); have hz3 : w1.heap.size < w3.heap.size := (by have := hb3.size; simp at this; omega); clear hb3))
  have HB3 : Below w.heap.size w w3 := thenBelow hB1 hB3
  refine (satK ((HO.out.mono (Nat.zero_le _)).below (Below.trans hB3 (by go_grown))) ((heap_old _ _ (by go_size)).trans (heap_new _ _ rfl)) (heap_new _ _ (by go_size))).mono ?_
  rintro e w4 ⟨rfl, hb4⟩
  have HB4 : Below w.heap.size w w4 := thenBelow HB3 (Below.trans (by go_grown) (hb4.mono (by go_size)))
  go_wp2_with fail
  go_ret
  exact ⟨rfl, HB4⟩
end Go.Proofs.YtbbglendddepfaaDoor

namespace Go.Proofs.YtbbglendddepfaaDoor
open Go.RowKit Go.Deep
variable {J : World → Prop}
def cRo (r : Rw) : List AV := [intsA r.1, iv r.2]
theorem lenRo (r : Rw) : (cRo r).length = 2 := rfl
theorem plain_ro (r : Rw) : ∀ X ∈ cRo r, Plain X := by
  intro X hX
  simp only [cRo, List.mem_cons, List.not_mem_nil, or_false] at hX
  rcases hX with rfl | rfl
  · exact plain_ints _
  · exact .v _
def cSy (n : Int) (rs : List Rw) : List AV := [iv n, slA 2 cRo rs]
theorem plain_sy (n : Int) (rs : List Rw) : ∀ X ∈ cSy n rs, Plain X := by
  intro X hX
  simp only [cSy, List.mem_cons, List.not_mem_nil, or_false] at hX
  rcases hX with rfl | rfl
  · exact .v _
  · exact plain_sl plain_ro _
structure RwOk (r : Rw) : Prop where
  coef : InOk r.1
  con : I64 r.2
structure SyOk (rs : List Rw) : Prop where
  rows : ∀ r ∈ rs, RwOk r
  len : rs.length ≤ 9223372036854775807
theorem lo00 {w : World} : ∀ b, b < w.heap.size → 0 ≤ b := fun _ _ => Nat.zero_le _
theorem pu_rows {F ok : Nat → Prop} {w : World} {v : Value} {rs : List Rw} {lo : Nat} (hI : ∀ r ∈ rs, RwOk r) (hlo : ∀ b, ok b → lo ≤ b) (h : Pu F w ok (slA 2 cRo rs) v) : IsRows lo w v rs := by
  unfold slA at h
  generalize hcs : rs.flatMap cRo = cs at h
  generalize hn : rs.length = n at h
  cases h with
  | sl0 h2 hz0 =>
    rename_i a cap
    have : rs = [] := List.eq_nil_of_length_eq_zero hn
    subst this
    exact ⟨a, cap, rfl, by simp, h2, .inl rfl⟩
  | sl hc h1 h2 hb hw hf h =>
    rename_i b off cap g
    subst hn
    refine ⟨_, cap, rfl, h1, h2, .inr ⟨b, off, rfl, hlo _ hb, hw, fun i hi => ?_⟩⟩
    have hR := hI rs[i] (List.getElem_mem hi)
    have hlt : i * 2 + 1 < cs.length := by rw [hc]; omega
    have e0 : cs[i * 2] = intsA rs[i].1 := by
      have := eflat_get lenRo rs i 0 hi (by decide)
      rw [hcs, Nat.add_zero, List.getElem?_eq_getElem (by omega)] at this
      exact Option.some.inj this
    have e1 : cs[i * 2 + 1] = iv rs[i].2 := by
      have := eflat_get lenRo rs i 1 hi (by decide)
      rw [hcs, List.getElem?_eq_getElem hlt] at this
      exact Option.some.inj this
    have h0 := h (i * 2) (by omega)
    have h1 := h (i * 2 + 1) hlt
    rw [e0] at h0
    rw [e1] at h1
    refine ⟨g (i * 2), hf _ (by omega), ?_, pu_ints hR.coef hlo h0, hR.con⟩
    rw [Nat.add_assoc, hf _ hlt]
    rw [h1.v_inv]
theorem sy_args {F ok : Nat → Prop} {w : World} {v : Value} {n : Int} {rs : List Rw} (h : Pu F w ok (.agg (cSy n rs)) v) : ∃ u, v = .agg #[.int .i64 n, u] ∧ Pu F w ok (slA 2 cRo rs) u := by
  obtain ⟨vs, rfl, hl, hv⟩ := agg_cells h
  match vs, hl, hv with
  | [a, b], _, hv =>
    have e0 : a = .int .i64 n := (hv 0 (by simp [cSy])).v_inv
    subst e0
    exact ⟨b, rfl, hv 1 (by simp [cSy])⟩
theorem row_args {F ok : Nat → Prop} {w : World} {v : Value} {r : Rw} (h : Pu F w ok (.agg (cRo r)) v) : ∃ u, v = .agg #[u, .int .i64 r.2] ∧ Pu F w ok (intsA r.1) u := by
  obtain ⟨vs, rfl, hl, hv⟩ := agg_cells h
  match vs, hl, hv with
  | [a, b], _, hv =>
    have e1 : b = .int .i64 r.2 := (hv 1 (by simp [cRo])).v_inv
    subst e1
    exact ⟨a, rfl, hv 0 (by simp [cRo])⟩
section
variable {n : Int} {rs : List Rw} {r : Rw}
theorem lValidate_c (H : SyOk rs) : Ctr Tryd.prog J 32 [.agg (cSy n rs)] (iv (valS n rs)) := ctr1 fun w v _ h => by
  obtain ⟨u, rfl, hu⟩ := sy_args h
  exact (Validate_any n (pu_rows H.rows lo00 hu)).mono fun _ _ => ret_sc
theorem wide_c (H : SyOk rs) : Ctr Tryd.prog J 11 [.agg (cSy n rs)] (bv (wideB rs)) := ctr1 fun w v _ h => by
  obtain ⟨u, rfl, hu⟩ := sy_args h
  exact (wide_any n (pu_rows H.rows lo00 hu)).mono fun _ _ => ret_sc
theorem wknown_c : Ctr Tryd.prog J 12 [] (bv true) := fun w vs _ hl _ => by
  have : vs = #[] := Array.eq_empty_of_size_eq_zero (by simpa using hl)
  subst this
  exact (known_any w).mono fun _ _ => ret_sc
theorem ownI' {F : Nat → Prop} {lo g n : Nat} {w : World} {xs : List Int} (h : OwnInts lo w g xs) (hn : n = xs.length) : Pu F w (nw w lo) (intsA xs) (.slice (some ⟨g, 0, none⟩) n n) := by
  subst hn
  obtain ⟨h1, h2, h3, cur, t, hg, hc⟩ := h
  refine .sl (b := g) (off := 0) (f := fun j => .int .i64 (xs.getD j 0)) (by simp) (Nat.le_refl _) h2 ⟨h1, _, _, hg⟩ (Array.getElem?_eq_some_iff.1 hg).1 (fun j hj => ?_) fun j hj => ?_
  · have hj' : j < xs.length := by simpa using hj
    rw [Nat.zero_add, cellB hg j (v := .int .i64 (xs.getD j 0)) (hc j hj')]
  · have hj' : j < xs.length := by simpa using hj
    simp only [List.getElem_map, List.getD_eq_getElem?_getD, List.getElem?_eq_getElem hj', Option.getD_some]
    exact .v _
end
section
variable {rs : List Rw} {k : Nat}
theorem newRo (r : Rw) : ∀ d ∈ [AV.fr (intsA r.1), iv r.2], d.isNew = true := fun d hd => by
  simp only [List.mem_cons, List.not_mem_nil, or_false] at hd; rcases hd with rfl | rfl <;> rfl
theorem cellRo (r : Rw) : ∀ d ∈ [AV.fr (intsA r.1), iv r.2], d.cell = true := fun d hd => by
  simp only [List.mem_cons, List.not_mem_nil, or_false] at hd; rcases hd with rfl | rfl <;> rfl
theorem snocRw {r : Rw} : rs.flatMap cRo ++ rowCells true [.fr (intsA r.1), iv r.2] = (rs ++ [r]).flatMap cRo := by
  rw [List.flatMap_append]
  simp [rowCells, AV.unfr, cRo]
end
end Go.Proofs.YtbbglendddepfaaDoor

namespace Go.Proofs.YtbbglendddepfaaDoor
open Go.RowKit Go.Deep
set_option maxHeartbeats 800000 in
theorem sameCoef_any {lo lo' : Nat} {w : World} {v v' : Value} {xs ys : List Int} (c d : Int) (h : IsInts lo w v xs) (h' : IsInts lo' w v' ys) :
    Calls Tryd.prog 68 #[.agg #[v, .int .i64 c], .agg #[v', .int .i64 d]] w fun e w' => e = .returned (.bool (eqI xs ys)) ∧ Below w.heap.size w w' := by
  have H := hid0 h
  have H' := hid0 h'
  obtain ⟨a, cap, rfl⟩ := h.shape
  obtain ⟨a', cap', rfl⟩ := h'.shape
  clear h h'
  go_enter Tryd.func68, Tryd.ntmps68
  go_wp2_with (go_at_call 86; refine (Equal_any (H.out.below (by go_grown)) (H'.out.below (by go_grown))).mono ?_; rintro e w1 ⟨rfl, hb1⟩; have hB1 : Below w.heap.size w w1 := (Below.trans (by go_grown) (hb1.mono (by go_size))))
  go_ret
  exact ⟨rfl, hB1⟩
/-- A row as it lies: its slice, what it says. -/
abbrev El := Value × Rw
def zEl : El := (.slice none 0 0, ([], 0))
/-- Does the i-th stay? -/
def keepE (els : List El) (i : Nat) : Bool := decide (i = 0) || !eqI (els.getD i zEl).2.1 (els.getD (i - 1) zEl).2.1
/-- What stays of the first m. -/
def keptE (els : List El) : Nat → List El
  | 0 => []
  | m + 1 => keptE els m ++ (if keepE els m then [els.getD m zEl] else [])
theorem keptE_len (els : List El) : ∀ m, (keptE els m).length ≤ m
  | 0 => Nat.le_refl _
  | m + 1 => by
    have := keptE_len els m
    rw [keptE, List.length_append]
    split <;> simp <;> omega
theorem keptE_all (els : List El) : ∀ m, m ≤ els.length → (∀ i, i < m → keepE els i = true) → keptE els m = els.take m
  | 0, _, _ => by simp [keptE]
  | m + 1, hm, h => by
    rw [keptE, keptE_all els m (by omega) fun i hi => h i (by omega), if_pos (h m (by omega)), List.take_succ_eq_append_getElem (by omega), List.getD_eq_getElem?_getD, List.getElem?_eq_getElem (by omega)]
    rfl
/-- All but the block blk stands as it stood. -/
structure Oth (w : World) (blk : Nat) (W : World) : Prop where
  os : W.os = w.os
  tape : W.tape = w.tape
  output : W.output = w.output
  size : w.heap.size ≤ W.heap.size
  block : ∀ b, b < w.heap.size → b ≠ blk → W.heap[b]? = w.heap[b]?
/-- .. and there the rows lie. -/
structure CW (w : World) (blk : Nat) (T : TypeId) (sz : Nat) (dk : List El) (W : World) : Prop where
  oth : Oth w blk W
  row : ∃ cur, W.heap[blk]? = some (.cells cur T (0, 0)) ∧ cur.size = sz ∧ ∀ i (hi : i < dk.length), cur[i * 2]? = some dk[i].1 ∧ cur[i * 2 + 1]? = some (.int .i64 dk[i].2.2)
section
variable {w W W' : World} {blk sz : Nat} {T : TypeId} {dk : List El}
theorem CW.lt (h : CW w blk T sz dk W) : blk < W.heap.size := by obtain ⟨cur, h1, _⟩ := h.row; exact (Array.getElem?_eq_some_iff.1 h1).1
theorem CW.below (h : CW w blk T sz dk W) (hb : Below W.heap.size W W') : CW w blk T sz dk W' := by
  have hl := h.lt
  obtain ⟨⟨a, b, c, d, e⟩, cur, h1, h2, h3⟩ := h
  exact ⟨⟨hb.os.trans a, hb.tape.trans b, hb.output.trans c, Nat.le_trans d hb.size, fun k hk hne => (hb.block k (by omega)).trans (e k hk hne)⟩, cur, (hb.block _ hl).trans h1, h2, h3⟩
theorem CW.cell (h : CW w blk T sz dk W) {i : Nat} (hi : i < dk.length) : W.cell? ⟨blk, i * 2, none⟩ = some dk[i].1 ∧ W.cell? ⟨blk, i * 2 + 1, none⟩ = some (.int .i64 dk[i].2.2) := by
  obtain ⟨_, cur, h1, h2, h3⟩ := h
  obtain ⟨q1, q2⟩ := h3 i hi
  simp only [World.cell?, h1, Option.isSome_none, Bool.false_eq_true, if_false]
  exact ⟨q1, q2⟩
theorem CW.free (h : CW w blk T sz dk W) (o : Nat) : W.frozen? ⟨blk, o, none⟩ = false := by
  obtain ⟨_, cur, h1, h2, h3⟩ := h
  simp only [World.frozen?, h1]
  simp
theorem CW.store (h : CW w blk T sz dk W) {k : Nat} (hk : k < dk.length) (x : El) : CW w blk T sz (dk.set k x) (W.setCells blk (k * 2) [x.1, .int .i64 x.2.2]) := by
  have hl := h.lt
  obtain ⟨⟨a, b, c, d, e⟩, cur, h1, h2, h3⟩ := h
  have hk2 := (Array.getElem?_eq_some_iff.1 (h3 k hk).2).1
  obtain ⟨cur', g1, g2, g3⟩ := setCells_block [x.1, .int .i64 x.2.2] (k * 2) W cur h1 (by simp; omega)
  obtain ⟨q1, q2, q3⟩ := setCells_os blk [x.1, .int .i64 x.2.2] (k * 2) W
  refine ⟨⟨q1.trans a, q2.trans b, q3.trans c, by rw [setCells_size]; exact d, fun b' hb hne => (setCells_other hne _ _ _).trans (e b' hb hne)⟩, cur', g1, g2.trans h2, fun i hi => ?_⟩
  have hi' : i < dk.length := by simpa using hi
  rw [g3, g3, List.getElem_set]
  by_cases e : k = i
  · subst e
    simp
  · rw [if_neg e, if_neg (by simp; omega), if_neg (by simp; omega)]
    exact h3 i hi'
end
end Go.Proofs.YtbbglendddepfaaDoor

namespace Go.Proofs.YtbbglendddepfaaDoor
open Go.RowKit Go.Deep
structure CInv (els : List El) (j kk : Nat) (dk : List El) : Prop where
  len : dk.length = els.length
  low : dk.take kk = keptE els j
  high : dk.drop (j - 1) = els.drop (j - 1)
  lt : kk < j
  le : j ≤ els.length
theorem CInv.start {els : List El} {k : Nat} (hk : k < els.length) (hall : ∀ i, i < k → keepE els i = true) (hno : keepE els k = false) : CInv els (k + 1) k els :=
  ⟨rfl, by rw [keptE, keptE_all els k (by omega) hall, if_neg (by rw [hno]; decide), List.append_nil], rfl, by omega, by omega⟩
theorem CInv.skip {els dk : List El} {j kk : Nat} (h : CInv els j kk dk) (hj : j < els.length) (hno : keepE els j = false) : CInv els (j + 1) kk dk := by
  obtain ⟨h1, h2, h3, h4, h5⟩ := h
  refine ⟨h1, by rw [keptE, if_neg (by rw [hno]; decide), List.append_nil, h2], ?_, by omega, by omega⟩
  have e : j + 1 - 1 = j - 1 + 1 := by omega
  rw [e, ← List.drop_drop, ← List.drop_drop, h3]
theorem CInv.keep {els dk : List El} {j kk : Nat} (h : CInv els j kk dk) (hj : j < els.length) (hy : keepE els j = true) : CInv els (j + 1) (kk + 1) (dk.set kk (els.getD j zEl)) := by
  obtain ⟨h1, h2, h3, h4, h5⟩ := h
  refine ⟨by simpa using h1, ?_, ?_, by omega, by omega⟩
  · rw [keptE, if_pos hy, ← h2, List.take_succ_eq_append_getElem (by simp; omega), List.take_set_of_le (by omega)]
    simp
  · have e : j + 1 - 1 = j - 1 + 1 := by omega
    rw [e, List.drop_set_of_lt (by omega), ← List.drop_drop, ← List.drop_drop, h3]
theorem CInv.get {els dk : List El} {j kk i : Nat} (h : CInv els j kk dk) (hi : j - 1 ≤ i) (hl : i < els.length) : dk[i]'(by rw [h.len]; exact hl) = els[i] := by
  have e := congrArg (fun l => l[i - (j - 1)]?) h.high
  simp only [List.getElem?_drop, Nat.add_sub_cancel' hi] at e
  rw [List.getElem?_eq_getElem (by rw [h.len]; exact hl), List.getElem?_eq_getElem hl] at e
  exact Option.some.inj e
theorem keepE_pair {els : List El} {i : Nat} (hi : i + 1 < els.length) : keepE els (i + 1) = !eqI els[i + 1].2.1 els[i].2.1 := by
  unfold keepE
  simp [List.getD_eq_getElem?_getD, List.getElem?_eq_getElem hi, List.getElem?_eq_getElem (show i < els.length by omega)]
theorem CW.store2 {w W : World} {blk sz : Nat} {T : TypeId} {dk : List El} (h : CW w blk T sz dk W) {k : Nat} (hk : k < dk.length) {x : El} {v : Value} {c : Int} (hv : x.1 = v) (hc : x.2.2 = c) : CW w blk T sz (dk.set k x) ((W.setCell ⟨blk, k * 2, none⟩ v).setCell ⟨blk, k * 2 + 1, none⟩ (.int .i64 c)) := by
  subst hv hc
  exact h.store hk x
/-- The cells of n rows that say nothing. -/
def zs (n : Nat) : List Value := (Builtin.zeroCells #[.slice none 0 0, .int .i64 0] n).toList
theorem zs_len (n : Nat) : (zs n).length = n * 2 := by simp [zs, Builtin.zeroCells]
theorem zs_get {n i : Nat} (h : i < n) : (zs n)[i * 2]? = some (.slice none 0 0) ∧ (zs n)[i * 2 + 1]? = some (.int .i64 0) := by
  have a : i * 2 < n * 2 := by omega
  have b : i * 2 + 1 < n * 2 := by omega
  have e : (i * 2 + 1) % 2 = 1 := by omega
  have e' : i * 2 % 2 = 0 := by omega
  unfold zs Builtin.zeroCells
  constructor
  · rw [Array.getElem?_toList, Array.getElem?_map, Array.getElem?_range, if_pos (by simpa using a)]
    simp [e']
  · rw [Array.getElem?_toList, Array.getElem?_map, Array.getElem?_range, if_pos (by simpa using b)]
    simp [e]
theorem run_clear_rows (w : World) (ty : TypeId) (b o n c : Nat) (hn : 0 < n) (hc : ∀ j, j < n * 2 → (w.cell? ⟨b, o + j, none⟩).isSome = true) (hf : ∀ j, j < n * 2 → w.frozen? ⟨b, o + j, none⟩ = false) :
    (Builtin.clear_ #[22] ty #[.slice (some ⟨b, o, none⟩) n c]).run Tryd.prog w = .ok (.tuple #[]) (w.setCells b o (zs n)) := by
  have hst := run_storeCells_cells (P := Tryd.prog) b o (zs n) 0 w (by rw [zs_len]; simpa using hc) (by rw [zs_len]; simpa using hf) (by
    intro v hv
    simp only [zs, Builtin.zeroCells, Array.toList_map, List.mem_map] at hv
    obtain ⟨i, _, rfl⟩ := hv
    have : i % 2 = 0 ∨ i % 2 = 1 := by omega
    rcases this with h | h <;> simp [h, Value.oneCell'])
  simp only [Nat.add_zero] at hst
  obtain ⟨m, rfl⟩ : ∃ m, n = m + 1 := ⟨n - 1, by omega⟩
  have hz : ∀ w, (zeroValue 39).run Tryd.prog w = .ok (.agg #[.slice none 0 0, .int .i64 0]) w := Tryd.zeroValue39
  have hcl : (Value.agg #[.slice none 0 0, .int .i64 0]).cells = #[.slice none 0 0, .int .i64 0] := by simp [Value.cells]
  simp [Builtin.clear_, run_underlying Tryd.underlying22, hz, hcl, show (Builtin.zeroCells #[.slice none 0 0, .int .i64 0] (m + 1)).toList = zs (m + 1) from rfl, hst]
theorem CW.clear {w W : World} {blk sz : Nat} {T : TypeId} {dk : List El} (h : CW w blk T sz dk W) {k : Nat} (hk : k ≤ dk.length) : CW w blk T sz (dk.take k ++ List.replicate (dk.length - k) zEl) (W.setCells blk (k * 2) (zs (dk.length - k))) := by
  have hl := h.lt
  have hcell := fun i (hi : i < dk.length) => h.cell hi
  obtain ⟨⟨a, b, c, d, e⟩, cur, h1, h2, h3⟩ := h
  have hsz : k * 2 + (zs (dk.length - k)).length ≤ cur.size := by
    rw [zs_len]
    by_cases h0 : dk.length = 0
    · have : k = 0 := by omega
      omega
    · have := (Array.getElem?_eq_some_iff.1 (h3 (dk.length - 1) (by omega)).2).1
      omega
  obtain ⟨cur', g1, g2, g3⟩ := setCells_block (zs (dk.length - k)) (k * 2) W cur h1 hsz
  obtain ⟨q1, q2, q3⟩ := setCells_os blk (zs (dk.length - k)) (k * 2) W
  rw [zs_len] at g3
  refine ⟨⟨q1.trans a, q2.trans b, q3.trans c, by rw [setCells_size]; exact d, fun b' hb hne => (setCells_other hne _ _ _).trans (e b' hb hne)⟩, cur', g1, g2.trans h2, fun i hi => ?_⟩
  have hi' : i < dk.length := by simp at hi; omega
  rw [g3, g3]
  by_cases e : i < k
  · rw [if_neg (by omega), if_neg (by omega), List.getElem_append_left (by simp; omega), List.getElem_take]
    exact h3 i hi'
  · rw [if_pos (by omega), if_pos (by omega), List.getElem_append_right (by simp; omega), List.getElem_replicate]
    have := zs_get (n := dk.length - k) (i := i - k) (by omega)
    rw [show i * 2 - k * 2 = (i - k) * 2 by omega, show i * 2 + 1 - k * 2 = (i - k) * 2 + 1 by omega]
    exact this
theorem CInv.length {els dk : List El} {kk n : Nat} (h : CInv els n kk dk) (hl : els.length = n) : (keptE els n).length = kk := by
  rw [← h.low, List.length_take, h.len, hl]
  have := h.lt
  omega
set_option maxHeartbeats 4000000 in
theorem compact_short (b n cap : Nat) (w : World) (fv : Value) (h : n < 2) :
    Calls Tryd.prog 67 #[.slice (some ⟨b, 0, none⟩) n cap, fv] w fun e w' => e = .returned (.slice (some ⟨b, 0, none⟩) n cap) ∧ w = w' := by
  go_enter Tryd.func67, Tryd.ntmps67
  go_wp2_with fail
  go_ret
  exact ⟨rfl, rfl⟩
theorem compact_nil (cap : Nat) (w : World) (fv : Value) (a : Option Addr) :
    Calls Tryd.prog 67 #[.slice a 0 cap, fv] w fun e w' => e = .returned (.slice a 0 cap) ∧ w = w' := by
  go_enter Tryd.func67, Tryd.ntmps67
  go_wp2_with fail
  go_ret
  exact ⟨rfl, rfl⟩
set_option maxHeartbeats 4000000 in
theorem compact_full (b n cap sz : Nat) (T : TypeId) (w : World) (els : List El) (hx : els.length = n) (hn : n ≤ 4611686018427387904) (hnc : n ≤ cap) (h2 : ¬ n < 2) (hW : CW w b T sz els w) (HI : ∀ W, Oth w b W → ∀ x ∈ els, IsInts 0 W x.1 x.2.1) :
    Calls Tryd.prog 67 #[.slice (some ⟨b, 0, none⟩) n cap, .func (.func 68) #[] #[]] w fun e w' => e = .returned (.slice (some ⟨b, 0, none⟩) (keptE els n).length cap) ∧ CW w b T sz (keptE els n ++ List.replicate (n - (keptE els n).length) zEl) w' := by
  have HW := hid0 hW
  have HH := hid0 HI
  clear hW HI
  go_enter Tryd.func67, Tryd.ntmps67
  go_wp2_with fail
  go_loopw [5] (fun v wr => ∃ k : Nat, 1 ≤ k ∧ k ≤ n ∧ v = .int .i64 k ∧ (∀ i, i < k → keepE els i = true) ∧ CW w b T sz els wr) (fun v _ => n - (intOf v).toNat)
  case atStart => exact ⟨1, Nat.le_refl _, by omega, rfl, fun i hi => by obtain rfl : i = 0 := (by omega); rfl, HW.out⟩
  case round =>
    obtain ⟨k, hk1, hk, rfl, hall, hB⟩ := hrel
    have HA := hid0 hall
    have HB := hid0 hB
    clear hall hB
    by_cases h1 : k < n
    · obtain ⟨p, rfl⟩ : ∃ p, k = p + 1 := ⟨k - 1, by omega⟩
      have hp1 : p + 1 < els.length := by omega
      have i1 := HH.out wr HB.out.oth els[p + 1] (List.getElem_mem _)
      have i0 := HH.out wr HB.out.oth els[p] (List.getElem_mem _)
      obtain ⟨c1, c2⟩ := HB.out.cell hp1
      obtain ⟨c3, c4⟩ := HB.out.cell (i := p) (by omega)
      have hK := hid0 (keepE_pair hp1)
      have I1 := hid0 i1
      have I0 := hid0 i0
      obtain ⟨a1, k1, e1⟩ := i1.shape
      obtain ⟨a0, k0, e0⟩ := i0.shape
      rw [e1] at c1
      rw [e0] at c3
      rw [e1] at I1
      rw [e0] at I0
      have z1 : ((p : Int) + 1).toNat = p + 1 := by omega
      have z2 : IntKind.i64.wrap (p : Int) = (p : Int) := by rw [IntKind.wrap_i64]; omega
      have z3 : (p : Int) + 1 < (n : Int) := by omega
      have z4 : (p : Int) < (n : Int) := by omega
      have z5 : (0 : Int) ≤ (p : Int) + 1 := by omega
      clear e1 e0 i1 i0
      go_wp2_with fail
      have HZ := hid0 z3
      go_region_held3 (fun w' => w'.cell? ⟨b, (p + 1) * 2, none⟩ = some (.slice a1 (els[p + 1]'(by omega)).2.1.length k1) ∧ w'.cell? ⟨b, (p + 1) * 2 + 1, none⟩ = some (.int .i64 (els[p + 1]'(by omega)).2.2) ∧ w'.cell? ⟨b, p * 2, none⟩ = some (.slice a0 (els[p]'(by omega)).2.1.length k0) ∧ w'.cell? ⟨b, p * 2 + 1, none⟩ = some (.int .i64 (els[p]'(by omega)).2.2) ∧ Below wr.heap.size wr w') (first | exact ⟨c1, c2, c3, c4, Below.refl _ _⟩ | exact keepF ⟨c1, c2, c3, c4, Below.refl _ _⟩ (drewBelow _) | assumption | exact keepF (by assumption) (by assumption)) (first | (go_at_call 68; refine (sameCoef_any _ _ (I1.out.below (heldF (by assumption))) (I0.out.below (heldF (by assumption)))).mono ?_; rintro e w' ⟨rfl, hb1⟩))
      have hE := heldF (by assumption : _ ∧ _ ∧ _ ∧ _ ∧ Below wr.heap.size wr _)
      have HC := hid0 (HB.out.below hE)
      clear hE
      obtain ⟨q, hq⟩ : ∃ q, q = eqI (els[p + 1]'(by omega)).2.1 (els[p]'(by omega)).2.1 := ⟨_, rfl⟩
      rw [← hq]
      have hk2 : keepE els (p + 1) = !q := by rw [hK.out, hq]
      have HQ := hid0 hk2
      clear hq hk2
      cases q with
      | true =>
        go_wp2_with fail
        go_loopw [5, 7] (fun v u wr2 => ∃ (kk k2 : Nat) (dk : List El), v = .int .i64 kk ∧ u = .int .i64 k2 ∧ 1 ≤ k2 ∧ CInv els (p + 1 + k2) kk dk ∧ CW w b T sz dk wr2) (fun _ u _ => n - (intOf u).toNat)
        case atStart => exact ⟨p + 1, 1, els, rfl, rfl, Nat.le_refl _, CInv.start hp1 HA.out HQ.out, HC.out⟩
        case round =>
          obtain ⟨kk, k2, dk, rfl, rfl, h3, hI, hB2⟩ := hrel
          have HI2 := hid0 hI
          have HB2 := hid0 hB2
          have hdl : dk.length = n := hI.len.trans hx
          have hkk := hI.lt
          clear hI hB2
          by_cases h4 : p + 1 + k2 < n
          · obtain ⟨m, rfl⟩ : ∃ m, k2 = m + 1 := ⟨k2 - 1, by omega⟩
            have hp2 : p + 1 + m + 1 < els.length := by omega
            have i1 := HH.out wr HB2.out.oth (els[p + 1 + m + 1]'hp2) (List.getElem_mem _)
            have i0 := HH.out wr HB2.out.oth (els[p + 1 + m]'(by omega)) (List.getElem_mem _)
            obtain ⟨d1, d2⟩ := HB2.out.cell (i := p + 1 + m + 1) (by omega)
            obtain ⟨d3, d4⟩ := HB2.out.cell (i := p + 1 + m) (by omega)
            rw [HI2.out.get (i := p + 1 + m + 1) (by omega) hp2] at d1 d2
            rw [HI2.out.get (i := p + 1 + m) (by omega) (by omega)] at d3 d4
            have hK2 := hid0 (keepE_pair hp2)
            have J1 := hid0 i1
            have J0 := hid0 i0
            obtain ⟨a3, k3, e3⟩ := i1.shape
            obtain ⟨a4, k4, e4⟩ := i0.shape
            rw [e3] at d1 J1
            rw [e4] at d3 J0
            have y1 : ((m : Int) + 1).toNat = m + 1 := by omega
            have y2 : IntKind.i64.wrap (m : Int) = (m : Int) := by rw [IntKind.wrap_i64]; omega
            have y3 : (m : Int) + 1 < ((n - (p + 1) : Nat) : Int) := by omega
            have y4 : (m : Int) < ((n - (p + 1) : Nat) : Int) := by omega
            have y5 : (0 : Int) ≤ (m : Int) + 1 := by omega
            rw [show (p + 1 + m + 1) * 2 = (p + 1) * 2 + (m + 1) * 2 by omega] at d1 d2
            rw [show (p + 1 + m) * 2 = (p + 1) * 2 + m * 2 by omega] at d3 d4
            have HE3 := hid0 e3
            clear e3 e4 i1 i0 c1 c2 c3 c4
            go_wp2_with fail
            go_region_held3 (fun w' => w'.cell? ⟨b, (p + 1) * 2 + (m + 1) * 2, none⟩ = some (.slice a3 (els[p + 1 + m + 1]'(by omega)).2.1.length k3) ∧ w'.cell? ⟨b, (p + 1) * 2 + (m + 1) * 2 + 1, none⟩ = some (.int .i64 (els[p + 1 + m + 1]'(by omega)).2.2) ∧ w'.cell? ⟨b, (p + 1) * 2 + m * 2, none⟩ = some (.slice a4 (els[p + 1 + m]'(by omega)).2.1.length k4) ∧ w'.cell? ⟨b, (p + 1) * 2 + m * 2 + 1, none⟩ = some (.int .i64 (els[p + 1 + m]'(by omega)).2.2) ∧ Below wr.heap.size wr w') (first | exact ⟨d1, d2, d3, d4, Below.refl _ _⟩ | exact keepF ⟨d1, d2, d3, d4, Below.refl _ _⟩ (drewBelow _) | assumption | exact keepF (by assumption) (by assumption)) (first | (go_at_call 68; refine (sameCoef_any _ _ (J1.out.below (heldF (by assumption))) (J0.out.below (heldF (by assumption)))).mono ?_; rintro e w' ⟨rfl, hb1⟩))
            have hE := heldF (by assumption : _ ∧ _ ∧ _ ∧ _ ∧ Below wr.heap.size wr _)
            have HC2 := hid0 (HB2.out.below hE)
            clear hE
            obtain ⟨q, hq⟩ : ∃ q, q = eqI (els[p + 1 + m + 1]'(by omega)).2.1 (els[p + 1 + m]'(by omega)).2.1 := ⟨_, rfl⟩
            rw [← hq]
            have hk2 : keepE els (p + 1 + m + 1) = !q := by rw [hK2.out, hq]
            have HQ2 := hid0 hk2
            clear hq hk2
            cases q with
            | true =>
              go_wp2_with fail
              go_roundw
              case rel => exact ⟨kk, m + 1 + 1, dk, rfl, by go_num, by omega, HI2.out.skip (by omega) HQ2.out, HC2.out⟩
              case measure => simp [intOf]; omega
            | false =>
              have hkd : kk < dk.length := by omega
              obtain ⟨f1, f2⟩ := HC2.out.cell (i := p + 1 + m + 1) (by omega)
              rw [HI2.out.get (i := p + 1 + m + 1) (by omega) hp2] at f1 f2
              rw [HE3.out] at f1
              rw [show (p + 1 + m + 1) * 2 = (p + 1) * 2 + (m + 1) * 2 by omega] at f1 f2
              obtain ⟨g1, g2⟩ := HC2.out.cell (i := kk) hkd
              have r1 := HC2.out.free (kk * 2)
              have r2 := HC2.out.free (kk * 2 + 1)
              generalize dk[kk].1 = o1 at g1
              generalize dk[kk].2.2 = o2 at g2
              have hgd : (els.getD (p + 1 + m + 1) zEl) = els[p + 1 + m + 1]'hp2 := by rw [List.getD_eq_getElem?_getD, List.getElem?_eq_getElem hp2]; rfl
              have HG := hid0 hgd
              have y6 : (kk : Int) < (n : Int) := by omega
              clear hgd d1 d2 d3 d4
              go_wp2_with fail
              go_roundw
              case rel => exact ⟨kk + 1, m + 1 + 1, dk.set kk (els.getD (p + 1 + m + 1) zEl), by go_num, by go_num, by omega, HI2.out.keep (by omega) HQ2.out, HC2.out.store2 hkd (by rw [HG.out]; exact HE3.out) (by rw [HG.out])⟩
              case measure => simp [intOf]; omega
          · have hend : p + 1 + k2 = n := by have := HI2.out.le; omega
            have hII := hid0 (hend ▸ HI2.out)
            have hlt : kk < n := by have := HI2.out.lt; omega
            have hcl : ∀ ty, (Builtin.clear_ #[22] ty #[.slice (some ⟨b, kk * 2, none⟩) (n - kk) (cap - kk)]).run Tryd.prog wr = .ok (.tuple #[]) (wr.setCells b (kk * 2) (zs (n - kk))) := fun ty =>
              run_clear_rows wr ty b (kk * 2) (n - kk) (cap - kk) (by omega) (fun j hj => by
                rcases Nat.mod_two_eq_zero_or_one j with h0 | h0
                · have := (HB2.out.cell (i := kk + j / 2) (by omega)).1
                  rw [show (kk + j / 2) * 2 = kk * 2 + j by omega] at this
                  rw [this]; rfl
                · have := (HB2.out.cell (i := kk + j / 2) (by omega)).2
                  rw [show (kk + j / 2) * 2 + 1 = kk * 2 + j by omega] at this
                  rw [this]; rfl) (fun j _ => HB2.out.free _)
            have y6 : (kk : Int) < (n : Int) := by omega
            clear c1 c2 c3 c4
            go_wp2_with fail
            go_ret
            have e1 := hII.out.length hx
            have e2 := HB2.out.clear (k := kk) (by omega)
            rw [hdl, hII.out.low] at e2
            exact ⟨by rw [e1]; rfl, by rw [e1]; exact e2⟩
      | false =>
        go_wp2_with fail
        go_roundw
        case rel => exact ⟨p + 1 + 1, by omega, by omega, by go_num, fun i hi => by
          by_cases e : i = p + 1
          · subst e; exact HQ.out
          · exact HA.out i (by omega), HC.out⟩
        case measure => simp [intOf]; omega
    · go_wp2_with fail
      go_ret
      have hkn : k = n := by omega
      subst hkn
      have e : keptE els k = els := by rw [keptE_all els k (by omega) HA.out, ← hx, List.take_length]
      refine ⟨?_, ?_⟩
      · rw [e, hx]; rfl
      · rw [e, hx]; simpa using HB.out
end Go.Proofs.YtbbglendddepfaaDoor

namespace Go.Proofs
open Go.Shelf
shelf_lay_g SlLaysF0.n6 Slsf 6 at Tryd 65 as Tryd.sortRo
end Go.Proofs
namespace Go.Proofs.YtbbglendddepfaaDoor
open Go.RowKit Go.Deep Go.Shelf
open Go.Sort (SWO PermIn SortedIn HoldsK grow putRowK putRow mapBlock flatK get_flatK putCells)
variable {J : World → Prop}
/-- A row as it lies in w. -/
structure SRow (B : Nat) (w : World) (ok : Nat → Prop) where
  v : Value
  r : Rw
  pu : Pu (B ≤ ·) w ok (intsA r.1) v
  good : RwOk r
section
variable {B : Nat} {w : World} {ok : Nat → Prop}
instance sRowInh : Inhabited (SRow B w ok) := ⟨⟨.slice none 0 0, ([], 0), .sl0 (Nat.zero_le _) (fun _ => rfl), ⟨fun x hx => (List.not_mem_nil hx).elim, by unfold I64; omega⟩⟩⟩
def SRow.enc (x : SRow B w ok) : List Value := [x.v, .int .i64 x.r.2]
def SRow.cf (x y : SRow B w ok) : Int := cmpR x.r y.r
theorem sortWorld_other {α : Type} [Inhabited α] (enc : α → List Value) (blk off m b : Nat) (dk : Array α) (os : Array Obj) (hb : b < w.heap.size) (hne : b ≠ blk) : (sortWorldK enc 2 w blk off m dk os).heap[b]? = w.heap[b]? := by
  unfold sortWorldK grow putRowK putRow mapBlock
  show ((Go.Sort.ahead w m).heap.modify blk _ ++ os)[b]? = _
  have : (Go.Sort.ahead w m).heap = w.heap := rfl
  rw [this, Array.getElem?_append_left (by simpa using hb), Array.getElem?_modify, if_neg (Ne.symm hne)]
theorem sortWorld_here {α : Type} [Inhabited α] (enc : α → List Value) (blk m : Nat) (dk : Array α) (os : Array Obj) {cur : Array Value} {e : TypeId} {fz : Nat × Nat} (hg : w.heap[blk]? = some (.cells cur e fz)) : (sortWorldK enc 2 w blk 0 m dk os).heap[blk]? = some (.cells (putCells id 0 (flatK enc 2 dk) cur) e fz) := by
  have hb : blk < w.heap.size := (Array.getElem?_eq_some_iff.1 hg).1
  unfold sortWorldK grow putRowK putRow mapBlock
  show ((Go.Sort.ahead w m).heap.modify blk _ ++ os)[blk]? = _
  have : (Go.Sort.ahead w m).heap = w.heap := rfl
  rw [this, Array.getElem?_append_left (by simpa using hb), Array.getElem?_modify, if_pos rfl, hg]
  rfl
theorem sortWorld_size {α : Type} [Inhabited α] (enc : α → List Value) (blk off m : Nat) (dk : Array α) (os : Array Obj) : w.heap.size ≤ (sortWorldK enc 2 w blk off m dk os).heap.size := by
  unfold sortWorldK grow putRowK putRow mapBlock
  show _ ≤ ((Go.Sort.ahead w m).heap.modify blk _ ++ os).size
  have : (Go.Sort.ahead w m).heap = w.heap := rfl
  rw [this]
  simp
theorem sort_cmp {blk : Nat} (off size : Nat) (hok : ∀ b, ok b → b ≠ blk) : CmpLays Tryd.prog 66 #[] (SRow.enc (B := B) (w := w) (ok := ok)) 2 SRow.cf blk off size w := fun m os dk _ x y => by
  have key : ∀ z : SRow B w ok, IsInts 0 (sortWorldK SRow.enc 2 w blk off m dk os) z.v z.r.1 := fun z =>
    pu_ints (F := fun _ => True) (ok := fun _ => True) (lo := 0) z.good.coef (fun _ _ => Nat.zero_le _) (z.pu.mono (fun b hb hw => ⟨trivial, Nat.lt_of_lt_of_le hw (sortWorld_size _ _ _ _ _ _), sortWorld_other _ _ _ _ _ _ _ hw (hok b hb)⟩) fun _ _ _ => trivial)
  refine (Compare_gro x.r.2 y.r.2 (key x) (key y)).mono fun e w' ⟨he, hg⟩ => ⟨he, ?_⟩
  exact hg.grow
end
theorem lenFlat (rs : List Rw) : (rs.flatMap cRo).length = rs.length * 2 := by
  induction rs with
  | nil => rfl
  | cons r rs ih => rw [List.flatMap_cons, List.length_append, ih, lenRo, List.length_cons]; omega
theorem sp_sortRo {o : Oper} {c x y : Operand} {ats : Array TypeId} {e n k : Nat} {fr : Bool} {ds : List Rw} (ho : o.op = .call { callee := .value c, args := #[x, y], argTypes := ats }) (hI : ∀ r ∈ ds, RwOk r) (hsz : ds.length < 4611686018427387904) :
    ASpec Tryd.prog J o [(c, .v (.func (.func 65) #[] #[])), (x, .own k), (y, .v (.func (.func 66) #[] #[]))] [(k, .row fr e 2 n (ds.flatMap cRo))] (.v (.tuple #[])) (.st k (.row fr e 2 n ((srt ds).flatMap cRo))) := by
  intro ρ B a w K Q hwf hB hJ ha hr _ hk
  obtain ⟨nm, hk1, hx⟩ := (ha (x, .own k) (by simp)).own_inv
  have hy := (ha (y, .v (.func (.func 66) #[] #[])) (by simp)).v_inv
  obtain ⟨nm', hk1', xs, ⟨hlen, hcase⟩, hxl, hrel⟩ := hr (k, .row fr e 2 n (ds.flatMap cRo)) (by simp)
  rw [hk1] at hk1'; cases hk1'
  have hn : n = ds.length := by
    have h1 : (ds.flatMap cRo).length = ds.length * 2 := lenFlat ds
    omega
  subst hn
  refine upon_call ho (ha (c, .v (.func (.func 65) #[] #[])) (by simp)).v_inv (by kernel_rfl) ?_
  rw [Array.append_empty]
  have hargs : (#[x, y] : Array Operand).map a.eval = #[nm.val, .func (.func 66) #[] #[]] := by simp [hx, hy]
  rw [hargs]
  have hflat : ∀ (rs : List Rw) (t i j : Nat) (_ : t = i * 2 + j) (hi : i < rs.length) (hj : j < 2) (hl : t < (rs.flatMap cRo).length), (rs.flatMap cRo)[t] = (cRo rs[i])[j]'hj := fun rs t i j e hi hj hl => by
    subst e
    have := eflat_get lenRo rs i j hi hj
    rw [List.getElem?_eq_getElem hl] at this
    rw [List.getElem?_eq_getElem hj] at this
    exact Option.some.inj this
  rcases hcase with ⟨hv, hn0⟩ | ⟨g, cap, cur, hv, hBg, hg, hnc, hm, hs, ht⟩
  · have hd : ds = [] := List.eq_nil_of_length_eq_zero hn0
    subst hd
    rw [hv]
    have hcon := AnyF.slices_SortFunc_none { Tryd.sortRo with } none 0 (.func (.func 66) #[] #[]) w
    refine Calls.mono hcon fun e' w' ⟨he, hw⟩ => ⟨_, he, ?_⟩
    subst hw
    rw [show srt ([] : List Rw) = [] by simp [srt]] at hk
    exact hk ρ w' _ ⟨rfl, rfl, rfl, rfl, Nat.le_refl _, fun _ _ _ => rfl, fun _ _ => rfl, fun _ _ _ => rfl, fun k' X' he' => by cases he'; exact ⟨nm, hk1, fun b' c' n' e => by subst e; exact ⟨(hwf.lo _ _ _ _ hk1).2, (hwf.lo _ _ _ _ hk1).1, .inr ⟨_, _, hk1⟩⟩, xs, ⟨hlen, .inl ⟨hv, rfl⟩⟩, hxl, hrel⟩, .pu (.v _)⟩
  · have hnm : nm = .at g cap ds.length := by
      cases nm with
      | nil => cases hv
      | «at» b c m =>
        simp only [Nm.val, Value.slice.injEq, Option.some.injEq, Addr.mk.injEq, and_true] at hv
        obtain ⟨rfl, rfl, rfl⟩ := hv
        rfl
    subst hnm
    have hfl : (ds.flatMap cRo).length = ds.length * 2 := by omega
    have hpu : ∀ i (hi : i < ds.length), Pu (B ≤ ·) w (okR ρ fr B w) (intsA ds[i].1) (xs.getD (i * 2) undef) := fun i hi => by
      have h := hrel (i * 2) (by omega)
      rwa [show (ds.flatMap cRo)[i * 2]'(by omega) = intsA ds[i].1 from hflat ds _ i 0 rfl hi (by omega) (by omega)] at h
    have hpc : ∀ i (hi : i < ds.length), xs.getD (i * 2 + 1) undef = .int .i64 ds[i].2 := fun i hi => by
      have h := hrel (i * 2 + 1) (by omega)
      rw [show (ds.flatMap cRo)[i * 2 + 1]'(by omega) = iv ds[i].2 from hflat ds _ i 1 rfl hi (by omega) (by omega)] at h
      exact h.v_inv
    obtain ⟨d, hd⟩ : ∃ d : Array (SRow B w (okR ρ fr B w)), d = Array.ofFn (n := ds.length) fun i => ⟨xs.getD (i.1 * 2) undef, ds[i.1], hpu i.1 i.2, hI _ (List.getElem_mem _)⟩ := ⟨_, rfl⟩
    have hds : d.size = ds.length := by rw [hd]; simp
    have hdg : ∀ i (hi : i < ds.length), d[i]! = ⟨xs.getD (i * 2) undef, ds[i], hpu i hi, hI _ (List.getElem_mem _)⟩ := fun i hi => by
      rw [getElem!_pos d i (by omega)]
      subst hd
      simp
    have hdr : d.toList.map SRow.r = ds := by
      refine List.ext_getElem (by simp [hds]) fun i h1 h2 => ?_
      have := hdg i h2
      rw [getElem!_pos d i (by omega)] at this
      simp [this]
    have hcur : ∀ t, t < ds.length * 2 → cur[t]? = some (xs.getD t undef) := fun t h => by
      have : xs[t]? = cur.toList[t]? := by rw [← ht, List.getElem?_take, if_pos h]
      have h3 : xs[t]? = some (xs.getD t undef) := by
        rw [List.getD_eq_getElem?_getD, List.getElem?_eq_getElem (by omega)]
        rfl
      rw [← Array.getElem?_toList, ← this]; exact h3
    have hok : ∀ b, okR ρ fr B w b → b ≠ g := fun b hb e => by subst e; exact hb.1 _ _ _ hk1
    have hH : HoldsK SRow.enc 2 w g 0 d := fun t h => by
      have ht2 : t < ds.length * 2 := by simpa [hds] using h
      refine ⟨?_, frozenB hg _⟩
      have hi : t / 2 < ds.length := by omega
      show w.cell? ⟨g, 0 + t, none⟩ = some (flatK SRow.enc 2 d)[t]!
      rw [get_flatK _ _ _ _ (by omega), hdg _ hi, Nat.zero_add]
      simp only [World.cell?, hg, Option.isSome_none, Bool.false_eq_true, if_false]
      rw [hcur t ht2]
      rcases Nat.mod_two_eq_zero_or_one t with h0 | h0
      · rw [h0]
        show some (xs.getD t undef) = some (xs.getD (t / 2 * 2) undef)
        rw [show t / 2 * 2 = t by omega]
      · rw [h0]
        have e : xs.getD t undef = .int .i64 ds[t / 2].2 := by rw [← hpc _ hi]; congr 1; omega
        rw [e]
        rfl
    have hcon := AnyQ.slices_SortFunc Tryd.sortRo 2 Tryd.isAgg39 Tryd.sizeOf39 SRow.enc (fun _ => rfl) (fun z v hv => by
      obtain ⟨zv, zr, zp, zg⟩ := z
      simp only [SRow.enc, List.mem_cons, List.not_mem_nil, or_false] at hv
      rcases hv with rfl | rfl
      · unfold intsA at zp
        generalize zr.1.length = n1 at zp
        generalize zr.1.map iv = l1 at zp
        cases zp <;> rfl
      · rfl) SRow.cf ⟨fun _ => swoR.irrefl _, fun _ _ _ => swoR.trans _ _ _, fun _ _ _ => swoR.ntrans _ _ _⟩ 66 #[] g 0 cap d w (enters_of Tryd.func66 (by kernel_rfl) rfl) (sort_cmp 0 d.size hok) hH (hwf.lo _ _ _ _ hk1).2 (by omega)
    rw [hds] at hcon
    refine Calls.mono hcon fun e' w' ⟨he, d', m, os, hp, hso, hw⟩ => ⟨_, he, ?_⟩
    have hl : d'.toList.map SRow.r = srt ds := by
      rw [← hds] at hp hso
      rw [← hdr]
      exact srt_of SRow.r d d' hp hso
    have hd's : d'.size = ds.length := hp.1.trans hds
    subst hw
    have hhere := sortWorld_here SRow.enc g m d' os hg
    have hoth : ∀ b, b < w.heap.size → b ≠ g → (sortWorldK SRow.enc 2 w g 0 m d' os).heap[b]? = w.heap[b]? := fun b hb hne => sortWorld_other _ _ _ _ _ _ _ hb hne
    have hwsz := sortWorld_size (w := w) SRow.enc g 0 m d' os
    generalize hW : sortWorldK SRow.enc 2 w g 0 m d' os = W at hhere hoth hwsz ⊢
    have hos : W.os = w.os := by rw [← hW]; rfl
    have htp : W.tape = w.tape := by rw [← hW]; rfl
    have hou : W.output = w.output := by rw [← hW]; rfl
    clear hW
    refine hk ρ W _ ⟨rfl, hos, htp, hou, hwsz, fun b' h1 h2 => hoth b' h1 fun e => by subst e; exact h2 k _ _ rfl hk1, fun _ _ => rfl, fun _ _ _ => rfl, fun k' X' he' => ?_, .pu (.v _)⟩
    cases he'
    have hfs : (flatK SRow.enc 2 d').size = ds.length * 2 := by simp [hd's]
    refine ⟨_, hk1, fun b' c' n' e => by cases e; exact ⟨Nat.lt_of_lt_of_le (hwf.lo _ _ _ _ hk1).2 hwsz, (hwf.lo _ _ _ _ hk1).1, .inr ⟨_, _, hk1⟩⟩, (flatK SRow.enc 2 d').toList, ⟨by simpa using hfs, .inr ⟨g, cap, _, rfl, hBg, hhere, hnc, hm, by simpa [putCells] using hs, ?_⟩⟩, ?_, fun j hj => ?_⟩
    · refine List.ext_getElem? fun t => ?_
      rw [List.getElem?_take]
      by_cases h : t < ds.length * 2
      · have h3 : t < cur.size := (Array.getElem?_eq_some_iff.1 (hcur t h)).1
        rw [if_pos h, Array.getElem?_toList, Array.getElem?_toList]
        simp [putCells, hfs, h, h3, hd's]
      · rw [if_neg h, List.getElem?_eq_none (by simp; omega)]
    · have := srt_len ds
      have h1 : ((srt ds).flatMap cRo).length = (srt ds).length * 2 := lenFlat _
      simp only [Array.length_toList, hfs]; omega
    · have hsl := srt_len ds
      have h1 : ((srt ds).flatMap cRo).length = (srt ds).length * 2 := lenFlat _
      have hj2 : j < ds.length * 2 := by omega
      have hi : j / 2 < (srt ds).length := by omega
      have hi' : j / 2 < d'.size := by omega
      have hz : (srt ds)[j / 2] = d'[j / 2].r := by
        have : (d'.toList.map SRow.r)[j / 2]? = (srt ds)[j / 2]? := by rw [hl]
        rw [List.getElem?_eq_getElem hi, List.getElem?_map, List.getElem?_eq_getElem (by simpa using hi')] at this
        simpa using this.symm
      have hxj : (flatK SRow.enc 2 d').toList.getD j undef = (SRow.enc d'[j / 2]!)[j % 2]! := by
        rw [List.getD_eq_getElem?_getD, Array.getElem?_toList, Array.getElem?_eq_getElem (by omega), Option.getD_some, ← get_flatK _ _ _ _ (by omega), getElem!_pos _ j (by omega)]
      rw [hxj, getElem!_pos d' _ hi']
      have hpz := d'[j / 2].pu.mono (F' := (B ≤ ·)) (w' := W) (ok' := okR ρ fr B W) (fun b hb hw => by
        have e := hoth b hw (hok b hb)
        exact ⟨⟨hb.1, fun h => ⟨(hb.2 h).1, soft_eq e (hb.2 h).2⟩⟩, Nat.lt_of_lt_of_le hw hwsz, e⟩) (fun _ _ h => h)
      rcases Nat.mod_two_eq_zero_or_one j with h0 | h0
      · have e1 : ((srt ds).flatMap cRo)[j] = intsA (srt ds)[j / 2].1 := hflat (srt ds) j (j / 2) 0 (by omega) hi (by omega) hj
        rw [e1, hz, h0]
        exact hpz
      · have e1 : ((srt ds).flatMap cRo)[j] = iv (srt ds)[j / 2].2 := hflat (srt ds) j (j / 2) 1 (by omega) hi (by omega) hj
        rw [e1, hz, h0]
        exact .v _
end Go.Proofs.YtbbglendddepfaaDoor

namespace Go.Proofs.YtbbglendddepfaaDoor
open Go.RowKit Go.Deep
variable {J : World → Prop}
theorem compact_all (b n cap sz : Nat) (T : TypeId) (w : World) (els : List El) (hx : els.length = n) (hn : n ≤ 4611686018427387904) (hnc : n ≤ cap) (hW : CW w b T sz els w) (HI : ∀ W, Oth w b W → ∀ x ∈ els, IsInts 0 W x.1 x.2.1) :
    Calls Tryd.prog 67 #[.slice (some ⟨b, 0, none⟩) n cap, .func (.func 68) #[] #[]] w fun e w' => e = .returned (.slice (some ⟨b, 0, none⟩) (keptE els n).length cap) ∧ CW w b T sz (keptE els n ++ List.replicate (n - (keptE els n).length) zEl) w' := by
  by_cases h2 : n < 2
  · have e : keptE els n = els := by
      rw [keptE_all els n (by omega) (fun i hi => by obtain rfl : i = 0 := (by omega); rfl), ← hx, List.take_length]
    rw [e, hx]
    refine (compact_short b n cap w _ h2).mono fun e' w' ⟨he, hw⟩ => ⟨he, ?_⟩
    subst hw
    simpa using hW
  · exact compact_full b n cap sz T w els hx hn hnc h2 hW HI
/-- What is left of rows in their order: of those with the same coefficients the first. -/
def keepR (rs : List Rw) (i : Nat) : Bool := decide (i = 0) || !eqI (rs.getD i ([], 0)).1 (rs.getD (i - 1) ([], 0)).1
def keptR (rs : List Rw) : Nat → List Rw
  | 0 => []
  | m + 1 => keptR rs m ++ (if keepR rs m then [rs.getD m ([], 0)] else [])
def cmpt (rs : List Rw) : List Rw := keptR rs rs.length
theorem getD_map_snd (els : List El) (i : Nat) : (els.map (·.2)).getD i ([], 0) = (els.getD i zEl).2 := by
  simp only [List.getD_eq_getElem?_getD, List.getElem?_map]
  cases els[i]? <;> rfl
theorem keptE_map (els : List El) : ∀ m, (keptE els m).map (·.2) = keptR (els.map (·.2)) m
  | 0 => rfl
  | m + 1 => by
    have e : keepR (els.map (·.2)) m = keepE els m := by unfold keepR keepE; rw [getD_map_snd, getD_map_snd]
    rw [keptE, keptR, List.map_append, keptE_map els m, e, getD_map_snd]
    split <;> rfl
theorem keptE_mem {els : List El} : ∀ m, m ≤ els.length → ∀ x ∈ keptE els m, x ∈ els
  | 0, _, x, h => by simp [keptE] at h
  | m + 1, hm, x, h => by
    rw [keptE, List.mem_append] at h
    rcases h with h | h
    · exact keptE_mem m (by omega) x h
    · split at h
      · rw [List.mem_singleton] at h
        rw [h, List.getD_eq_getElem?_getD, List.getElem?_eq_getElem (by omega)]
        exact List.getElem_mem _
      · cases h
set_option maxHeartbeats 800000 in
theorem sp_compactRo {o : Oper} {c x y : Operand} {ats : Array TypeId} {e n k : Nat} {fr : Bool} {ds : List Rw} (ho : o.op = .call { callee := .value c, args := #[x, y], argTypes := ats }) (hI : ∀ r ∈ ds, RwOk r) (hsz : ds.length ≤ 4611686018427387904) {m : Nat} (hm : (cmpt ds).length = m) :
    ASpec Tryd.prog J o [(c, .v (.func (.func 67) #[] #[])), (x, .own k), (y, .v (.func (.func 68) #[] #[]))] [(k, .row fr e 2 n (ds.flatMap cRo))] (.own k) (.ap k (.row fr e 2 m ((cmpt ds).flatMap cRo))) := by
  subst hm
  intro ρ B a w K Q hwf hB hJ ha hr _ hk
  obtain ⟨nm, hk1, hx⟩ := (ha (x, .own k) (by simp)).own_inv
  have hy := (ha (y, .v (.func (.func 68) #[] #[])) (by simp)).v_inv
  obtain ⟨nm', hk1', xs, ⟨hlen, hcase⟩, hxl, hrel⟩ := hr (k, .row fr e 2 n (ds.flatMap cRo)) (by simp)
  rw [hk1] at hk1'; cases hk1'
  have hn : n = ds.length := by
    have h1 : (ds.flatMap cRo).length = ds.length * 2 := lenFlat ds
    omega
  subst hn
  refine upon_call ho (ha (c, .v (.func (.func 67) #[] #[])) (by simp)).v_inv (by kernel_rfl) ?_
  rw [Array.append_empty]
  have hargs : (#[x, y] : Array Operand).map a.eval = #[nm.val, .func (.func 68) #[] #[]] := by simp [hx, hy]
  rw [hargs]
  have hflat : ∀ (rs : List Rw) (t i j : Nat) (_ : t = i * 2 + j) (hi : i < rs.length) (hj : j < 2) (hl : t < (rs.flatMap cRo).length), (rs.flatMap cRo)[t] = (cRo rs[i])[j]'hj := fun rs t i j e hi hj hl => by
    subst e
    have := eflat_get lenRo rs i j hi hj
    rw [List.getElem?_eq_getElem hl] at this
    rw [List.getElem?_eq_getElem hj] at this
    exact Option.some.inj this
  rcases hcase with ⟨hv, hn0⟩ | ⟨g, cap, cur, hv, hBg, hg, hnc, hmx, hs, ht⟩
  · have hd : ds = [] := List.eq_nil_of_length_eq_zero hn0
    subst hd
    rw [hv]
    refine Calls.mono (compact_nil 0 w (.func (.func 68) #[] #[]) none) fun e' w' ⟨he, hw⟩ => ⟨_, he, ?_⟩
    subst hw
    have hup : (upd ρ k nm).f = ρ.f := by
      funext j
      by_cases e : j = k
      · subst e; exact (upd_same ρ j nm).trans hk1.symm
      · exact upd_other e
    have hup2 : upd ρ k nm = ρ := by
      obtain ⟨f, H⟩ := ρ
      exact congrArg (fun g => Names.mk g H) hup
    rw [show (cmpt ([] : List Rw)) = [] from rfl] at hk
    refine hk ρ w _ ⟨rfl, rfl, rfl, rfl, Nat.le_refl _, fun _ _ _ => rfl, fun _ _ => rfl, fun _ _ _ => rfl, fun k' X' he' => ?_, ?_⟩
    · cases he'
      exact ⟨nm, hk1, fun b' c' n' e => by subst e; exact ⟨(hwf.lo _ _ _ _ hk1).2, (hwf.lo _ _ _ _ hk1).1, .inr ⟨_, _, hk1⟩⟩, xs, ⟨hlen, .inl ⟨hv, rfl⟩⟩, hxl, hrel⟩
    · have : Nm.val nm = .slice none 0 0 := hv
      rw [← this]
      exact .own hk1
  · have hnm : nm = .at g cap ds.length := by
      cases nm with
      | nil => cases hv
      | «at» b c m =>
        simp only [Nm.val, Value.slice.injEq, Option.some.injEq, Addr.mk.injEq, and_true] at hv
        obtain ⟨rfl, rfl, rfl⟩ := hv
        rfl
    subst hnm
    have hfl : (ds.flatMap cRo).length = ds.length * 2 := by omega
    have hpu : ∀ i (hi : i < ds.length), Pu (B ≤ ·) w (okR ρ fr B w) (intsA ds[i].1) (xs.getD (i * 2) undef) := fun i hi => by
      have h := hrel (i * 2) (by omega)
      rwa [show (ds.flatMap cRo)[i * 2]'(by omega) = intsA ds[i].1 from hflat ds _ i 0 rfl hi (by omega) (by omega)] at h
    have hpc : ∀ i (hi : i < ds.length), xs.getD (i * 2 + 1) undef = .int .i64 ds[i].2 := fun i hi => by
      have h := hrel (i * 2 + 1) (by omega)
      rw [show (ds.flatMap cRo)[i * 2 + 1]'(by omega) = iv ds[i].2 from hflat ds _ i 1 rfl hi (by omega) (by omega)] at h
      exact h.v_inv
    obtain ⟨els, hel⟩ : ∃ els : List El, els = ds.zipIdx.map fun p => (xs.getD (p.2 * 2) undef, p.1) := ⟨_, rfl⟩
    have hes : els.length = ds.length := by rw [hel]; simp
    have heg : ∀ i (hi : i < els.length), els[i] = (xs.getD (i * 2) undef, ds[i]'(by omega)) := fun i hi => by subst hel; simp
    have her : els.map (·.2) = ds := by
      refine List.ext_getElem (by simp [hes]) fun i h1 h2 => ?_
      rw [List.getElem_map, heg i (by omega)]
    have hepu : ∀ z ∈ els, Pu (B ≤ ·) w (okR ρ fr B w) (intsA z.2.1) z.1 ∧ RwOk z.2 := fun z hz => by
      obtain ⟨i, hi, rfl⟩ := List.getElem_of_mem hz
      rw [heg i hi]
      exact ⟨hpu i (by omega), hI _ (List.getElem_mem _)⟩
    have hcur : ∀ t, t < ds.length * 2 → cur[t]? = some (xs.getD t undef) := fun t h => by
      have : xs[t]? = cur.toList[t]? := by rw [← ht, List.getElem?_take, if_pos h]
      have h3 : xs[t]? = some (xs.getD t undef) := by
        rw [List.getD_eq_getElem?_getD, List.getElem?_eq_getElem (by omega)]
        rfl
      rw [← Array.getElem?_toList, ← this]; exact h3
    have hok : ∀ b, okR ρ fr B w b → b ≠ g := fun b hb e => by subst e; exact hb.1 _ _ _ hk1
    have hCW : CW w g e (cap * 2) els w := ⟨⟨rfl, rfl, rfl, Nat.le_refl _, fun _ _ _ => rfl⟩, cur, hg, hs, fun i hi => by
      rw [heg i hi]
      refine ⟨hcur _ (by omega), ?_⟩
      rw [hcur _ (by omega), hpc i (by omega)]⟩
    have hIn : ∀ W, Oth w g W → ∀ z ∈ els, IsInts 0 W z.1 z.2.1 := fun W hW z hz =>
      pu_ints (F := fun _ => True) (ok := fun _ => True) (lo := 0) (hepu z hz).2.coef (fun _ _ => Nat.zero_le _) ((hepu z hz).1.mono (fun b hb hw => ⟨trivial, Nat.lt_of_lt_of_le hw hW.size, hW.block b hw (hok b hb)⟩) fun _ _ _ => trivial)
    refine Calls.mono (compact_all g ds.length cap (cap * 2) e w els hes hsz hnc hCW hIn) fun e' w' ⟨he, hW⟩ => ⟨_, he, ?_⟩
    have hkm : (keptE els ds.length).map (·.2) = cmpt ds := by
      rw [keptE_map, her]; rfl
    have hkl : (keptE els ds.length).length = (cmpt ds).length := by rw [← hkm, List.length_map]
    have hkle : (cmpt ds).length ≤ ds.length := by rw [← hkl]; exact keptE_len _ _
    obtain ⟨⟨hos, htp, hou, hwsz, hoth⟩, cur', h1, h2, h3⟩ := hW
    rw [hkl] at h3 ⊢
    have hup : ∀ b c' n', upd ρ k (.at g cap (cmpt ds).length) k = some (.at b c' n') → b = g := fun b c' n' h => by
      rw [upd_same] at h; cases h; rfl
    have hok2 : ∀ b, okOf ρ b → okOf (upd ρ k (.at g cap (cmpt ds).length)) b := fun b hb j c' n' h => by
      by_cases e : j = k
      · subst e
        have := hup _ _ _ h
        subst this
        exact hb _ _ _ hk1
      · rw [upd_other e] at h; exact hb _ _ _ h
    refine hk (upd ρ k (.at g cap (cmpt ds).length)) w' _ ⟨rfl, hos, htp, hou, hwsz, fun b' q1 q2 => hoth b' q1 fun e => by subst e; exact q2 k _ _ rfl hk1, fun j hj => upd_other fun e => hj (by rw [e]; rfl), (fun _ _ h => by cases h), fun k' X' he' => ?_, .own (upd_same _ _ _)⟩
    cases he'
    have hc2 : (cmpt ds).length * 2 ≤ cur'.size := by rw [h2]; omega
    refine ⟨_, upd_same _ _ _, fun b' c' n' e => by cases e; exact ⟨Nat.lt_of_lt_of_le (hwf.lo _ _ _ _ hk1).2 hwsz, (hwf.lo _ _ _ _ hk1).1, .inr ⟨_, _, hk1⟩⟩, cur'.toList.take ((cmpt ds).length * 2), ⟨by simp; omega, .inr ⟨g, cap, cur', rfl, hBg, h1, by omega, hmx, h2, rfl⟩⟩, ?_, fun j hj => ?_⟩
    · rw [lenFlat]; simp; omega
    · rw [lenFlat] at hj
      have hi : j / 2 < (keptE els ds.length).length := by omega
      obtain ⟨q1, q2⟩ := h3 (j / 2) (by simp; omega)
      rw [List.getElem_append_left hi] at q1 q2
      have hz : (cmpt ds)[j / 2]'(by omega) = ((keptE els ds.length)[j / 2]).2 := by
        have : ((keptE els ds.length).map (·.2))[j / 2]? = (cmpt ds)[j / 2]? := by rw [hkm]
        rw [List.getElem?_map, List.getElem?_eq_getElem hi, List.getElem?_eq_getElem (by omega)] at this
        exact (Option.some.inj this).symm
      have hmem := keptE_mem ds.length (by omega) _ (List.getElem_mem hi)
      have hval : (cur'.toList.take ((cmpt ds).length * 2)).getD j undef = (cur'[j]?).getD undef := by
        rw [List.getD_eq_getElem?_getD, List.getElem?_take, if_pos hj, Array.getElem?_toList]
      rw [hval]
      rcases Nat.mod_two_eq_zero_or_one j with h0 | h0
      · rw [hflat (cmpt ds) j (j / 2) 0 (by omega) (by omega) (by omega) (by rw [lenFlat]; exact hj), hz]
        rw [show j / 2 * 2 = j by omega] at q1
        rw [q1]
        exact (hepu _ hmem).1.mono (F' := (B ≤ ·)) (w' := w') (fun b hb hw => by
          have e := hoth b hw (hok b hb)
          exact ⟨⟨hok2 b hb.1, fun h => ⟨(hb.2 h).1, soft_eq e (hb.2 h).2⟩⟩, Nat.lt_of_lt_of_le hw hwsz, e⟩) (fun _ _ h => h)
      · rw [hflat (cmpt ds) j (j / 2) 1 (by omega) (by omega) (by omega) (by rw [lenFlat]; exact hj), hz]
        rw [show j / 2 * 2 + 1 = j by omega] at q2
        rw [q2]
        exact .v _
end Go.Proofs.YtbbglendddepfaaDoor

namespace Go.Proofs.YtbbglendddepfaaDoor
open Go.RowKit Go.Deep
variable {J : World → Prop}
end Go.Proofs.YtbbglendddepfaaDoor

namespace Go.Proofs.YtbbglendddepfaaDoor
open Go.RowKit Go.Deep

def negB (x : Int) : Bool := decide (x < 0)
def triB (xs : List Int) (c : Int) : Bool := decide (0 ≤ c) && !xs.any negB

theorem isNegative_any (x : Int) (w : World) : Calls Tryd.prog 80 #[.int .i64 x] w fun e w' => e = .returned (.bool (negB x)) ∧ w = w' := by
  have E : Hid (negB x = decide (x < 0)) := (rfl : negB x = _)
  by_cases h : x < 0
  · go_enter Tryd.func80, Tryd.ntmps80
    go_wp2
    go_ret
    exact ⟨ret_bool (by rw [E.out]; symm; first | (rw [decide_eq_true_iff]; omega) | (rw [decide_eq_false_iff_not]; omega)), rfl⟩
  · go_enter Tryd.func80, Tryd.ntmps80
    go_wp2
    go_ret
    exact ⟨ret_bool (by rw [E.out]; symm; first | (rw [decide_eq_true_iff]; omega) | (rw [decide_eq_false_iff_not]; omega)), rfl⟩

/-- Where the first such number stands, -1 if there is none. -/
theorem find_negB (xs : List Int) (k : Nat) (h : k < xs.length) (hp : negB xs[k] = true) : xs.any negB = true := List.any_eq_true.2 ⟨_, List.getElem_mem h, hp⟩

set_option maxHeartbeats 800000 in
theorem index_negB_full (b off n cap : Nat) (w : World) (xs : List Int) (hx : xs.length = n) (hn : n ≤ 9223372036854775807)
    (hc : ∀ i, i < n → w.cell? ⟨b, off + i, none⟩ = some (.int .i64 (xs.getD i 0))) :
    Calls Tryd.prog 91 #[.slice (some ⟨b, off, none⟩) n cap, .func (.func 80) #[] #[]] w fun e w' => ∃ r : Int, e = .returned (.int .i64 r) ∧ (decide (0 ≤ r) = xs.any negB) ∧ w = w' := by
  go_enter Tryd.func91, Tryd.ntmps91
  go_wp2_with fail
  go_loop [8] (fun v => ∃ k : Nat, k ≤ n ∧ v = .int .i64 k ∧ (xs.take k).any negB = false) (fun v => n - (intOf v).toNat)
  case atStart => exact ⟨0, Nat.zero_le _, rfl, rfl⟩
  case round =>
    obtain ⟨k, hk, rfl, hall⟩ := hrel
    have HA := hid0 hall
    clear hall
    by_cases h1 : k < n
    · have g1 : w.cell? ⟨b, off + k, none⟩ = some (.int .i64 (xs.getD k 0)) := hc k h1
      cases hp : negB (xs[k]'(by omega)) with
      | true =>
        have E := hid0 (find_negB xs k (by omega) hp)
        go_wp2_with (go_at_call 80; refine (isNegative_any _ _).mono ?_; rintro e w' ⟨rfl, rfl⟩)
        go_ret
        exact ⟨_, rfl, by rw [E.out]; simp, rfl⟩
      | false =>
        go_wp2_with (go_at_call 80; refine (isNegative_any _ _).mono ?_; rintro e w' ⟨rfl, rfl⟩)
        go_round
        case rel => exact ⟨k + 1, by omega, by go_num, by rw [List.take_succ_eq_append_getElem (by omega), List.any_append, HA.out]; simp [hp]⟩
        case measure => simp [intOf]; omega
    · have e1 : xs.take k = xs := List.take_of_length_le (by omega)
      have HA' : Hid (xs.any negB = false) := by rw [← e1]; exact HA.out
      clear e1
      go_wp2_with fail
      go_ret
      exact ⟨-1, rfl, by rw [HA'.out]; simp, rfl⟩
theorem index_negB_empty (a : Option Addr) (cap : Nat) (w : World) :
    Calls Tryd.prog 91 #[.slice a 0 cap, .func (.func 80) #[] #[]] w fun e w' => ∃ r : Int, e = .returned (.int .i64 r) ∧ (decide (0 ≤ r) = ([] : List Int).any negB) ∧ w = w' := by
  go_enter Tryd.func91, Tryd.ntmps91
  go_wp2_with fail
  refine wp_loop_rounds 1 ?_
  rw [rounds_succ]
  go_wp2_with fail
  go_ret
  exact ⟨-1, rfl, rfl, rfl⟩
theorem contains_negB {lo : Nat} {w : World} {v : Value} {xs : List Int} (h : IsInts lo w v xs) :
    Calls Tryd.prog 79 #[v, .func (.func 80) #[] #[]] w fun e w' => e = .returned (.bool (xs.any negB)) ∧ w = w' := by
  have hI : Calls Tryd.prog 91 #[v, .func (.func 80) #[] #[]] w fun e w' => ∃ r : Int, e = .returned (.int .i64 r) ∧ (decide (0 ≤ r) = xs.any negB) ∧ w = w' := by
    obtain ⟨a, cap, rfl, hl, hm, _, hc⟩ := h
    unfold maxLen at hm
    rcases hc with rfl | ⟨b, off, rfl, _, _, hc⟩
    · exact index_negB_empty _ _ _
    · exact index_negB_full _ _ _ _ _ _ rfl (by omega) hc
  obtain ⟨a, cap, rfl⟩ := h.shape
  have HI := hid0 hI
  clear hI h
  go_enter Tryd.func79, Tryd.ntmps79
  go_wp2_with (go_at_call 91; refine Calls.mono (show Calls _ _ _ _ _ from HI.out) ?_; rintro e w' ⟨r, rfl, hr, rfl⟩; have HR := hid0 hr; clear hr)
  go_ret
  exact ⟨ret_bool HR.out, rfl⟩

theorem Trivial_any {lo : Nat} {w : World} {v : Value} {xs : List Int} (c : Int) (h : IsInts lo w v xs) :
    Calls Tryd.prog 64 #[.agg #[v, .int .i64 c]] w fun e w' => e = .returned (.bool (triB xs c)) ∧ Below w.heap.size w w' := by
  have H := hid0 h
  obtain ⟨a, cap, rfl⟩ := h.shape
  clear h
  by_cases hc : 0 ≤ c
  · have E : Hid (triB xs c = !xs.any negB) := by show _ = _; simp [triB, hc]
    go_enter Tryd.func64, Tryd.ntmps64
    go_wp2_with (go_at_call 79; refine (contains_negB (H.out.below (by go_grown))).mono ?_; rintro e w' ⟨rfl, rfl⟩)
    go_ret
    exact ⟨ret_bool E.out.symm, allocBelow _ _⟩
  · have E : Hid (triB xs c = false) := by show _ = _; simp [triB, hc]
    go_enter Tryd.func64, Tryd.ntmps64
    go_wp2_with fail
    go_ret
    exact ⟨ret_bool E.out.symm, allocBelow _ _⟩

end Go.Proofs.YtbbglendddepfaaDoor

namespace Go.Proofs.YtbbglendddepfaaDoor
open Go.RowKit Go.Deep
variable {J : World → Prop}
def tR (r : Rw) : Rw := (tX r.1 r.2, tC r.1 r.2)
theorem tR_len (r : Rw) : (tR r).1.length = r.1.length := tX_length _ _
theorem smB_I64 {x : Int} (h : smB x = true) : I64 x := by rw [smB_true] at h; unfold I64; omega
theorem tR_small {xs : List Int} {c : Int} (h : smR (xs, c) = true) : smR (tX xs c, tC xs c) = true := by
  unfold tX tC
  split
  · rename_i hh
    obtain ⟨h1, h2⟩ := smR_true.1 h
    have hg : (1 : Int) ≤ gcdL xs 0 := by have := hh.2; omega
    rw [smR_true]
    constructor
    · rw [List.all_eq_true]
      intro y hy
      obtain ⟨x, hx, rfl⟩ := List.mem_map.1 hy
      rw [smB_true]
      exact tdiv_small (List.all_eq_true.1 h1 x hx)
    · rw [smB_true] at h2 ⊢
      obtain ⟨a, b⟩ := h2
      generalize ((gcdL xs 0 : Nat) : Int) = g at hg
      constructor
      · exact (Int.le_ediv_iff_mul_le (a := -68719476736) (b := c) (by omega : 0 < g)).2 (by omega)
      · by_cases hc : 0 ≤ c
        · exact Int.le_trans (Int.ediv_le_self _ hc) b
        · have h3 : c / g ≤ 0 := by
            have := Int.ediv_le_ediv (by omega : 0 < g) (by omega : c ≤ 0)
            simpa using this
          omega
  · exact h
theorem tR_ok {r : Rw} (h : RwOk r) : RwOk (tR r) := by
  by_cases hs : smR (r.1, r.2) = true
  · obtain ⟨h1, h2⟩ := smR_true.1 (tR_small hs)
    exact ⟨fun x hx => smB_I64 (List.all_eq_true.1 h1 x hx), smB_I64 h2⟩
  · have e1 : tX r.1 r.2 = r.1 := by unfold tX; rw [if_neg fun h => hs h.1]
    have e2 : tC r.1 r.2 = r.2 := by unfold tC; rw [if_neg fun h => hs h.1]
    have : tR r = r := Prod.ext e1 e2
    rw [this]; exact h
theorem Tighten_c {r : Rw} (H : RwOk r) (hn : r.1.length ≤ 1000) : Ctr Tryd.prog J 30 [.agg (cRo r)] (.agg (cRo (tR r))) := ctr1 fun w v _ h => by
  obtain ⟨u, rfl, hu⟩ := row_args h
  exact (Tighten_every r.2 (pu_ints H.coef lo00 hu) hn).mono fun _ _ ⟨g, he, ho, hb⟩ => ⟨_, he, .agg rfl fun j hj => (match j, hj with
    | 0, _ => ownI' ho (tX_length _ _).symm
    | 1, _ => .v _), hb⟩
theorem Trivial_c {r : Rw} (H : RwOk r) : Ctr Tryd.prog J 64 [.agg (cRo r)] (bv (triB r.1 r.2)) := ctr1 fun w v _ h => by
  obtain ⟨u, rfl, hu⟩ := row_args h
  exact (Trivial_any r.2 (pu_ints H.coef lo00 hu)).mono fun _ _ ⟨he, hb⟩ => ⟨_, he, .v _, hb⟩
/-- The rows that say something, tightened. -/
def tgs (rs : List Rw) : List Rw := (rs.map tR).filter fun t => !triB t.1 t.2
section
variable {rs : List Rw} {k : Nat}
theorem tgs_yes (hk : k < rs.length) (h : triB (tR rs[k]).1 (tR rs[k]).2 = false) : tgs (rs.take (k + 1)) = tgs (rs.take k) ++ [tR rs[k]] := by
  unfold tgs
  rw [List.take_succ_eq_append_getElem hk, List.map_append, List.filter_append]
  simp [h]
theorem tgs_no (hk : k < rs.length) (h : triB (tR rs[k]).1 (tR rs[k]).2 = true) : tgs (rs.take (k + 1)) = tgs (rs.take k) := by
  unfold tgs
  rw [List.take_succ_eq_append_getElem hk, List.map_append, List.filter_append]
  simp [h]
theorem tgs_ok {ss : List Rw} (h : ∀ r ∈ ss, RwOk r) : ∀ r ∈ tgs ss, RwOk r := fun r hr => by
  unfold tgs at hr
  obtain ⟨x, hx, rfl⟩ := List.mem_map.1 (List.mem_filter.1 hr).1
  exact tR_ok (h x hx)
theorem srt_ok {ss : List Rw} (h : ∀ r ∈ ss, RwOk r) : ∀ r ∈ srt ss, RwOk r := fun r hr => h r ((srt_perm ss).mem_iff.1 hr)
end
/-- The rows of a system in their normal form. -/
def nrm (rs : List Rw) : List Rw := cmpt (srt (tgs rs))
def nmE (n : Int) (rs : List Rw) : Int := valS n rs
def nmR (n : Int) (rs : List Rw) : List Rw := if valS n rs = 0 then nrm rs else []
section
variable {n : Int} {rs : List Rw}
theorem cmpt_sub {ss : List Rw} : ∀ r ∈ cmpt ss, r ∈ ss := by
  have key : ∀ m, m ≤ ss.length → ∀ r ∈ keptR ss m, r ∈ ss := by
    intro m
    induction m with
    | zero => intro _ r h; simp [keptR] at h
    | succ m ih =>
      intro hm r h
      rw [keptR, List.mem_append] at h
      rcases h with h | h
      · exact ih (by omega) r h
      · split at h
        · rw [List.mem_singleton] at h
          rw [h, List.getD_eq_getElem?_getD, List.getElem?_eq_getElem (by omega)]
          exact List.getElem_mem _
        · cases h
  exact key _ (Nat.le_refl _)
theorem keptR_len (ss : List Rw) : ∀ m, (keptR ss m).length ≤ m
  | 0 => Nat.le_refl _
  | m + 1 => by
    have := keptR_len ss m
    rw [keptR, List.length_append]
    split <;> simp <;> omega
theorem nrm_ok (H : SyOk rs) : ∀ r ∈ nrm rs, RwOk r := fun r hr => srt_ok (tgs_ok H.rows) r (cmpt_sub r hr)
theorem nrm_len : (nrm rs).length ≤ rs.length := by
  unfold nrm cmpt
  have h1 := keptR_len (srt (tgs rs)) (srt (tgs rs)).length
  have h2 := srt_len (tgs rs)
  have h3 : (tgs rs).length ≤ rs.length := by
    unfold tgs
    exact Nat.le_trans (List.length_filter_le _ _) (by simp)
  omega
end
end Go.Proofs.YtbbglendddepfaaDoor

namespace Go.Proofs.YtbbglendddepfaaDoor
open Go.RowKit Go.Deep
variable {J : World → Prop}
set_option linter.unusedSimpArgs false in
set_option linter.unusedVariables false in
set_option maxRecDepth 100000 in
set_option maxHeartbeats 6400000 in
theorem normalRows_o {rs : List Rw} (H : SyOk rs) (hl : rs.length ≤ 250) (hs : ∀ r ∈ rs, r.1.length ≤ 1000) (k : Nat) : CtrO Tryd.prog J 33 [slA 2 cRo rs] k (.row true 39 2 ((nrm rs).length) ((nrm rs).flatMap cRo)) (.own k) := by
 refine ctrO_of_tri Tryd.func33 rfl (by intro X hX; simp only [List.mem_cons, List.not_mem_nil, or_false] at hX; rcases hX with rfl; exact plain_sl plain_ro _) (n := 27) rfl (by simp) (fun w0 => ?_)
 refine kW 27 [] [(0, slA 2 cRo rs)] ?_
 refine tri_seq ?_
 refine tri_region ?_
 refine oA (sp_assign (.const (.slice none 0 0)) (.v (.slice none 0 0)) rfl) I0 ?_
 refine kN 27 [] [(0, slA 2 cRo rs), (2, .v (.slice none 0 0))] ?_
 refine t_then ?_
 refine tri_seq ?_
 refine tri_region ?_
 refine oA (sp_assign (.const (.slice none 0 0)) (.v (.slice none 0 0)) rfl) I0 ?_
 refine kN 27 [] [(0, slA 2 cRo rs), (2, .v (.slice none 0 0)), (3, .v (.slice none 0 0))] ?_
 refine t_then ?_
 refine tri_seq ?_
 refine tri_seq ?_
 refine tri_region ?_
 refine oA (sp_move (.tmp 0) (slA 2 cRo rs) rfl) I0 ?_
 refine oA (sp_lenSl (.tmp 7) rfl Tryd.underlying22) I0 ?_
 refine oA (sp_move (.const (.int .i64 0)) (iv 0) rfl) I0 ?_
 refine kN 27 [] [(2, .v (.slice none 0 0)), (3, .v (.slice none 0 0)), (7, slA 2 cRo rs), (8, iv rs.length), (9, iv 0)] ?_
 refine t_then ?_
 refine tri_block ?_
 refine tri_wk (wk_adopt 3 1 true 39 2 rfl rfl rfl) ?_
 refine tri_loop (σ := {p : Nat × List Rw // p.1 ≤ rs.length ∧ p.2 = tgs (rs.take p.1) ∧ p.2.length ≤ p.1}) (fun s => (ofL [(1, .row true 39 2 s.1.2.length (s.1.2.flatMap cRo))], ofT 27 [(2, .v (.slice none 0 0)), (3, .own 1), (7, slA 2 cRo rs), (8, iv rs.length), (9, iv s.1.1)])) (fun s => rs.length - s.1.1) ⟨(0, []), Nat.zero_le _, rfl, Nat.zero_le _⟩ (wk_keep _ _ rfl (by kernel_rfl) (by kernel_rfl)) (fun s => ?_)
 obtain ⟨⟨j, L⟩, hj0, hL, hLb⟩ := s
 show ETri J w0 (ofL [(1, .row true 39 2 L.length (L.flatMap cRo))]) (ofT 27 [(2, .v (.slice none 0 0)), (3, .own 1), (7, slA 2 cRo rs), (8, iv rs.length), (9, iv j)]) _
 dsimp only at hj0 hL hLb
 refine tri_seq ?_
 by_cases hs1 : ((j : Nat) : Int) < ((rs.length : Nat) : Int)
 refine tri_region ?_
 refine oC (sp_lss rfl (dT hs1)) I0 I0 ?_
 refine kN 27 [(1, .row true 39 2 L.length (L.flatMap cRo))] [(2, .v (.slice none 0 0)), (3, .own 1), (7, slA 2 cRo rs), (8, iv rs.length), (9, iv j), (10, bv true)] ?_
 refine t_then ?_
 refine tri_seq ?_
 refine t_condT rfl ?_
 refine tri_skip ?_
 refine t_then ?_
 refine tri_seq ?_
 refine tri_block ?_
 refine tri_seq ?_
 refine tri_region ?_
 refine oC (sp_indexSl (off := j * 2) (.tmp 7) (.tmp 9) rfl Tryd.underlying22 (by kernel_rfl) (by omega) (by omega) rfl) I0 I0 ?_
 refine oA (sp_loadElS (z := 2) (.tmp 11) rfl Tryd.underlying39 rfl (by kernel_rfl) (flat_take lenRo rs j (by omega)) rfl) I0 ?_
 refine t_op rfl (sp_alloc (z := .agg #[.slice none 0 0, .int .i64 0]) (k := 2) rfl (by kernel_rfl)) T0 T0 rfl ?_
 refine t_op rfl (sp_storeBox (T0 := 39) (X := .agg (cRo rs[j])) (cs := [.v (.slice none 0 0), iv 0]) (ds := cRo rs[j]) (z := 2) (.tmp 5) (.tmp 12) rfl (by kernel_rfl) (by kernel_rfl) (by kernel_rfl) (of_decide_eq_true (by kernel_rfl)) (by kernel_rfl)) ⟨I0, I0, T0⟩ ⟨rfl, T0⟩ rfl ?_
 refine kN 27 [(1, .row true 39 2 L.length (L.flatMap cRo)), (2, .box 39 (cRo rs[j]))] [(2, .v (.slice none 0 0)), (3, .own 1), (5, .box 2 0), (7, slA 2 cRo rs), (8, iv rs.length), (9, iv j), (10, bv true)] ?_
 refine t_then ?_
 refine tri_seq ?_
 refine tri_region ?_
 refine oB (sp_loadBoxS (Y := .box 39 (cRo rs[j])) (ds := cRo rs[j]) (z := 2) (.tmp 5) rfl Tryd.underlying39 rfl (by kernel_rfl) (by decide) (by kernel_rfl) (by kernel_rfl)) I0 rfl ?_
 refine oC (sp_call (c := .func 30) (xs := #[.tmp 13]) [] (Tighten_c (H.rows rs[j] (List.getElem_mem (by omega))) (hs rs[j] (List.getElem_mem (by omega)))) rfl (by kernel_rfl) rfl (Xs := [.agg (cRo rs[j])]) rfl rfl rfl) I0 I0 ?_
 refine t_op rfl (sp_alloc (z := .agg #[.slice none 0 0, .int .i64 0]) (k := 3) rfl (by kernel_rfl)) T0 T0 rfl ?_
 refine t_op rfl (sp_storeBox (T0 := 39) (X := .agg [.fr (intsA ((tR rs[j]).1)), iv ((tR rs[j]).2)]) (cs := [.v (.slice none 0 0), iv 0]) (ds := [.fr (intsA ((tR rs[j]).1)), iv ((tR rs[j]).2)]) (z := 2) (.tmp 6) (.tmp 14) rfl (by kernel_rfl) (by kernel_rfl) (by kernel_rfl) (of_decide_eq_true (by kernel_rfl)) (by kernel_rfl)) ⟨I0, .inr (.inr (.inl ⟨_, rfl, rfl⟩)), T0⟩ ⟨rfl, T0⟩ rfl ?_
 refine kN 27 [(1, .row true 39 2 L.length (L.flatMap cRo)), (2, .box 39 (cRo rs[j])), (3, .box 39 [.fr (intsA ((tR rs[j]).1)), iv ((tR rs[j]).2)])] [(2, .v (.slice none 0 0)), (3, .own 1), (5, .box 2 0), (6, .box 3 0), (7, slA 2 cRo rs), (8, iv rs.length), (9, iv j), (10, bv true)] ?_
 refine t_then ?_
 refine tri_seq ?_
 by_cases hs2 : (triB (tR rs[j]).1 (tR rs[j]).2) = true
 refine tri_region ?_
 refine oB (sp_loadBoxS (Y := .box 39 [.fr (intsA ((tR rs[j]).1)), iv ((tR rs[j]).2)]) (ds := [.fr (intsA ((tR rs[j]).1)), iv ((tR rs[j]).2)]) (z := 2) (.tmp 6) rfl Tryd.underlying39 rfl (by kernel_rfl) (by decide) (by kernel_rfl) (by kernel_rfl)) I0 rfl ?_
 refine oC (sp_call (c := .func 64) (xs := #[.tmp 15]) [] (ctr_b (Trivial_c (tR_ok (H.rows rs[j] (List.getElem_mem (by omega))))) hs2) rfl (by kernel_rfl) rfl (Xs := [.agg [.fr (intsA ((tR rs[j]).1)), iv ((tR rs[j]).2)]]) rfl rfl rfl) I0 I0 ?_
 refine oA (sp_not rfl rfl) I0 ?_
 refine kN 27 [(1, .row true 39 2 L.length (L.flatMap cRo)), (2, .box 39 (cRo rs[j])), (3, .box 39 [.fr (intsA ((tR rs[j]).1)), iv ((tR rs[j]).2)])] [(2, .v (.slice none 0 0)), (3, .own 1), (5, .box 2 0), (6, .box 3 0), (7, slA 2 cRo rs), (8, iv rs.length), (9, iv j), (10, bv true), (17, bv false)] ?_
 refine t_then ?_
 refine t_condF rfl ?_
 refine tri_skip ?_
 refine t_block ?_
 refine t_then ?_
 refine tri_region ?_
 refine oC (sp_add (c := ((j + 1 : Nat) : Int)) rfl (w64 (by omega) (by omega) (by omega))) I0 I0 ?_
 refine oA (sp_move (.tmp 22) (iv (j + 1 : Nat)) rfl) I0 ?_
 refine kN 27 [(1, .row true 39 2 L.length (L.flatMap cRo)), (2, .box 39 (cRo rs[j])), (3, .box 39 [.fr (intsA ((tR rs[j]).1)), iv ((tR rs[j]).2)])] [(2, .v (.slice none 0 0)), (3, .own 1), (5, .box 2 0), (6, .box 3 0), (7, slA 2 cRo rs), (8, iv rs.length), (9, iv (j + 1 : Nat)), (10, bv true), (17, bv false)] ?_
 refine t_then ?_
 refine tri_again ⟨(j + 1, L), by dsimp only; omega, by rw [tgs_no (by omega) hs2]; exact hL, by dsimp only; omega⟩ (show rs.length - (j + 1) < rs.length - j by omega) ?_
 exact wk_keep _ _ rfl (by kernel_rfl) (by kernel_rfl)
 have hs2f : (triB (tR rs[j]).1 (tR rs[j]).2) = false := by simpa using hs2
 refine tri_region ?_
 refine oB (sp_loadBoxS (Y := .box 39 [.fr (intsA ((tR rs[j]).1)), iv ((tR rs[j]).2)]) (ds := [.fr (intsA ((tR rs[j]).1)), iv ((tR rs[j]).2)]) (z := 2) (.tmp 6) rfl Tryd.underlying39 rfl (by kernel_rfl) (by decide) (by kernel_rfl) (by kernel_rfl)) I0 rfl ?_
 refine oC (sp_call (c := .func 64) (xs := #[.tmp 15]) [] (ctr_b (Trivial_c (tR_ok (H.rows rs[j] (List.getElem_mem (by omega))))) hs2f) rfl (by kernel_rfl) rfl (Xs := [.agg [.fr (intsA ((tR rs[j]).1)), iv ((tR rs[j]).2)]]) rfl rfl rfl) I0 I0 ?_
 refine oA (sp_not rfl rfl) I0 ?_
 refine kN 27 [(1, .row true 39 2 L.length (L.flatMap cRo)), (2, .box 39 (cRo rs[j])), (3, .box 39 [.fr (intsA ((tR rs[j]).1)), iv ((tR rs[j]).2)])] [(2, .v (.slice none 0 0)), (3, .own 1), (5, .box 2 0), (6, .box 3 0), (7, slA 2 cRo rs), (8, iv rs.length), (9, iv j), (10, bv true), (17, bv true)] ?_
 refine t_then ?_
 refine t_condT rfl ?_
 refine tri_region ?_
 refine oA (sp_move (.tmp 3) (.own 1) rfl) I0 ?_
 refine oB (sp_loadBoxS (Y := .box 39 [.fr (intsA ((tR rs[j]).1)), iv ((tR rs[j]).2)]) (ds := [.fr (intsA ((tR rs[j]).1)), iv ((tR rs[j]).2)]) (z := 2) (.tmp 6) rfl Tryd.underlying39 rfl (by kernel_rfl) (by decide) (by kernel_rfl) (by kernel_rfl)) I0 rfl ?_
 refine t_op rfl (sp_build (z := 2) (k := 4) (fr := false) (cs := [.fr (intsA ((tR rs[j]).1)), iv ((tR rs[j]).2)]) [.tmp 19] [.agg [.fr (intsA ((tR rs[j]).1)), iv ((tR rs[j]).2)]] rfl Tryd.underlying22 (by kernel_rfl) (by decide) (by decide) rfl rfl rfl (by kernel_rfl) (by decide) (fun h => Bool.noConfusion h) (by kernel_rfl)) ⟨I0, T0⟩ T0 rfl ?_
 refine t_op rfl (sp_appendOwn (n := L.length) (cs := (L.flatMap cRo)) (fr := true) (m := 1) (ds := [.fr (intsA ((tR rs[j]).1)), iv ((tR rs[j]).2)]) (⟨Tryd.underlying22, by kernel_rfl, by decide⟩ : Elt Tryd.prog 22 39 2 32) (.tmp 18) (.tmp 20) rfl (fun _ => newRo (tR rs[j])) (by unfold maxLen; omega) (by omega) (cellRo (tR rs[j])) (es := ((L ++ [tR rs[j]]).flatMap cRo)) snocRw) ⟨I0, I0, T0⟩ ⟨rfl, rfl, T0⟩ rfl ?_
 refine oA (sp_assign (.tmp 21) (.own 1) rfl) I0 ?_
 refine kN 27 [(1, .row true 39 2 (L.length + 1) ((L ++ [tR rs[j]]).flatMap cRo)), (2, .box 39 (cRo rs[j])), (3, .box 39 [.fr (intsA ((tR rs[j]).1)), iv ((tR rs[j]).2)])] [(2, .v (.slice none 0 0)), (3, .own 1), (5, .box 2 0), (6, .box 3 0), (7, slA 2 cRo rs), (8, iv rs.length), (9, iv j), (10, bv true), (17, bv true)] ?_
 refine t_block ?_
 refine t_then ?_
 refine tri_region ?_
 refine oC (sp_add (c := ((j + 1 : Nat) : Int)) rfl (w64 (by omega) (by omega) (by omega))) I0 I0 ?_
 refine oA (sp_move (.tmp 22) (iv (j + 1 : Nat)) rfl) I0 ?_
 refine kN 27 [(1, .row true 39 2 (L.length + 1) ((L ++ [tR rs[j]]).flatMap cRo)), (2, .box 39 (cRo rs[j])), (3, .box 39 [.fr (intsA ((tR rs[j]).1)), iv ((tR rs[j]).2)])] [(2, .v (.slice none 0 0)), (3, .own 1), (5, .box 2 0), (6, .box 3 0), (7, slA 2 cRo rs), (8, iv rs.length), (9, iv (j + 1 : Nat)), (10, bv true), (17, bv true)] ?_
 refine t_then ?_
 refine tri_again ⟨(j + 1, L ++ [tR rs[j]]), by dsimp only; omega, by rw [tgs_yes (by omega) hs2f, ← hL], by rw [List.length_append]; dsimp only [List.length]; omega⟩ (show rs.length - (j + 1) < rs.length - j by omega) ?_
 show Wk _ _ (ofL [(1, .row true 39 2 ((L ++ [tR rs[j]]).length) ((L ++ [tR rs[j]]).flatMap cRo))]) (ofT 27 [(2, .v (.slice none 0 0)), (3, .own 1), (7, slA 2 cRo rs), (8, iv rs.length), (9, iv ((j + 1) : Nat))])
 rw [List.length_append]
 exact wk_keep _ _ rfl (by kernel_rfl) (by kernel_rfl)
 refine tri_region ?_
 refine oC (sp_lss rfl (dF hs1)) I0 I0 ?_
 refine kN 27 [(1, .row true 39 2 L.length (L.flatMap cRo))] [(2, .v (.slice none 0 0)), (3, .own 1), (7, slA 2 cRo rs), (8, iv rs.length), (9, iv j), (10, bv false)] ?_
 refine t_then ?_
 refine tri_seq ?_
 refine t_condF rfl ?_
 refine tri_exit ?_
 refine t_then_exit ?_
 refine t_then_exit ?_
 refine t_hit ?_
 refine t_then ?_
 refine tri_seq ?_
 refine tri_region ?_
 refine oA (sp_move (.tmp 3) (.own 1) rfl) I0 ?_
 refine t_op rfl (sp_sortRo (c := .func 65) (x := .tmp 23) (y := .func 66) (e := 39) (n := L.length) (k := 1) (fr := true) (ds := L) rfl (hL ▸ tgs_ok fun x hx => H.rows x (List.mem_of_mem_take hx)) (by omega)) ⟨I0, I0, I0, T0⟩ ⟨rfl, T0⟩ rfl ?_
 refine kN 27 [(1, .row true 39 2 L.length ((srt L).flatMap cRo))] [(2, .v (.slice none 0 0)), (3, .own 1)] ?_
 refine t_then ?_
 refine tri_seq ?_
 refine tri_region ?_
 refine oA (sp_move (.tmp 3) (.own 1) rfl) I0 ?_
 refine t_op rfl (sp_compactRo (c := .func 67) (x := .tmp 25) (y := .func 68) (e := 39) (n := L.length) (k := 1) (fr := true) (ds := srt L) rfl (srt_ok (hL ▸ tgs_ok fun x hx => H.rows x (List.mem_of_mem_take hx))) (by rw [srt_len]; omega) (m := (cmpt (srt L)).length) rfl) ⟨I0, I0, I0, T0⟩ ⟨rfl, T0⟩ rfl ?_
 refine oA (sp_assign (.tmp 26) (.own 1) rfl) I0 ?_
 refine kN 27 [(1, .row true 39 2 ((cmpt (srt L)).length) ((cmpt (srt L)).flatMap cRo))] [(2, .own 1)] ?_
 refine t_then ?_
 refine tri_ret ?_
 have hk : j = rs.length := by omega
 have hL2 : L = tgs rs := by rw [hL, hk, List.take_length]
 subst hL2
 refine tri_give1 1 Tryd.results33 (.tmp rfl) rfl rfl
end Go.Proofs.YtbbglendddepfaaDoor

namespace Go.Proofs.YtbbglendddepfaaDoor
open Go.RowKit Go.Deep
variable {J : World → Prop}
end Go.Proofs.YtbbglendddepfaaDoor
