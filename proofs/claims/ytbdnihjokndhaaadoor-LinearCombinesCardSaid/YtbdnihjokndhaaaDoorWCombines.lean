/-
  THE WALK OF LinearCombines: what Combine returns for all rows and factors, in new memory.
-/
import Derived.Test.YtbdnihjokndhaaaDoorKnown
import Derived.Test.YtbdnihjokndhaaaDoorCopy
import Derived.Test.YtbdnihjokndhaaaDoorCom3
import Derived.Test.YtbdnihjokndhaaaDoorRefCom3
import Derived.Test.YtbdnihjokndhaaaDoorHold2
import Derived.Lib.Hide
import Derived.Deep.RegionHeld3
import Derived.Deep.DeepCutAuto
namespace Go.Proofs.YtbdnihjokndhaaaDoor
open Go.RowKit Go.Deep

theorem SameRow_eq {lo lo' : Nat} {w : World} {v v' : Value} {xs : List Int} (c : Int) (h : IsInts lo w v xs) (h' : IsInts lo' w v' xs) :
    Calls Tryd.prog 16 #[.agg #[v, .int .i64 c], .agg #[v', .int .i64 c]] w fun e w' => e = .returned (.bool true) ∧ Below w.heap.size w w' := by
  have := SameRow_any c c h h'
  rwa [show sameR (xs, c) (xs, c) = true by simp [sameR]] at this

theorem blkThen {W w1 : World} (hb : Below W.heap.size W w1) {n : Nat} {G : Prop} (hn : n < W.heap.size) (k : (∀ o, w1.cell? ⟨n, o, none⟩ = W.cell? ⟨n, o, none⟩) → (∀ o, w1.frozen? ⟨n, o, none⟩ = W.frozen? ⟨n, o, none⟩) → n < w1.heap.size → G) : G := k (blk hb hn).1 (blk hb hn).2 (Nat.lt_of_lt_of_le hn hb.size)
theorem OwnV.keepB {lo : Nat} {w w' : World} {v : Value} {xs : List Int} (h : OwnV lo w v xs) (hb : ∀ b, lo ≤ b → b < w.heap.size → w'.heap[b]? = w.heap[b]?) : OwnV lo w' v xs := by
  rcases h with h | ⟨g', cap, rfl, h1, h2, h⟩
  · exact .inl h
  · exact .inr ⟨g', cap, rfl, h1, h2, h.but (hb g' h.1 h.lt)⟩
/-- Ten cells of three blocks. -/
def KpC (n p q : Nat) (m0 m1 m2 m3 m4 m5 x0 x1 z0 z1 : Value) (w : World) : Prop :=
  w.cell? ⟨n, 0, none⟩ = some m0 ∧ w.cell? ⟨n, 1, none⟩ = some m1 ∧ w.cell? ⟨n, 2, none⟩ = some m2 ∧ w.cell? ⟨n, 3, none⟩ = some m3 ∧ w.cell? ⟨n, 4, none⟩ = some m4 ∧ w.cell? ⟨n, 5, none⟩ = some m5 ∧ w.cell? ⟨p, 0, none⟩ = some x0 ∧ w.cell? ⟨p, 1, none⟩ = some x1 ∧ w.cell? ⟨q, 0, none⟩ = some z0 ∧ w.cell? ⟨q, 1, none⟩ = some z1
theorem KpC.keep {n p q : Nat} {m0 m1 m2 m3 m4 m5 x0 x1 z0 z1 : Value} {w w' : World} {B : Nat} (h : KpC n p q m0 m1 m2 m3 m4 m5 x0 x1 z0 z1 w) (hn : n < B) (hp : p < B) (hq : q < B) (hb : Below B w w') : w'.cell? ⟨n, 0, none⟩ = some m0 ∧ w'.cell? ⟨n, 1, none⟩ = some m1 ∧ w'.cell? ⟨n, 2, none⟩ = some m2 ∧ w'.cell? ⟨n, 3, none⟩ = some m3 ∧ w'.cell? ⟨n, 4, none⟩ = some m4 ∧ w'.cell? ⟨n, 5, none⟩ = some m5 ∧ w'.cell? ⟨p, 0, none⟩ = some x0 ∧ w'.cell? ⟨p, 1, none⟩ = some x1 ∧ w'.cell? ⟨q, 0, none⟩ = some z0 ∧ w'.cell? ⟨q, 1, none⟩ = some z1 := by
  obtain ⟨h0, h1, h2, h3, h4, h5, h6, h7, h8, h9⟩ := h
  exact ⟨(hb.cell hn).trans h0, (hb.cell hn).trans h1, (hb.cell hn).trans h2, (hb.cell hn).trans h3, (hb.cell hn).trans h4, (hb.cell hn).trans h5, (hb.cell hp).trans h6, (hb.cell hp).trans h7, (hb.cell hq).trans h8, (hb.cell hq).trans h9⟩
/-- Four cells stay. -/
theorem keepK {w w1 : World} {p1 p2 p3 p4 : Addr} {u1 u2 u3 u4 : Value} (h1 : w.cell? p1 = some u1) (h2 : w.cell? p2 = some u2) (h3 : w.cell? p3 = some u3) (h4 : w.cell? p4 = some u4) (hb : Below w.heap.size w w1) :
    w1.cell? p1 = some u1 ∧ w1.cell? p2 = some u2 ∧ w1.cell? p3 = some u3 ∧ w1.cell? p4 = some u4 ∧ Below w.heap.size w w1 :=
  ⟨keep1 h1 hb, keep1 h2 hb, keep1 h3 hb, keep1 h4 hb, hb⟩

set_option linter.unusedSimpArgs false in
set_option maxRecDepth 20000 in
set_option maxHeartbeats 6400000 in
theorem walk_Combines {ua ub : Value} {ca cb ka kb : Int} {xa xb : List Int} (w : World) (Ha : IsInts 0 w ua xa) (Hb : IsInts 0 w ub xb) (_ba : I64 ca) (_bb : I64 cb) (_bk : I64 ka) (_bl : I64 kb) :
    Calls Tryd.prog 4 #[.agg #[ua, .int .i64 ca, ub, .int .i64 cb, .int .i64 ka, .int .i64 kb]] w fun e w' => e = .returned (.bool true) ∧ Below w.heap.size w w' := by
  obtain ⟨a, cap, rfl⟩ := Ha.shape
  obtain ⟨a1, cap1, rfl⟩ := Hb.shape
  have G0 := hid0 Ha
  have G1 := hid0 Hb
  clear Ha Hb _ba _bb _bk _bl
  by_cases h1 : 200 < xa.length
  · have h1' : (200 : Int) < xa.length := by omega
    go_enter Tryd.func4, Tryd.ntmps4
    go_wp2_with (first | (go_at_call 12; refine (long_any _ _ _ _ _).mono ?_; rintro e w1 ⟨rfl, hb1⟩; have hB1 : Below w.heap.size w w1 := (Below.trans (by go_grown) (hb1.mono (by go_size))); obtain ⟨p1, p2⟩ := blk hb1 (n := w.heap.size) (by go_size); have hz1 : w.heap.size < w1.heap.size := (by have := hb1.size; simp at this; omega); clear hb1) | (go_at_call 13; refine (known_any _).mono ?_; rintro e wk ⟨rfl, hbk⟩))
    go_ret
    exact ⟨rfl, thenBelow hB1 hbk⟩
  · have h1' : ¬ (200 : Int) < xa.length := by omega
    by_cases h2 : 200 < xb.length
    · have h2' : (200 : Int) < xb.length := by omega
      go_enter Tryd.func4, Tryd.ntmps4
      go_wp2_with (first | (have := hB1; go_at_call 12; refine (long_any _ _ _ _ _).mono ?_; rintro e w2 ⟨rfl, hb2⟩; have hB2 : Below w.heap.size w w2 := (thenBelow hB1 hb2); obtain ⟨p3, p4⟩ := blk hb2 (n := w.heap.size) hz1; have hz2 : w.heap.size < w2.heap.size := (by have := hb2.size; omega); clear hb2) | (go_at_call 12; refine (long_any _ _ _ _ _).mono ?_; rintro e w1 ⟨rfl, hb1⟩; have hB1 : Below w.heap.size w w1 := (Below.trans (by go_grown) (hb1.mono (by go_size))); obtain ⟨p1, p2⟩ := blk hb1 (n := w.heap.size) (by go_size); have hz1 : w.heap.size < w1.heap.size := (by have := hb1.size; simp at this; omega); clear hb1) | (go_at_call 13; refine (known_any _).mono ?_; rintro e wk ⟨rfl, hbk⟩))
      go_ret
      exact ⟨rfl, thenBelow hB2 hbk⟩
    · have h2' : ¬ (200 : Int) < xb.length := by omega
      go_enter Tryd.func4, Tryd.ntmps4
      go_upto_region 3 with (first | (have := hB1; go_at_call 12; refine (long_any _ _ _ _ _).mono ?_; rintro e w2 ⟨rfl, hb2⟩; have hB2 : Below w.heap.size w w2 := (thenBelow hB1 hb2); obtain ⟨p3, p4⟩ := blk hb2 (n := w.heap.size) hz1; have hz2 : w.heap.size < w2.heap.size := (by have := hb2.size; omega); clear hb2) | (go_at_call 12; refine (long_any _ _ _ _ _).mono ?_; rintro e w1 ⟨rfl, hb1⟩; have hB1 : Below w.heap.size w w1 := (Below.trans (by go_grown) (hb1.mono (by go_size))); obtain ⟨p1, p2⟩ := blk hb1 (n := w.heap.size) (by go_size); have hz1 : w.heap.size < w1.heap.size := (by have := hb1.size; simp at this; omega); clear hb1))
      clear this
      have HM := Lib.hid (show w2.cell? ⟨w.heap.size, 0, none⟩ = some (.slice a xa.length cap) ∧ w2.cell? ⟨w.heap.size, 1, none⟩ = some (.int .i64 ca) ∧ w2.cell? ⟨w.heap.size, 2, none⟩ = some (.slice a1 xb.length cap1) ∧ w2.cell? ⟨w.heap.size, 3, none⟩ = some (.int .i64 cb) ∧ w2.cell? ⟨w.heap.size, 4, none⟩ = some (.int .i64 ka) ∧ w2.cell? ⟨w.heap.size, 5, none⟩ = some (.int .i64 kb) from ⟨by rw [p3, p1]; exact new_cell _ _ _ 0 rfl, by rw [p3, p1]; exact new_cell _ _ _ 1 rfl, by rw [p3, p1]; exact new_cell _ _ _ 2 rfl, by rw [p3, p1]; exact new_cell _ _ _ 3 rfl, by rw [p3, p1]; exact new_cell _ _ _ 4 rfl, by rw [p3, p1]; exact new_cell _ _ _ 5 rfl⟩)
      clear p1 p2 p3 p4
      have y0 := HM.out.1
      have y1 := HM.out.2.1
      have y2 := HM.out.2.2.1
      have y3 := HM.out.2.2.2.1
      go_cut [3, 4] (fun s3 s4 wx => ∃ (p q : Nat) (b : Option Addr) (k : Nat) (b' : Option Addr) (k' : Nat), s3 = .pointer (some ⟨p, 0, none⟩) ∧ s4 = .pointer (some ⟨q, 0, none⟩) ∧ wx.cell? ⟨p, 0, none⟩ = some (.slice b xa.length k) ∧ wx.cell? ⟨p, 1, none⟩ = some (.int .i64 ca) ∧ wx.cell? ⟨q, 0, none⟩ = some (.slice b' xb.length k') ∧ wx.cell? ⟨q, 1, none⟩ = some (.int .i64 cb) ∧ IsInts 0 wx (.slice b xa.length k) xa ∧ IsInts 0 wx (.slice b' xb.length k') xb ∧ Below w2.heap.size w2 wx)
      case first =>
        go_region_held3 (fun w' => w'.cell? ⟨w.heap.size, 0, none⟩ = some (.slice a xa.length cap) ∧ w'.cell? ⟨w.heap.size, 1, none⟩ = some (.int .i64 ca) ∧ w'.cell? ⟨w.heap.size, 2, none⟩ = some (.slice a1 xb.length cap1) ∧ w'.cell? ⟨w.heap.size, 3, none⟩ = some (.int .i64 cb) ∧ Below w2.heap.size w2 w') (first | exact keepK y0 y1 y2 y3 (Below.refl _ _) | exact keepK y0 y1 y2 y3 (drewBelow _) | exact keepF (by assumption) hb4 | exact keepF (by assumption) hb3 | exact keepF (by assumption) (allocBelow _ _) | exact keepK y0 y1 y2 y3 (by repeat' (first | exact HK4.out | exact HK3.out | exact heldF (by assumption) | refine Below.setCell ?_ (by first | omega | (simp; done) | (simp; omega)) _ | refine Below.alloc ?_ (by first | omega | (simp; done) | (simp; omega)) _))) (first | (have := hb3; go_at_call 18; refine (CopyRow_any cb (G1.out.below (thenBelow hB2 (heldF (by assumption)))) (by omega)).mono ?_; rintro e w4 ⟨v4, rfl, hO4, hb4⟩; obtain ⟨b4, k4, rfl⟩ := hO4.shape; have HO4 := hid0 hO4; have HK4 := hid0 (show Below w2.heap.size w2 w4 from thenBelow (heldF (by assumption)) hb4); clear hO4; have hz4 : w3.heap.size ≤ w4.heap.size := (by have := hb4.size; first | omega | (simp at this; omega)); (try (refine blkThen hb4 (n := w2.heap.size) ?_ ?_; (first | omega | (simp <;> omega)); intro c41 d41 e41)); (try (refine blkThen hb4 (n := w2.heap.size + 1) ?_ ?_; (first | omega | (simp <;> omega)); intro c42 d42 e42)); (try (refine blkThen hb4 (n := w3.heap.size) ?_ ?_; (first | omega | (simp <;> omega)); intro c43 d43 e43)); (try (refine blkThen hb4 (n := w3.heap.size + 1) ?_ ?_; (first | omega | (simp <;> omega)); intro c44 d44 e44))) | (go_at_call 18; refine (CopyRow_any ca (G0.out.below (thenBelow hB2 (heldF (by assumption)))) (by omega)).mono ?_; rintro e w3 ⟨v3, rfl, hO3, hb3⟩; obtain ⟨b3, k3, rfl⟩ := hO3.shape; have HO3 := hid0 hO3; have HK3 := hid0 (show Below w2.heap.size w2 w3 from thenBelow (heldF (by assumption)) hb3); clear hO3; have hz3 : w2.heap.size ≤ w3.heap.size := (by have := hb3.size; simp at this; omega); (try (refine blkThen hb3 (n := w2.heap.size) ?_ ?_; (first | omega | (simp <;> omega)); intro c31 d31 e31)); (try (refine blkThen hb3 (n := w2.heap.size + 1) ?_ ?_; (first | omega | (simp <;> omega)); intro c32 d32 e32))))
        all_goals (
          go_wp2_with fail
          go_meet
          refine ⟨_, _, b3, k3, b4, k4, rfl, rfl, ?_, ?_, ?_, ?_, ?_, ?_, ?_⟩
          · simp [go_sem, *]
          · simp [go_sem, *]
          · simp [go_sem, *]
          · simp [go_sem, *]
          · refine (OwnV.keepB HO3.out (fun b h1 h2 => ?_)).ints.mono (Nat.zero_le _)
            try simp only [World.size_alloc, World.size_drew] at h1
            repeat (first | (with_reducible rfl) | refine Eq.trans (Below.heap_setCell _ _ _ _ (by first | omega | (simp; done) | (simp; omega))) ?_ | refine Eq.trans (Below.heap_alloc _ _ _ (by first | omega | (simp; done) | (simp; omega))) ?_ | refine Eq.trans (hb4.block _ (by first | omega | (simp; done) | (simp; omega))) ?_)
          · refine (OwnV.keepB HO4.out (fun b h1 h2 => ?_)).ints.mono (Nat.zero_le _)
            try simp only [World.size_alloc, World.size_drew] at h1
            repeat (first | (with_reducible rfl) | refine Eq.trans (Below.heap_setCell _ _ _ _ (by first | omega | (simp; done) | (simp; omega))) ?_ | refine Eq.trans (Below.heap_alloc _ _ _ (by first | omega | (simp; done) | (simp; omega))) ?_)
          · repeat' (first | exact HK4.out | refine Below.setCell ?_ (by first | omega | (simp; done) | (simp; omega)) _ | refine Below.alloc ?_ (by first | omega | (simp; done) | (simp; omega)) _))
      case rest =>
        obtain ⟨p, q, b, k, b', k', rfl, rfl, x0, x1, z0, z1, hA, hB, hBx⟩ := hcut
        have A := hid0 hA
        have B := hid0 hB
        have HX := hid0 (thenBelow hB2 hBx)
        have hn : w.heap.size < wc.heap.size := Nat.lt_of_lt_of_le hz2 hBx.size
        have hp : p < wc.heap.size := cell_lt x0
        have hq : q < wc.heap.size := cell_lt z0
        have HK : KpC w.heap.size p q (.slice a xa.length cap) (.int .i64 ca) (.slice a1 xb.length cap1) (.int .i64 cb) (.int .i64 ka) (.int .i64 kb) (.slice b xa.length k) (.int .i64 ca) (.slice b' xb.length k') (.int .i64 cb) wc := ⟨keep1 HM.out.1 hBx, keep1 HM.out.2.1 hBx, keep1 HM.out.2.2.1 hBx, keep1 HM.out.2.2.2.1 hBx, keep1 HM.out.2.2.2.2.1 hBx, keep1 HM.out.2.2.2.2.2 hBx, x0, x1, z0, z1⟩
        clear x0 x1 z0 z1 hA hB hBx y0 y1 y2 y3 HM
        obtain ⟨s1, s2, s3, s4, s5, s6, s7, s8, s9, s10⟩ := HK.keep hn hp hq (Below.refl _ _)
        go_wp2_with (first | (go_at_call 13; refine (known_any _).mono ?_; rintro e wk ⟨rfl, hbk⟩) | (go_at_call 19; refine (Combine_any ca ka cb kb A.out B.out).mono ?_; rintro e w5 ⟨u5, rfl, hU, hb5⟩; obtain ⟨au, ku, rfl⟩ := hU.shape; have HU := hid0 hU; clear hU; have HB5 := hid0 (show Below wc.heap.size wc w5 from hb5); clear hb5; obtain ⟨s51, s52, s53, s54, s55, s56, s57, s58, s59, s50⟩ := HK.keep hn hp hq HB5.out; have hn5 : w.heap.size < w5.heap.size := (Nat.lt_of_lt_of_le hn HB5.out.size); have hp5 : p < w5.heap.size := (Nat.lt_of_lt_of_le hp HB5.out.size); have hq5 : q < w5.heap.size := (Nat.lt_of_lt_of_le hq HB5.out.size)) | (go_at_call 20; refine (rCombine_any ca ka cb kb (G0.out.below (thenBelow (thenBelow HX.out HB5.out) (allocBelow _ _))) (G1.out.below (thenBelow (thenBelow HX.out HB5.out) (allocBelow _ _)))).mono ?_; rintro e w6 ⟨v6, rfl, hV, hb6⟩; obtain ⟨av, kv, rfl⟩ := hV.shape; have HV := hid0 hV; clear hV; have HU6 := hid0 ((HU.out.below (allocBelow _ _)).below hb6); have HB6 := hid0 (show Below wc.heap.size wc w6 from thenBelow (thenBelow HB5.out (allocBelow _ _)) hb6); obtain ⟨t61, t62⟩ := blk hb6 (n := w5.heap.size) (by go_size); have ht6 : w5.heap.size < w6.heap.size := (by have := hb6.size; simp at this; omega); clear hb6; obtain ⟨s61, s62, s63, s64, s65, s66, s67, s68, s69, s60⟩ := HK.keep hn hp hq HB6.out; have hn6 : w.heap.size < w6.heap.size := (Nat.lt_of_lt_of_le hn HB6.out.size); have hp6 : p < w6.heap.size := (Nat.lt_of_lt_of_le hp HB6.out.size); have hq6 : q < w6.heap.size := (Nat.lt_of_lt_of_le hq HB6.out.size)) | (have := HB9; go_at_call 16; refine (SameRow_eq cb (B.out.below HB9.out) (G1.out.below (thenBelow HX.out HB9.out))).mono ?_; rintro e w10 ⟨rfl, hb10⟩; have HB10 := hid0 (show Below wc.heap.size wc w10 from thenBelow HB9.out hb10); clear hb10) | (have := HB8; go_at_call 16; refine (SameRow_eq ca (A.out.below HB8.out) (G0.out.below (thenBelow HX.out HB8.out))).mono ?_; rintro e w9 ⟨rfl, hb9⟩; have HB9 := hid0 (show Below wc.heap.size wc w9 from thenBelow HB8.out hb9); clear hb9; obtain ⟨s91, s92, s93, s94, s95, s96, s97, s98, s99, s90⟩ := HK.keep hn hp hq HB9.out; have hn9 : w.heap.size < w9.heap.size := (Nat.lt_of_lt_of_le hn HB9.out.size); have hp9 : p < w9.heap.size := (Nat.lt_of_lt_of_le hp HB9.out.size); have hq9 : q < w9.heap.size := (Nat.lt_of_lt_of_le hq HB9.out.size)) | (go_at_call 16; refine (SameRow_eq _ (HU6.out.ints.below (allocBelow _ _)) (HV.out.below (allocBelow _ _))).mono ?_; rintro e w7 ⟨rfl, hb7⟩; have HU7 := hid0 ((HU6.out.below (allocBelow _ _)).below hb7); have HB7 := hid0 (show Below wc.heap.size wc w7 from thenBelow (thenBelow HB6.out (allocBelow _ _)) hb7); obtain ⟨t71, t72⟩ := blk hb7 (n := w5.heap.size) (by go_size); have ht7 : w5.heap.size < w7.heap.size := (by have := hb7.size; simp at this; omega); clear hb7; obtain ⟨s71, s72, s73, s74, s75, s76, s77, s78, s79, s70⟩ := HK.keep hn hp hq HB7.out; have hn7 : w.heap.size < w7.heap.size := (Nat.lt_of_lt_of_le hn HB7.out.size); have hp7 : p < w7.heap.size := (Nat.lt_of_lt_of_le hp HB7.out.size); have hq7 : q < w7.heap.size := (Nat.lt_of_lt_of_le hq HB7.out.size)) | (go_at_call 21; refine (spoil_any HU7.out).mono ?_; rintro e w8 ⟨rfl, hb8⟩; have HB8 := hid0 (show Below wc.heap.size wc w8 from HB7.out.trans hb8); clear hb8; obtain ⟨s81, s82, s83, s84, s85, s86, s87, s88, s89, s80⟩ := HK.keep hn hp hq HB8.out; have hn8 : w.heap.size < w8.heap.size := (Nat.lt_of_lt_of_le hn HB8.out.size); have hp8 : p < w8.heap.size := (Nat.lt_of_lt_of_le hp HB8.out.size); have hq8 : q < w8.heap.size := (Nat.lt_of_lt_of_le hq HB8.out.size)))
        go_ret
        exact ⟨rfl, thenBelow (HX.out.trans (HB10.out.mono (by omega))) hbk⟩
end Go.Proofs.YtbdnihjokndhaaaDoor
