/-
  CopyProperty OF THE REFERENCE.
-/
import Derived.Test.YtbdnihjokndhaabDoorPropBase
import Derived.Test.YtbdnihjokndhaabDoorOwnCount
import Derived.Test.YtbdnihjokndhaabDoorBigProp
import Derived.LoopTactic
import Derived.Deep.RegionHeld3
namespace Go.Proofs.YtbdnihjokndhaabDoor
open Go.RowKit Go.Deep

/-- A block known whole: its cells and marks. -/
theorem obj_cell {w : World} {g : Nat} {cs : Array Value} {t : TypeId} (h : w.heap[g]? = some (.cells cs t (0, 0))) (i : Nat) : w.cell? ⟨g, i, none⟩ = cs[i]? := by simp [World.cell?, h]
theorem obj_frozen {w : World} {g : Nat} {cs : Array Value} {t : TypeId} (h : w.heap[g]? = some (.cells cs t (0, 0))) (i : Nat) : w.frozen? ⟨g, i, none⟩ = false := by simp [World.frozen?, h]
theorem obj_lt {w : World} {g : Nat} {x : Obj} (h : w.heap[g]? = some x) : g < w.heap.size := (Array.getElem?_eq_some_iff.1 h).1
/-- An own slice stays when all blocks but one, which is not its own, stay. -/
theorem OwnV.but {lo : Nat} {w w' : World} {v : Value} {xs : List Int} {g : Nat} (h : OwnV lo w v xs) (hg : g < lo) (hb : ∀ b, b < w.heap.size → b ≠ g → w'.heap[b]? = w.heap[b]?) : OwnV lo w' v xs := by
  rcases h with h | ⟨g', cap, rfl, h1, h2, h⟩
  · exact .inl h
  · exact .inr ⟨g', cap, rfl, h1, h2, h.but (hb g' h.lt (by have := h.1; omega))⟩

/-- Three cells of elder blocks stay. -/
theorem keep3b {B : Nat} {X Y : World} {p q r : Addr} {u v x : Value} (h : X.cell? p = some u ∧ X.cell? q = some v ∧ X.cell? r = some x) (hp : p.block < B) (hq : q.block < B) (hr : r.block < B) (hb : Below B X Y) : Y.cell? p = some u ∧ Y.cell? q = some v ∧ Y.cell? r = some x :=
  ⟨(hb.cell hp).trans h.1, (hb.cell hq).trans h.2.1, (hb.cell hr).trans h.2.2⟩

set_option linter.unusedSimpArgs false in
set_option maxHeartbeats 6400000 in
theorem CopyProperty_full {lo : Nat} {w : World} {nm : ByteArray} {kind : Int} {a0 a1 a2 a3 : Option Addr} {c0 c1 c2 c3 : Nat} {start adj goal : List Int} {bad : List Rw}
    (H2 : IsInts lo w (.slice a0 start.length c0) start) (H3 : IsRows lo w (.slice a1 bad.length c1) bad) (H4 : IsInts lo w (.slice a2 adj.length c2) adj) (H5 : IsInts lo w (.slice a3 goal.length c3) goal)
    (n2 : start.length ≤ 60) (n3 : bad.length ≤ 60) (n3' : ∀ r ∈ bad, r.1.length ≤ 60) (n4 : adj.length ≤ 60) (n5 : goal.length ≤ 60) (hnm : nm.size ≤ maxLen) (hkd : I64 kind) :
    Calls Tryd.prog 9 #[.agg #[.string nm, .int .i64 kind, .slice a0 start.length c0, .slice a1 bad.length c1, .slice a2 adj.length c2, .slice a3 goal.length c3]] w fun e w' => ∃ v, e = .returned v ∧ IsProp w.heap.size w' v ⟨nm, kind, start, bad, adj, goal⟩ ∧ Below w.heap.size w w' := by
  have GH2 := Lib.hid H2
  have GH3 := Lib.hid H3
  have GH4 := Lib.hid H4
  have GH5 := Lib.hid H5
  have N3 := Lib.hid n3'
  have NM := Lib.hid hnm
  have KD := Lib.hid hkd
  obtain ⟨i0, hi0, hz0, hz1, hz2⟩ := info_row4
  have HI0 := Lib.hid (And.intro hi0 (And.intro hz0 (And.intro hz1 hz2)))
  clear H2 H3 H4 H5 n3' hnm hkd hi0 hz0 hz1 hz2
  go_enter Tryd.func9, Tryd.ntmps9
  go_wp2_with fail
  obtain ⟨W0, hW0⟩ : ∃ W, W = ((w.alloc (.cells #[.string nm, .int .i64 kind, .slice a0 start.length c0, .slice a1 bad.length c1, .slice a2 adj.length c2, .slice a3 goal.length c3] 25)).alloc (.cells #[.string ⟨#[]⟩, .int .i64 0, .slice none 0 0, .slice none 0 0, .slice none 0 0, .slice none 0 0] 25)).alloc (.cells #[.string nm, .int .i64 kind, .slice a0 start.length c0, .slice a1 bad.length c1, .slice a2 adj.length c2, .slice a3 goal.length c3] 25) := ⟨_, rfl⟩
  rw [← hW0]
  have HO := Lib.hid (show W0.heap[w.heap.size + 1 + 1]? = some (.cells #[.string nm, .int .i64 kind, .slice a0 start.length c0, .slice a1 bad.length c1, .slice a2 adj.length c2, .slice a3 goal.length c3] 25 (0, 0)) by rw [hW0]; exact heap_new _ _ (by simp))
  have HR := Lib.hid (show W0.heap[w.heap.size + 1]? = some (.cells #[.string ⟨#[]⟩, .int .i64 0, .slice none 0 0, .slice none 0 0, .slice none 0 0, .slice none 0 0] 25 (0, 0)) by rw [hW0]; exact (heap_old _ _ (by simp)).trans (heap_new _ _ (by simp)))
  have HA := Lib.hid (show W0.heap[w.heap.size]? = some (.cells #[.string nm, .int .i64 kind, .slice a0 start.length c0, .slice a1 bad.length c1, .slice a2 adj.length c2, .slice a3 goal.length c3] 25 (0, 0)) by rw [hW0]; exact (heap_old _ _ (by first | omega | (simp; done) | (simp; omega))).trans ((heap_old _ _ (by simp)).trans (heap_new _ _ rfl)))
  have HB0 := Lib.hid (show Below w.heap.size w W0 by rw [hW0]; show Below _ _ _; go_grown)
  have sz0 : w.heap.size + 3 = W0.heap.size := by rw [hW0]; simp
  clear hW0
  refine (CopyInts_any (GH2.out.below HB0.out) (by omega)).mono ?_
  rintro e w1 ⟨v1, rfl, hv1, hb1⟩
  obtain ⟨d1, e1, rfl⟩ := hv1.shape
  have HOw1 := Lib.hid ((hb1.block (w.heap.size + 1 + 1) (obj_lt HO.out)).trans HO.out)
  have HAw1 := Lib.hid ((hb1.block w.heap.size (obj_lt HA.out)).trans HA.out)
  have HRw1 := Lib.hid ((hb1.block (w.heap.size + 1) (obj_lt HR.out)).trans HR.out)
  have x1 : w1.cell? ⟨w.heap.size + 1 + 1, 2, none⟩ = some _ := obj_cell HOw1.out 2
  have xf1 : ∀ o, w1.frozen? ⟨w.heap.size + 1 + 1, o, none⟩ = false := fun o => obj_frozen HOw1.out o
  have y1 : w1.cell? ⟨w.heap.size, 4, none⟩ = some _ := obj_cell HAw1.out 4
  have szw1 : W0.heap.size ≤ w1.heap.size := hb1.size
  go_wp2_with fail
  obtain ⟨X1, hX1⟩ : ∃ X, X = w1.setCell ⟨w.heap.size + 1 + 1, 2, none⟩ (.slice d1 start.length e1) := ⟨_, rfl⟩
  rw [← hX1]
  have HO1 := Lib.hid (show X1.heap[w.heap.size + 1 + 1]? = some (.cells #[.string nm, .int .i64 kind, .slice d1 start.length e1, .slice a1 bad.length c1, .slice a2 adj.length c2, .slice a3 goal.length c3] 25 (0, 0)) by rw [hX1]; exact heap_setCell_same _ _ 2 _ _ _ HOw1.out)
  have HA1 := Lib.hid (show X1.heap[w.heap.size]? = some (.cells #[.string nm, .int .i64 kind, .slice a0 start.length c0, .slice a1 bad.length c1, .slice a2 adj.length c2, .slice a3 goal.length c3] 25 (0, 0)) by rw [hX1]; exact (Below.heap_setCell _ _ _ _ (by simp; try omega)).trans HAw1.out)
  have HR1 := Lib.hid (show X1.heap[w.heap.size + 1]? = some (.cells #[.string ⟨#[]⟩, .int .i64 0, .slice none 0 0, .slice none 0 0, .slice none 0 0, .slice none 0 0] 25 (0, 0)) by rw [hX1]; exact (Below.heap_setCell _ _ _ _ (by simp; try omega)).trans HRw1.out)
  have HB1 := Lib.hid (show Below w.heap.size w X1 by rw [hX1]; exact (thenBelow HB0.out hb1).setCell (by first | omega | (simp; done) | (simp; omega)) _)
  have V1_1 := Lib.hid (show OwnV (w.heap.size + 3) X1 (.slice d1 start.length e1) start by rw [hX1]; exact (hv1.mono (lo' := w.heap.size + 3) (by omega)).setOther ⟨w.heap.size + 1 + 1, 2, none⟩ (by first | omega | (simp; done) | (simp; omega)) _)
  have sz1 : w.heap.size + 3 ≤ X1.heap.size := by rw [hX1]; (first | omega | (simp; omega))
  clear hX1 x1 xf1 y1 hv1 hb1
  refine (CopyInts_any (GH4.out.below HB1.out) (by omega)).mono ?_
  rintro e w2 ⟨v2, rfl, hv2, hb2⟩
  obtain ⟨d2, e2, rfl⟩ := hv2.shape
  have HOw2 := Lib.hid ((hb2.block (w.heap.size + 1 + 1) (obj_lt HO1.out)).trans HO1.out)
  have HAw2 := Lib.hid ((hb2.block w.heap.size (obj_lt HA1.out)).trans HA1.out)
  have HRw2 := Lib.hid ((hb2.block (w.heap.size + 1) (obj_lt HR1.out)).trans HR1.out)
  have x2 : w2.cell? ⟨w.heap.size + 1 + 1, 4, none⟩ = some _ := obj_cell HOw2.out 4
  have xf2 : ∀ o, w2.frozen? ⟨w.heap.size + 1 + 1, o, none⟩ = false := fun o => obj_frozen HOw2.out o
  have y2 : w2.cell? ⟨w.heap.size, 5, none⟩ = some _ := obj_cell HAw2.out 5
  have szw2 : X1.heap.size ≤ w2.heap.size := hb2.size
  go_wp2_with fail
  obtain ⟨X2, hX2⟩ : ∃ X, X = w2.setCell ⟨w.heap.size + 1 + 1, 4, none⟩ (.slice d2 adj.length e2) := ⟨_, rfl⟩
  rw [← hX2]
  have HO2 := Lib.hid (show X2.heap[w.heap.size + 1 + 1]? = some (.cells #[.string nm, .int .i64 kind, .slice d1 start.length e1, .slice a1 bad.length c1, .slice d2 adj.length e2, .slice a3 goal.length c3] 25 (0, 0)) by rw [hX2]; exact heap_setCell_same _ _ 4 _ _ _ HOw2.out)
  have HA2 := Lib.hid (show X2.heap[w.heap.size]? = some (.cells #[.string nm, .int .i64 kind, .slice a0 start.length c0, .slice a1 bad.length c1, .slice a2 adj.length c2, .slice a3 goal.length c3] 25 (0, 0)) by rw [hX2]; exact (Below.heap_setCell _ _ _ _ (by simp; try omega)).trans HAw2.out)
  have HR2 := Lib.hid (show X2.heap[w.heap.size + 1]? = some (.cells #[.string ⟨#[]⟩, .int .i64 0, .slice none 0 0, .slice none 0 0, .slice none 0 0, .slice none 0 0] 25 (0, 0)) by rw [hX2]; exact (Below.heap_setCell _ _ _ _ (by simp; try omega)).trans HRw2.out)
  have HB2 := Lib.hid (show Below w.heap.size w X2 by rw [hX2]; exact (thenBelow HB1.out hb2).setCell (by first | omega | (simp; done) | (simp; omega)) _)
  have V1_2 := Lib.hid (show OwnV (w.heap.size + 3) X2 (.slice d1 start.length e1) start by rw [hX2]; exact (V1_1.out.below hb2).setOther ⟨w.heap.size + 1 + 1, 4, none⟩ (by first | omega | (simp; done) | (simp; omega)) _)
  have V2_2 := Lib.hid (show OwnV (w.heap.size + 3) X2 (.slice d2 adj.length e2) adj by rw [hX2]; exact (hv2.mono (lo' := w.heap.size + 3) (by omega)).setOther ⟨w.heap.size + 1 + 1, 4, none⟩ (by first | omega | (simp; done) | (simp; omega)) _)
  have sz2 : w.heap.size + 3 ≤ X2.heap.size := by rw [hX2]; (first | omega | (simp; omega))
  clear hX2 x2 xf2 y2 hv2 hb2
  refine (CopyInts_any (GH5.out.below HB2.out) (by omega)).mono ?_
  rintro e w3 ⟨v3, rfl, hv3, hb3⟩
  obtain ⟨d3, e3, rfl⟩ := hv3.shape
  have HOw3 := Lib.hid ((hb3.block (w.heap.size + 1 + 1) (obj_lt HO2.out)).trans HO2.out)
  have HAw3 := Lib.hid ((hb3.block w.heap.size (obj_lt HA2.out)).trans HA2.out)
  have HRw3 := Lib.hid ((hb3.block (w.heap.size + 1) (obj_lt HR2.out)).trans HR2.out)
  have x3 : w3.cell? ⟨w.heap.size + 1 + 1, 5, none⟩ = some _ := obj_cell HOw3.out 5
  have xf3 : ∀ o, w3.frozen? ⟨w.heap.size + 1 + 1, o, none⟩ = false := fun o => obj_frozen HOw3.out o
  have y3 : w3.cell? ⟨w.heap.size + 1 + 1, 3, none⟩ = some _ := obj_cell HOw3.out 3
  have szw3 : X2.heap.size ≤ w3.heap.size := hb3.size
  go_wp2_with fail
  obtain ⟨X3, hX3⟩ : ∃ X, X = (w3.setCell ⟨w.heap.size + 1 + 1, 5, none⟩ (.slice d3 goal.length e3)).setCell ⟨w.heap.size + 1 + 1, 3, none⟩ (.slice none 0 0) := ⟨_, rfl⟩
  rw [← hX3]
  have HO3 := Lib.hid (show X3.heap[w.heap.size + 1 + 1]? = some (.cells #[.string nm, .int .i64 kind, .slice d1 start.length e1, .slice none 0 0, .slice d2 adj.length e2, .slice d3 goal.length e3] 25 (0, 0)) by rw [hX3]; exact heap_setCell_same _ _ 3 #[.string nm, .int .i64 kind, .slice d1 start.length e1, .slice a1 bad.length c1, .slice d2 adj.length e2, .slice d3 goal.length e3] _ _ (heap_setCell_same _ _ 5 _ _ _ HOw3.out))
  have HA3 := Lib.hid (show X3.heap[w.heap.size]? = some (.cells #[.string nm, .int .i64 kind, .slice a0 start.length c0, .slice a1 bad.length c1, .slice a2 adj.length c2, .slice a3 goal.length c3] 25 (0, 0)) by rw [hX3]; exact (Below.heap_setCell _ _ _ _ (by simp; try omega)).trans ((Below.heap_setCell _ _ _ _ (by simp; try omega)).trans HAw3.out))
  have HR3 := Lib.hid (show X3.heap[w.heap.size + 1]? = some (.cells #[.string ⟨#[]⟩, .int .i64 0, .slice none 0 0, .slice none 0 0, .slice none 0 0, .slice none 0 0] 25 (0, 0)) by rw [hX3]; exact (Below.heap_setCell _ _ _ _ (by simp; try omega)).trans ((Below.heap_setCell _ _ _ _ (by simp; try omega)).trans HRw3.out))
  have HB3 := Lib.hid (show Below w.heap.size w X3 by rw [hX3]; exact ((thenBelow HB2.out hb3).setCell (by first | omega | (simp; done) | (simp; omega)) _).setCell (by first | omega | (simp; done) | (simp; omega)) _)
  have V1_3 := Lib.hid (show OwnV (w.heap.size + 3) X3 (.slice d1 start.length e1) start by rw [hX3]; exact ((V1_2.out.below hb3).setOther ⟨w.heap.size + 1 + 1, 5, none⟩ (by first | omega | (simp; done) | (simp; omega)) _).setOther ⟨w.heap.size + 1 + 1, 3, none⟩ (by first | omega | (simp; done) | (simp; omega)) _)
  have V2_3 := Lib.hid (show OwnV (w.heap.size + 3) X3 (.slice d2 adj.length e2) adj by rw [hX3]; exact ((V2_2.out.below hb3).setOther ⟨w.heap.size + 1 + 1, 5, none⟩ (by first | omega | (simp; done) | (simp; omega)) _).setOther ⟨w.heap.size + 1 + 1, 3, none⟩ (by first | omega | (simp; done) | (simp; omega)) _)
  have V3_3 := Lib.hid (show OwnV (w.heap.size + 3) X3 (.slice d3 goal.length e3) goal by rw [hX3]; exact ((hv3.mono (lo' := w.heap.size + 3) (by omega)).setOther ⟨w.heap.size + 1 + 1, 5, none⟩ (by first | omega | (simp; done) | (simp; omega)) _).setOther ⟨w.heap.size + 1 + 1, 3, none⟩ (by first | omega | (simp; done) | (simp; omega)) _)
  have sz3 : w.heap.size + 3 ≤ X3.heap.size := by rw [hX3]; (first | omega | (simp; omega))
  clear hX3 x3 xf3 y3 hv3 hb3
  go_loopw [4] (fun v wr => ∃ (k : Nat) (u : Value) (ps : List (Value × Rw)), k ≤ bad.length ∧ v = .int .i64 k ∧ ps.map (·.2) = bad.take k ∧ wr.heap[w.heap.size + 1 + 1]? = some (.cells #[.string nm, .int .i64 kind, .slice d1 start.length e1, u, .slice d2 adj.length e2, .slice d3 goal.length e3] 25 (0, 0)) ∧ OwnRows X3.heap.size wr u ps ∧ Below w.heap.size w wr ∧ (∀ b, b < X3.heap.size → b ≠ w.heap.size + 1 + 1 → wr.heap[b]? = X3.heap[b]?) ∧ X3.heap.size ≤ wr.heap.size) (fun v _ => bad.length - (intOf v).toNat)
  case atStart => exact ⟨0, _, [], Nat.zero_le _, rfl, rfl, HO3.out, OwnRows.nil _ _, HB3.out, fun _ _ _ => rfl, Nat.le_refl _⟩
  case round =>
    obtain ⟨k, u, ps, hk, rfl, hps, hOb, hO, hB, hBut, hsz⟩ := hrel
    have HOb := Lib.hid hOb
    have HOk := Lib.hid hO
    have HBr := Lib.hid hB
    have HBut := Lib.hid hBut
    have HPS := Lib.hid hps
    have hkl : ps.length = k := by have := congrArg List.length hps; simp at this; omega
    have hAr : wr.heap[w.heap.size]? = some (.cells #[.string nm, .int .i64 kind, .slice a0 start.length c0, .slice a1 bad.length c1, .slice a2 adj.length c2, .slice a3 goal.length c3] 25 (0, 0)) := (hBut w.heap.size (by omega) (by omega)).trans HA3.out
    have hRr : wr.heap[w.heap.size + 1]? = some (.cells #[.string ⟨#[]⟩, .int .i64 0, .slice none 0 0, .slice none 0 0, .slice none 0 0, .slice none 0 0] 25 (0, 0)) := (hBut (w.heap.size + 1) (by omega) (by omega)).trans HR3.out
    have HRr := Lib.hid hRr
    have g0 : wr.cell? ⟨w.heap.size, 3, none⟩ = some (.slice a1 bad.length c1) := obj_cell hAr 3
    obtain ⟨au, cu, hu⟩ : ∃ a c, u = .slice a k c := by rw [← hkl]; exact rows_shape hO.1
    subst hu
    clear hOb hO hB hBut hps hAr hRr
    by_cases h1 : k < bad.length
    · obtain ⟨b, off, sv, rfl, hb, q1, q2, q3, q4⟩ := GH3.out.at k h1
      obtain ⟨a', cap', rfl⟩ := q3.shape
      have z1 : wr.cell? ⟨w.heap.size + 1 + 1, 3, none⟩ = some (.slice au k cu) := obj_cell HOb.out 3
      have z3 : ∀ o, wr.frozen? ⟨w.heap.size + 1 + 1, o, none⟩ = false := fun o => obj_frozen HOb.out o
      have g1 := keep1 q1 HBr.out
      have g2 := keep1 q2 HBr.out
      have Q3 := Lib.hid (q3.below HBr.out)
      have Q4 := Lib.hid q4
      have hlen : (bad[k]'h1).1.length ≤ 1000 := by have := N3.out _ (List.getElem_mem h1); omega
      have hbr : b < wr.heap.size := cell_lt g1
      have hnb : some (w.heap.size + 1 + 1) ≠ (Value.slice au k cu).ownBlock := fun e => by have := (HOk.out.1.lt _ e.symm).1; omega
      obtain ⟨hi0, hz0, hz1, hz2⟩ := HI0.out
      generalize hR : bad[k]'h1 = r at g1 g2 Q3 Q4 hlen
      have HR' := Lib.hid hR
      clear q1 q2 q3 q4 hR
      go_wp2_with fail
      have HS0 := Lib.hid (show wr.cell? ⟨w.heap.size, 3, none⟩ = some _ ∧ wr.cell? ⟨b, off + k * 2, none⟩ = some _ ∧ wr.cell? ⟨b, off + k * 2 + 1, none⟩ = some _ from ⟨g0, g1, g2⟩)
      have kp : w.heap.size < w.heap.size + 1 := by omega
      have kb : b < w.heap.size + 1 := by omega
      have kwr : w.heap.size + 1 ≤ wr.heap.size := by omega
      have HUB := Lib.hid (fun j (e : (Value.slice au k cu).ownBlock = some j) => show w.heap.size + 1 ≤ j by have := (HOk.out.1.lt _ e).1; omega)
      refine wp_region_noPanic ?_
      refine wp_region_held_drew (S := (fun w' => w'.cell? ⟨w.heap.size, 3, none⟩ = some (.slice (some ⟨b, off, none⟩) bad.length c1) ∧ w'.cell? ⟨b, off + k * 2, none⟩ = some (.slice a' r.1.length cap') ∧ w'.cell? ⟨b, off + k * 2 + 1, none⟩ = some (.int .i64 r.2))) (by kernel_rfl) ?_ (fun hHeld => ?_)
      · ((try dsimp only); (first | exact HS0.out | exact keep3b (B := w.heap.size + 1) HS0.out kp kb kb ((drewBelow _).mono kwr) | exact keep3b (B := w.heap.size + 1) HS0.out kp kb kb (HB1.out.mono kwr) | exact keep3b (B := w.heap.size + 1) HS0.out kp kb kb ((HB1.out.mono kwr).trans ((allocBelow _ _).mono (by omega))) | exact keep3b (B := w.heap.size + 1) (by assumption) kp kb kb ((Below.refl _ _).grown hgrow (by simp; try omega) HUB.out) | exact keep3b (B := w.heap.size + 1) (by assumption) kp kb kb ((Below.refl _ _).setCell (by simp; try omega) _)))
      refine wpAnyH_take (i := 0) (v := ?_) rfl (by kernel_rfl) (by kernel_rfl) (by kernel_rfl) (fun _ _ _ h => h) (Or.inl ⟨by rfl, ?_⟩) (by assumption) ?_
      rotate_left
      · (intro wq hSw; (try dsimp only at hSw); go_simp; (try with_reducible rfl))
      try simp only [Act.put, List.setIfInBounds_toArray, List.set_cons_zero, List.set_cons_succ]
      refine wpAnyH_take (i := 2) (v := ?_) rfl (by kernel_rfl) (by kernel_rfl) (by kernel_rfl) (fun _ _ _ h => h) (Or.inl ⟨by rfl, ?_⟩) (by assumption) ?_
      rotate_left
      · (intro wq hSw; (try dsimp only at hSw); go_simp; (try with_reducible rfl))
      try simp only [Act.put, List.setIfInBounds_toArray, List.set_cons_zero, List.set_cons_succ]
      refine wpAnyH_take (i := 3) (v := ?_) rfl (by kernel_rfl) (by kernel_rfl) (by kernel_rfl) (fun _ _ _ h => h) (Or.inl ⟨by rfl, ?_⟩) (by assumption) ?_
      rotate_left
      · (intro wq hSw; (try dsimp only at hSw); go_simp; (try with_reducible rfl))
      try simp only [Act.put, List.setIfInBounds_toArray, List.set_cons_zero, List.set_cons_succ]
      refine wpAnyH_take (i := 4) (v := ?_) rfl (by kernel_rfl) (by kernel_rfl) (by kernel_rfl) (fun _ _ _ h => h) (Or.inl ⟨by rfl, ?_⟩) (by assumption) ?_
      rotate_left
      · (intro wq hSw; (try dsimp only at hSw); go_simp; (try with_reducible rfl))
      try simp only [Act.put, List.setIfInBounds_toArray, List.set_cons_zero, List.set_cons_succ]
      refine wpAnyH_take (i := 5) (v := ?_) rfl (by kernel_rfl) (by kernel_rfl) (by kernel_rfl) (fun _ _ _ h => h) (Or.inl ⟨by rfl, ?_⟩) (by assumption) ?_
      rotate_left
      · (intro wq hSw; (try dsimp only at hSw); go_simp; (try with_reducible rfl))
      try simp only [Act.put, List.setIfInBounds_toArray, List.set_cons_zero, List.set_cons_succ]
      refine wpAnyH_take (i := 6) (v := ?_) rfl (by kernel_rfl) (by kernel_rfl) (by kernel_rfl) (fun _ _ _ h => h) (Or.inl ⟨by rfl, ?_⟩) (by assumption) ?_
      rotate_left
      · (intro wq hSw; (try dsimp only at hSw); go_simp; (try with_reducible rfl))
      try simp only [Act.put, List.setIfInBounds_toArray, List.set_cons_zero, List.set_cons_succ]
      refine wpAnyH_take (i := 7) (v := ?_) rfl (by kernel_rfl) (by kernel_rfl) (by kernel_rfl) (fun _ _ _ h => h) (Or.inl ⟨by rfl, ?_⟩) (by assumption) ?_
      rotate_left
      · (intro wq hSw; (try dsimp only at hSw); go_simp; (try with_reducible rfl))
      try simp only [Act.put, List.setIfInBounds_toArray, List.set_cons_zero, List.set_cons_succ]
      refine wpAnyH_take (i := 9) (v := ?_) rfl (by kernel_rfl) (by kernel_rfl) (by kernel_rfl) (fun _ _ _ h => h) (Or.inl ⟨by rfl, ?_⟩) (by assumption) ?_
      rotate_left
      · (intro wq hSw; (try dsimp only at hSw); go_simp; (try with_reducible rfl))
      try simp only [Act.put, List.setIfInBounds_toArray, List.set_cons_zero, List.set_cons_succ]
      refine wpAnyH_take (i := 10) (v := ?_) rfl (by kernel_rfl) (by kernel_rfl) (by kernel_rfl) (fun _ _ _ h => h) (Or.inl ⟨by rfl, ?_⟩) (by assumption) ?_
      rotate_left
      · (intro wq hSw; (try dsimp only at hSw); go_simp; (try with_reducible rfl))
      try simp only [Act.put, List.setIfInBounds_toArray, List.set_cons_zero, List.set_cons_succ]
      refine wpAnyH_take (i := 11) (v := ?_) rfl (by kernel_rfl) (by kernel_rfl) (by kernel_rfl) (fun _ _ _ h => h) (Or.inl ⟨by rfl, ?_⟩) (by assumption) ?_
      rotate_left
      · (intro wq hSw; (try dsimp only at hSw); go_simp; (try with_reducible rfl))
      try simp only [Act.put, List.setIfInBounds_toArray, List.set_cons_zero, List.set_cons_succ]
      refine wpAnyH_take (i := 12) (v := ?_) rfl (by kernel_rfl) (by kernel_rfl) (by kernel_rfl) (fun _ _ _ h => h) (Or.inl ⟨by rfl, ?_⟩) (by assumption) ?_
      rotate_left
      · (intro wq hSw; (try dsimp only at hSw); go_simp; (try with_reducible rfl))
      try simp only [Act.put, List.setIfInBounds_toArray, List.set_cons_zero, List.set_cons_succ]
      refine wpAnyH_take (i := 13) (v := ?_) rfl (by kernel_rfl) (by kernel_rfl) (by kernel_rfl) (fun _ _ _ h => h) (Or.inl ⟨by rfl, ?_⟩) (by assumption) ?_
      rotate_left
      · (intro wq hSw; (try dsimp only at hSw); go_simp; (try with_reducible rfl))
      try simp only [Act.put, List.setIfInBounds_toArray, List.set_cons_zero, List.set_cons_succ]
      refine wpAnyH_take (i := 14) (v := ?_) rfl (by kernel_rfl) (by kernel_rfl) (by kernel_rfl) (fun _ _ _ h => h) (Or.inl ⟨by rfl, ?_⟩) (by assumption) ?_
      rotate_left
      · (intro wq hSw; (try dsimp only at hSw); go_simp; (try with_reducible rfl))
      try simp only [Act.put, List.setIfInBounds_toArray, List.set_cons_zero, List.set_cons_succ]
      refine wpAnyH_ready (rs := [1, 8]) (by kernel_rfl) (by simp) ?_
      refine AllReadyH.cons rfl (fun K hK => ?_) ?_
      · skip
        go_simp
        refine hK.out _ _ ?_ (fun hHeld => ?_)
        · ((try dsimp only); (first | exact HS0.out | exact keep3b (B := w.heap.size + 1) HS0.out kp kb kb ((drewBelow _).mono kwr) | exact keep3b (B := w.heap.size + 1) HS0.out kp kb kb (HB1.out.mono kwr) | exact keep3b (B := w.heap.size + 1) HS0.out kp kb kb ((HB1.out.mono kwr).trans ((allocBelow _ _).mono (by omega))) | exact keep3b (B := w.heap.size + 1) (by assumption) kp kb kb ((Below.refl _ _).grown hgrow (by simp; try omega) HUB.out) | exact keep3b (B := w.heap.size + 1) (by assumption) kp kb kb ((Below.refl _ _).setCell (by simp; try omega) _)))
        clear hK K
        try simp only [Act.put, List.setIfInBounds_toArray, List.set_cons_zero, List.set_cons_succ]
        refine wpAnyH_ready (rs := [8]) (by kernel_rfl) (by simp) ?_
        refine AllReadyH.cons rfl (fun K hK => ?_) ?_
        · skip
          go_simp
          (go_at_call 20; (with_reducible refine (CopyInts_any (Q3.out.below (drewBelow _)) hlen).mono ?_); rintro e w1 ⟨v', rfl, hOv, hb1⟩; obtain ⟨av, cv, rfl⟩ := hOv.shape; have HOv := Lib.hid hOv; have HB1 := Lib.hid (thenBelow (drewBelow wr) hb1); have ls := HB1.out.size; have l2' : w.heap.size + 1 + 1 < w1.heap.size := (by omega); have m1 := keep1 z1 HB1.out; have m3 : (∀ o, w1.frozen? ⟨w.heap.size + 1 + 1, o, none⟩ = false) := fun o => (HB1.out.frozen (p := ⟨w.heap.size + 1 + 1, o, none⟩) (by simp; omega)).trans (z3 o); clear hOv hb1)
          try go_wp2_with fail
          refine hK.out _ _ ?_ (fun hHeld => ?_)
          · ((try dsimp only); (first | exact HS0.out | exact keep3b (B := w.heap.size + 1) HS0.out kp kb kb ((drewBelow _).mono kwr) | exact keep3b (B := w.heap.size + 1) HS0.out kp kb kb (HB1.out.mono kwr) | exact keep3b (B := w.heap.size + 1) HS0.out kp kb kb ((HB1.out.mono kwr).trans ((allocBelow _ _).mono (by omega))) | exact keep3b (B := w.heap.size + 1) (by assumption) kp kb kb ((Below.refl _ _).grown hgrow (by simp; try omega) HUB.out) | exact keep3b (B := w.heap.size + 1) (by assumption) kp kb kb ((Below.refl _ _).setCell (by simp; try omega) _)))
          clear hK K
          try simp only [Act.put, List.setIfInBounds_toArray, List.set_cons_zero, List.set_cons_succ]
          refine wpAnyH_take (i := 15) (v := ?_) rfl (by kernel_rfl) (by kernel_rfl) (by kernel_rfl) (fun _ _ _ h => h) (Or.inl ⟨by rfl, ?_⟩) (by assumption) ?_
          rotate_left
          · (intro wq hSw; (try dsimp only at hSw); go_simp; (try with_reducible rfl))
          try simp only [Act.put, List.setIfInBounds_toArray, List.set_cons_zero, List.set_cons_succ]
          refine wpAnyH_ready (rs := [16]) (by kernel_rfl) (by simp) ?_
          refine AllReadyH.cons rfl (fun K hK => ?_) ?_
          · skip
            go_simp
            refine hK.out _ _ ?_ (fun hHeld => ?_)
            · ((try dsimp only); (first | exact HS0.out | exact keep3b (B := w.heap.size + 1) HS0.out kp kb kb ((drewBelow _).mono kwr) | exact keep3b (B := w.heap.size + 1) HS0.out kp kb kb (HB1.out.mono kwr) | exact keep3b (B := w.heap.size + 1) HS0.out kp kb kb ((HB1.out.mono kwr).trans ((allocBelow _ _).mono (by omega))) | exact keep3b (B := w.heap.size + 1) (by assumption) kp kb kb ((Below.refl _ _).grown hgrow (by simp; try omega) HUB.out) | exact keep3b (B := w.heap.size + 1) (by assumption) kp kb kb ((Below.refl _ _).setCell (by simp; try omega) _)))
            clear hK K
            try simp only [Act.put, List.setIfInBounds_toArray, List.set_cons_zero, List.set_cons_succ]
            refine wpAnyH_ready (rs := [17]) (by kernel_rfl) (by simp) ?_
            refine AllReadyH.cons rfl (fun K hK => ?_) ?_
            · skip
              (refine step_append_lies _ (by rfl) (.tmp 27) (.tmp 42) 23 (by rfl) X3.heap.size 39 i0 (.agg #[.slice none 0 0, .int .i64 0]) 2 32 Tryd.underlying23 hi0 hz0 hz1 hz2 (by rfl) (by decide) _ k _ (by rfl) (hkl ▸ ((HOk.out.below HB1.out).1.alloc _)) ⟨w1.heap.size, 0, none⟩ 1 1 [.slice av r.1.length cv, .int .i64 r.2] (by rfl) (by rfl) (World.news_of_block (heap_alloc_new _ _)) (by intro u hu; simp at hu; rcases hu with rfl | rfl <;> rfl) (by decide) (by unfold maxLen; omega) (by omega) (by simp; omega) (w1.heap.size + 1) (by simp) ?_; intro g cc w3 hown1 hgrow hat hlt; have k1 : w3.cell? ⟨w.heap.size + 1 + 1, 3, none⟩ = some (.slice au k cu) := (hgrow.cell_far ⟨w.heap.size + 1 + 1, 3, none⟩ (by simp; omega) hnb).trans (((allocBelow _ _).cell (p := ⟨w.heap.size + 1 + 1, 3, none⟩) (by simp; omega)).trans m1); have k2 : (∀ o, w3.frozen? ⟨w.heap.size + 1 + 1, o, none⟩ = false) := fun o => (hgrow.frozen_far ⟨w.heap.size + 1 + 1, o, none⟩ (by simp; omega) hnb).trans (((allocBelow _ _).frozen (p := ⟨w.heap.size + 1 + 1, o, none⟩) (by simp; omega)).trans (m3 o)))
              refine hK.out _ _ ?_ (fun hHeld => ?_)
              · ((try dsimp only); (first | exact HS0.out | exact keep3b (B := w.heap.size + 1) HS0.out kp kb kb ((drewBelow _).mono kwr) | exact keep3b (B := w.heap.size + 1) HS0.out kp kb kb (HB1.out.mono kwr) | exact keep3b (B := w.heap.size + 1) HS0.out kp kb kb ((HB1.out.mono kwr).trans ((allocBelow _ _).mono (by omega))) | exact keep3b (B := w.heap.size + 1) (by assumption) kp kb kb ((Below.refl _ _).grown hgrow (by simp; try omega) HUB.out) | exact keep3b (B := w.heap.size + 1) (by assumption) kp kb kb ((Below.refl _ _).setCell (by simp; try omega) _)))
              clear hK K
              try simp only [Act.put, List.setIfInBounds_toArray, List.set_cons_zero, List.set_cons_succ]
              refine wpAnyH_take (i := 18) (v := ?_) rfl (by kernel_rfl) (by kernel_rfl) (by kernel_rfl) (fun _ _ _ h => h) (Or.inl ⟨by rfl, ?_⟩) (by assumption) ?_
              rotate_left
              · (intro wq hSw; (try dsimp only at hSw); go_simp; (try with_reducible rfl))
              try simp only [Act.put, List.setIfInBounds_toArray, List.set_cons_zero, List.set_cons_succ]
              refine wpAnyH_ready (rs := [19]) (by kernel_rfl) (by simp) ?_
              refine AllReadyH.cons rfl (fun K hK => ?_) ?_
              · skip
                go_simp
                refine hK.out _ _ ?_ (fun hHeld => ?_)
                · ((try dsimp only); (first | exact HS0.out | exact keep3b (B := w.heap.size + 1) HS0.out kp kb kb ((drewBelow _).mono kwr) | exact keep3b (B := w.heap.size + 1) HS0.out kp kb kb (HB1.out.mono kwr) | exact keep3b (B := w.heap.size + 1) HS0.out kp kb kb ((HB1.out.mono kwr).trans ((allocBelow _ _).mono (by omega))) | exact keep3b (B := w.heap.size + 1) (by assumption) kp kb kb ((Below.refl _ _).grown hgrow (by simp; try omega) HUB.out) | exact keep3b (B := w.heap.size + 1) (by assumption) kp kb kb ((Below.refl _ _).setCell (by simp; try omega) _)))
                clear hK K
                try simp only [Act.put, List.setIfInBounds_toArray, List.set_cons_zero, List.set_cons_succ]
                refine wpAnyH_done (by kernel_rfl) ?_ _
                refine NoPanic.normal ?_
                go_wp2_with fail
                go_roundw
                case rel =>
                  have hx' : ps.map (·.2) ++ [r] = bad.take (k + 1) := by rw [HPS.out, List.take_succ_eq_append_getElem h1, HR'.out]
                  have hS := OwnRows.snoc (r := r) (w2 := w1.alloc (.cells #[.slice av r.1.length cv, .int .i64 r.2] 39)) HOk.out HOv.out Q4.out (by omega) HB1.out (allocBelow _ _) (by rw [hkl]; exact hown1) hgrow (by simpa using hat)
                  have hw3 : w3.heap[w.heap.size + 1 + 1]? = some (.cells #[.string nm, .int .i64 kind, .slice d1 start.length e1, .slice au k cu, .slice d2 adj.length e2, .slice d3 goal.length e3] 25 (0, 0)) := (hgrow.block (w.heap.size + 1 + 1) (by simp; omega) hnb).trans (((allocBelow _ _).block (w.heap.size + 1 + 1) (by omega)).trans ((HB1.out.block (w.heap.size + 1 + 1) (by omega)).trans HOb.out))
                  have hgs := hgrow.size
                  simp only [World.size_alloc] at hgs
                  refine ⟨k + 1, .slice (some ⟨g, 0, none⟩) (k + 1) cc, ps ++ [(.slice av r.1.length cv, r)], by omega, by go_num, by simpa using hx', heap_setCell_same w3 (w.heap.size + 1 + 1) 3 _ _ _ hw3, ?_, ?_, ?_, ?_⟩
                  · rw [hkl] at hS; exact hS.setOther _ (by simp; omega) _
                  · exact ((((HBr.out.trans (HB1.out.mono (by omega))).trans ((allocBelow _ _).mono (by omega))).grown hgrow (by simp; omega) (fun j hj => by have := (HOk.out.1.lt _ hj).1; omega)).setCell (by simp; omega) _)
                  · exact fun b' hb' hne => (Below.heap_setCell _ _ _ _ (by simpa using hne)).trans ((hgrow.block b' (by simp; omega) (fun e => by have := (HOk.out.1.lt _ e.symm).1; omega)).trans (((allocBelow _ _).block b' (by omega)).trans ((HB1.out.block b' (by omega)).trans (HBut.out b' hb' hne))))
                  · simp; omega
                case measure => simp [intOf]; omega
              exact AllReadyH.nil
            exact AllReadyH.nil
          exact AllReadyH.nil
        exact AllReadyH.nil
      refine AllReadyH.cons rfl (fun K hK => ?_) ?_
      · skip
        go_simp
        (go_at_call 20; (with_reducible refine (CopyInts_any (Q3.out.below (drewBelow _)) hlen).mono ?_); rintro e w1 ⟨v', rfl, hOv, hb1⟩; obtain ⟨av, cv, rfl⟩ := hOv.shape; have HOv := Lib.hid hOv; have HB1 := Lib.hid (thenBelow (drewBelow wr) hb1); have ls := HB1.out.size; have l2' : w.heap.size + 1 + 1 < w1.heap.size := (by omega); have m1 := keep1 z1 HB1.out; have m3 : (∀ o, w1.frozen? ⟨w.heap.size + 1 + 1, o, none⟩ = false) := fun o => (HB1.out.frozen (p := ⟨w.heap.size + 1 + 1, o, none⟩) (by simp; omega)).trans (z3 o); clear hOv hb1)
        try go_wp2_with fail
        refine hK.out _ _ ?_ (fun hHeld => ?_)
        · ((try dsimp only); (first | exact HS0.out | exact keep3b (B := w.heap.size + 1) HS0.out kp kb kb ((drewBelow _).mono kwr) | exact keep3b (B := w.heap.size + 1) HS0.out kp kb kb (HB1.out.mono kwr) | exact keep3b (B := w.heap.size + 1) HS0.out kp kb kb ((HB1.out.mono kwr).trans ((allocBelow _ _).mono (by omega))) | exact keep3b (B := w.heap.size + 1) (by assumption) kp kb kb ((Below.refl _ _).grown hgrow (by simp; try omega) HUB.out) | exact keep3b (B := w.heap.size + 1) (by assumption) kp kb kb ((Below.refl _ _).setCell (by simp; try omega) _)))
        clear hK K
        try simp only [Act.put, List.setIfInBounds_toArray, List.set_cons_zero, List.set_cons_succ]
        refine wpAnyH_take (i := 15) (v := ?_) rfl (by kernel_rfl) (by kernel_rfl) (by kernel_rfl) (fun _ _ _ h => h) (Or.inl ⟨by rfl, ?_⟩) (by assumption) ?_
        rotate_left
        · (intro wq hSw; (try dsimp only at hSw); go_simp; (try with_reducible rfl))
        try simp only [Act.put, List.setIfInBounds_toArray, List.set_cons_zero, List.set_cons_succ]
        refine wpAnyH_ready (rs := [1, 16]) (by kernel_rfl) (by simp) ?_
        refine AllReadyH.cons rfl (fun K hK => ?_) ?_
        · skip
          go_simp
          refine hK.out _ _ ?_ (fun hHeld => ?_)
          · ((try dsimp only); (first | exact HS0.out | exact keep3b (B := w.heap.size + 1) HS0.out kp kb kb ((drewBelow _).mono kwr) | exact keep3b (B := w.heap.size + 1) HS0.out kp kb kb (HB1.out.mono kwr) | exact keep3b (B := w.heap.size + 1) HS0.out kp kb kb ((HB1.out.mono kwr).trans ((allocBelow _ _).mono (by omega))) | exact keep3b (B := w.heap.size + 1) (by assumption) kp kb kb ((Below.refl _ _).grown hgrow (by simp; try omega) HUB.out) | exact keep3b (B := w.heap.size + 1) (by assumption) kp kb kb ((Below.refl _ _).setCell (by simp; try omega) _)))
          clear hK K
          try simp only [Act.put, List.setIfInBounds_toArray, List.set_cons_zero, List.set_cons_succ]
          refine wpAnyH_ready (rs := [16]) (by kernel_rfl) (by simp) ?_
          refine AllReadyH.cons rfl (fun K hK => ?_) ?_
          · skip
            go_simp
            refine hK.out _ _ ?_ (fun hHeld => ?_)
            · ((try dsimp only); (first | exact HS0.out | exact keep3b (B := w.heap.size + 1) HS0.out kp kb kb ((drewBelow _).mono kwr) | exact keep3b (B := w.heap.size + 1) HS0.out kp kb kb (HB1.out.mono kwr) | exact keep3b (B := w.heap.size + 1) HS0.out kp kb kb ((HB1.out.mono kwr).trans ((allocBelow _ _).mono (by omega))) | exact keep3b (B := w.heap.size + 1) (by assumption) kp kb kb ((Below.refl _ _).grown hgrow (by simp; try omega) HUB.out) | exact keep3b (B := w.heap.size + 1) (by assumption) kp kb kb ((Below.refl _ _).setCell (by simp; try omega) _)))
            clear hK K
            try simp only [Act.put, List.setIfInBounds_toArray, List.set_cons_zero, List.set_cons_succ]
            refine wpAnyH_ready (rs := [17]) (by kernel_rfl) (by simp) ?_
            refine AllReadyH.cons rfl (fun K hK => ?_) ?_
            · skip
              (refine step_append_lies _ (by rfl) (.tmp 27) (.tmp 42) 23 (by rfl) X3.heap.size 39 i0 (.agg #[.slice none 0 0, .int .i64 0]) 2 32 Tryd.underlying23 hi0 hz0 hz1 hz2 (by rfl) (by decide) _ k _ (by rfl) (hkl ▸ ((HOk.out.below HB1.out).1.alloc _)) ⟨w1.heap.size, 0, none⟩ 1 1 [.slice av r.1.length cv, .int .i64 r.2] (by rfl) (by rfl) (World.news_of_block (heap_alloc_new _ _)) (by intro u hu; simp at hu; rcases hu with rfl | rfl <;> rfl) (by decide) (by unfold maxLen; omega) (by omega) (by simp; omega) (w1.heap.size + 1) (by simp) ?_; intro g cc w3 hown1 hgrow hat hlt; have k1 : w3.cell? ⟨w.heap.size + 1 + 1, 3, none⟩ = some (.slice au k cu) := (hgrow.cell_far ⟨w.heap.size + 1 + 1, 3, none⟩ (by simp; omega) hnb).trans (((allocBelow _ _).cell (p := ⟨w.heap.size + 1 + 1, 3, none⟩) (by simp; omega)).trans m1); have k2 : (∀ o, w3.frozen? ⟨w.heap.size + 1 + 1, o, none⟩ = false) := fun o => (hgrow.frozen_far ⟨w.heap.size + 1 + 1, o, none⟩ (by simp; omega) hnb).trans (((allocBelow _ _).frozen (p := ⟨w.heap.size + 1 + 1, o, none⟩) (by simp; omega)).trans (m3 o)))
              refine hK.out _ _ ?_ (fun hHeld => ?_)
              · ((try dsimp only); (first | exact HS0.out | exact keep3b (B := w.heap.size + 1) HS0.out kp kb kb ((drewBelow _).mono kwr) | exact keep3b (B := w.heap.size + 1) HS0.out kp kb kb (HB1.out.mono kwr) | exact keep3b (B := w.heap.size + 1) HS0.out kp kb kb ((HB1.out.mono kwr).trans ((allocBelow _ _).mono (by omega))) | exact keep3b (B := w.heap.size + 1) (by assumption) kp kb kb ((Below.refl _ _).grown hgrow (by simp; try omega) HUB.out) | exact keep3b (B := w.heap.size + 1) (by assumption) kp kb kb ((Below.refl _ _).setCell (by simp; try omega) _)))
              clear hK K
              try simp only [Act.put, List.setIfInBounds_toArray, List.set_cons_zero, List.set_cons_succ]
              refine wpAnyH_take (i := 18) (v := ?_) rfl (by kernel_rfl) (by kernel_rfl) (by kernel_rfl) (fun _ _ _ h => h) (Or.inl ⟨by rfl, ?_⟩) (by assumption) ?_
              rotate_left
              · (intro wq hSw; (try dsimp only at hSw); go_simp; (try with_reducible rfl))
              try simp only [Act.put, List.setIfInBounds_toArray, List.set_cons_zero, List.set_cons_succ]
              refine wpAnyH_ready (rs := [19]) (by kernel_rfl) (by simp) ?_
              refine AllReadyH.cons rfl (fun K hK => ?_) ?_
              · skip
                go_simp
                refine hK.out _ _ ?_ (fun hHeld => ?_)
                · ((try dsimp only); (first | exact HS0.out | exact keep3b (B := w.heap.size + 1) HS0.out kp kb kb ((drewBelow _).mono kwr) | exact keep3b (B := w.heap.size + 1) HS0.out kp kb kb (HB1.out.mono kwr) | exact keep3b (B := w.heap.size + 1) HS0.out kp kb kb ((HB1.out.mono kwr).trans ((allocBelow _ _).mono (by omega))) | exact keep3b (B := w.heap.size + 1) (by assumption) kp kb kb ((Below.refl _ _).grown hgrow (by simp; try omega) HUB.out) | exact keep3b (B := w.heap.size + 1) (by assumption) kp kb kb ((Below.refl _ _).setCell (by simp; try omega) _)))
                clear hK K
                try simp only [Act.put, List.setIfInBounds_toArray, List.set_cons_zero, List.set_cons_succ]
                refine wpAnyH_done (by kernel_rfl) ?_ _
                refine NoPanic.normal ?_
                go_wp2_with fail
                go_roundw
                case rel =>
                  have hx' : ps.map (·.2) ++ [r] = bad.take (k + 1) := by rw [HPS.out, List.take_succ_eq_append_getElem h1, HR'.out]
                  have hS := OwnRows.snoc (r := r) (w2 := w1.alloc (.cells #[.slice av r.1.length cv, .int .i64 r.2] 39)) HOk.out HOv.out Q4.out (by omega) HB1.out (allocBelow _ _) (by rw [hkl]; exact hown1) hgrow (by simpa using hat)
                  have hw3 : w3.heap[w.heap.size + 1 + 1]? = some (.cells #[.string nm, .int .i64 kind, .slice d1 start.length e1, .slice au k cu, .slice d2 adj.length e2, .slice d3 goal.length e3] 25 (0, 0)) := (hgrow.block (w.heap.size + 1 + 1) (by simp; omega) hnb).trans (((allocBelow _ _).block (w.heap.size + 1 + 1) (by omega)).trans ((HB1.out.block (w.heap.size + 1 + 1) (by omega)).trans HOb.out))
                  have hgs := hgrow.size
                  simp only [World.size_alloc] at hgs
                  refine ⟨k + 1, .slice (some ⟨g, 0, none⟩) (k + 1) cc, ps ++ [(.slice av r.1.length cv, r)], by omega, by go_num, by simpa using hx', heap_setCell_same w3 (w.heap.size + 1 + 1) 3 _ _ _ hw3, ?_, ?_, ?_, ?_⟩
                  · rw [hkl] at hS; exact hS.setOther _ (by simp; omega) _
                  · exact ((((HBr.out.trans (HB1.out.mono (by omega))).trans ((allocBelow _ _).mono (by omega))).grown hgrow (by simp; omega) (fun j hj => by have := (HOk.out.1.lt _ hj).1; omega)).setCell (by simp; omega) _)
                  · exact fun b' hb' hne => (Below.heap_setCell _ _ _ _ (by simpa using hne)).trans ((hgrow.block b' (by simp; omega) (fun e => by have := (HOk.out.1.lt _ e.symm).1; omega)).trans (((allocBelow _ _).block b' (by omega)).trans ((HB1.out.block b' (by omega)).trans (HBut.out b' hb' hne))))
                  · simp; omega
                case measure => simp [intOf]; omega
              exact AllReadyH.nil
            exact AllReadyH.nil
          exact AllReadyH.nil
        refine AllReadyH.cons rfl (fun K hK => ?_) ?_
        · skip
          go_simp
          refine hK.out _ _ ?_ (fun hHeld => ?_)
          · ((try dsimp only); (first | exact HS0.out | exact keep3b (B := w.heap.size + 1) HS0.out kp kb kb ((drewBelow _).mono kwr) | exact keep3b (B := w.heap.size + 1) HS0.out kp kb kb (HB1.out.mono kwr) | exact keep3b (B := w.heap.size + 1) HS0.out kp kb kb ((HB1.out.mono kwr).trans ((allocBelow _ _).mono (by omega))) | exact keep3b (B := w.heap.size + 1) (by assumption) kp kb kb ((Below.refl _ _).grown hgrow (by simp; try omega) HUB.out) | exact keep3b (B := w.heap.size + 1) (by assumption) kp kb kb ((Below.refl _ _).setCell (by simp; try omega) _)))
          clear hK K
          try simp only [Act.put, List.setIfInBounds_toArray, List.set_cons_zero, List.set_cons_succ]
          refine wpAnyH_ready (rs := [1]) (by kernel_rfl) (by simp) ?_
          refine AllReadyH.cons rfl (fun K hK => ?_) ?_
          · skip
            go_simp
            refine hK.out _ _ ?_ (fun hHeld => ?_)
            · ((try dsimp only); (first | exact HS0.out | exact keep3b (B := w.heap.size + 1) HS0.out kp kb kb ((drewBelow _).mono kwr) | exact keep3b (B := w.heap.size + 1) HS0.out kp kb kb (HB1.out.mono kwr) | exact keep3b (B := w.heap.size + 1) HS0.out kp kb kb ((HB1.out.mono kwr).trans ((allocBelow _ _).mono (by omega))) | exact keep3b (B := w.heap.size + 1) (by assumption) kp kb kb ((Below.refl _ _).grown hgrow (by simp; try omega) HUB.out) | exact keep3b (B := w.heap.size + 1) (by assumption) kp kb kb ((Below.refl _ _).setCell (by simp; try omega) _)))
            clear hK K
            try simp only [Act.put, List.setIfInBounds_toArray, List.set_cons_zero, List.set_cons_succ]
            refine wpAnyH_ready (rs := [17]) (by kernel_rfl) (by simp) ?_
            refine AllReadyH.cons rfl (fun K hK => ?_) ?_
            · skip
              (refine step_append_lies _ (by rfl) (.tmp 27) (.tmp 42) 23 (by rfl) X3.heap.size 39 i0 (.agg #[.slice none 0 0, .int .i64 0]) 2 32 Tryd.underlying23 hi0 hz0 hz1 hz2 (by rfl) (by decide) _ k _ (by rfl) (hkl ▸ ((HOk.out.below HB1.out).1.alloc _)) ⟨w1.heap.size, 0, none⟩ 1 1 [.slice av r.1.length cv, .int .i64 r.2] (by rfl) (by rfl) (World.news_of_block (heap_alloc_new _ _)) (by intro u hu; simp at hu; rcases hu with rfl | rfl <;> rfl) (by decide) (by unfold maxLen; omega) (by omega) (by simp; omega) (w1.heap.size + 1) (by simp) ?_; intro g cc w3 hown1 hgrow hat hlt; have k1 : w3.cell? ⟨w.heap.size + 1 + 1, 3, none⟩ = some (.slice au k cu) := (hgrow.cell_far ⟨w.heap.size + 1 + 1, 3, none⟩ (by simp; omega) hnb).trans (((allocBelow _ _).cell (p := ⟨w.heap.size + 1 + 1, 3, none⟩) (by simp; omega)).trans m1); have k2 : (∀ o, w3.frozen? ⟨w.heap.size + 1 + 1, o, none⟩ = false) := fun o => (hgrow.frozen_far ⟨w.heap.size + 1 + 1, o, none⟩ (by simp; omega) hnb).trans (((allocBelow _ _).frozen (p := ⟨w.heap.size + 1 + 1, o, none⟩) (by simp; omega)).trans (m3 o)))
              refine hK.out _ _ ?_ (fun hHeld => ?_)
              · ((try dsimp only); (first | exact HS0.out | exact keep3b (B := w.heap.size + 1) HS0.out kp kb kb ((drewBelow _).mono kwr) | exact keep3b (B := w.heap.size + 1) HS0.out kp kb kb (HB1.out.mono kwr) | exact keep3b (B := w.heap.size + 1) HS0.out kp kb kb ((HB1.out.mono kwr).trans ((allocBelow _ _).mono (by omega))) | exact keep3b (B := w.heap.size + 1) (by assumption) kp kb kb ((Below.refl _ _).grown hgrow (by simp; try omega) HUB.out) | exact keep3b (B := w.heap.size + 1) (by assumption) kp kb kb ((Below.refl _ _).setCell (by simp; try omega) _)))
              clear hK K
              try simp only [Act.put, List.setIfInBounds_toArray, List.set_cons_zero, List.set_cons_succ]
              refine wpAnyH_take (i := 18) (v := ?_) rfl (by kernel_rfl) (by kernel_rfl) (by kernel_rfl) (fun _ _ _ h => h) (Or.inl ⟨by rfl, ?_⟩) (by assumption) ?_
              rotate_left
              · (intro wq hSw; (try dsimp only at hSw); go_simp; (try with_reducible rfl))
              try simp only [Act.put, List.setIfInBounds_toArray, List.set_cons_zero, List.set_cons_succ]
              refine wpAnyH_ready (rs := [19]) (by kernel_rfl) (by simp) ?_
              refine AllReadyH.cons rfl (fun K hK => ?_) ?_
              · skip
                go_simp
                refine hK.out _ _ ?_ (fun hHeld => ?_)
                · ((try dsimp only); (first | exact HS0.out | exact keep3b (B := w.heap.size + 1) HS0.out kp kb kb ((drewBelow _).mono kwr) | exact keep3b (B := w.heap.size + 1) HS0.out kp kb kb (HB1.out.mono kwr) | exact keep3b (B := w.heap.size + 1) HS0.out kp kb kb ((HB1.out.mono kwr).trans ((allocBelow _ _).mono (by omega))) | exact keep3b (B := w.heap.size + 1) (by assumption) kp kb kb ((Below.refl _ _).grown hgrow (by simp; try omega) HUB.out) | exact keep3b (B := w.heap.size + 1) (by assumption) kp kb kb ((Below.refl _ _).setCell (by simp; try omega) _)))
                clear hK K
                try simp only [Act.put, List.setIfInBounds_toArray, List.set_cons_zero, List.set_cons_succ]
                refine wpAnyH_done (by kernel_rfl) ?_ _
                refine NoPanic.normal ?_
                go_wp2_with fail
                go_roundw
                case rel =>
                  have hx' : ps.map (·.2) ++ [r] = bad.take (k + 1) := by rw [HPS.out, List.take_succ_eq_append_getElem h1, HR'.out]
                  have hS := OwnRows.snoc (r := r) (w2 := w1.alloc (.cells #[.slice av r.1.length cv, .int .i64 r.2] 39)) HOk.out HOv.out Q4.out (by omega) HB1.out (allocBelow _ _) (by rw [hkl]; exact hown1) hgrow (by simpa using hat)
                  have hw3 : w3.heap[w.heap.size + 1 + 1]? = some (.cells #[.string nm, .int .i64 kind, .slice d1 start.length e1, .slice au k cu, .slice d2 adj.length e2, .slice d3 goal.length e3] 25 (0, 0)) := (hgrow.block (w.heap.size + 1 + 1) (by simp; omega) hnb).trans (((allocBelow _ _).block (w.heap.size + 1 + 1) (by omega)).trans ((HB1.out.block (w.heap.size + 1 + 1) (by omega)).trans HOb.out))
                  have hgs := hgrow.size
                  simp only [World.size_alloc] at hgs
                  refine ⟨k + 1, .slice (some ⟨g, 0, none⟩) (k + 1) cc, ps ++ [(.slice av r.1.length cv, r)], by omega, by go_num, by simpa using hx', heap_setCell_same w3 (w.heap.size + 1 + 1) 3 _ _ _ hw3, ?_, ?_, ?_, ?_⟩
                  · rw [hkl] at hS; exact hS.setOther _ (by simp; omega) _
                  · exact ((((HBr.out.trans (HB1.out.mono (by omega))).trans ((allocBelow _ _).mono (by omega))).grown hgrow (by simp; omega) (fun j hj => by have := (HOk.out.1.lt _ hj).1; omega)).setCell (by simp; omega) _)
                  · exact fun b' hb' hne => (Below.heap_setCell _ _ _ _ (by simpa using hne)).trans ((hgrow.block b' (by simp; omega) (fun e => by have := (HOk.out.1.lt _ e.symm).1; omega)).trans (((allocBelow _ _).block b' (by omega)).trans ((HB1.out.block b' (by omega)).trans (HBut.out b' hb' hne))))
                  · simp; omega
                case measure => simp [intOf]; omega
              exact AllReadyH.nil
            exact AllReadyH.nil
          exact AllReadyH.nil
        exact AllReadyH.nil
      exact AllReadyH.nil
    · have y0 : wr.cell? ⟨w.heap.size + 1 + 1, 0, none⟩ = some (.string nm) := obj_cell HOb.out 0
      have y1 : wr.cell? ⟨w.heap.size + 1 + 1, 1, none⟩ = some (.int .i64 kind) := obj_cell HOb.out 1
      have y2 : wr.cell? ⟨w.heap.size + 1 + 1, 2, none⟩ = some (.slice d1 start.length e1) := obj_cell HOb.out 2
      have y3 : wr.cell? ⟨w.heap.size + 1 + 1, 3, none⟩ = some (.slice au k cu) := obj_cell HOb.out 3
      have y4 : wr.cell? ⟨w.heap.size + 1 + 1, 4, none⟩ = some (.slice d2 adj.length e2) := obj_cell HOb.out 4
      have y5 : wr.cell? ⟨w.heap.size + 1 + 1, 5, none⟩ = some (.slice d3 goal.length e3) := obj_cell HOb.out 5
      have r0 : wr.cell? ⟨w.heap.size + 1, 0, none⟩ = some (.string ⟨#[]⟩) := obj_cell HRr.out 0
      have r1 : wr.cell? ⟨w.heap.size + 1, 1, none⟩ = some (.int .i64 0) := obj_cell HRr.out 1
      have r2 : wr.cell? ⟨w.heap.size + 1, 2, none⟩ = some (.slice none 0 0) := obj_cell HRr.out 2
      have r3 : wr.cell? ⟨w.heap.size + 1, 3, none⟩ = some (.slice none 0 0) := obj_cell HRr.out 3
      have r4 : wr.cell? ⟨w.heap.size + 1, 4, none⟩ = some (.slice none 0 0) := obj_cell HRr.out 4
      have r5 : wr.cell? ⟨w.heap.size + 1, 5, none⟩ = some (.slice none 0 0) := obj_cell HRr.out 5
      have rf : ∀ o, wr.frozen? ⟨w.heap.size + 1, o, none⟩ = false := fun o => obj_frozen HRr.out o
      have hkn : k = bad.length := by omega
      have HPB := Lib.hid (show ps.map (·.2) = bad by rw [HPS.out, hkn, List.take_length])
      have HV1 := Lib.hid (V1_3.out.but (g := w.heap.size + 1 + 1) (by omega) HBut.out)
      have HV2 := Lib.hid (V2_3.out.but (g := w.heap.size + 1 + 1) (by omega) HBut.out)
      have HV3 := Lib.hid (V3_3.out.but (g := w.heap.size + 1 + 1) (by omega) HBut.out)
      have hm1 : w.heap.size + 1 < X3.heap.size := by omega
      clear hkn
      go_wp2_with fail
      refine bodyPost_ret (v := .agg #[.string nm, .int .i64 kind, .slice d1 start.length e1, .slice au k cu, .slice d2 adj.length e2, .slice d3 goal.length e3]) (by simp [results, Tryd.results9, go_sem, y0, y1, y2, y3, y4, y5, r0, r1, r2, r3, r4, r5]) rfl ⟨_, rfl, ⟨_, _, _, _, rfl, ((((((HV1.out.setOther ⟨w.heap.size + 1, 0, none⟩ (by simp; try omega) _).setOther ⟨w.heap.size + 1, 1, none⟩ (by simp; try omega) _).setOther ⟨w.heap.size + 1, 2, none⟩ (by simp; try omega) _).setOther ⟨w.heap.size + 1, 3, none⟩ (by simp; try omega) _).setOther ⟨w.heap.size + 1, 4, none⟩ (by simp; try omega) _).setOther ⟨w.heap.size + 1, 5, none⟩ (by simp; try omega) _).ints.mono (by omega), (by rw [← HPB.out]; exact ((((((HOk.out.setOther ⟨w.heap.size + 1, 0, none⟩ (by simp; try omega) _).setOther ⟨w.heap.size + 1, 1, none⟩ (by simp; try omega) _).setOther ⟨w.heap.size + 1, 2, none⟩ (by simp; try omega) _).setOther ⟨w.heap.size + 1, 3, none⟩ (by simp; try omega) _).setOther ⟨w.heap.size + 1, 4, none⟩ (by simp; try omega) _).setOther ⟨w.heap.size + 1, 5, none⟩ (by simp; try omega) _).rows.mono (by omega)), ((((((HV2.out.setOther ⟨w.heap.size + 1, 0, none⟩ (by simp; try omega) _).setOther ⟨w.heap.size + 1, 1, none⟩ (by simp; try omega) _).setOther ⟨w.heap.size + 1, 2, none⟩ (by simp; try omega) _).setOther ⟨w.heap.size + 1, 3, none⟩ (by simp; try omega) _).setOther ⟨w.heap.size + 1, 4, none⟩ (by simp; try omega) _).setOther ⟨w.heap.size + 1, 5, none⟩ (by simp; try omega) _).ints.mono (by omega), ((((((HV3.out.setOther ⟨w.heap.size + 1, 0, none⟩ (by simp; try omega) _).setOther ⟨w.heap.size + 1, 1, none⟩ (by simp; try omega) _).setOther ⟨w.heap.size + 1, 2, none⟩ (by simp; try omega) _).setOther ⟨w.heap.size + 1, 3, none⟩ (by simp; try omega) _).setOther ⟨w.heap.size + 1, 4, none⟩ (by simp; try omega) _).setOther ⟨w.heap.size + 1, 5, none⟩ (by simp; try omega) _).ints.mono (by omega), NM.out, KD.out⟩, ((((((HBr.out.setCell (p := ⟨w.heap.size + 1, 0, none⟩) (by simp) _).setCell (p := ⟨w.heap.size + 1, 1, none⟩) (by simp) _).setCell (p := ⟨w.heap.size + 1, 2, none⟩) (by simp) _).setCell (p := ⟨w.heap.size + 1, 3, none⟩) (by simp) _).setCell (p := ⟨w.heap.size + 1, 4, none⟩) (by simp) _).setCell (p := ⟨w.heap.size + 1, 5, none⟩) (by simp) _)⟩

theorem CopyProperty_any {lo : Nat} {w : World} {v : Value} {q : Pq} (h : IsProp lo w v q) (hb : bigQ q = false) :
    Calls Tryd.prog 9 #[v] w fun e w' => ∃ v', e = .returned v' ∧ IsProp w.heap.size w' v' q ∧ Below w.heap.size w w' := by
  obtain ⟨v2, v3, v4, v5, rfl, H2, H3, H4, H5, hnm, hk⟩ := h
  obtain ⟨n1, n2, n3, n4, n5⟩ := bigQ_no hb
  obtain ⟨nm, kind, start, bad, adj, goal⟩ := q
  dsimp only at H2 H3 H4 H5 n1 n2 n3 n4 n5 hnm hk ⊢
  obtain ⟨a0, c0, rfl⟩ := H2.shape
  obtain ⟨a1, c1, rfl⟩ := H3.shape
  obtain ⟨a2, c2, rfl⟩ := H4.shape
  obtain ⟨a3, c3, rfl⟩ := H5.shape
  exact CopyProperty_full H2 H3 H4 H5 n1 n2 n3 n4 n5 hnm hk
end Go.Proofs.YtbdnihjokndhaabDoor
