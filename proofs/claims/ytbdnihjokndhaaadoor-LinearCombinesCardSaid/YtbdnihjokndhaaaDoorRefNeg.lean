/-
  Negate OF THE REFERENCE.
-/
import Derived.Test.YtbdnihjokndhaaaDoorNeg
import Derived.Test.YtbdnihjokndhaaaDoorRefTight
import Derived.Deep.AppendLies
import Derived.Deep.RegionLaw
namespace Go.Proofs.YtbdnihjokndhaaaDoor
open Go.RowKit Go.Deep

theorem all_neg_I64 {xs : List Int} (h : xs.all smB = true) : ∀ x ∈ xs.map (fun x => -x), I64 x := by
  intro y hy
  have := smB_true.1 (List.all_eq_true.1 (all_neg h) y hy)
  constructor <;> omega
theorem own_shape {w : World} {base : Nat} {e : TypeId} {size : Nat} {v : Value} {n : Nat} {xs : List Value} (h : w.ownsRow base e size v n xs) : ∃ a c, v = .slice a n c := by
  rcases h.2 with ⟨rfl, rfl⟩ | ⟨g, cap, _, rfl, _⟩
  · exact ⟨_, _, rfl⟩
  · exact ⟨_, _, rfl⟩

set_option maxHeartbeats 800000 in
theorem rNegate_full {lo : Nat} {w : World} {xs : List Int} {b off cap : Nat} (c : Int) (h : IsInts lo w (.slice (some ⟨b, off, none⟩) xs.length cap) xs) (hn : xs.length ≤ 1000) (hs : smR (xs, c) = true) (hb : b < w.heap.size)
    (hc : ∀ i, i < xs.length → w.cell? ⟨b, off + i, none⟩ = some (.int .i64 (xs.getD i 0))) :
    Calls Tryd.prog 15 #[.agg #[.slice (some ⟨b, off, none⟩) xs.length cap, .int .i64 c]] w fun e w' => ∃ v', e = .returned (.tuple #[.agg #[v', .int .i64 (negC xs c)], .int .i64 (negE xs c)]) ∧ IsInts w.heap.size w' v' (negX xs c) ∧ Below w.heap.size w w' := by
  have H := hid0 h
  have HS := hid0 (smR_true.1 hs)
  have HC := hid0 hc
  have hc1 := smB_true.1 (smR_true.1 hs).2
  have wn : IntKind.i64.wrap (-c) = -c := IntWalk.i64_in _ (by omega)
  have wn1 : IntKind.i64.wrap (-c - 1) = -c - 1 := IntWalk.i64_in _ (by omega)
  clear h hc
  go_enter Tryd.func15, Tryd.ntmps15
  go_wp2_with (go_at_call 43; refine (rSmall_any c (H.out.below (by go_grown))).mono ?_; rintro e w2 ⟨rfl, hb2⟩; obtain ⟨p1, p2⟩ := blk hb2 (n := w.heap.size) (by go_size); obtain ⟨p3, p4⟩ := blk hb2 (n := w.heap.size + 1) (by go_size); have hs2 : w.heap.size + 1 < w2.heap.size := (by have := hb2.size; simp at this; omega))
  have y0 : w2.cell? ⟨w.heap.size, 0, none⟩ = some (.slice (some ⟨b, off, none⟩) xs.length cap) := by rw [p1]; simp
  have y2 : w2.cell? ⟨w.heap.size + 1, 0, none⟩ = some (.slice none 0 0) := by rw [p3]; simp
  have y3 : w2.cell? ⟨w.heap.size + 1, 1, none⟩ = some (.int .i64 0) := by rw [p3]; simp
  have y4 : ∀ o, w2.frozen? ⟨w.heap.size + 1, o, none⟩ = false := fun o => by rw [p4]; simp
  have hB2 := hid0 (Below.trans (by go_grown) (hb2.mono (by go_size)) : Below w.heap.size w w2)
  obtain ⟨i0, hi0, hz0, hz1, hz2⟩ := info_int4
  clear p1 p2 p3 p4 hb2
  obtain ⟨W, hW⟩ : ∃ W : World, W = w2.alloc (.cells #[Value.slice none 0 0, Value.int IntKind.i64 (-c - 1)] 24) := ⟨_, rfl⟩
  rw [← hW]
  have HB : Hid (Below w2.heap.size w2 W) := by rw [hW]; show Below _ _ _; go_grown
  have x1 : W.cell? ⟨w2.heap.size, 0, none⟩ = some (.slice none 0 0) := by rw [hW]; simp
  have x2 : W.cell? ⟨w2.heap.size, 1, none⟩ = some (.int .i64 (-c - 1)) := by rw [hW]; simp
  have x3 : ∀ o, W.frozen? ⟨w2.heap.size, o, none⟩ = false := fun o => by rw [hW]; simp
  have hWs : w2.heap.size < W.heap.size := by rw [hW]; simp
  clear hW
  go_loopw [5] (fun v wr => ∃ (k : Nat) (u : Value), k ≤ xs.length ∧ v = .int .i64 k ∧ wr.cell? ⟨w2.heap.size, 0, none⟩ = some u ∧ wr.cell? ⟨w2.heap.size, 1, none⟩ = some (.int .i64 (-c - 1)) ∧ (∀ o, wr.frozen? ⟨w2.heap.size, o, none⟩ = false) ∧ wr.ownsRow (w2.heap.size + 1) 3 1 u k (((xs.take k).map (fun x => -x)).map (Value.int .i64)) ∧ Below w2.heap.size w2 wr) (fun v _ => xs.length - (intOf v).toNat)
  case atStart => exact ⟨0, _, Nat.zero_le _, rfl, x1, x2, x3, World.ownsRow_nil _ _ _ _, HB.out⟩
  case round =>
    obtain ⟨k, u, hk, rfl, z1, z2, z3, hO, hB⟩ := hrel
    have HOk := hid0 hO
    have HBr := hid0 hB
    have HB0 := hid0 (thenBelow hB2.out hB)
    have l1 : w.heap.size + 1 < wr.heap.size := Nat.lt_of_lt_of_le hs2 hB.size
    have l0 : w.heap.size < wr.heap.size := by omega
    have l2 : w2.heap.size < wr.heap.size := cell_lt z1
    have g0 : wr.cell? ⟨w.heap.size, 0, none⟩ = some (.slice (some ⟨b, off, none⟩) xs.length cap) := (hB.cell (p := ⟨w.heap.size, 0, none⟩) (by show w.heap.size < _; omega)).trans y0
    by_cases h1 : k < xs.length
    · have g1 : wr.cell? ⟨b, off + k, none⟩ = some (.int .i64 (xs.getD k 0)) := (HB0.out.cell (p := ⟨b, off + k, none⟩) hb).trans (HC.out k h1)
      have e0 : xs.getD k 0 = xs[k] := by simp [List.getD, h1]
      rw [e0] at g1
      have b0 := smB_true.1 (List.all_eq_true.1 HS.out.1 _ (List.getElem_mem h1))
      have ew : IntKind.i64.wrap (-(xs[k]'h1)) = -(xs[k]'h1) := IntWalk.i64_in _ (by omega)
      have Hb := hid0 b0
      have hbr : b < wr.heap.size := by omega
      obtain ⟨au, cu, rfl⟩ : ∃ a c, u = .slice a k c := own_shape hO
      have hnb : some w2.heap.size ≠ (Value.slice au k cu).ownBlock := fun e => by have := (HOk.out.lt _ e.symm).1; omega
      clear b0 hO hB x1 x2 x3 y0 y2 y3 y4
      go_wp2_with fail
      go_region_law (refine step_append_lies _ (by rfl) (.tmp 23) (.tmp 30) 22 (by rfl) (w2.heap.size + 1) 3 i0 (.int .i64 0) 1 8 Tryd.underlying22 hi0 hz0 hz1 hz2 (by rfl) (by decide) _ k _ (by rfl) (HOk.out.alloc _) ⟨wr.heap.size, 0, none⟩ 1 1 [.int .i64 (-(xs[k]'h1))] (by rfl) (by rfl) (World.news_of_block (heap_alloc_new _ _)) (by intro u hu; simp at hu; subst hu; rfl) (by decide) (by unfold maxLen; omega) (by omega) (by simp; omega) (wr.heap.size + 1) (by simp) ?_; intro g cc w3 hown1 hgrow hat hlt; have k1 : w3.cell? ⟨w2.heap.size, 0, none⟩ = some (.slice au k cu) := (hgrow.cell_far ⟨w2.heap.size, 0, none⟩ (by simp; omega) hnb).trans (((allocBelow _ _).cell (p := ⟨w2.heap.size, 0, none⟩) l2).trans z1); have k2 : (∀ o, w3.frozen? ⟨w2.heap.size, o, none⟩ = false) := fun o => (hgrow.frozen_far ⟨w2.heap.size, o, none⟩ (by simp; omega) hnb).trans (((allocBelow _ _).frozen (p := ⟨w2.heap.size, o, none⟩) l2).trans (z3 o)); have k3 : w3.cell? ⟨w2.heap.size, 1, none⟩ = some (.int .i64 (-c - 1)) := (hgrow.cell_far ⟨w2.heap.size, 1, none⟩ (by simp; omega) hnb).trans (((allocBelow _ _).cell (p := ⟨w2.heap.size, 1, none⟩) l2).trans z2))
      all_goals
        go_wp2_with fail
        go_roundw
        case rel =>
          have hk1 : ((xs.take (k + 1)).map (fun x => -x)).map (Value.int .i64) = ((xs.take k).map (fun x => -x)).map (Value.int .i64) ++ [.int .i64 (-(xs[k]'h1))] := by
            rw [List.take_succ_eq_append_getElem h1, List.map_append, List.map_append]; rfl
          refine ⟨k + 1, .slice (some ⟨g, 0, none⟩) (k + 1) cc, by omega, by go_num, World.cell?_setCell_same _ _ _ k1, (World.cell?_setCell_other _ ⟨w2.heap.size, 0, none⟩ ⟨w2.heap.size, 1, none⟩ _ (by simp)).trans k3, fun o => by rw [World.frozen?_setCell]; exact k2 o, ?_, ?_⟩
          · rw [hk1]; exact ownsRow_setCell_below hown1 (by simp) _
          · have hBg : Below w2.heap.size w2 w3 := (thenBelow HBr.out (allocBelow _ _)).drew.grown hgrow (by simp; omega) (fun k hk => by have := (HOk.out.lt _ hk).1; omega)
            exact hBg.setCell (Nat.le_refl _) _
        case measure => simp [intOf]; omega
    · obtain rfl : k = xs.length := by omega
      have hO2 : OwnV (w2.heap.size + 1) wr u (xs.map (fun x => -x)) := own_of_row (e := 3) (by simpa using hO) (all_neg_I64 HS.out.1)
      have HOr := hid0 hO2
      obtain ⟨au, cu, rfl⟩ : ∃ a c, u = .slice a xs.length c := own_shape hO
      have v2 : wr.cell? ⟨w.heap.size + 1, 0, none⟩ = some (.slice none 0 0) := (hB.cell (p := ⟨w.heap.size + 1, 0, none⟩) hs2).trans y2
      have v3 : wr.cell? ⟨w.heap.size + 1, 1, none⟩ = some (.int .i64 0) := (hB.cell (p := ⟨w.heap.size + 1, 1, none⟩) hs2).trans y3
      have v4 : ∀ o, wr.frozen? ⟨w.heap.size + 1, o, none⟩ = false := fun o => (hB.frozen (p := ⟨w.heap.size + 1, o, none⟩) hs2).trans (y4 o)
      have hne : negE xs c = if smR (xs.map (fun x => -x), -c - 1) = true then 0 else 4 := by simp [negE, smR_true.2 HS.out]
      clear hO hO2 hB x1 x2 x3 y0 y2 y3 y4 h1 hk
      cases hsm : smR (xs.map (fun x => -x), -c - 1) with
      | true =>
        have E := hid0 (show negE xs c = 0 by rw [hne, if_pos hsm])
        clear hne
        go_wp2_with (go_at_call 43; refine (rSmall_any (-c - 1) HOr.out.ints).mono ?_; rintro e w3 ⟨rfl, hb3⟩; have t1 := (hb3.cell (p := ⟨w2.heap.size, 0, none⟩) l2).trans z1; have t2 := (hb3.cell (p := ⟨w2.heap.size, 1, none⟩) l2).trans z2; have t3 := (hb3.cell (p := ⟨w.heap.size + 1, 0, none⟩) l1).trans v2; have t4 := (hb3.cell (p := ⟨w.heap.size + 1, 1, none⟩) l1).trans v3; have t5 : (∀ o, w3.frozen? ⟨w.heap.size + 1, o, none⟩ = false) := fun o => (hb3.frozen (p := ⟨w.heap.size + 1, o, none⟩) l1).trans (v4 o))
        have HB3 := hid0 (thenBelow HB0.out hb3)
        refine bodyPost_ret (v := .tuple #[.agg #[.slice au xs.length cu, .int .i64 (-c - 1)], .int .i64 0]) (by simp [results, Tryd.results15, go_sem, t3, t4]) rfl ⟨_, by rw [show negC xs c = -c - 1 by unfold negC; rw [if_pos E.out], E.out], ?_, (HB3.out.setCell (by simp) _).setCell (by simp) _⟩
        rw [show negX xs c = xs.map (fun x => -x) by unfold negX; rw [if_pos E.out]]
        exact ((HOr.out.below hb3).setBoth (lo := w.heap.size) (by omega) _ (by omega) _ _).ints
      | false =>
        have E := hid0 (show negE xs c = 4 by rw [hne, hsm]; rfl)
        clear hne
        go_wp2_with (go_at_call 43; refine (rSmall_any (-c - 1) HOr.out.ints).mono ?_; rintro e w3 ⟨rfl, hb3⟩; have t1 := (hb3.cell (p := ⟨w2.heap.size, 0, none⟩) l2).trans z1; have t2 := (hb3.cell (p := ⟨w2.heap.size, 1, none⟩) l2).trans z2; have t3 := (hb3.cell (p := ⟨w.heap.size + 1, 0, none⟩) l1).trans v2; have t4 := (hb3.cell (p := ⟨w.heap.size + 1, 1, none⟩) l1).trans v3; have t5 : (∀ o, w3.frozen? ⟨w.heap.size + 1, o, none⟩ = false) := fun o => (hb3.frozen (p := ⟨w.heap.size + 1, o, none⟩) l1).trans (v4 o))
        have HB3 := hid0 (thenBelow HB0.out hb3)
        refine bodyPost_ret (v := .tuple #[.agg #[.slice none 0 0, .int .i64 0], .int .i64 4]) (by simp [results, Tryd.results15, go_sem, t3, t4]) rfl ⟨_, by rw [show negC xs c = 0 by unfold negC; rw [E.out]; rfl, E.out], ?_, (HB3.out.setCell (by simp) _).setCell (by simp) _⟩
        rw [show negX xs c = [] by unfold negX; rw [E.out]; rfl]
        exact IsInts.nil _ _

set_option maxHeartbeats 400000 in
theorem rNegate_large {lo : Nat} {w : World} {v : Value} {xs : List Int} (c : Int) (h : IsInts lo w v xs) (hs : smR (xs, c) = false) :
    Calls Tryd.prog 15 #[.agg #[v, .int .i64 c]] w fun e w' => e = .returned (.tuple #[.agg #[.slice none 0 0, .int .i64 0], .int .i64 4]) ∧ Below w.heap.size w w' := by
  have H := hid0 h
  obtain ⟨a, cap, rfl⟩ := h.shape
  clear h
  go_enter Tryd.func15, Tryd.ntmps15
  go_wp2_with (go_at_call 43; refine (rSmall_any c (H.out.below (by go_grown))).mono ?_; rintro e w2 ⟨rfl, hb2⟩; obtain ⟨p1, p2⟩ := blk hb2 (n := w.heap.size) (by go_size); obtain ⟨p3, p4⟩ := blk hb2 (n := w.heap.size + 1) (by go_size))
  have d1 : w2.cell? ⟨w.heap.size + 1, 0, none⟩ = some (.slice none 0 0) := by rw [(blk hb2 (n := w.heap.size + 1) (by go_size)).1]; simp
  have d2 : w2.cell? ⟨w.heap.size + 1, 1, none⟩ = some (.int .i64 0) := by rw [(blk hb2 (n := w.heap.size + 1) (by go_size)).1]; simp
  have hB1 : Below w.heap.size w w2 := Below.trans (by go_grown) (hb2.mono (by go_size))
  refine bodyPost_ret (v := .tuple #[.agg #[.slice none 0 0, .int .i64 0], .int .i64 4]) (by simp [results, Tryd.results15, go_sem, d1, d2]) rfl ⟨rfl, (hB1.setCell (by simp) _).setCell (by simp) _⟩

set_option maxHeartbeats 800000 in
theorem rNegate_empty {lo : Nat} {w : World} {a : Option Addr} {cap : Nat} (c : Int) (h : IsInts lo w (.slice a 0 cap) []) (hs : smR ([], c) = true) :
    Calls Tryd.prog 15 #[.agg #[.slice a 0 cap, .int .i64 c]] w fun e w' => ∃ v', e = .returned (.tuple #[.agg #[v', .int .i64 (negC [] c)], .int .i64 (negE [] c)]) ∧ IsInts w.heap.size w' v' (negX [] c) ∧ Below w.heap.size w w' := by
  have H := hid0 h
  have HS := hid0 (smR_true.1 hs)
  have hc1 := smB_true.1 (smR_true.1 hs).2
  have wn : IntKind.i64.wrap (-c) = -c := IntWalk.i64_in _ (by omega)
  have wn1 : IntKind.i64.wrap (-c - 1) = -c - 1 := IntWalk.i64_in _ (by omega)
  have hne : negE [] c = if smR ([], -c - 1) = true then 0 else 4 := by unfold negE; rw [show smR ([], c) = true from hs]; simp
  clear h
  go_enter Tryd.func15, Tryd.ntmps15
  go_wp2_with (go_at_call 43; refine (rSmall_any c (H.out.below (by go_grown))).mono ?_; rintro e w2 ⟨rfl, hb2⟩; obtain ⟨p1, p2⟩ := blk hb2 (n := w.heap.size) (by go_size); obtain ⟨p3, p4⟩ := blk hb2 (n := w.heap.size + 1) (by go_size); have hs2 : w.heap.size + 1 < w2.heap.size := (by have := hb2.size; simp at this; omega))
  have y0 : w2.cell? ⟨w.heap.size, 0, none⟩ = some (.slice a 0 cap) := by rw [p1]; simp
  have y2 : w2.cell? ⟨w.heap.size + 1, 0, none⟩ = some (.slice none 0 0) := by rw [p3]; simp
  have y3 : w2.cell? ⟨w.heap.size + 1, 1, none⟩ = some (.int .i64 0) := by rw [p3]; simp
  have y4 : ∀ o, w2.frozen? ⟨w.heap.size + 1, o, none⟩ = false := fun o => by rw [p4]; simp
  have hB2 := hid0 (Below.trans (by go_grown) (hb2.mono (by go_size)) : Below w.heap.size w w2)
  have hs0 : w.heap.size < w2.heap.size := by omega
  clear p1 p2 p3 p4 hb2
  obtain ⟨W, hW⟩ : ∃ W : World, W = w2.alloc (.cells #[Value.slice none 0 0, Value.int IntKind.i64 (-c - 1)] 24) := ⟨_, rfl⟩
  rw [← hW]
  have HB : Hid (Below w2.heap.size w2 W) := by rw [hW]; show Below _ _ _; go_grown
  have z1 : W.cell? ⟨w2.heap.size, 0, none⟩ = some (.slice none 0 0) := by rw [hW]; simp
  have z2 : W.cell? ⟨w2.heap.size, 1, none⟩ = some (.int .i64 (-c - 1)) := by rw [hW]; simp
  have v0 : W.cell? ⟨w.heap.size, 0, none⟩ = some (.slice a 0 cap) := (HB.out.cell (p := ⟨w.heap.size, 0, none⟩) hs0).trans y0
  have v2 : W.cell? ⟨w.heap.size + 1, 0, none⟩ = some (.slice none 0 0) := (HB.out.cell (p := ⟨w.heap.size + 1, 0, none⟩) hs2).trans y2
  have v3 : W.cell? ⟨w.heap.size + 1, 1, none⟩ = some (.int .i64 0) := (HB.out.cell (p := ⟨w.heap.size + 1, 1, none⟩) hs2).trans y3
  have v4 : ∀ o, W.frozen? ⟨w.heap.size + 1, o, none⟩ = false := fun o => (HB.out.frozen (p := ⟨w.heap.size + 1, o, none⟩) hs2).trans (y4 o)
  have l2 : w2.heap.size < W.heap.size := cell_lt z1
  have l1 : w.heap.size + 1 < W.heap.size := by omega
  have HB0 := hid0 (thenBelow hB2.out HB.out)
  clear hW y0 y2 y3 y4
  refine wp_loop_rounds 1 ?_
  rw [rounds_succ]
  cases hsm : smR ([], -c - 1) with
  | true =>
    have E := hid0 (show negE [] c = 0 by rw [hne, if_pos hsm])
    clear hne
    go_wp2_with (go_at_call 43; refine (rSmall_any (-c - 1) (IsInts.nil 0 _)).mono ?_; rintro e w3 ⟨rfl, hb3⟩; have t1 := (hb3.cell (p := ⟨w2.heap.size, 0, none⟩) l2).trans z1; have t2 := (hb3.cell (p := ⟨w2.heap.size, 1, none⟩) l2).trans z2; have t3 := (hb3.cell (p := ⟨w.heap.size + 1, 0, none⟩) l1).trans v2; have t4 := (hb3.cell (p := ⟨w.heap.size + 1, 1, none⟩) l1).trans v3; have t5 : (∀ o, w3.frozen? ⟨w.heap.size + 1, o, none⟩ = false) := fun o => (hb3.frozen (p := ⟨w.heap.size + 1, o, none⟩) l1).trans (v4 o))
    have HB3 := hid0 (thenBelow HB0.out hb3)
    refine bodyPost_ret (v := .tuple #[.agg #[.slice none 0 0, .int .i64 (-c - 1)], .int .i64 0]) (by simp [results, Tryd.results15, go_sem, t3, t4]) rfl ⟨_, by rw [show negC [] c = -c - 1 by unfold negC; rw [if_pos E.out], E.out], ?_, (HB3.out.setCell (by simp) _).setCell (by simp) _⟩
    rw [show negX [] c = [] by unfold negX; rw [if_pos E.out]; rfl]
    exact IsInts.nil _ _
  | false =>
    have E := hid0 (show negE [] c = 4 by rw [hne, hsm]; rfl)
    clear hne
    go_wp2_with (go_at_call 43; refine (rSmall_any (-c - 1) (IsInts.nil 0 _)).mono ?_; rintro e w3 ⟨rfl, hb3⟩; have t1 := (hb3.cell (p := ⟨w2.heap.size, 0, none⟩) l2).trans z1; have t2 := (hb3.cell (p := ⟨w2.heap.size, 1, none⟩) l2).trans z2; have t3 := (hb3.cell (p := ⟨w.heap.size + 1, 0, none⟩) l1).trans v2; have t4 := (hb3.cell (p := ⟨w.heap.size + 1, 1, none⟩) l1).trans v3; have t5 : (∀ o, w3.frozen? ⟨w.heap.size + 1, o, none⟩ = false) := fun o => (hb3.frozen (p := ⟨w.heap.size + 1, o, none⟩) l1).trans (v4 o))
    have HB3 := hid0 (thenBelow HB0.out hb3)
    refine bodyPost_ret (v := .tuple #[.agg #[.slice none 0 0, .int .i64 0], .int .i64 4]) (by simp [results, Tryd.results15, go_sem, t3, t4]) rfl ⟨_, by rw [show negC [] c = 0 by unfold negC; rw [E.out]; rfl, E.out], ?_, (HB3.out.setCell (by simp) _).setCell (by simp) _⟩
    rw [show negX [] c = [] by unfold negX; rw [E.out]; rfl]
    exact IsInts.nil _ _

theorem rNegate_any {lo : Nat} {w : World} {v : Value} {xs : List Int} (c : Int) (h : IsInts lo w v xs) (hn : xs.length ≤ 1000) :
    Calls Tryd.prog 15 #[.agg #[v, .int .i64 c]] w fun e w' => ∃ v', e = .returned (.tuple #[.agg #[v', .int .i64 (negC xs c)], .int .i64 (negE xs c)]) ∧ IsInts w.heap.size w' v' (negX xs c) ∧ Below w.heap.size w w' := by
  cases hs : smR (xs, c) with
  | false =>
    have E : negE xs c = 4 := by simp [negE, hs]
    refine (rNegate_large c h hs).mono ?_
    rintro e w' ⟨rfl, hb⟩
    exact ⟨_, by rw [show negC xs c = 0 by unfold negC; rw [E]; rfl, E], by rw [show negX xs c = [] by unfold negX; rw [E]; rfl]; exact IsInts.nil _ _, hb⟩
  | true =>
    have H := h
    obtain ⟨a, cap, rfl, _, _, _, hc⟩ := h
    rcases hc with rfl | ⟨b, off, rfl, _, hb, hc⟩
    · exact rNegate_empty c H hs
    · exact rNegate_full c H hn hs hb hc
end Go.Proofs.YtbdnihjokndhaaaDoor
