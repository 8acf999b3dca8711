/-
  CopySystem AND SameSystem OF THE REFERENCE.
-/
import Derived.Test.YtbppooajhoejcaaDoorCopy
import Derived.Test.YtbppooajhoejcaaDoorRefSys
import Derived.Test.YtbppooajhoejcaaDoorHold
import Derived.Deep.AppendLies
import Derived.Deep.RegionLaw
namespace Go.Proofs.YtbppooajhoejcaaDoor
open Go.RowKit Go.Deep

/-- The cells of rows that stand one behind the other. -/
def flatR (ps : List (Value × Rw)) : List Value := ps.flatMap fun p => [p.1, .int .i64 p.2.2]
theorem flatR_snoc (ps : List (Value × Rw)) (p : Value × Rw) : flatR (ps ++ [p]) = flatR ps ++ [p.1, .int .i64 p.2.2] := by simp [flatR]
theorem flatR_get : ∀ (ps : List (Value × Rw)) (i : Nat) (h : i < ps.length), (flatR ps)[i * 2]? = some ps[i].1 ∧ (flatR ps)[i * 2 + 1]? = some (.int .i64 ps[i].2.2)
  | p :: ps, 0, _ => by simp [flatR]
  | p :: ps, i + 1, h => by
    have ih := flatR_get ps i (by simpa using h)
    have e1 : (i + 1) * 2 = i * 2 + 1 + 1 := by omega
    have hf : flatR (p :: ps) = p.1 :: .int .i64 p.2.2 :: flatR ps := by simp [flatR]
    rw [hf, e1, List.getElem?_cons_succ, List.getElem?_cons_succ, List.getElem?_cons_succ, List.getElem?_cons_succ]
    simpa using ih
/-- A slice of rows that the call has made, with rows of its own. -/
def OwnRows (lo : Nat) (w : World) (u : Value) (ps : List (Value × Rw)) : Prop :=
  w.ownsRow lo 24 2 u ps.length (flatR ps) ∧ ∀ p ∈ ps, OwnV lo w p.1 p.2.1 ∧ (∀ g, u.ownBlock = some g → p.1.ownBlock ≠ some g) ∧ I64 p.2.2

theorem OwnV.block {lo : Nat} {w : World} {v : Value} {xs : List Int} (h : OwnV lo w v xs) {g : Nat} (hg : v.ownBlock = some g) : lo ≤ g ∧ g < w.heap.size := by
  rcases h with ⟨rfl, _⟩ | ⟨g', cap, rfl, _, _, h⟩
  · cases hg
  · have : g' = g := by simpa [Value.ownBlock] using hg
    subst this
    exact ⟨h.1, h.lt⟩
theorem OwnV.grown {lo : Nat} {w w' : World} {v : Value} {xs : List Int} {r : Option Nat} (h : OwnV lo w v xs) (hg : w.grownBy w' r) (hr : ∀ g, r = some g → v.ownBlock ≠ some g) : OwnV lo w' v xs := by
  rcases h with h | ⟨g', cap, rfl, h1, h2, h⟩
  · exact .inl h
  · exact .inr ⟨g', cap, rfl, h1, h2, h.but (hg.block g' h.lt (fun e => hr g' e.symm rfl))⟩
theorem OwnV.setOther {lo : Nat} {w : World} {v : Value} {xs : List Int} (h : OwnV lo w v xs) (a : Addr) (ha : a.block < lo) (u : Value) : OwnV lo (w.setCell a u) v xs := by
  rcases h with h | ⟨g', cap, rfl, h1, h2, h⟩
  · exact .inl h
  · exact .inr ⟨g', cap, rfl, h1, h2, h.setOther _ _ (by have := h.1; omega)⟩
theorem OwnRows.nil (lo : Nat) (w : World) : OwnRows lo w (.slice none 0 0) [] := ⟨World.ownsRow_nil _ _ _ _, by simp⟩
theorem OwnRows.setOther {lo : Nat} {w : World} {u : Value} {ps : List (Value × Rw)} (h : OwnRows lo w u ps) (a : Addr) (ha : a.block < lo) (x : Value) : OwnRows lo (w.setCell a x) u ps :=
  ⟨ownsRow_setCell_below h.1 ha _, fun p hp => ⟨(h.2 p hp).1.setOther a ha _, (h.2 p hp).2⟩⟩
theorem row_mono {w : World} {base base' : Nat} {e : TypeId} {size : Nat} {v : Value} {n : Nat} {xs : List Value} (h : w.ownsRow base e size v n xs) (hb : base' ≤ base) : w.ownsRow base' e size v n xs := by
  obtain ⟨h1, h2⟩ := h
  refine ⟨h1, ?_⟩
  rcases h2 with h2 | ⟨g, cap, cur, hv, hg, r⟩
  · exact .inl h2
  · exact .inr ⟨g, cap, cur, hv, Nat.le_trans hb hg, r⟩
theorem OwnRows.mono {lo lo' : Nat} {w : World} {u : Value} {ps : List (Value × Rw)} (h : OwnRows lo w u ps) (hl : lo' ≤ lo) : OwnRows lo' w u ps :=
  ⟨row_mono h.1 hl, fun p hp => ⟨(h.2 p hp).1.mono hl, (h.2 p hp).2⟩⟩
theorem row_below {w w' : World} {B e size n : Nat} {v : Value} {xs : List Value} (h : w.ownsRow B e size v n xs) (hb : Below w.heap.size w w') : w'.ownsRow B e size v n xs := by
  obtain ⟨h1, h2⟩ := h
  refine ⟨h1, ?_⟩
  rcases h2 with h2 | ⟨g, cap, cur, hv, hg, hh, r⟩
  · exact .inl h2
  · exact .inr ⟨g, cap, cur, hv, hg, by rw [hb.block g (Array.getElem?_eq_some_iff.1 hh).1]; exact hh, r⟩
theorem OwnRows.below {lo : Nat} {w w' : World} {u : Value} {ps : List (Value × Rw)} (h : OwnRows lo w u ps) (hb : Below w.heap.size w w') : OwnRows lo w' u ps :=
  ⟨row_below h.1 hb, fun p hp => ⟨(h.2 p hp).1.below hb, (h.2 p hp).2⟩⟩
/-- A row is appended. -/
theorem OwnRows.snoc {lo : Nat} {wr w1 w2 w3 : World} {u v' : Value} {ps : List (Value × Rw)} {r : Rw} {g cap : Nat} (h : OwnRows lo wr u ps) (hv : OwnV wr.heap.size w1 v' r.1) (hi : I64 r.2) (hlo : lo ≤ wr.heap.size)
    (hb1 : Below wr.heap.size wr w1) (hb2 : Below w1.heap.size w1 w2)
    (hown : w3.ownsRow lo 24 2 (.slice (some ⟨g, 0, none⟩) (ps.length + 1) cap) (ps.length + 1) (flatR ps ++ [v', .int .i64 r.2])) (hgrow : w2.grownBy w3 u.ownBlock) (hat : u.ownBlock = some g ∨ g = w2.heap.size) :
    OwnRows lo w3 (.slice (some ⟨g, 0, none⟩) (ps.length + 1) cap) (ps ++ [(v', r)]) := by
  refine ⟨by simpa [flatR_snoc] using hown, fun p hp => ?_⟩
  have hu : ∀ g, u.ownBlock = some g → g < wr.heap.size := fun g hg => (h.1.lt _ hg).2
  have hlt : ∀ g', p.1.ownBlock = some g' → g' < w2.heap.size ∧ (u.ownBlock = some g → g' ≠ g) := by
    intro g' hg'
    rcases List.mem_append.1 hp with hp | hp
    · have := ((h.2 p hp).1.block hg').2
      exact ⟨by have := hb1.size; have := hb2.size; omega, fun e e' => (h.2 p hp).2.1 g e (by rw [← e']; exact hg')⟩
    · obtain rfl : p = (v', r) := by simpa using hp
      have := hv.block hg'
      exact ⟨by have := hb2.size; omega, fun e e' => by have := hu g e; omega⟩
  have hO : OwnV lo w2 p.1 p.2.1 ∧ I64 p.2.2 ∧ ∀ g, u.ownBlock = some g → p.1.ownBlock ≠ some g := by
    rcases List.mem_append.1 hp with hp | hp
    · exact ⟨((h.2 p hp).1.below hb1).below hb2, (h.2 p hp).2.2, (h.2 p hp).2.1⟩
    · obtain rfl : p = (v', r) := by simpa using hp
      exact ⟨(hv.below hb2).mono hlo, hi, fun g hg e => by have := hu g hg; have := hv.block e; omega⟩
  refine ⟨hO.1.grown hgrow hO.2.2, fun g' hg' e => ?_, hO.2.1⟩
  have : g = g' := by simpa [Value.ownBlock] using hg'
  subst this
  have h1 := hlt _ e
  rcases hat with hat | hat
  · exact h1.2 hat rfl
  · omega
theorem OwnRows.rows {lo : Nat} {w : World} {u : Value} {ps : List (Value × Rw)} (h : OwnRows lo w u ps) : IsRows lo w u (ps.map (·.2)) := by
  obtain ⟨⟨hl, h1⟩, h2⟩ := h
  rcases h1 with ⟨rfl, h0⟩ | ⟨g, cap, cur, rfl, hb, hg, hnc, hcm, hcs, htake⟩
  · have : ps = [] := List.eq_nil_of_length_eq_zero h0
    subst this
    exact ⟨none, 0, rfl, by simp, by simp [maxLen], .inl rfl⟩
  · refine ⟨some ⟨g, 0, none⟩, cap, by simp, by simpa using hnc, hcm, .inr ⟨g, 0, rfl, hb, (Array.getElem?_eq_some_iff.1 hg).1, fun i hi => ?_⟩⟩
    have hi' : i < ps.length := by simpa using hi
    have hf := flatR_get ps i hi'
    have hp := h2 ps[i] (List.getElem_mem _)
    have hc : ∀ j v, j < ps.length * 2 → (flatR ps)[j]? = some v → w.cell? ⟨g, j, none⟩ = some v := fun j v hj hv => by
      rw [← htake, List.getElem?_take_of_lt hj] at hv
      simp only [World.cell?, hg]
      simpa using hv
    refine ⟨ps[i].1, by simpa using hc (i * 2) _ (by omega) hf.1, by simpa using hc (i * 2 + 1) _ (by omega) hf.2, by simpa using hp.1.ints, by simpa using hp.2.2⟩

theorem new_frozen (w : World) (cs : Array Value) (t : TypeId) (o : Nat) {n : Nat} (h : n = w.heap.size) : (w.alloc (.cells cs t)).frozen? ⟨n, o, none⟩ = false := by subst h; simp
theorem info_row : (Tryd.prog.info? 24).map (fun i => (i.zero, i.size, i.bytes)) = some (some (.agg #[.slice none 0 0, .int .i64 0]), 2, 32) := by kernel_rfl
theorem info_row4 : ∃ i, Tryd.prog.info? 24 = some i ∧ i.zero = some (.agg #[.slice none 0 0, .int .i64 0]) ∧ i.size = 2 ∧ i.bytes = 32 := by
  obtain ⟨i, hi, h⟩ := Option.map_eq_some_iff.1 info_row
  simp only [Prod.mk.injEq] at h
  exact ⟨i, hi, h.1, h.2.1, h.2.2⟩
theorem rows_shape {w : World} {base : Nat} {e : TypeId} {size : Nat} {v : Value} {n : Nat} {xs : List Value} (h : w.ownsRow base e size v n xs) : ∃ a c, v = .slice a n c := by
  rcases h.2 with ⟨rfl, rfl⟩ | ⟨g, cap, _, rfl, _⟩
  · exact ⟨_, _, rfl⟩
  · exact ⟨_, _, rfl⟩

set_option maxHeartbeats 1600000 in
theorem CopySystem_full (vars : Int) (b off n cap : Nat) (w : World) (rs : List Rw) (hx : rs.length = n) (hn : n ≤ 250) (hw : ∀ r ∈ rs, r.1.length ≤ 200) (hb : b < w.heap.size)
    (hc : ∀ i (hi : i < n), ∃ sv, w.cell? ⟨b, off + i * 2, none⟩ = some sv ∧ w.cell? ⟨b, off + i * 2 + 1, none⟩ = some (.int .i64 (rs[i]'(by omega)).2) ∧ IsInts 0 w sv (rs[i]'(by omega)).1 ∧ I64 (rs[i]'(by omega)).2) :
    Calls Tryd.prog 26 #[.agg #[.int .i64 vars, .slice (some ⟨b, off, none⟩) n cap]] w fun e w' => ∃ u ps, e = .returned (.agg #[.int .i64 vars, u]) ∧ OwnRows w.heap.size w' u ps ∧ ps.map (·.2) = rs ∧ Below w.heap.size w w' := by
  have HC := hid0 hc
  have HW := hid0 hw
  obtain ⟨i0, hi0, hz0, hz1, hz2⟩ := info_row4
  clear hc hw
  go_enter Tryd.func26, Tryd.ntmps26
  go_wp2_with fail
  obtain ⟨W, hW⟩ : ∃ W : World, W = ((w.alloc (.cells #[.int .i64 vars, .slice (some ⟨b, off, none⟩) n cap] 36)).alloc (.cells #[.int .i64 0, .slice none 0 0] 36)).alloc (.cells #[.int .i64 vars, .slice none 0 0] 36) := ⟨_, rfl⟩
  rw [← hW]
  have HB : Hid (Below w.heap.size w W) := by rw [hW]; show Below _ _ _; go_grown
  have n2 : w.heap.size + 1 = (w.alloc (.cells #[.int .i64 vars, .slice (some ⟨b, off, none⟩) n cap] 36)).heap.size := by simp
  have n3 : w.heap.size + 1 + 1 = ((w.alloc (.cells #[.int .i64 vars, .slice (some ⟨b, off, none⟩) n cap] 36)).alloc (.cells #[.int .i64 0, .slice none 0 0] 36)).heap.size := by simp
  have x0 : W.cell? ⟨w.heap.size, 1, none⟩ = some (.slice (some ⟨b, off, none⟩) n cap) := by rw [hW]; exact keep1 (keep1 (new_cell w _ _ 1 rfl) (allocBelow _ _)) (allocBelow _ _)
  have x1 : W.cell? ⟨w.heap.size + 1 + 1, 1, none⟩ = some (.slice none 0 0) := by rw [hW]; exact new_cell _ _ _ 1 n3
  have x2 : W.cell? ⟨w.heap.size + 1 + 1, 0, none⟩ = some (.int .i64 vars) := by rw [hW]; exact new_cell _ _ _ 0 n3
  have x3 : ∀ o, W.frozen? ⟨w.heap.size + 1 + 1, o, none⟩ = false := fun o => by rw [hW]; exact new_frozen _ _ _ o n3
  have x4 : W.cell? ⟨w.heap.size + 1, 0, none⟩ = some (.int .i64 0) := by rw [hW]; exact keep1 (new_cell _ _ _ 0 n2) (allocBelow _ _)
  have x5 : W.cell? ⟨w.heap.size + 1, 1, none⟩ = some (.slice none 0 0) := by rw [hW]; exact keep1 (new_cell _ _ _ 1 n2) (allocBelow _ _)
  have x6 : ∀ o, W.frozen? ⟨w.heap.size + 1, o, none⟩ = false := fun o => by rw [hW]; exact ((allocBelow _ _).frozen (p := ⟨w.heap.size + 1, o, none⟩) (by simp)).trans (new_frozen _ _ _ o n2)
  clear n2 n3
  have hWs : w.heap.size + 3 = W.heap.size := by rw [hW]; simp
  clear hW
  go_loopw [4] (fun v wr => ∃ (k : Nat) (u : Value) (ps : List (Value × Rw)), k ≤ n ∧ v = .int .i64 k ∧ ps.map (·.2) = rs.take k ∧ wr.cell? ⟨w.heap.size + 1 + 1, 1, none⟩ = some u ∧ wr.cell? ⟨w.heap.size + 1 + 1, 0, none⟩ = some (.int .i64 vars) ∧ (∀ o, wr.frozen? ⟨w.heap.size + 1 + 1, o, none⟩ = false) ∧ OwnRows (w.heap.size + 3) wr u ps ∧ Below (w.heap.size + 2) W wr) (fun v _ => n - (intOf v).toNat)
  case atStart => exact ⟨0, _, [], Nat.zero_le _, rfl, rfl, x1, x2, x3, OwnRows.nil _ _, Below.refl _ _⟩
  case round =>
    obtain ⟨k, u, ps, hk, rfl, hps, z1, z2, z3, hO, hB⟩ := hrel
    have HOk := hid0 hO
    have HBr := hid0 hB
    have HB0 : Hid (Below w.heap.size w wr) := HB.out.trans (hB.mono (by omega))
    have hsz := hB.size
    have hkl : ps.length = k := by have := congrArg List.length hps; simp at this; omega
    have l0 : w.heap.size < wr.heap.size := by omega
    have l1 : w.heap.size + 1 < wr.heap.size := by omega
    have l2 : w.heap.size + 1 + 1 < wr.heap.size := by omega
    have g0 : wr.cell? ⟨w.heap.size, 1, none⟩ = some (.slice (some ⟨b, off, none⟩) n cap) := (hB.cell (p := ⟨w.heap.size, 1, none⟩) (by show w.heap.size < _; omega)).trans x0
    by_cases h1 : k < n
    · obtain ⟨sv, q1, q2, q3, q4⟩ := HC.out k h1
      obtain ⟨a', cap', rfl⟩ := q3.shape
      have g1 := (HB0.out.cell (p := ⟨b, off + k * 2, none⟩) hb).trans q1
      have g2 := (HB0.out.cell (p := ⟨b, off + k * 2 + 1, none⟩) hb).trans q2
      have Q3 := hid0 (q3.below HB0.out)
      have hbr : b < wr.heap.size := by omega
      have hlen : (rs[k]'(by omega)).1.length ≤ 1000 := by have := HW.out _ (List.getElem_mem (by omega : k < rs.length)); omega
      have Q4 := hid0 q4
      obtain ⟨au, cu, rfl⟩ : ∃ a c, u = .slice a k c := by rw [← hkl]; exact rows_shape hO.1
      have hnb : some (w.heap.size + 1 + 1) ≠ (Value.slice au k cu).ownBlock := fun e => by have := (HOk.out.1.lt _ e.symm).1; omega
      have hPS := hid0 hps
      clear hO hB x0 x1 x2 x3 x4 x5 x6 q1 q2 q3 q4 hps
      go_wp2_with fail
      go_region_law (first | (go_simp; go_at_call 30; refine (CopyRow_any _ (Q3.out.below (drewBelow _)) hlen).mono ?_; rintro e w1 ⟨v', rfl, hOv, hb1⟩; obtain ⟨av, cv, rfl⟩ := hOv.shape; have HOv := hid0 hOv; have HB1 := hid0 (thenBelow (drewBelow wr) hb1); have ls := hb1.size; simp only [World.size_drew] at ls; have l2' : w.heap.size + 1 + 1 < w1.heap.size := (by omega); have m1 := (hb1.cell (p := ⟨w.heap.size + 1 + 1, 1, none⟩) (by simp; omega)).trans z1; have m2 := (hb1.cell (p := ⟨w.heap.size + 1 + 1, 0, none⟩) (by simp; omega)).trans z2; have m3 : (∀ o, w1.frozen? ⟨w.heap.size + 1 + 1, o, none⟩ = false) := fun o => (hb1.frozen (p := ⟨w.heap.size + 1 + 1, o, none⟩) (by simp; omega)).trans (z3 o); clear hOv) | (refine step_append_lies _ (by rfl) (.tmp 16) (.tmp 23) 34 (by rfl) (w.heap.size + 3) 24 i0 (.agg #[.slice none 0 0, .int .i64 0]) 2 32 Tryd.underlying34 hi0 hz0 hz1 hz2 (by rfl) (by decide) _ k _ (by rfl) (hkl ▸ ((HOk.out.below HB1.out).1.alloc _)) ⟨w1.heap.size, 0, none⟩ 1 1 [.slice av (rs[k]'(by omega)).1.length cv, .int .i64 (rs[k]'(by omega)).2] (by rfl) (by rfl) (World.news_of_block (heap_alloc_new _ _)) (by intro u hu; simp at hu; rcases hu with rfl | rfl <;> rfl) (by decide) (by unfold maxLen; omega) (by omega) (by simp; omega) (w1.heap.size + 1) (by simp) ?_; intro g cc w3 hown1 hgrow hat hlt; have hnb1 : some (w.heap.size + 1 + 1) ≠ (Value.slice au k cu).ownBlock := hnb; have k1 : w3.cell? ⟨w.heap.size + 1 + 1, 1, none⟩ = some (.slice au k cu) := (hgrow.cell_far ⟨w.heap.size + 1 + 1, 1, none⟩ (by simp; omega) hnb).trans (((allocBelow _ _).cell (p := ⟨w.heap.size + 1 + 1, 1, none⟩) (by simp; omega)).trans m1); have k2 : (∀ o, w3.frozen? ⟨w.heap.size + 1 + 1, o, none⟩ = false) := fun o => (hgrow.frozen_far ⟨w.heap.size + 1 + 1, o, none⟩ (by simp; omega) hnb).trans (((allocBelow _ _).frozen (p := ⟨w.heap.size + 1 + 1, o, none⟩) (by simp; omega)).trans (m3 o)); have k3 : w3.cell? ⟨w.heap.size + 1 + 1, 0, none⟩ = some (.int .i64 vars) := (hgrow.cell_far ⟨w.heap.size + 1 + 1, 0, none⟩ (by simp; omega) hnb).trans (((allocBelow _ _).cell (p := ⟨w.heap.size + 1 + 1, 0, none⟩) (by simp; omega)).trans m2)))
      all_goals
        go_wp2_with fail
        go_roundw
        case rel =>
          have hx' : ps.map (·.2) ++ [rs[k]'(by omega)] = rs.take (k + 1) := by rw [hPS.out, List.take_succ_eq_append_getElem (by omega : k < rs.length)]
          have hS := OwnRows.snoc (r := rs[k]'(by omega)) (w2 := w1.alloc (.cells #[.slice av (rs[k]'(by omega)).1.length cv, .int .i64 (rs[k]'(by omega)).2] 24)) HOk.out HOv.out Q4.out (by omega) HB1.out (allocBelow _ _) (by rw [hkl]; exact hown1) hgrow (by simpa using hat)
          refine ⟨k + 1, .slice (some ⟨g, 0, none⟩) (k + 1) cc, ps ++ [(.slice av (rs[k]'(by omega)).1.length cv, rs[k]'(by omega))], by omega, by go_num, by simpa using hx', World.cell?_setCell_same _ _ _ k1, (World.cell?_setCell_other _ ⟨w.heap.size + 1 + 1, 1, none⟩ ⟨w.heap.size + 1 + 1, 0, none⟩ _ (by simp)).trans k3, fun o => by rw [World.frozen?_setCell]; exact k2 o, ?_, ?_⟩
          · rw [hkl] at hS; exact hS.setOther _ (by simp) _
          · have hBg : Below (w.heap.size + 2) W w3 := ((HBr.out.trans (HB1.out.mono (by omega))).trans ((allocBelow _ _).mono (by omega))).grown hgrow (by simp; omega) (fun k hk => by have := (HOk.out.1.lt _ hk).1; omega)
            exact hBg.setCell (by simp) _
        case measure => simp [intOf]; omega
    · obtain rfl : k = n := by omega
      have v4 : wr.cell? ⟨w.heap.size + 1, 0, none⟩ = some (.int .i64 0) := (hB.cell (p := ⟨w.heap.size + 1, 0, none⟩) (by show w.heap.size + 1 < _; omega)).trans x4
      have v5 : wr.cell? ⟨w.heap.size + 1, 1, none⟩ = some (.slice none 0 0) := (hB.cell (p := ⟨w.heap.size + 1, 1, none⟩) (by show w.heap.size + 1 < _; omega)).trans x5
      have v6 : ∀ o, wr.frozen? ⟨w.heap.size + 1, o, none⟩ = false := fun o => (hB.frozen (p := ⟨w.heap.size + 1, o, none⟩) (by show w.heap.size + 1 < _; omega)).trans (x6 o)
      have hPS : ps.map (·.2) = rs := by rw [hps, ← hx, List.take_length]
      obtain ⟨au, cu, rfl⟩ : ∃ a c, u = .slice a k c := by rw [← hkl]; exact rows_shape hO.1
      clear hO hB x0 x1 x2 x3 x4 x5 x6 hps h1 hk
      go_wp2_with fail
      refine bodyPost_ret (v := .agg #[.int .i64 vars, .slice au k cu]) (by simp [results, Tryd.results26, go_sem, v4, v5]) rfl ⟨_, ps, rfl, ?_, hPS, (HB0.out.setCell (by simp) _).setCell (by simp) _⟩
      exact (((HOk.out.setOther ⟨w.heap.size + 1, 0, none⟩ (by simp) _).setOther ⟨w.heap.size + 1, 1, none⟩ (by simp) _).mono (by omega))

set_option maxHeartbeats 800000 in
theorem CopySystem_empty (vars : Int) (a : Option Addr) (cap : Nat) (w : World) :
    Calls Tryd.prog 26 #[.agg #[.int .i64 vars, .slice a 0 cap]] w fun e w' => ∃ u ps, e = .returned (.agg #[.int .i64 vars, u]) ∧ OwnRows w.heap.size w' u ps ∧ ps.map (·.2) = [] ∧ Below w.heap.size w w' := by
  go_enter Tryd.func26, Tryd.ntmps26
  go_wp2_with fail
  obtain ⟨W, hW⟩ : ∃ W : World, W = ((w.alloc (.cells #[.int .i64 vars, .slice a 0 cap] 36)).alloc (.cells #[.int .i64 0, .slice none 0 0] 36)).alloc (.cells #[.int .i64 vars, .slice none 0 0] 36) := ⟨_, rfl⟩
  rw [← hW]
  have HB : Hid (Below w.heap.size w W) := by rw [hW]; show Below _ _ _; go_grown
  have n2 : w.heap.size + 1 = (w.alloc (.cells #[.int .i64 vars, .slice a 0 cap] 36)).heap.size := by simp
  have n3 : w.heap.size + 1 + 1 = ((w.alloc (.cells #[.int .i64 vars, .slice a 0 cap] 36)).alloc (.cells #[.int .i64 0, .slice none 0 0] 36)).heap.size := by simp
  have x0 : W.cell? ⟨w.heap.size, 1, none⟩ = some (.slice a 0 cap) := by rw [hW]; exact keep1 (keep1 (new_cell w _ _ 1 rfl) (allocBelow _ _)) (allocBelow _ _)
  have x1 : W.cell? ⟨w.heap.size + 1 + 1, 1, none⟩ = some (.slice none 0 0) := by rw [hW]; exact new_cell _ _ _ 1 n3
  have x2 : W.cell? ⟨w.heap.size + 1 + 1, 0, none⟩ = some (.int .i64 vars) := by rw [hW]; exact new_cell _ _ _ 0 n3
  have x4 : W.cell? ⟨w.heap.size + 1, 0, none⟩ = some (.int .i64 0) := by rw [hW]; exact keep1 (new_cell _ _ _ 0 n2) (allocBelow _ _)
  have x5 : W.cell? ⟨w.heap.size + 1, 1, none⟩ = some (.slice none 0 0) := by rw [hW]; exact keep1 (new_cell _ _ _ 1 n2) (allocBelow _ _)
  have x6 : ∀ o, W.frozen? ⟨w.heap.size + 1, o, none⟩ = false := fun o => by rw [hW]; exact ((allocBelow _ _).frozen (p := ⟨w.heap.size + 1, o, none⟩) (by simp)).trans (new_frozen _ _ _ o n2)
  clear n2 n3 hW
  refine wp_loop_rounds 1 ?_
  rw [rounds_succ]
  go_wp2_with fail
  refine bodyPost_ret (v := .agg #[.int .i64 vars, .slice none 0 0]) (by simp [results, Tryd.results26, go_sem, x4, x5]) rfl ⟨_, [], rfl, OwnRows.nil _ _, rfl, (HB.out.setCell (by simp) _).setCell (by simp) _⟩

theorem CopySystem_any {lo : Nat} {w : World} {v : Value} {rs : List Rw} (vars : Int) (h : IsRows lo w v rs) (hw : wideB rs = false) :
    Calls Tryd.prog 26 #[.agg #[.int .i64 vars, v]] w fun e w' => ∃ u ps, e = .returned (.agg #[.int .i64 vars, u]) ∧ OwnRows w.heap.size w' u ps ∧ ps.map (·.2) = rs ∧ Below w.heap.size w w' := by
  obtain ⟨hn, hl⟩ := wide_no hw
  obtain ⟨a, cap, rfl, _, hm, hc⟩ := h.mono (Nat.zero_le lo)
  rcases hc with rfl | ⟨b, off, rfl, _, hb, hc⟩
  · exact CopySystem_empty _ _ _ _
  · exact CopySystem_full _ _ _ _ _ _ _ rfl (by omega) hl hb hc

/-- Six cells that stay. -/
theorem keepSix {w w1 w2 : World} {p1 p2 p3 p4 p5 p6 : Addr} {u1 u2 u3 u4 u5 u6 : Value} (h : w1.cell? p1 = some u1 ∧ w1.cell? p2 = some u2 ∧ w1.cell? p3 = some u3 ∧ w1.cell? p4 = some u4 ∧ w1.cell? p5 = some u5 ∧ w1.cell? p6 = some u6 ∧ Below w.heap.size w w1) (hb : Below w1.heap.size w1 w2) :
    w2.cell? p1 = some u1 ∧ w2.cell? p2 = some u2 ∧ w2.cell? p3 = some u3 ∧ w2.cell? p4 = some u4 ∧ w2.cell? p5 = some u5 ∧ w2.cell? p6 = some u6 ∧ Below w.heap.size w w2 :=
  ⟨keep1 h.1 hb, keep1 h.2.1 hb, keep1 h.2.2.1 hb, keep1 h.2.2.2.1 hb, keep1 h.2.2.2.2.1 hb, keep1 h.2.2.2.2.2.1 hb, thenBelow h.2.2.2.2.2.2 hb⟩
theorem heldSix {a b c d e f g : Prop} (h : a ∧ b ∧ c ∧ d ∧ e ∧ f ∧ g) : g := h.2.2.2.2.2.2

theorem sameRow_refl {lo lo' : Nat} {w : World} {v v' : Value} {xs : List Int} (c : Int) (h : IsInts lo w v xs) (h' : IsInts lo' w v' xs) :
    Calls Tryd.prog 16 #[.agg #[v, .int .i64 c], .agg #[v', .int .i64 c]] w fun e w' => e = .returned (.bool true) ∧ Below w.heap.size w w' := by
  have := SameRow_any c c h h'
  rwa [show sameR (xs, c) (xs, c) = true by simp [sameR]] at this

set_option maxHeartbeats 1600000 in
theorem SameSystem_full (vars : Int) (b off n cap b' off' cap' : Nat) (w : World) (rs : List Rw) (hx : rs.length = n) (hn : n ≤ 9223372036854775807) (_hb : b < w.heap.size) (_hb' : b' < w.heap.size)
    (hc : ∀ i (hi : i < n), ∃ sv, w.cell? ⟨b, off + i * 2, none⟩ = some sv ∧ w.cell? ⟨b, off + i * 2 + 1, none⟩ = some (.int .i64 (rs[i]'(by omega)).2) ∧ IsInts 0 w sv (rs[i]'(by omega)).1)
    (hc' : ∀ i (hi : i < n), ∃ sv, w.cell? ⟨b', off' + i * 2, none⟩ = some sv ∧ w.cell? ⟨b', off' + i * 2 + 1, none⟩ = some (.int .i64 (rs[i]'(by omega)).2) ∧ IsInts 0 w sv (rs[i]'(by omega)).1) :
    Calls Tryd.prog 29 #[.agg #[.int .i64 vars, .slice (some ⟨b, off, none⟩) n cap], .agg #[.int .i64 vars, .slice (some ⟨b', off', none⟩) n cap']] w fun e w' => e = .returned (.bool true) ∧ Below w.heap.size w w' := by
  have HC := hid0 hc
  have HC' := hid0 hc'
  clear hc hc'
  go_enter Tryd.func29, Tryd.ntmps29
  go_wp2_with fail
  obtain ⟨W, hW⟩ : ∃ W : World, W = (w.alloc (.cells #[.int .i64 vars, .slice (some ⟨b, off, none⟩) n cap] 36)).alloc (.cells #[.int .i64 vars, .slice (some ⟨b', off', none⟩) n cap'] 36) := ⟨_, rfl⟩
  rw [← hW]
  have HB : Hid (Below w.heap.size w W) := by rw [hW]; show Below _ _ _; go_grown
  have n2 : w.heap.size + 1 = (w.alloc (.cells #[.int .i64 vars, .slice (some ⟨b, off, none⟩) n cap] 36)).heap.size := by simp
  have x0 : W.cell? ⟨w.heap.size, 1, none⟩ = some (.slice (some ⟨b, off, none⟩) n cap) := by rw [hW]; exact keep1 (new_cell w _ _ 1 rfl) (allocBelow _ _)
  have x1 : W.cell? ⟨w.heap.size + 1, 1, none⟩ = some (.slice (some ⟨b', off', none⟩) n cap') := by rw [hW]; exact new_cell _ _ _ 1 n2
  clear hW n2
  go_loopw [5] (fun v wr => ∃ k : Nat, k ≤ n ∧ v = .int .i64 k ∧ Below W.heap.size W wr) (fun v _ => n - (intOf v).toNat)
  case atStart => exact ⟨0, Nat.zero_le _, rfl, Below.refl _ _⟩
  case round =>
    obtain ⟨k, hk, rfl, hB0⟩ := hrel
    have HBW := hid0 hB0
    have HB0 := hid0 (thenBelow HB.out hB0)
    have y0 := keep1 x0 hB0
    have y1 := keep1 x1 hB0
    by_cases h1 : k < n
    · obtain ⟨sv, q1, q2, q3⟩ := HC.out k h1
      obtain ⟨sv', q1', q2', q3'⟩ := HC'.out k h1
      obtain ⟨a1, c1, rfl⟩ := q3.shape
      obtain ⟨a2, c2, rfl⟩ := q3'.shape
      have hS := hid0 (show wr.cell? ⟨w.heap.size, 1, none⟩ = some (.slice (some ⟨b, off, none⟩) n cap) ∧ wr.cell? ⟨w.heap.size + 1, 1, none⟩ = some (.slice (some ⟨b', off', none⟩) n cap') ∧ wr.cell? ⟨b, off + k * 2, none⟩ = some (.slice a1 (rs[k]'(by omega)).1.length c1) ∧ wr.cell? ⟨b, off + k * 2 + 1, none⟩ = some (.int .i64 (rs[k]'(by omega)).2) ∧ wr.cell? ⟨b', off' + k * 2, none⟩ = some (.slice a2 (rs[k]'(by omega)).1.length c2) ∧ wr.cell? ⟨b', off' + k * 2 + 1, none⟩ = some (.int .i64 (rs[k]'(by omega)).2) ∧ Below wr.heap.size wr wr from ⟨y0, y1, keep1 q1 HB0.out, keep1 q2 HB0.out, keep1 q1' HB0.out, keep1 q2' HB0.out, Below.refl _ _⟩)
      have Q3 := hid0 (q3.below HB0.out)
      have Q3' := hid0 (q3'.below HB0.out)
      clear hB0 q1 q2 q3 q1' q2' q3' x0 x1
      go_wp2_with fail
      go_region_held3 (fun w' => w'.cell? ⟨w.heap.size, 1, none⟩ = some (.slice (some ⟨b, off, none⟩) n cap) ∧ w'.cell? ⟨w.heap.size + 1, 1, none⟩ = some (.slice (some ⟨b', off', none⟩) n cap') ∧ w'.cell? ⟨b, off + k * 2, none⟩ = some (.slice a1 (rs[k]'(by omega)).1.length c1) ∧ w'.cell? ⟨b, off + k * 2 + 1, none⟩ = some (.int .i64 (rs[k]'(by omega)).2) ∧ w'.cell? ⟨b', off' + k * 2, none⟩ = some (.slice a2 (rs[k]'(by omega)).1.length c2) ∧ w'.cell? ⟨b', off' + k * 2 + 1, none⟩ = some (.int .i64 (rs[k]'(by omega)).2) ∧ Below wr.heap.size wr w') (first | exact hS.out | exact keepSix hS.out (drewBelow _) | exact keepSix (by assumption) (by assumption)) (first | (go_at_call 16; refine (sameRow_refl _ (Q3.out.below (heldSix (by assumption))) (Q3'.out.below (heldSix (by assumption)))).mono ?_; rintro e w2 ⟨rfl, hb2⟩))
      have hE := heldSix (by assumption : _ ∧ _ ∧ _ ∧ _ ∧ _ ∧ _ ∧ Below wr.heap.size wr _)
      go_wp2_with fail
      go_roundw
      case rel => exact ⟨k + 1, by omega, by go_num, thenBelow HBW.out hE⟩
      case measure => simp [intOf]; omega
    · clear hB0 x0 x1
      go_wp2_with fail
      go_ret
      exact ⟨rfl, HB0.out⟩

set_option maxHeartbeats 800000 in
theorem SameSystem_empty (vars : Int) (a a' : Option Addr) (cap cap' : Nat) (w : World) :
    Calls Tryd.prog 29 #[.agg #[.int .i64 vars, .slice a 0 cap], .agg #[.int .i64 vars, .slice a' 0 cap']] w fun e w' => e = .returned (.bool true) ∧ Below w.heap.size w w' := by
  go_enter Tryd.func29, Tryd.ntmps29
  go_wp2_with fail
  refine wp_loop_rounds 1 ?_
  rw [rounds_succ]
  go_wp2_with fail
  go_ret
  exact ⟨rfl, by go_grown⟩

theorem SameSystem_refl {lo lo' : Nat} {w : World} {v v' : Value} {rs : List Rw} (vars : Int) (h : IsRows lo w v rs) (h' : IsRows lo' w v' rs) :
    Calls Tryd.prog 29 #[.agg #[.int .i64 vars, v], .agg #[.int .i64 vars, v']] w fun e w' => e = .returned (.bool true) ∧ Below w.heap.size w w' := by
  obtain ⟨a, cap, rfl, hl, hm, hc⟩ := h.mono (Nat.zero_le lo)
  obtain ⟨a', cap', rfl, hl', _, hc'⟩ := h'.mono (Nat.zero_le lo')
  unfold maxLen at hm
  rcases hc with rfl | ⟨b, off, rfl, _, hb, hc⟩
  · exact SameSystem_empty _ _ _ _ _ _
  · rcases hc' with rfl | ⟨b', off', rfl, _, hb', hc'⟩
    · exact SameSystem_empty _ _ _ _ _ _
    · exact SameSystem_full _ _ _ _ _ _ _ _ _ _ rfl (by omega) hb hb' (fun i hi => by obtain ⟨sv, h1, h2, h3, h4⟩ := hc i hi; exact ⟨sv, h1, h2, h3⟩) (fun i hi => by obtain ⟨sv, h1, h2, h3, h4⟩ := hc' i hi; exact ⟨sv, h1, h2, h3⟩)
end Go.Proofs.YtbppooajhoejcaaDoor
