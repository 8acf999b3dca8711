import Derived.Lib.Hide
import Derived.Test.YtmpbfdfjcfanoaaDoorProg
import Derived.Laws.StructEq
import Derived.Laws.Tables
import Derived.Test.YtmpbfdfjcfanoaaDoorRows
import Derived.Lib.LaidTab
import Derived.LaidSub
import Derived.Test.YtmpbfdfjcfanoaaDoorGrppalbkohp
import Derived.Test.YtmpbfdfjcfanoaaDoorGrpmacobaen
import Derived.Test.YtmpbfdfjcfanoaaDoorGrplhmnfklc
import Derived.Test.YtmpbfdfjcfanoaaDoorGrpifhckiho
set_option linter.all false
/-
  THE VALUE OF AN EXPRESSION AT A SIZE: valueAt and Evaluate of the program, value and Evaluate of the reference: the same sums.
-/
namespace Go.Proofs.YtmpbfdfjcfanoaaDoor
open Go.RowKit Go.Deep

/-- C + N*n + T*t + F*f as Go sums it. -/
def linV (c n t f a b d : Int) : Int := wrap64 (wrap64 (wrap64 (c + wrap64 (n * a)) + wrap64 (t * b)) + wrap64 (f * d))
def LV (c n t f : Int) : Value := .agg #[.int .i64 c, .int .i64 n, .int .i64 t, .int .i64 f]
def SV (a b d : Int) : Value := .agg #[.int .i64 a, .int .i64 b, .int .i64 d]
/-- The error and the value. -/
def evE (c n t f a b d : Int) : Int := if smL c n t f = false then 4 else if (paB a && paB b && paB d) = false then 8 else 0
def evN (c n t f a b d : Int) : Int := if evE c n t f a b d = 0 then linV c n t f a b d else 0

theorem valueAt_any (c n t f a b d : Int) (w : World) :
    Calls Tryd.prog 105 #[.agg #[.int .i64 c, .int .i64 n, .int .i64 t, .int .i64 f], .agg #[.int .i64 a, .int .i64 b, .int .i64 d]] w fun e w' => e = .returned (.int .i64 (linV c n t f a b d)) ∧ Below w.heap.size w w' := by
  have E := Lib.hid (show linV c n t f a b d = wrap64 (wrap64 (wrap64 (c + wrap64 (n * a)) + wrap64 (t * b)) + wrap64 (f * d)) from rfl)
  go_enter Tryd.func105, Tryd.ntmps105
  go_wp2_with fail
  go_ret
  exact ⟨ret_int (by rw [E.out]), (allocBelow _ _).trans ((allocBelow _ _).mono (by simp))⟩

theorem ret_two {a b c d : Int} (h : a = c) (k : b = d) : Ending.returned (.tuple #[.int .i64 a, .int .i64 b]) = .returned (.tuple #[.int .i64 c, .int .i64 d]) := by rw [h, k]
theorem rvalueAt_any (c n t f a b d : Int) (w : World) :
    Calls Tryd.prog 106 #[.agg #[.int .i64 c, .int .i64 n, .int .i64 t, .int .i64 f], .agg #[.int .i64 a, .int .i64 b, .int .i64 d]] w fun e w' => e = .returned (.int .i64 (linV c n t f a b d)) ∧ Below w.heap.size w w' := by
  have E := Lib.hid (show linV c n t f a b d = wrap64 (wrap64 (wrap64 (c + wrap64 (n * a)) + wrap64 (t * b)) + wrap64 (f * d)) from rfl)
  go_enter Tryd.func106, Tryd.ntmps106
  go_wp2_with fail
  go_ret
  exact ⟨ret_int (by rw [E.out]), (allocBelow _ _).trans ((allocBelow _ _).mono (by simp))⟩

theorem ret_twor {a b c d : Int} (h : a = c) (k : b = d) : Ending.returned (.tuple #[.int .i64 a, .int .i64 b]) = .returned (.tuple #[.int .i64 c, .int .i64 d]) := by rw [h, k]
end Go.Proofs.YtmpbfdfjcfanoaaDoor

/-
  admits AND Admissible OF THE PROGRAM.
-/
namespace Go.Proofs.YtmpbfdfjcfanoaaDoor
open Go.RowKit Go.Deep
def resvB (q : Fm) (n t f : Int) : Bool := q.res.all fun l => decide (0 ≤ linV l.c l.n l.t l.f n t f)
def admB (q : Fm) (n t f : Int) : Bool :=
  inB 1 1048576 n && inB 0 n t && inB 0 n f && !(decide (q.fault = 0) && !(decide (t = 0) && decide (f = 0))) && !(decide (q.top = 4) && decide (n.tmod 2 = 0)) && resvB q n t f
theorem between_is {n lo hi : Int} {b : Bool} (h : inB lo hi n = b) (w : World) : Calls Tryd.prog 44 #[.int .i64 n, .int .i64 lo, .int .i64 hi] w fun e w' => e = .returned (.bool b) ∧ w = w' := by
  rw [← h]; exact between_any _ _ _ _
theorem all_succ {α : Type} {p : α → Bool} {xs : List α} {k : Nat} (h : k < xs.length) (hk : (xs.take k).all p = true) (e : p xs[k] = true) : (xs.take (k + 1)).all p = true := by
  rw [List.take_succ_eq_append_getElem h, List.all_append, hk]; simpa using e
theorem all_no {α : Type} {p : α → Bool} {xs : List α} {k : Nat} (h : k < xs.length) (e : p xs[k] = false) : xs.all p = false := by
  rw [List.all_eq_false]; exact ⟨xs[k], List.getElem_mem h, by simpa using e⟩
def lnC (l : Ln) : List Value := [.int .i64 l.c, .int .i64 l.n, .int .i64 l.t, .int .i64 l.f]
theorem info_lnA : (Tryd.prog.info? 53).map (·.size) = some 4 := by kernel_rfl
set_option maxHeartbeats 6400000 in
theorem admits_any {lo : Nat} {w : World} {v : Value} {q : Fm} (n t f : Int) (hq : IsFam lo w v q) :
    Calls Tryd.prog 69 #[v, .agg #[.int .i64 n, .int .i64 t, .int .i64 f]] w fun e w' => e = .returned (.bool (admB q n t f)) ∧ Below w.heap.size w w' := by
  obtain ⟨v2, v3, v4, v6, v7, v8, v9, rfl, hnm, _, h2, h3, h4, _, h6, h7, h8, h9⟩ := hq
  obtain ⟨a2, c2, rfl⟩ := h2.shape
  obtain ⟨a3, c3, rfl⟩ := h3.shape
  obtain ⟨a4, c4, rfl⟩ := h4.shape
  obtain ⟨a6, c6, rfl⟩ := h6.shape
  obtain ⟨a7, c7, rfl⟩ := h7.shape
  obtain ⟨a8, c8, rfl⟩ := h8.shape
  obtain ⟨a9, c9, rfl⟩ := h9.shape
  have H6 := Lib.hid h6
  have hb6 := h6.bound
  have E : Hid (admB q n t f = (inB 1 1048576 n && inB 0 n t && inB 0 n f && !(decide (q.fault = 0) && !(decide (t = 0) && decide (f = 0))) && !(decide (q.top = 4) && decide (n.tmod 2 = 0)) && resvB q n t f)) := (rfl : admB q n t f = _)
  clear hnm h2 h3 h4 h6 h7 h8 h9
  go_enter Tryd.func69, Tryd.ntmps69
  go_upto_region 1 with (fail)
  obtain ⟨W, hW⟩ : ∃ W : World, W = (w.alloc (.cells #[.string q.nm, .int .i64 q.top, .slice a2 q.states.length c2, .slice a3 q.msgs.length c3, .slice a4 q.vals.length c4, .int .i64 q.fault, .slice a6 q.res.length c6, .slice a7 q.init.length c7, .slice a8 q.leader.length c8, .slice a9 q.rules.length c9] 27)).alloc (.cells #[.int .i64 n, .int .i64 t, .int .i64 f] 44) := ⟨_, rfl⟩
  rw [← hW]
  have WB := Lib.hid (show Below w.heap.size w W by rw [hW]; go_grown)
  have WP := Lib.hid (show W.heap[w.heap.size]? = some (.cells #[.string q.nm, .int .i64 q.top, .slice a2 q.states.length c2, .slice a3 q.msgs.length c3, .slice a4 q.vals.length c4, .int .i64 q.fault, .slice a6 q.res.length c6, .slice a7 q.init.length c7, .slice a8 q.leader.length c8, .slice a9 q.rules.length c9] 27 (0, 0)) by rw [hW]; exact (heap_old _ _ (by simp)).trans (heap_new _ _ rfl))
  have WS := Lib.hid (show W.heap[w.heap.size + 1]? = some (.cells #[.int .i64 n, .int .i64 t, .int .i64 f] 44 (0, 0)) by rw [hW]; exact heap_new _ _ (by simp))
  clear hW
  have x1 : W.cell? ⟨w.heap.size, 1, none⟩ = some (.int .i64 q.top) := cellB WP.out 1 rfl
  have x5 : W.cell? ⟨w.heap.size, 5, none⟩ = some (.int .i64 q.fault) := cellB WP.out 5 rfl
  have x6 : W.cell? ⟨w.heap.size, 6, none⟩ = some (.slice a6 q.res.length c6) := cellB WP.out 6 rfl
  have s0 : W.cell? ⟨w.heap.size + 1, 0, none⟩ = some (.int .i64 n) := cellB WS.out 0 rfl
  have s1 : W.cell? ⟨w.heap.size + 1, 1, none⟩ = some (.int .i64 t) := cellB WS.out 1 rfl
  have s2 : W.cell? ⟨w.heap.size + 1, 2, none⟩ = some (.int .i64 f) := cellB WS.out 2 rfl
  cases b1 : inB 1 1048576 n with
  | false =>
    have B1 := Lib.hid b1
    clear b1
    go_wp2_with (go_at_call 44; (first | (with_reducible refine (between_is B1.out _).mono ?_)); rintro e w1 ⟨rfl, rfl⟩)
    go_ret
    exact ⟨ret_bool (by rw [E.out]; simp [B1.out]), WB.out⟩
  | true =>
    have B1 := Lib.hid b1
    clear b1
    cases b2 : inB 0 n t with
    | false =>
      have B2 := Lib.hid b2
      clear b2
      go_wp2_with (go_at_call 44; (first | (with_reducible refine (between_is B1.out _).mono ?_) | (with_reducible refine (between_is B2.out _).mono ?_)); rintro e w1 ⟨rfl, rfl⟩)
      go_ret
      exact ⟨ret_bool (by rw [E.out]; simp [B2.out]), WB.out⟩
    | true =>
      have B2 := Lib.hid b2
      clear b2
      cases b3 : inB 0 n f with
      | false =>
        have B3 := Lib.hid b3
        clear b3
        go_wp2_with (go_at_call 44; (first | (with_reducible refine (between_is B1.out _).mono ?_) | (with_reducible refine (between_is B2.out _).mono ?_) | (with_reducible refine (between_is B3.out _).mono ?_)); rintro e w1 ⟨rfl, rfl⟩)
        go_ret
        exact ⟨ret_bool (by rw [E.out]; simp [B3.out]), WB.out⟩
      | true =>
        have B3 := Lib.hid b3
        clear b3
        by_cases f0 : q.fault = 0
        · have i0 : (q.fault == 0) = true := by rw [f0]; rfl
          by_cases e1 : t = 0
          · have i1 : (t != 0) = false := by simpa using e1
            by_cases e2 : f = 0
            · have i2 : (f != 0) = false := by simpa using e2
              have F0 := Lib.hid (show (decide (q.fault = 0) && !(decide (t = 0) && decide (f = 0))) = false by simp [e1, e2])
              clear f0 e1 e2
              by_cases t0 : q.top = 4
              · have j0 : (q.top == 4) = true := by rw [t0]; rfl
                by_cases r0 : n.tmod 2 = 0
                · have r1 : (n.tmod 2 == 0) = true := by rw [r0]; rfl
                  have T0 := Lib.hid (show (decide (q.top = 4) && decide (n.tmod 2 = 0)) = true by rw [t0, r0]; rfl)
                  clear t0 r0
                  go_wp2_with (go_at_call 44; (first | (with_reducible refine (between_is B1.out _).mono ?_) | (with_reducible refine (between_is B2.out _).mono ?_) | (with_reducible refine (between_is B3.out _).mono ?_)); rintro e w1 ⟨rfl, rfl⟩)
                  go_ret
                  exact ⟨ret_bool (by rw [E.out]; rw [T0.out]; simp), WB.out⟩
                · have r1 : (n.tmod 2 == 0) = false := by simpa using r0
                  have T0 := Lib.hid (show (decide (q.top = 4) && decide (n.tmod 2 = 0)) = false by simp [r0])
                  clear t0 r0
                  go_wp2_with (go_at_call 44; (first | (with_reducible refine (between_is B1.out _).mono ?_) | (with_reducible refine (between_is B2.out _).mono ?_) | (with_reducible refine (between_is B3.out _).mono ?_)); rintro e w1 ⟨rfl, rfl⟩)
                  go_loopw [55] (fun u wr => ∃ k : Nat, k ≤ q.res.length ∧ u = .int .i64 k ∧ (q.res.take k).all (fun l => decide (0 ≤ linV l.c l.n l.t l.f n t f)) = true ∧ Below W.heap.size W wr) (fun u _ => q.res.length - (intOf u).toNat)
                  case atStart => exact ⟨0, Nat.zero_le _, rfl, rfl, Below.refl _ _⟩
                  case round =>
                    obtain ⟨k, hk, rfl, hs, hB⟩ := hrel
                    have HS := Lib.hid hs
                    have HB := Lib.hid hB
                    clear hs hB
                    by_cases h1 : k < q.res.length
                    · obtain ⟨b', off', cs, hab, hbw, _, hcl, hcc, hel⟩ := H6.out.at k h1
                      obtain rfl := hab
                      have VB := Lib.hid (thenBelow WB.out HB.out)
                      have RG := Lib.hid (rangeBelow (rangeOf hcl hcc) VB.out)
                      rw [show cs = lnC q.res[k] from hel.1] at RG
                      have HNO := Lib.hid (fun h => all_no (p := fun l : Ln => decide (0 ≤ linV l.c l.n l.t l.f n t f)) h1 h)
                      have HYES := Lib.hid (fun h => all_succ (p := fun l : Ln => decide (0 ≤ linV l.c l.n l.t l.f n t f)) h1 HS.out h)
                      clear hcl hcc hel
                      generalize q.res[k] = l at RG HNO HYES
                      have t0 := keep1 s0 HB.out
                      have t1 := keep1 s1 HB.out
                      have t2 := keep1 s2 HB.out
                      go_upto_region 9 with (fail)
                      refine wp_region_lit ?_
                      refine wpList_step fun K hK => ?_
                      go_simp
                      refine hK _ _ ?_
                      clear hK K
                      refine ld_mid Tryd.underlying53 info_lnA (by rfl) (.tmp 57) (by rfl) b' (off' + k * 4) (lnC l) (by rfl) (by rfl) RG.out ?_
                      refine wpList_step fun K hK => ?_
                      go_simp
                      refine hK _ _ ?_
                      clear hK K
                      refine st_whole (T := 53) info_lnA (by rfl) (.tmp 6) (.tmp 58) (by rfl) wr.heap.size (lnC l) (by rfl) (by rfl) (by rfl) (heap_new _ _ rfl) (by rfl) (by intro v hv; simp [lnC] at hv; rcases hv with rfl | rfl | rfl | rfl <;> rfl) (fun Y hY hbl hsz _ => ?_)
                      have YB := Lib.hid (show Below W.heap.size W Y from hbl _ _ HB.out.size (HB.out.trans ((allocBelow wr _).mono HB.out.size)))
                      have YR := Lib.hid (show Below wr.heap.size wr Y from hbl _ _ (Nat.le_refl _) (allocBelow wr _))
                      have y0 : Y.cell? ⟨wr.heap.size, 0, none⟩ = some (.int .i64 l.c) := cellB hY 0 (by rfl)
                      have y1 : Y.cell? ⟨wr.heap.size, 1, none⟩ = some (.int .i64 l.n) := cellB hY 1 (by rfl)
                      have y2 : Y.cell? ⟨wr.heap.size, 2, none⟩ = some (.int .i64 l.t) := cellB hY 2 (by rfl)
                      have y3 : Y.cell? ⟨wr.heap.size, 3, none⟩ = some (.int .i64 l.f) := cellB hY 3 (by rfl)
                      have u0 := keep1 t0 YR.out
                      have u1 := keep1 t1 YR.out
                      have u2 := keep1 t2 YR.out
                      clear hY hbl hsz YR RG t0 t1 t2 x1 x5 x6 s0 s1 s2
                      refine wpList_nil ?_
                      simp only [Act.put]
                      by_cases hv : linV l.c l.n l.t l.f n t f < 0
                      · have HV := Lib.hid hv
                        go_wp2_with (go_at_call 105; (with_reducible refine (valueAt_any _ _ _ _ _ _ _ _).mono ?_); rintro e w1 ⟨rfl, hb1⟩)
                        go_ret
                        have HA := Lib.hid (show resvB q n t f = false from HNO.out (decide_eq_false (by have := HV.out; omega)))
                        exact ⟨ret_bool (by rw [E.out, HA.out]; simp), thenBelow WB.out (thenBelow YB.out hb1)⟩
                      · have HV := Lib.hid (show 0 ≤ linV l.c l.n l.t l.f n t f by omega)
                        go_wp2_with (go_at_call 105; (with_reducible refine (valueAt_any _ _ _ _ _ _ _ _).mono ?_); rintro e w1 ⟨rfl, hb1⟩)
                        go_roundw
                        case rel => exact ⟨k + 1, by omega, by go_num, HYES.out (decide_eq_true HV.out), thenBelow YB.out hb1⟩
                        case measure => simp [intOf]; omega
                    · have HA := Lib.hid (show resvB q n t f = true by have := HS.out; rw [show k = q.res.length by omega, List.take_length] at this; exact this)
                      go_wp2_with fail
                      go_ret
                      exact ⟨ret_bool (by rw [E.out, B1.out, B2.out, B3.out, F0.out, T0.out, HA.out]; rfl), thenBelow WB.out HB.out⟩
              · have j0 : (q.top == 4) = false := by simpa using t0
                have T0 := Lib.hid (show (decide (q.top = 4) && decide (n.tmod 2 = 0)) = false by simp [t0])
                clear t0
                go_wp2_with (go_at_call 44; (first | (with_reducible refine (between_is B1.out _).mono ?_) | (with_reducible refine (between_is B2.out _).mono ?_) | (with_reducible refine (between_is B3.out _).mono ?_)); rintro e w1 ⟨rfl, rfl⟩)
                go_loopw [55] (fun u wr => ∃ k : Nat, k ≤ q.res.length ∧ u = .int .i64 k ∧ (q.res.take k).all (fun l => decide (0 ≤ linV l.c l.n l.t l.f n t f)) = true ∧ Below W.heap.size W wr) (fun u _ => q.res.length - (intOf u).toNat)
                case atStart => exact ⟨0, Nat.zero_le _, rfl, rfl, Below.refl _ _⟩
                case round =>
                  obtain ⟨k, hk, rfl, hs, hB⟩ := hrel
                  have HS := Lib.hid hs
                  have HB := Lib.hid hB
                  clear hs hB
                  by_cases h1 : k < q.res.length
                  · obtain ⟨b', off', cs, hab, hbw, _, hcl, hcc, hel⟩ := H6.out.at k h1
                    obtain rfl := hab
                    have VB := Lib.hid (thenBelow WB.out HB.out)
                    have RG := Lib.hid (rangeBelow (rangeOf hcl hcc) VB.out)
                    rw [show cs = lnC q.res[k] from hel.1] at RG
                    have HNO := Lib.hid (fun h => all_no (p := fun l : Ln => decide (0 ≤ linV l.c l.n l.t l.f n t f)) h1 h)
                    have HYES := Lib.hid (fun h => all_succ (p := fun l : Ln => decide (0 ≤ linV l.c l.n l.t l.f n t f)) h1 HS.out h)
                    clear hcl hcc hel
                    generalize q.res[k] = l at RG HNO HYES
                    have t0 := keep1 s0 HB.out
                    have t1 := keep1 s1 HB.out
                    have t2 := keep1 s2 HB.out
                    go_upto_region 9 with (fail)
                    refine wp_region_lit ?_
                    refine wpList_step fun K hK => ?_
                    go_simp
                    refine hK _ _ ?_
                    clear hK K
                    refine ld_mid Tryd.underlying53 info_lnA (by rfl) (.tmp 57) (by rfl) b' (off' + k * 4) (lnC l) (by rfl) (by rfl) RG.out ?_
                    refine wpList_step fun K hK => ?_
                    go_simp
                    refine hK _ _ ?_
                    clear hK K
                    refine st_whole (T := 53) info_lnA (by rfl) (.tmp 6) (.tmp 58) (by rfl) wr.heap.size (lnC l) (by rfl) (by rfl) (by rfl) (heap_new _ _ rfl) (by rfl) (by intro v hv; simp [lnC] at hv; rcases hv with rfl | rfl | rfl | rfl <;> rfl) (fun Y hY hbl hsz _ => ?_)
                    have YB := Lib.hid (show Below W.heap.size W Y from hbl _ _ HB.out.size (HB.out.trans ((allocBelow wr _).mono HB.out.size)))
                    have YR := Lib.hid (show Below wr.heap.size wr Y from hbl _ _ (Nat.le_refl _) (allocBelow wr _))
                    have y0 : Y.cell? ⟨wr.heap.size, 0, none⟩ = some (.int .i64 l.c) := cellB hY 0 (by rfl)
                    have y1 : Y.cell? ⟨wr.heap.size, 1, none⟩ = some (.int .i64 l.n) := cellB hY 1 (by rfl)
                    have y2 : Y.cell? ⟨wr.heap.size, 2, none⟩ = some (.int .i64 l.t) := cellB hY 2 (by rfl)
                    have y3 : Y.cell? ⟨wr.heap.size, 3, none⟩ = some (.int .i64 l.f) := cellB hY 3 (by rfl)
                    have u0 := keep1 t0 YR.out
                    have u1 := keep1 t1 YR.out
                    have u2 := keep1 t2 YR.out
                    clear hY hbl hsz YR RG t0 t1 t2 x1 x5 x6 s0 s1 s2
                    refine wpList_nil ?_
                    simp only [Act.put]
                    by_cases hv : linV l.c l.n l.t l.f n t f < 0
                    · have HV := Lib.hid hv
                      go_wp2_with (go_at_call 105; (with_reducible refine (valueAt_any _ _ _ _ _ _ _ _).mono ?_); rintro e w1 ⟨rfl, hb1⟩)
                      go_ret
                      have HA := Lib.hid (show resvB q n t f = false from HNO.out (decide_eq_false (by have := HV.out; omega)))
                      exact ⟨ret_bool (by rw [E.out, HA.out]; simp), thenBelow WB.out (thenBelow YB.out hb1)⟩
                    · have HV := Lib.hid (show 0 ≤ linV l.c l.n l.t l.f n t f by omega)
                      go_wp2_with (go_at_call 105; (with_reducible refine (valueAt_any _ _ _ _ _ _ _ _).mono ?_); rintro e w1 ⟨rfl, hb1⟩)
                      go_roundw
                      case rel => exact ⟨k + 1, by omega, by go_num, HYES.out (decide_eq_true HV.out), thenBelow YB.out hb1⟩
                      case measure => simp [intOf]; omega
                  · have HA := Lib.hid (show resvB q n t f = true by have := HS.out; rw [show k = q.res.length by omega, List.take_length] at this; exact this)
                    go_wp2_with fail
                    go_ret
                    exact ⟨ret_bool (by rw [E.out, B1.out, B2.out, B3.out, F0.out, T0.out, HA.out]; rfl), thenBelow WB.out HB.out⟩
            · have i2 : (f != 0) = true := by simpa using e2
              have F0 := Lib.hid (show (decide (q.fault = 0) && !(decide (t = 0) && decide (f = 0))) = true by simp [f0, e2])
              clear f0 e1 e2
              go_wp2_with (go_at_call 44; (first | (with_reducible refine (between_is B1.out _).mono ?_) | (with_reducible refine (between_is B2.out _).mono ?_) | (with_reducible refine (between_is B3.out _).mono ?_)); rintro e w1 ⟨rfl, rfl⟩)
              go_ret
              exact ⟨ret_bool (by rw [E.out]; rw [F0.out]; simp), WB.out⟩
          · have i1 : (t != 0) = true := by simpa using e1
            have F0 := Lib.hid (show (decide (q.fault = 0) && !(decide (t = 0) && decide (f = 0))) = true by simp [f0, e1])
            clear f0 e1
            go_wp2_with (go_at_call 44; (first | (with_reducible refine (between_is B1.out _).mono ?_) | (with_reducible refine (between_is B2.out _).mono ?_) | (with_reducible refine (between_is B3.out _).mono ?_)); rintro e w1 ⟨rfl, rfl⟩)
            go_ret
            exact ⟨ret_bool (by rw [E.out]; rw [F0.out]; simp), WB.out⟩
        · have i0 : (q.fault == 0) = false := by simpa using f0
          have F0 := Lib.hid (show (decide (q.fault = 0) && !(decide (t = 0) && decide (f = 0))) = false by simp [f0])
          clear f0
          by_cases t0 : q.top = 4
          · have j0 : (q.top == 4) = true := by rw [t0]; rfl
            by_cases r0 : n.tmod 2 = 0
            · have r1 : (n.tmod 2 == 0) = true := by rw [r0]; rfl
              have T0 := Lib.hid (show (decide (q.top = 4) && decide (n.tmod 2 = 0)) = true by rw [t0, r0]; rfl)
              clear t0 r0
              go_wp2_with (go_at_call 44; (first | (with_reducible refine (between_is B1.out _).mono ?_) | (with_reducible refine (between_is B2.out _).mono ?_) | (with_reducible refine (between_is B3.out _).mono ?_)); rintro e w1 ⟨rfl, rfl⟩)
              go_ret
              exact ⟨ret_bool (by rw [E.out]; rw [T0.out]; simp), WB.out⟩
            · have r1 : (n.tmod 2 == 0) = false := by simpa using r0
              have T0 := Lib.hid (show (decide (q.top = 4) && decide (n.tmod 2 = 0)) = false by simp [r0])
              clear t0 r0
              go_wp2_with (go_at_call 44; (first | (with_reducible refine (between_is B1.out _).mono ?_) | (with_reducible refine (between_is B2.out _).mono ?_) | (with_reducible refine (between_is B3.out _).mono ?_)); rintro e w1 ⟨rfl, rfl⟩)
              go_loopw [55] (fun u wr => ∃ k : Nat, k ≤ q.res.length ∧ u = .int .i64 k ∧ (q.res.take k).all (fun l => decide (0 ≤ linV l.c l.n l.t l.f n t f)) = true ∧ Below W.heap.size W wr) (fun u _ => q.res.length - (intOf u).toNat)
              case atStart => exact ⟨0, Nat.zero_le _, rfl, rfl, Below.refl _ _⟩
              case round =>
                obtain ⟨k, hk, rfl, hs, hB⟩ := hrel
                have HS := Lib.hid hs
                have HB := Lib.hid hB
                clear hs hB
                by_cases h1 : k < q.res.length
                · obtain ⟨b', off', cs, hab, hbw, _, hcl, hcc, hel⟩ := H6.out.at k h1
                  obtain rfl := hab
                  have VB := Lib.hid (thenBelow WB.out HB.out)
                  have RG := Lib.hid (rangeBelow (rangeOf hcl hcc) VB.out)
                  rw [show cs = lnC q.res[k] from hel.1] at RG
                  have HNO := Lib.hid (fun h => all_no (p := fun l : Ln => decide (0 ≤ linV l.c l.n l.t l.f n t f)) h1 h)
                  have HYES := Lib.hid (fun h => all_succ (p := fun l : Ln => decide (0 ≤ linV l.c l.n l.t l.f n t f)) h1 HS.out h)
                  clear hcl hcc hel
                  generalize q.res[k] = l at RG HNO HYES
                  have t0 := keep1 s0 HB.out
                  have t1 := keep1 s1 HB.out
                  have t2 := keep1 s2 HB.out
                  go_upto_region 9 with (fail)
                  refine wp_region_lit ?_
                  refine wpList_step fun K hK => ?_
                  go_simp
                  refine hK _ _ ?_
                  clear hK K
                  refine ld_mid Tryd.underlying53 info_lnA (by rfl) (.tmp 57) (by rfl) b' (off' + k * 4) (lnC l) (by rfl) (by rfl) RG.out ?_
                  refine wpList_step fun K hK => ?_
                  go_simp
                  refine hK _ _ ?_
                  clear hK K
                  refine st_whole (T := 53) info_lnA (by rfl) (.tmp 6) (.tmp 58) (by rfl) wr.heap.size (lnC l) (by rfl) (by rfl) (by rfl) (heap_new _ _ rfl) (by rfl) (by intro v hv; simp [lnC] at hv; rcases hv with rfl | rfl | rfl | rfl <;> rfl) (fun Y hY hbl hsz _ => ?_)
                  have YB := Lib.hid (show Below W.heap.size W Y from hbl _ _ HB.out.size (HB.out.trans ((allocBelow wr _).mono HB.out.size)))
                  have YR := Lib.hid (show Below wr.heap.size wr Y from hbl _ _ (Nat.le_refl _) (allocBelow wr _))
                  have y0 : Y.cell? ⟨wr.heap.size, 0, none⟩ = some (.int .i64 l.c) := cellB hY 0 (by rfl)
                  have y1 : Y.cell? ⟨wr.heap.size, 1, none⟩ = some (.int .i64 l.n) := cellB hY 1 (by rfl)
                  have y2 : Y.cell? ⟨wr.heap.size, 2, none⟩ = some (.int .i64 l.t) := cellB hY 2 (by rfl)
                  have y3 : Y.cell? ⟨wr.heap.size, 3, none⟩ = some (.int .i64 l.f) := cellB hY 3 (by rfl)
                  have u0 := keep1 t0 YR.out
                  have u1 := keep1 t1 YR.out
                  have u2 := keep1 t2 YR.out
                  clear hY hbl hsz YR RG t0 t1 t2 x1 x5 x6 s0 s1 s2
                  refine wpList_nil ?_
                  simp only [Act.put]
                  by_cases hv : linV l.c l.n l.t l.f n t f < 0
                  · have HV := Lib.hid hv
                    go_wp2_with (go_at_call 105; (with_reducible refine (valueAt_any _ _ _ _ _ _ _ _).mono ?_); rintro e w1 ⟨rfl, hb1⟩)
                    go_ret
                    have HA := Lib.hid (show resvB q n t f = false from HNO.out (decide_eq_false (by have := HV.out; omega)))
                    exact ⟨ret_bool (by rw [E.out, HA.out]; simp), thenBelow WB.out (thenBelow YB.out hb1)⟩
                  · have HV := Lib.hid (show 0 ≤ linV l.c l.n l.t l.f n t f by omega)
                    go_wp2_with (go_at_call 105; (with_reducible refine (valueAt_any _ _ _ _ _ _ _ _).mono ?_); rintro e w1 ⟨rfl, hb1⟩)
                    go_roundw
                    case rel => exact ⟨k + 1, by omega, by go_num, HYES.out (decide_eq_true HV.out), thenBelow YB.out hb1⟩
                    case measure => simp [intOf]; omega
                · have HA := Lib.hid (show resvB q n t f = true by have := HS.out; rw [show k = q.res.length by omega, List.take_length] at this; exact this)
                  go_wp2_with fail
                  go_ret
                  exact ⟨ret_bool (by rw [E.out, B1.out, B2.out, B3.out, F0.out, T0.out, HA.out]; rfl), thenBelow WB.out HB.out⟩
          · have j0 : (q.top == 4) = false := by simpa using t0
            have T0 := Lib.hid (show (decide (q.top = 4) && decide (n.tmod 2 = 0)) = false by simp [t0])
            clear t0
            go_wp2_with (go_at_call 44; (first | (with_reducible refine (between_is B1.out _).mono ?_) | (with_reducible refine (between_is B2.out _).mono ?_) | (with_reducible refine (between_is B3.out _).mono ?_)); rintro e w1 ⟨rfl, rfl⟩)
            go_loopw [55] (fun u wr => ∃ k : Nat, k ≤ q.res.length ∧ u = .int .i64 k ∧ (q.res.take k).all (fun l => decide (0 ≤ linV l.c l.n l.t l.f n t f)) = true ∧ Below W.heap.size W wr) (fun u _ => q.res.length - (intOf u).toNat)
            case atStart => exact ⟨0, Nat.zero_le _, rfl, rfl, Below.refl _ _⟩
            case round =>
              obtain ⟨k, hk, rfl, hs, hB⟩ := hrel
              have HS := Lib.hid hs
              have HB := Lib.hid hB
              clear hs hB
              by_cases h1 : k < q.res.length
              · obtain ⟨b', off', cs, hab, hbw, _, hcl, hcc, hel⟩ := H6.out.at k h1
                obtain rfl := hab
                have VB := Lib.hid (thenBelow WB.out HB.out)
                have RG := Lib.hid (rangeBelow (rangeOf hcl hcc) VB.out)
                rw [show cs = lnC q.res[k] from hel.1] at RG
                have HNO := Lib.hid (fun h => all_no (p := fun l : Ln => decide (0 ≤ linV l.c l.n l.t l.f n t f)) h1 h)
                have HYES := Lib.hid (fun h => all_succ (p := fun l : Ln => decide (0 ≤ linV l.c l.n l.t l.f n t f)) h1 HS.out h)
                clear hcl hcc hel
                generalize q.res[k] = l at RG HNO HYES
                have t0 := keep1 s0 HB.out
                have t1 := keep1 s1 HB.out
                have t2 := keep1 s2 HB.out
                go_upto_region 9 with (fail)
                refine wp_region_lit ?_
                refine wpList_step fun K hK => ?_
                go_simp
                refine hK _ _ ?_
                clear hK K
                refine ld_mid Tryd.underlying53 info_lnA (by rfl) (.tmp 57) (by rfl) b' (off' + k * 4) (lnC l) (by rfl) (by rfl) RG.out ?_
                refine wpList_step fun K hK => ?_
                go_simp
                refine hK _ _ ?_
                clear hK K
                refine st_whole (T := 53) info_lnA (by rfl) (.tmp 6) (.tmp 58) (by rfl) wr.heap.size (lnC l) (by rfl) (by rfl) (by rfl) (heap_new _ _ rfl) (by rfl) (by intro v hv; simp [lnC] at hv; rcases hv with rfl | rfl | rfl | rfl <;> rfl) (fun Y hY hbl hsz _ => ?_)
                have YB := Lib.hid (show Below W.heap.size W Y from hbl _ _ HB.out.size (HB.out.trans ((allocBelow wr _).mono HB.out.size)))
                have YR := Lib.hid (show Below wr.heap.size wr Y from hbl _ _ (Nat.le_refl _) (allocBelow wr _))
                have y0 : Y.cell? ⟨wr.heap.size, 0, none⟩ = some (.int .i64 l.c) := cellB hY 0 (by rfl)
                have y1 : Y.cell? ⟨wr.heap.size, 1, none⟩ = some (.int .i64 l.n) := cellB hY 1 (by rfl)
                have y2 : Y.cell? ⟨wr.heap.size, 2, none⟩ = some (.int .i64 l.t) := cellB hY 2 (by rfl)
                have y3 : Y.cell? ⟨wr.heap.size, 3, none⟩ = some (.int .i64 l.f) := cellB hY 3 (by rfl)
                have u0 := keep1 t0 YR.out
                have u1 := keep1 t1 YR.out
                have u2 := keep1 t2 YR.out
                clear hY hbl hsz YR RG t0 t1 t2 x1 x5 x6 s0 s1 s2
                refine wpList_nil ?_
                simp only [Act.put]
                by_cases hv : linV l.c l.n l.t l.f n t f < 0
                · have HV := Lib.hid hv
                  go_wp2_with (go_at_call 105; (with_reducible refine (valueAt_any _ _ _ _ _ _ _ _).mono ?_); rintro e w1 ⟨rfl, hb1⟩)
                  go_ret
                  have HA := Lib.hid (show resvB q n t f = false from HNO.out (decide_eq_false (by have := HV.out; omega)))
                  exact ⟨ret_bool (by rw [E.out, HA.out]; simp), thenBelow WB.out (thenBelow YB.out hb1)⟩
                · have HV := Lib.hid (show 0 ≤ linV l.c l.n l.t l.f n t f by omega)
                  go_wp2_with (go_at_call 105; (with_reducible refine (valueAt_any _ _ _ _ _ _ _ _).mono ?_); rintro e w1 ⟨rfl, hb1⟩)
                  go_roundw
                  case rel => exact ⟨k + 1, by omega, by go_num, HYES.out (decide_eq_true HV.out), thenBelow YB.out hb1⟩
                  case measure => simp [intOf]; omega
              · have HA := Lib.hid (show resvB q n t f = true by have := HS.out; rw [show k = q.res.length by omega, List.take_length] at this; exact this)
                go_wp2_with fail
                go_ret
                exact ⟨ret_bool (by rw [E.out, B1.out, B2.out, B3.out, F0.out, T0.out, HA.out]; rfl), thenBelow WB.out HB.out⟩
end Go.Proofs.YtmpbfdfjcfanoaaDoor

/-
  Sizes AND Admissible OF THE PROGRAM.
-/
namespace Go.Proofs.YtmpbfdfjcfanoaaDoor
open Go.RowKit Go.Deep
structure Sz where
  n : Int
  t : Int
  f : Int
  deriving DecidableEq, Inhabited
def szC (s : Sz) : List Value := [.int .i64 s.n, .int .i64 s.t, .int .i64 s.f]
def szI (s : Sz) : Prop := I64 s.n ∧ I64 s.t ∧ I64 s.f
def SzEl (_ : Nat) (_ : World) (cs : List Value) (s : Sz) : Prop := cs = szC s ∧ szI s
theorem sflat_len (l : List Sz) : (l.flatMap szC).length = l.length * 3 := by
  induction l with
  | nil => rfl
  | cons x xs ih => rw [List.flatMap_cons, List.length_append, ih, List.length_cons]; simp [szC]; omega
theorem sflat_get : ∀ (l : List Sz) (i : Nat) (hi : i < l.length) (j : Nat), j < 3 → (l.flatMap szC)[i * 3 + j]? = (szC l[i])[j]?
  | [], i, hi, _, _ => absurd hi (by simp)
  | x :: xs, 0, _, j, hj => by
    rw [List.flatMap_cons, List.getElem?_append_left (by simp [szC]; omega)]
    simp
  | x :: xs, i + 1, hi, j, hj => by
    rw [List.flatMap_cons, List.getElem?_append_right (by simp [szC]; omega), show (i + 1) * 3 + j - (szC x).length = i * 3 + j by simp [szC]; omega]
    exact sflat_get xs i (by simpa using hi) j hj
/-- A list of sizes that the call has made. -/
def OwnSz (lo : Nat) (w : World) (v : Value) (l : List Sz) : Prop := w.ownsRow lo 44 3 v l.length (l.flatMap szC) ∧ ∀ g ∈ l, szI g
theorem OwnSz.nil (lo : Nat) (w : World) : OwnSz lo w (.slice none 0 0) [] := ⟨World.ownsRow_nil _ _ _ _, by simp⟩
theorem OwnSz.still {lo : Nat} {w w' : World} {v : Value} {l : List Sz} (h : OwnSz lo w v l) (hb : Below w.heap.size w w') : OwnSz lo w' v l := ⟨row_still h.1 hb, h.2⟩
theorem OwnSz.sl {lo : Nat} {w : World} {v : Value} {l : List Sz} (h : OwnSz lo w v l) : IsSl 3 SzEl lo w v l := by
  obtain ⟨⟨hl, h2⟩, hI⟩ := h
  rcases h2 with ⟨rfl, h0⟩ | ⟨g, cap, cur, rfl, hb, hg, hn, hm, hc, ht⟩
  · exact ⟨none, 0, by rw [h0], by omega, by simp [maxLen], fun _ => rfl, .inl (List.eq_nil_of_length_eq_zero h0)⟩
  · refine ⟨_, _, rfl, hn, hm, by simp, .inr ⟨g, 0, rfl, hb, (Array.getElem?_eq_some_iff.1 hg).1, fun i hi => ⟨szC l[i], rfl, fun j hj => ?_, rfl, hI _ (List.getElem_mem hi)⟩⟩⟩
    have hcell : w.cell? ⟨g, 0 + i * 3 + j, none⟩ = cur[i * 3 + j]? := by
      simp only [World.cell?, hg]; simp
    rw [hcell, ← Array.getElem?_toList, show cur.toList[i * 3 + j]? = (cur.toList.take (l.length * 3))[i * 3 + j]? by rw [List.getElem?_take_of_lt (by omega)], ht]
    exact sflat_get l i hi j hj
theorem szrow_lower {w : World} {B B' : Nat} {e : TypeId} {size n : Nat} {v : Value} {xs : List Value} (h : w.ownsRow B e size v n xs) (hb : B' ≤ B) : w.ownsRow B' e size v n xs := by
  obtain ⟨h1, h2⟩ := h
  refine ⟨h1, ?_⟩
  rcases h2 with h2 | ⟨g, cap, cur, hv, hg, r⟩
  · exact .inl h2
  · exact .inr ⟨g, cap, cur, hv, Nat.le_trans hb hg, r⟩
theorem elSz : ElT Tryd.prog 46 44 (.agg #[.int .i64 0, .int .i64 0, .int .i64 0]) 3 24 := ⟨Tryd.underlying46, by kernel_rfl, rfl, by decide⟩
theorem info_sz : (Tryd.prog.info? 44).map (·.size) = some 3 := by kernel_rfl
/-- The admissible sizes with n processes and f, t below T. -/
def rowS (q : Fm) (n f : Int) (T : Nat) : List Sz := ((List.range T).map fun t : Nat => (⟨n, t, f⟩ : Sz)).filter fun s => admB q s.n s.t s.f
/-- All of them with f below F. -/
def allS (q : Fm) (n : Int) (m F : Nat) : List Sz := (List.range F).flatMap fun f : Nat => rowS q n f m
theorem rowS_yes {q : Fm} {n f : Int} {T : Nat} (h : admB q n T f = true) : rowS q n f (T + 1) = rowS q n f T ++ [⟨n, T, f⟩] := by
  unfold rowS; rw [List.range_succ, List.map_append, List.filter_append]; simp [h]
theorem rowS_no {q : Fm} {n f : Int} {T : Nat} (h : admB q n T f = false) : rowS q n f (T + 1) = rowS q n f T := by
  unfold rowS; rw [List.range_succ, List.map_append, List.filter_append]; simp [h]
theorem allS_succ {q : Fm} {n : Int} {m F : Nat} : allS q n m (F + 1) = allS q n m F ++ rowS q n F m := by
  unfold allS; rw [List.range_succ, List.flatMap_append]; simp
def szE (q : Fm) (n : Int) : Int := if valE q ≠ 0 then valE q else if inB 1 8 n = false then 1 else 0
def szL (q : Fm) (n : Int) : List Sz := if szE q n = 0 then allS q n (n.toNat + 1) (n.toNat + 1) else []
theorem Admissible_any_start : True := trivial
set_option maxRecDepth 100000 in
set_option maxHeartbeats 6400000 in
theorem Admissible_any {lo : Nat} {w : World} {v : Value} {q : Fm} (n t f : Int) (hq : IsFam lo w v q) :
    Calls Tryd.prog 21 #[v, .agg #[.int .i64 n, .int .i64 t, .int .i64 f]] w fun e w' => e = .returned (.bool (decide (valE q = 0) && admB q n t f)) ∧ Below w.heap.size w w' := by
  have HQ := Lib.hid hq
  obtain ⟨v2, v3, v4, v6, v7, v8, v9, rfl, hnm, _, h2, h3, h4, _, h6, h7, h8, h9⟩ := hq
  obtain ⟨a2, c2, rfl⟩ := h2.shape
  obtain ⟨a3, c3, rfl⟩ := h3.shape
  obtain ⟨a4, c4, rfl⟩ := h4.shape
  obtain ⟨a6, c6, rfl⟩ := h6.shape
  obtain ⟨a7, c7, rfl⟩ := h7.shape
  obtain ⟨a8, c8, rfl⟩ := h8.shape
  obtain ⟨a9, c9, rfl⟩ := h9.shape
  have H9 := Lib.hid h9
  clear hnm h2 h3 h4 h6 h7 h8 h9
  clear H9
  go_enter Tryd.func21, Tryd.ntmps21
  go_upto_region 1 with (fail)
  obtain ⟨W, hW⟩ : ∃ W : World, W = (w.alloc (.cells #[.string q.nm, .int .i64 q.top, .slice a2 q.states.length c2, .slice a3 q.msgs.length c3, .slice a4 q.vals.length c4, .int .i64 q.fault, .slice a6 q.res.length c6, .slice a7 q.init.length c7, .slice a8 q.leader.length c8, .slice a9 q.rules.length c9] 27)).alloc (.cells #[.int .i64 n, .int .i64 t, .int .i64 f] 44) := ⟨_, rfl⟩
  rw [← hW]
  have WB := Lib.hid (show Below w.heap.size w W by rw [hW]; go_grown)
  have WP := Lib.hid (show W.heap[w.heap.size]? = some (.cells #[.string q.nm, .int .i64 q.top, .slice a2 q.states.length c2, .slice a3 q.msgs.length c3, .slice a4 q.vals.length c4, .int .i64 q.fault, .slice a6 q.res.length c6, .slice a7 q.init.length c7, .slice a8 q.leader.length c8, .slice a9 q.rules.length c9] 27 (0, 0)) by rw [hW]; exact (heap_old _ _ (by simp)).trans (heap_new _ _ rfl))
  have WS := Lib.hid (show W.heap[w.heap.size + 1]? = some (.cells #[.int .i64 n, .int .i64 t, .int .i64 f] 44 (0, 0)) by rw [hW]; exact heap_new _ _ (by simp))
  clear hW
  have WPn := Lib.hid (show ∀ n : WIn (Below W.heap.size W), n.val.heap[w.heap.size]? = some (.cells #[.string q.nm, .int .i64 q.top, .slice a2 q.states.length c2, .slice a3 q.msgs.length c3, .slice a4 q.vals.length c4, .int .i64 q.fault, .slice a6 q.res.length c6, .slice a7 q.init.length c7, .slice a8 q.leader.length c8, .slice a9 q.rules.length c9] 27 (0, 0)) from fun n => keepB WP.out n.ok)
  have WBn := Lib.hid (show ∀ n : WIn (Below W.heap.size W), Below w.heap.size w n.val from fun n => thenBelow WB.out n.ok)
  have WSn := Lib.hid (show ∀ n' : WIn (Below W.heap.size W), n'.val.heap[w.heap.size + 1]? = some (.cells #[.int .i64 n, .int .i64 t, .int .i64 f] 44 (0, 0)) from fun n' => keepB WS.out n'.ok)
  have s0 : ∀ n' : WIn (Below W.heap.size W), n'.val.cell? ⟨w.heap.size + 1, 0, none⟩ = some (.int .i64 n) := fun n' => cellB (WSn.out n') 0 rfl
  have s1 : ∀ n' : WIn (Below W.heap.size W), n'.val.cell? ⟨w.heap.size + 1, 1, none⟩ = some (.int .i64 t) := fun n' => cellB (WSn.out n') 1 rfl
  have s2 : ∀ n' : WIn (Below W.heap.size W), n'.val.cell? ⟨w.heap.size + 1, 2, none⟩ = some (.int .i64 f) := fun n' => cellB (WSn.out n') 2 rfl
  by_cases v0 : valE q = 0
  · have V0 := Lib.hid v0
    clear v0
    refine wp_cls_seq ?_
    refine BigFrame.wpQuiet_want (by rfl) (fun K hK => ?_)
    refine quiet_ld Tryd.underlying27 info_prot (.tmp 2) (by rfl) w.heap.size 0 [.string q.nm, .int .i64 q.top, .slice a2 q.states.length c2, .slice a3 q.msgs.length c3, .slice a4 q.vals.length c4, .int .i64 q.fault, .slice a6 q.res.length c6, .slice a7 q.init.length c7, .slice a8 q.leader.length c8, .slice a9 q.rules.length c9] (by rfl) (by rfl) (by rintro _ ⟨n', rfl⟩; exact rangeBlock (WPn.out n')) (hK _ ?_)
    clear hK K
    simp only [Act.put, List.setIfInBounds_toArray, List.set_cons_succ, List.set_cons_zero]
    go_big_quiet_step (((with_reducible refine (Validate_any (HQ.out.below (WBn.out _))).mono ?_); rw [V0.out]; rintro e w1 ⟨rfl, hb⟩; exact ⟨rfl, ⟨w1, thenBelow (WIn.ok _) hb⟩, rfl⟩))
    iterate 2 go_big_quiet_step (fail)
    refine BigFrame.wpQuiet_want (by rfl) (fun K hK => ?_)
    refine quiet_ld Tryd.underlying27 info_prot (.tmp 2) (by rfl) w.heap.size 0 [.string q.nm, .int .i64 q.top, .slice a2 q.states.length c2, .slice a3 q.msgs.length c3, .slice a4 q.vals.length c4, .int .i64 q.fault, .slice a6 q.res.length c6, .slice a7 q.init.length c7, .slice a8 q.leader.length c8, .slice a9 q.rules.length c9] (by rfl) (by rfl) (by rintro _ ⟨n', rfl⟩; exact rangeBlock (WPn.out n')) (hK _ ?_)
    clear hK K
    simp only [Act.put, List.setIfInBounds_toArray, List.set_cons_succ, List.set_cons_zero]
    iterate 1 go_big_quiet_step (fail)
    go_big_quiet_step (((with_reducible refine (admits_any n t f (HQ.out.below (WBn.out _))).mono ?_); rintro e w1 ⟨rfl, hb⟩; exact ⟨rfl, ⟨w1, thenBelow (WIn.ok _) hb⟩, rfl⟩))
    repeat (go_big_quiet_step (fail))
    refine wpQuiet_nil ?_
    intro n'
    go_wp2_with fail
    go_ret
    exact ⟨ret_bool (by rw [V0.out]; simp), WBn.out n'⟩
  · have V0 := Lib.hid v0
    have i0 : (valE q == 0) = false := by simpa using v0
    clear v0
    refine wp_cls_seq ?_
    refine BigFrame.wpQuiet_want (by rfl) (fun K hK => ?_)
    refine quiet_ld Tryd.underlying27 info_prot (.tmp 2) (by rfl) w.heap.size 0 [.string q.nm, .int .i64 q.top, .slice a2 q.states.length c2, .slice a3 q.msgs.length c3, .slice a4 q.vals.length c4, .int .i64 q.fault, .slice a6 q.res.length c6, .slice a7 q.init.length c7, .slice a8 q.leader.length c8, .slice a9 q.rules.length c9] (by rfl) (by rfl) (by rintro _ ⟨n', rfl⟩; exact rangeBlock (WPn.out n')) (hK _ ?_)
    clear hK K
    simp only [Act.put, List.setIfInBounds_toArray, List.set_cons_succ, List.set_cons_zero]
    go_big_quiet_step (((with_reducible refine (Validate_any (HQ.out.below (WBn.out _))).mono ?_); rintro e w1 ⟨rfl, hb⟩; exact ⟨rfl, ⟨w1, thenBelow (WIn.ok _) hb⟩, rfl⟩))
    repeat (go_big_quiet_step (fail))
    refine wpQuiet_nil ?_
    intro n'
    go_wp2_with fail
    go_ret
    exact ⟨ret_bool (by simp [V0.out]), WBn.out n'⟩
theorem szI_mk {a b c : Nat} (ha : a ≤ 100) (hb : b ≤ 100) (hc : c ≤ 100) : szI ⟨a, b, c⟩ := by
  refine ⟨?_, ?_, ?_⟩ <;> (show I64 (_ : Int); dsimp only; constructor <;> omega)
theorem ret_tup {u : Value} {a b : Int} (h : a = b) : Ending.returned (.tuple #[u, .int .i64 a]) = .returned (.tuple #[u, .int .i64 b]) := by rw [h]
set_option maxRecDepth 100000 in
set_option maxHeartbeats 12800000 in
theorem Sizes_any {lo : Nat} {w : World} {v : Value} {q : Fm} (n : Int) (hq : IsFam lo w v q) :
    Calls Tryd.prog 23 #[v, .int .i64 n] w fun e w' => ∃ v', e = .returned (.tuple #[v', .int .i64 (szE q n)]) ∧ OwnSz w.heap.size w' v' (szL q n) ∧ Below w.heap.size w w' := by
  have HQ := Lib.hid hq
  obtain ⟨v2, v3, v4, v6, v7, v8, v9, rfl, hnm, _, h2, h3, h4, _, h6, h7, h8, h9⟩ := hq
  obtain ⟨a2, c2, rfl⟩ := h2.shape
  obtain ⟨a3, c3, rfl⟩ := h3.shape
  obtain ⟨a4, c4, rfl⟩ := h4.shape
  obtain ⟨a6, c6, rfl⟩ := h6.shape
  obtain ⟨a7, c7, rfl⟩ := h7.shape
  obtain ⟨a8, c8, rfl⟩ := h8.shape
  obtain ⟨a9, c9, rfl⟩ := h9.shape
  have H9 := Lib.hid h9
  clear hnm h2 h3 h4 h6 h7 h8 h9
  clear H9
  go_enter Tryd.func23, Tryd.ntmps23
  go_upto_region 1 with (fail)
  obtain ⟨W, hW⟩ : ∃ W : World, W = (w.alloc (.cells #[.string q.nm, .int .i64 q.top, .slice a2 q.states.length c2, .slice a3 q.msgs.length c3, .slice a4 q.vals.length c4, .int .i64 q.fault, .slice a6 q.res.length c6, .slice a7 q.init.length c7, .slice a8 q.leader.length c8, .slice a9 q.rules.length c9] 27)) := ⟨_, rfl⟩
  rw [← hW]
  have WB := Lib.hid (show Below w.heap.size w W by rw [hW]; exact allocBelow _ _)
  have WP := Lib.hid (show W.heap[w.heap.size]? = some (.cells #[.string q.nm, .int .i64 q.top, .slice a2 q.states.length c2, .slice a3 q.msgs.length c3, .slice a4 q.vals.length c4, .int .i64 q.fault, .slice a6 q.res.length c6, .slice a7 q.init.length c7, .slice a8 q.leader.length c8, .slice a9 q.rules.length c9] 27 (0, 0)) by rw [hW]; exact heap_new _ _ rfl)
  clear hW
  by_cases v0 : valE q = 0
  rotate_left
  · have V0 := Lib.hid v0
    have i0 : (valE q != 0) = true := by simpa using v0
    have E : szE q n = valE q := by unfold szE; rw [if_pos v0]
    have EL : szL q n = [] := by unfold szL; rw [if_neg (by rw [E]; exact v0)]
    have HE := Lib.hid E
    have HL := Lib.hid EL
    clear E EL v0
    refine wp_region_lit ?_
    refine ld_mid Tryd.underlying27 info_prot (by rfl) (.tmp 2) (by rfl) w.heap.size 0 [.string q.nm, .int .i64 q.top, .slice a2 q.states.length c2, .slice a3 q.msgs.length c3, .slice a4 q.vals.length c4, .int .i64 q.fault, .slice a6 q.res.length c6, .slice a7 q.init.length c7, .slice a8 q.leader.length c8, .slice a9 q.rules.length c9] (by rfl) (by rfl) (rangeBlock WP.out) ?_
    go_wp2_with (go_at_call 16; (with_reducible refine (Validate_any (HQ.out.below WB.out)).mono ?_); rintro e Y ⟨rfl, hb⟩; have YB := Lib.hid (thenBelow WB.out hb); clear hb)
    go_ret2
    exact ⟨_, ret_tup HE.out.symm, by rw [HL.out]; exact OwnSz.nil _ _, YB.out⟩
  · have V0 := Lib.hid v0
    clear v0
    refine wp_region_lit ?_
    refine ld_mid Tryd.underlying27 info_prot (by rfl) (.tmp 2) (by rfl) w.heap.size 0 [.string q.nm, .int .i64 q.top, .slice a2 q.states.length c2, .slice a3 q.msgs.length c3, .slice a4 q.vals.length c4, .int .i64 q.fault, .slice a6 q.res.length c6, .slice a7 q.init.length c7, .slice a8 q.leader.length c8, .slice a9 q.rules.length c9] (by rfl) (by rfl) (rangeBlock WP.out) ?_
    refine wpList_step fun K hK => ?_
    go_simp
    go_at_call 16
    (with_reducible refine (Validate_any (HQ.out.below WB.out)).mono ?_)
    rw [V0.out]
    rintro e Y ⟨rfl, hb⟩
    have YB := Lib.hid (thenBelow WB.out hb)
    have YP := Lib.hid (keepB WP.out hb)
    go_simp
    refine hK _ _ ?_
    clear hK K hb WB WP
    cases n0 : inB 1 8 n with
    | false =>
      have N0 := Lib.hid n0
      have E : szE q n = 1 := by unfold szE; rw [if_neg (by rw [V0.out]; simp), if_pos n0]
      have EL : szL q n = [] := by unfold szL; rw [if_neg (by rw [E]; decide)]
      have HE := Lib.hid E
      have HL := Lib.hid EL
      clear E EL n0
      go_wp2_with (go_at_call 44; (with_reducible refine (between_is N0.out _).mono ?_); rintro e w1 ⟨rfl, rfl⟩)
      go_ret2
      exact ⟨_, ret_tup HE.out.symm, by rw [HL.out]; exact OwnSz.nil _ _, YB.out⟩
    | true =>
      obtain ⟨m, rfl, hm1, hm8⟩ : ∃ m : Nat, n = m ∧ 1 ≤ m ∧ m ≤ 8 := by
        unfold inB at n0; simp only [Bool.and_eq_true, decide_eq_true_eq] at n0
        exact ⟨n.toNat, by omega, by omega, by omega⟩
      have N0 := Lib.hid n0
      have E : szE q m = 0 := by unfold szE; rw [if_neg (by rw [V0.out]; simp), if_neg (by rw [n0]; simp)]
      have EL : szL q m = allS q m (m + 1) (m + 1) := by unfold szL; rw [if_pos E]; simp
      have HE := Lib.hid E
      have HL := Lib.hid EL
      clear E EL n0
      go_wp2_with (go_at_call 44; (with_reducible refine (between_is N0.out _).mono ?_); rintro e w1 ⟨rfl, rfl⟩)
      go_loopw [7, 21] (fun v u wr => ∃ (F : Nat) (a : Option Addr) (c : Nat) (l : List Sz), F ≤ m + 1 ∧ u = .int .i64 F ∧ v = .slice a l.length c ∧ l = allS q m (m + 1) F ∧ l.length ≤ F * 9 ∧ OwnSz Y.heap.size wr (.slice a l.length c) l ∧ Below Y.heap.size Y wr) (fun _ u _ => m + 1 - (intOf u).toNat)
      case atStart => exact ⟨0, none, 0, [], by omega, rfl, rfl, rfl, by simp, OwnSz.nil _ _, Below.refl _ _⟩
      case round =>
        obtain ⟨F, a, ca, l, hF, rfl, rfl, hl, hlen, hO, hB⟩ := hrel
        have HO := Lib.hid hO
        have HB := Lib.hid hB
        have HLI := Lib.hid hl
        clear hO hB hl
        by_cases h1 : F < m + 1
        · have h1i : ((F : Nat) : Int) < (m : Int) + 1 := by omega
          go_wp2_with fail
          go_loopw [7, 26] (fun v u wr' => ∃ (T : Nat) (a : Option Addr) (c : Nat) (l' : List Sz), T ≤ m + 1 ∧ u = .int .i64 T ∧ v = .slice a l'.length c ∧ l' = l ++ rowS q m F T ∧ l'.length ≤ l.length + T ∧ OwnSz Y.heap.size wr' (.slice a l'.length c) l' ∧ Below Y.heap.size Y wr') (fun _ u _ => m + 1 - (intOf u).toNat)
          case atStart => exact ⟨0, a, ca, l, Nat.zero_le _, rfl, rfl, by simp [rowS], Nat.le_refl _, HO.out, HB.out⟩
          case round =>
            obtain ⟨T, aj, cj, l', hT, rfl, rfl, hl', hlen', hOj, hBj⟩ := hrel
            have HOj := Lib.hid hOj
            have HBj := Lib.hid hBj
            have HLJ := Lib.hid hl'
            clear hOj hBj hl'
            by_cases h2 : T < m + 1
            · have h2i : ((T : Nat) : Int) < (m : Int) + 1 := by omega
              obtain ⟨X, hX⟩ : ∃ X : World, X = wr := ⟨_, rfl⟩
              rw [← hX] at HOj HBj ⊢
              clear hX
              go_upto_region 13 with (fail)
              refine wp_region_lit ?_
              iterate 5
                refine wpList_step fun K hK => ?_
                go_simp
                refine hK _ _ ?_
                clear hK K
              refine st_whole (T := 44) info_sz (by rfl) (.tmp 10) (.tmp 32) (by rfl) X.heap.size (szC ⟨m, T, F⟩) (by rfl) (by rfl) (by rfl) (heap_new _ _ rfl) (by rfl) (by intro v hv; simp [szC] at hv; rcases hv with rfl | rfl | rfl <;> rfl) (fun Z hZ hbl hsz _ => ?_)
              have ZB := Lib.hid (show Below Y.heap.size Y Z from hbl _ _ HBj.out.size (HBj.out.trans ((allocBelow X _).mono HBj.out.size)))
              have ZR := Lib.hid (show Below X.heap.size X Z from hbl _ _ (Nat.le_refl _) (allocBelow X _))
              have y0 : Z.cell? ⟨X.heap.size, 0, none⟩ = some (.int .i64 m) := cellB hZ 0 (by rfl)
              have y1 : Z.cell? ⟨X.heap.size, 1, none⟩ = some (.int .i64 T) := cellB hZ 1 (by rfl)
              have y2 : Z.cell? ⟨X.heap.size, 2, none⟩ = some (.int .i64 F) := cellB hZ 2 (by rfl)
              have ZO := Lib.hid (HOj.out.still ZR.out)
              have ZP := Lib.hid (keepB YP.out ZB.out)
              have hZs : X.heap.size < Z.heap.size := by rw [hsz]; simp
              have HZS := Lib.hid hZs
              clear hZ hbl hsz ZR
              refine wpList_nil ?_
              simp only [Act.put]
              go_upto_region 14 with (fail)
              refine wp_region_lit ?_
              refine ld_mid Tryd.underlying27 info_prot (by rfl) (.tmp 2) (by rfl) w.heap.size 0 [.string q.nm, .int .i64 q.top, .slice a2 q.states.length c2, .slice a3 q.msgs.length c3, .slice a4 q.vals.length c4, .int .i64 q.fault, .slice a6 q.res.length c6, .slice a7 q.init.length c7, .slice a8 q.leader.length c8, .slice a9 q.rules.length c9] (by rfl) (by rfl) (rangeBlock ZP.out) ?_
              cases hA : admB q m T F with
              | false =>
                have HA := Lib.hid hA
                clear hA
                go_wp2_with (go_at_call 69; (with_reducible refine (admits_any m T F (HQ.out.below (thenBelow YB.out ZB.out))).mono ?_); rw [HA.out]; rintro e w2 ⟨rfl, hb2⟩; have HB2 := Lib.hid hb2; clear hb2)
                go_roundw
                case rel => exact ⟨T + 1, aj, cj, l', by omega, by go_num, rfl, by rw [HLJ.out, rowS_no HA.out], by omega, ZO.out.still HB2.out, thenBelow ZB.out HB2.out⟩
                case measure => simp [intOf]; omega
              | true =>
                have HA := Lib.hid hA
                clear hA
                go_wp2_with (first | (go_at_call 69; (with_reducible refine (admits_any m T F (HQ.out.below (thenBelow YB.out ZB.out))).mono ?_); rw [HA.out]; rintro e w2 ⟨rfl, hb2⟩; have HB2 := Lib.hid hb2; have HO2 := Lib.hid (ZO.out.still hb2); have h20 := keep1 y0 hb2; have h21 := keep1 y1 hb2; have h22 := keep1 y2 hb2; clear hb2) | (at_builtin; refine append_one elSz (by rfl) (.tmp 36) (.tmp 38) (by rfl) Y.heap.size _ l'.length _ (szC ⟨m, T, F⟩) w2.heap.size (by rfl) (by rfl) (by rfl) HO2.out.1 (by rfl) (by intro v hv; simp [szC] at hv; rcases hv with rfl | rfl | rfl <;> rfl) (by omega) (by unfold maxLen; omega) ((thenBelow ZB.out HB2.out).size) (by rfl) ?_; intro g cap w3 hown hgrow hat hlo hlt hsz))
                go_roundw
                case rel =>
                  refine ⟨T + 1, some ⟨g, 0, none⟩, cap, l' ++ [⟨m, T, F⟩], by omega, by go_num, by simp, by rw [HLJ.out, rowS_yes HA.out, List.append_assoc], by simp; omega, ⟨?_, ?_⟩, ?_⟩
                  · rw [List.length_append, List.flatMap_append]; simpa using hown
                  · intro y hy
                    rcases List.mem_append.1 hy with hy | hy
                    · exact HO2.out.2 y hy
                    · rw [List.mem_singleton.1 hy]; exact szI_mk (by omega) (by omega) (by omega)
                  · exact (thenBelow ZB.out HB2.out).grown hgrow (thenBelow ZB.out HB2.out).size (row_above HO2.out.1)
                case measure => simp [intOf]; omega
            · obtain rfl : T = m + 1 := by omega
              go_wp2_with fail
              go_roundw
              case rel => exact ⟨F + 1, aj, cj, l', by omega, by go_num, rfl, by rw [HLJ.out, HLI.out, allS_succ], by omega, HOj.out, HBj.out⟩
              case measure => simp [intOf]; omega
        · obtain rfl : F = m + 1 := by omega
          go_wp2_with fail
          go_ret2
          refine ⟨_, ret_tup HE.out.symm, ?_, thenBelow YB.out HB.out⟩
          rw [HL.out, ← HLI.out]
          exact ⟨szrow_lower HO.out.1 YB.out.size, HO.out.2⟩
end Go.Proofs.YtmpbfdfjcfanoaaDoor

/-
  A FAMILY IN MEMORY, AS THE RULES READ IT; the walk of a law out of its contract.
-/
namespace Go.Proofs.YtmpbfdfjcfanoaaDoor
open Go.RowKit Go.Deep
section
variable {F ok : Nat → Prop} {lo : Nat} {w : World}
theorem ln_pu (l : Ln) (vs : List Value) (h : LnEl lo w vs l) : ∀ j (hj : j < (cLn l).length), Pu F w ok (cLn l)[j] (vs.getD j undef) := by
  obtain ⟨rfl, _⟩ := h
  intro j hj
  match j, hj with
  | 0, _ => exact .v _
  | 1, _ => exact .v _
  | 2, _ => exact .v _
  | 3, _ => exact .v _
theorem str_pu (s : ByteArray) (vs : List Value) (h : StrEl lo w vs s) : ∀ j (hj : j < [sv s].length), Pu F w ok [sv s][j] (vs.getD j undef) := by
  obtain ⟨rfl, _⟩ := h
  intro j hj
  match j, hj with
  | 0, _ => exact .v _
theorem ru_pu (hok : ∀ b, lo ≤ b → b < w.heap.size → ok b) (r : Ru) (vs : List Value) (h : RuEl lo w vs r) : ∀ j (hj : j < (cRu r).length), Pu F w ok (cRu r)[j] (vs.getD j undef) := by
  obtain ⟨v6, v7, v8, v9, v12, v14, v15, v16, rfl, h0, h1, h2, h3, h4, h5, h6, h7, h8, h9, h10, h11, h12, h13, h14, h15, h16, h17⟩ := h
  intro j hj
  match j, hj with
  | 0, _ => exact .v _
  | 1, _ => exact .v _
  | 2, _ => exact .v _
  | 3, _ => exact .v _
  | 4, _ => exact .v _
  | 5, _ => exact .v _
  | 6, _ => exact ints_pu hok h6
  | 7, _ => exact sl_pu lenTh hok th_pu h7
  | 8, _ => exact ints_pu hok h8
  | 9, _ => exact ints_pu hok h9
  | 10, _ => exact .v _
  | 11, _ => exact .v _
  | 12, _ => exact ints_pu hok h12
  | 13, _ => exact .v _
  | 14, _ => exact ints_pu hok h14
  | 15, _ => exact ints_pu hok h15
  | 16, _ => exact ints_pu hok h16
  | 17, _ => exact .v _
  | j + 18, hj => exact absurd hj (by rw [lenRu]; omega)
theorem strs_pu (hok : ∀ b, lo ≤ b → b < w.heap.size → ok b) {v : Value} {xs : List ByteArray} (h : IsSl 1 StrEl lo w v xs) : Pu F w ok (strsA xs) v := by
  rw [fst1]; exact sl_pu lenStr hok str_pu h
theorem fam_pu (hok : ∀ b, lo ≤ b → b < w.heap.size → ok b) {v : Value} {q : Fm} (h : IsFam lo w v q) : Pu F w ok (.agg (cFm q)) v := by
  obtain ⟨v2, v3, v4, v6, v7, v8, v9, rfl, h0, h1, h2, h3, h4, h5, h6, h7, h8, h9⟩ := h
  refine .agg rfl fun j hj => ?_
  match j, hj with
  | 0, _ => exact .v _
  | 1, _ => exact .v _
  | 2, _ => exact strs_pu hok h2
  | 3, _ => exact strs_pu hok h3
  | 4, _ => exact strs_pu hok h4
  | 5, _ => exact .v _
  | 6, _ => exact sl_pu lenLn hok ln_pu h6
  | 7, _ => exact ints_pu hok h7
  | 8, _ => exact ints_pu hok h8
  | 9, _ => exact sl_pu lenRu hok (ru_pu hok) h9
end
/-- The cells of a size. -/
def cSz (n t f : Int) : List AV := [iv n, iv t, iv f]
theorem cells3 {vs : List Value} (h : vs.length = 3) : vs = [vs.getD 0 undef, vs.getD 1 undef, vs.getD 2 undef] := by
  match vs, h with
  | [_, _, _], _ => rfl
theorem sz_of {F ok : Nat → Prop} {w : World} {v : Value} {n t f : Int} (h : Pu F w ok (.agg (cSz n t f)) v) : v = .agg #[.int .i64 n, .int .i64 t, .int .i64 f] := by
  obtain ⟨vs, rfl, hl, hv⟩ := agg_cells h
  rw [cells3 hl, (hv 0 (by simp [cSz])).v_inv, (hv 1 (by simp [cSz])).v_inv, (hv 2 (by simp [cSz])).v_inv]
theorem sz_pu {F ok : Nat → Prop} {w : World} {n t f : Int} : Pu F w ok (.agg (cSz n t f)) (.agg #[.int .i64 n, .int .i64 t, .int .i64 f]) := by
  refine .agg rfl fun j hj => ?_
  match j, hj with
  | 0, _ => exact .v _
  | 1, _ => exact .v _
  | 2, _ => exact .v _
/-- The walk of a law, out of its contract. -/
theorem walk1 {f : FuncId} {A : AV} {w : World} {v : Value} (h : Ctr Tryd.prog TabW f [A] (bv true)) (hA : Pu (fun _ => True) w (fun b => b < w.heap.size) A v) (ht : TabW w) :
    Calls Tryd.prog f #[v] w fun e w' => e = .returned (.bool true) ∧ Below w.heap.size w w' :=
  (h w #[v] (fun _ hb => ht.below hb) rfl (fun j hj => by match j, hj with | 0, _ => exact hA)).mono fun _ _ ⟨_, he, hu, hb⟩ => ⟨by rw [he, hu.v_inv], hb⟩
theorem walk2 {f : FuncId} {A B : AV} {w : World} {v v' : Value} (h : Ctr Tryd.prog TabW f [A, B] (bv true)) (hA : Pu (fun _ => True) w (fun b => b < w.heap.size) A v) (hB : Pu (fun _ => True) w (fun b => b < w.heap.size) B v') (ht : TabW w) :
    Calls Tryd.prog f #[v, v'] w fun e w' => e = .returned (.bool true) ∧ Below w.heap.size w w' :=
  (h w #[v, v'] (fun _ hb => ht.below hb) rfl (fun j hj => by match j, hj with | 0, _ => exact hA | 1, _ => exact hB)).mono fun _ _ ⟨_, he, hu, hb⟩ => ⟨by rw [he, hu.v_inv], hb⟩
theorem famw {w : World} {v : Value} {q : Fm} (h : IsFam 0 w v q) : Pu (fun _ => True) w (fun b => b < w.heap.size) (.agg (cFm q)) v := fam_pu (fun _ _ h => h) h
section
variable {J : World → Prop}
theorem value_c (l : Ln) (a b d : Int) : Ctr Tryd.prog J 106 [.agg (cLn l), .agg (cSz a b d)] (iv (linV l.c l.n l.t l.f a b d)) := ctr2 fun w v v' _ h h' => by
  obtain ⟨vs, rfl, hl, hv⟩ := agg_cells h
  have e : vs = [.int .i64 l.c, .int .i64 l.n, .int .i64 l.t, .int .i64 l.f] := by
    rw [cells4 hl, (hv 0 (by simp [cLn])).v_inv, (hv 1 (by simp [cLn])).v_inv, (hv 2 (by simp [cLn])).v_inv, (hv 3 (by simp [cLn])).v_inv]
  subst e
  rw [sz_of h']
  exact (rvalueAt_any l.c l.n l.t l.f a b d w).mono fun _ _ => ret_sc
theorem qAdmissible_c {q : Fm} (hq : FmOk q) (n t f : Int) : Ctr Tryd.prog J 21 [.agg (cFm q), .agg (cSz n t f)] (bv (decide (valE q = 0) && admB q n t f)) := ctr2 fun w v v' _ h h' => by
  rw [sz_of h']; exact (Admissible_any n t f (fam_of hq lo0 h)).mono fun _ _ => ret_sc
/-- The first condition of an admissible size; the third one. -/
def radA (n t f : Int) : Bool := (!inB 1 1048576 n || !inB 0 n t) || !inB 0 n f
def nofB (q : Fm) (t f : Int) : Bool := decide (q.fault = 0) && (!decide (t = 0) || !decide (f = 0))
def resvK (q : Fm) (n t f : Int) (k : Nat) : Bool := (q.res.take k).all fun l => decide (0 ≤ linV l.c l.n l.t l.f n t f)
theorem resvK_succ {q : Fm} {n t f : Int} {k : Nat} (hk : k < q.res.length) (h : resvK q n t f k = true) (e : ¬ linV q.res[k].c q.res[k].n q.res[k].t q.res[k].f n t f < 0) : resvK q n t f (k + 1) = true :=
  all_succ hk h (by rw [decide_eq_true_eq]; omega)
theorem radA_f {n t f : Int} (h : radA n t f = false) : inB 1 1048576 n = true ∧ inB 0 n t = true ∧ inB 0 n f = true := by
  unfold radA at h; simpa [and_assoc] using h
theorem adm_a {q : Fm} {n t f : Int} (h : radA n t f = true) : admB q n t f = false := by
  unfold radA at h
  unfold admB
  simp only [Bool.or_eq_true, Bool.not_eq_true'] at h
  rcases h with (h | h) | h <;> simp [h]
theorem adm_r {q : Fm} {n t f : Int} {k : Nat} (hk : k < q.res.length) (e : linV q.res[k].c q.res[k].n q.res[k].t q.res[k].f n t f < 0) : admB q n t f = false := by
  have : resvB q n t f = false := all_no hk (by rw [decide_eq_false_iff_not]; omega)
  unfold admB; rw [this, Bool.and_false]
theorem nof_iff {q : Fm} {t f : Int} : nofB q t f = (decide (q.fault = 0) && !(decide (t = 0) && decide (f = 0))) := by unfold nofB; simp
theorem adm_f {q : Fm} {n t f : Int} (h : nofB q t f = true) : admB q n t f = false := by
  unfold admB; rw [← nof_iff, h]; simp
theorem adm_0 {q : Fm} {n t f : Int} (h : radA n t f = false) (hr : resvK q n t f q.res.length = true) (hn : nofB q t f = false) (ht : ¬ q.top = 4) : admB q n t f = true := by
  have h2 : resvB q n t f = true := by unfold resvK at hr; rwa [List.take_length] at hr
  obtain ⟨a, b, c⟩ := radA_f h
  unfold admB; rw [← nof_iff, hn, a, b, c, h2]; simp [ht]
theorem adm_1 {q : Fm} {n t f : Int} (h : radA n t f = false) (hr : resvK q n t f q.res.length = true) (hn : nofB q t f = false) (ht : q.top = 4) : admB q n t f = decide (n.tmod 2 = 1) := by
  have h2 : resvB q n t f = true := by unfold resvK at hr; rwa [List.take_length] at hr
  obtain ⟨a, b, c⟩ := radA_f h
  unfold admB; rw [← nof_iff, hn, a, b, c, h2]
  have h1 : 1 ≤ n := by unfold inB at a; simp only [Bool.and_eq_true, decide_eq_true_eq] at a; omega
  have e : n.tmod 2 = n % 2 := Int.tmod_eq_emod_of_nonneg (by omega)
  rw [Bool.eq_iff_iff, e]
  simp only [Bool.and_eq_true, Bool.not_eq_true', Bool.and_eq_false_iff, decide_eq_true_eq, decide_eq_false_iff_not, ht]
  simp
  omega
end
end Go.Proofs.YtmpbfdfjcfanoaaDoor

/-
  STRUCTS: BUILT OF VALUES, AND COMPARED WITH THEMSELVES.
-/
namespace Go.Proofs.YtmpbfdfjcfanoaaDoor
open Go.RowKit Go.Deep
section
variable {P : Program} {J : World → Prop} {o : Oper}
theorem agg_known {ρ : Names} {B : Nat} {w : World} {xs : List Value} {x : Value} (h : Rel ρ B w (.agg (xs.map AV.v)) x) : x = .agg xs.toArray := by
  obtain ⟨vs, rfl, hl, hc⟩ := h.agg_inv
  have e : vs.toList = xs := by
    refine List.ext_getElem (by simpa using hl) fun i h1 h2 => ?_
    have h3 := hc i (by simpa using h2)
    simp only [List.getElem_map] at h3
    have h4 := h3.v_inv
    have h5 : i < vs.size := by simpa using h1
    simpa [Array.getD, h5] using h4
  rw [← e]
theorem sp_bld {T : TypeId} {parts : Array (Nat × Operand)} (args : List (Operand × Value)) (cells : Array Value) {cs : List AV} (ho : o.op = .build T parts) (hp : parts.toList.map (·.2) = args.map (·.1))
    (hb : P.built T ((parts.toList.zip args).map fun p => (p.1.1, p.2.2)) = some cells) (hc : cells.toList.map AV.v = cs) : ASpec P J o (args.map fun p => (p.1, .v p.2)) [] (.agg cs) .no :=
  aspec_val fun ρ B a w _ ha _ => by
    subst hc
    have hl : parts.toList.length = args.length := by simpa using congrArg List.length hp
    have e : (parts.map fun (i, x) => (i, a.eval x)).toList = (parts.toList.zip args).map fun p => (p.1.1, p.2.2) := by
      rw [Array.toList_map]
      refine List.ext_getElem (by simp at hl ⊢; omega) fun i h1 h2 => ?_
      have h3 : i < parts.toList.length := by simpa using h1
      have h4 : i < args.length := by omega
      have h5 : parts.toList[i].2 = args[i].1 := by
        have h7 : (parts.toList.map (·.2))[i]'(by simpa using h3) = (args.map (·.1))[i]'(by simpa using h4) := by simp only [hp]
        simpa only [List.getElem_map] using h7
      have h6 := (ha (args[i].1, .v args[i].2) (List.mem_map_of_mem (f := fun p : Operand × Value => (p.1, AV.v p.2)) (List.getElem_mem h4))).v_inv
      simp only [List.getElem_map, List.getElem_zip]
      rw [← h6, ← h5]
    refine ⟨.agg cells, ?_, .pu (.agg (by simp) fun j hj => ?_)⟩
    · simp only [execOp, ho]
      refine run_val (run_build w T _ cells ?_)
      rw [e]; exact hb
    · simp only [List.getElem_map, Array.getElem_toList]
      have : j < cells.size := by simpa using hj
      simp only [Array.getD, this, dif_pos]
      exact .v _
/-- A struct of the same cells. -/
theorem sp_aggNeq {T ty : TypeId} {x y : Operand} (xs : List Value) (ho : o.op = .binOp .neq T x y ty) (hm : P.eqGuardType P.depth T = false) (H : ∀ w, (Op.equalIn 10000 T (.agg xs.toArray) (.agg xs.toArray)).run P w = .ok true w) :
    ASpec P J o [(x, .agg (xs.map AV.v)), (y, .agg (xs.map AV.v))] [] (.v (.bool false)) .no :=
  aspec_val fun ρ B a w _ ha _ => by
    have h1 := agg_known (ha (x, .agg (xs.map AV.v)) (by simp))
    have h2 := agg_known (ha (y, .agg (xs.map AV.v)) (by simp))
    refine ⟨.bool false, ?_, .pu (.v _)⟩
    simp only [execOp, ho, h1, h2]
    refine run_val ?_
    rw [Sem.run_bind, run_eqGuard_agg w .neq T x y _ _ hm, Result.andThen_ok, run_neq_struct, H w]
    rfl
theorem sp_aggEql {T ty : TypeId} {x y : Operand} (xs : List Value) (ho : o.op = .binOp .eql T x y ty) (hm : P.eqGuardType P.depth T = false) (H : ∀ w, (Op.equalIn 10000 T (.agg xs.toArray) (.agg xs.toArray)).run P w = .ok true w) :
    ASpec P J o [(x, .agg (xs.map AV.v)), (y, .agg (xs.map AV.v))] [] (.v (.bool true)) .no :=
  aspec_val fun ρ B a w _ ha _ => by
    have h1 := agg_known (ha (x, .agg (xs.map AV.v)) (by simp))
    have h2 := agg_known (ha (y, .agg (xs.map AV.v)) (by simp))
    refine ⟨.bool true, ?_, .pu (.v _)⟩
    simp only [execOp, ho, h1, h2]
    refine run_val ?_
    rw [Sem.run_bind, run_eqGuard_agg w .eql T x y _ _ hm, Result.andThen_ok, run_eql_struct, H w]
    rfl
end
theorem eq_int {a : Int} : (a == a) = true := by simp
theorem eqn_sz (a b c : Int) (w : World) : (Op.equalIn 10000 44 (.agg #[.int .i64 a, .int .i64 b, .int .i64 c]) (.agg #[.int .i64 a, .int .i64 b, .int .i64 c])).run Tryd.prog w = .ok true w := by
  rw [run_equalIn_agg w 9999 _ _ _ (by kernel_rfl) (by kernel_rfl)]
  rw [show (Program.fieldsOf Tryd.prog 44).toList = _ from by unfold Program.fieldsOf; rw [Tryd.underlying44]]
  simp [go_sem, Op.eqFields, part, asAgg, isAgg, Tryd.underlying3, run_underlying]
theorem eqn_th (a b c d e f : Int) (w : World) : (Op.equalIn 10000 55 (.agg #[.int .i64 a, .int .i64 b, .int .i64 c, .int .i64 d, .int .i64 e, .int .i64 f]) (.agg #[.int .i64 a, .int .i64 b, .int .i64 c, .int .i64 d, .int .i64 e, .int .i64 f])).run Tryd.prog w = .ok true w := by
  rw [run_equalIn_agg w 9999 _ _ _ (by kernel_rfl) (by kernel_rfl)]
  rw [show (Program.fieldsOf Tryd.prog 55).toList = _ from by unfold Program.fieldsOf; rw [Tryd.underlying55]]
  simp [go_sem, Op.eqFields, part, asAgg, isAgg, Tryd.underlying3, run_underlying]
end Go.Proofs.YtmpbfdfjcfanoaaDoor

/-
  Thresholds: PLAIN MATHEMATICS, and differentGuards in the new form.
-/
namespace Go.Proofs.YtmpbfdfjcfanoaaDoor
open Go.RowKit Go.Deep
variable {J : World → Prop}
theorem val_3 {q : Fm} (h : valE q = 0) : val3 q = 0 := by
  by_cases n : nameB q.nm.toList = true
  · by_cases a : argB q = true
    · rw [valE_ar n a] at h; cases h
    · by_cases s : ((q.states.length : Nat) : Int) = 0
      · rw [valE_st n (by simpa using a) s] at h; cases h
      · by_cases t : tooI q = true
        · rw [valE_tb n (by simpa using a) s t] at h; cases h
        · rw [valE_2 ⟨n, by simpa using a, s, by simpa using t⟩] at h
          unfold val2 at h
          split at h
          · cases h
          split at h
          · cases h
          split at h
          · cases h
          exact h
  · rw [valE_nm (by simpa using n)] at h; cases h
def thL (q : Fm) : List Th := if valE q = 0 then diffG q.rules else []
theorem thL_len (q : Fm) : (thL q).length ≤ 3 := by
  unfold thL
  split
  · rename_i h
    have h1 := (orE_zero_left (orE_zero_left (orE_zero_left (val_3 h)).2).2).2
    split at h1
    · cases h1
    · omega
  · simp
theorem thr_err {q : Fm} (h : ¬ valE q = 0) : AV.tup [.sl 6 0 [], iv (valE q)] = .tup [slA 6 cTh (thL q), iv (valE q)] := by
  unfold thL; rw [if_neg h]; rfl
theorem thr_ok {q : Fm} (h : valE q = 0) : AV.tup [slA 6 cTh (diffG q.rules), iv 0] = .tup [slA 6 cTh (thL q), iv (valE q)] := by
  unfold thL; rw [if_pos h, h]
theorem diff_c {q : Fm} (hq : FmOk q) (h8 : q.rules.length ≤ 8) (h2 : ∀ r ∈ q.rules, r.guards.length ≤ 2) : Ctr Tryd.prog J 54 [slA 18 cRu q.rules] (slA 6 cTh (diffG q.rules)) := ctr1 fun w v _ h =>
  (differentGuards_any (pu_slm lenRu lo0 RuOk hq.rules (fun _ _ hr hl hp => ru_of hr lo0 hl hp) h) h8 h2).mono fun _ _ ⟨v', he, ho, hb⟩ => ⟨v', he, sl_pu lenTh (fun _ h _ => h) th_pu ho.sl, hb⟩
end Go.Proofs.YtmpbfdfjcfanoaaDoor

/-
  Thresholds OF BOTH SIDES; THE WALK OF ProtocolThresholds.
-/
namespace Go.Proofs.YtmpbfdfjcfanoaaDoor
open Go.RowKit Go.Deep
variable {J : World → Prop}
set_option linter.unusedSimpArgs false in
set_option linter.unusedVariables false in
set_option maxRecDepth 100000 in
set_option maxHeartbeats 6400000 in
theorem rThresholds_c {q : Fm} (HQ : FmOk q) : Ctr Tryd.prog J 26 [.agg (cFm q)] (.tup [slA 6 cTh (thL q), iv (valE q)]) := by
 refine ctr_of_tri Tryd.func26 rfl (by intro X hX; simp only [List.mem_cons, List.not_mem_nil, or_false] at hX; rcases hX with rfl; exact plain_agg (plain_fm q)) (n := 12) rfl (by simp) (fun w0 => ?_)
 refine tri_wk (wk_keep [] [(0, .agg (cFm q))] (n := 12) rfl (by kernel_rfl) (by kernel_rfl)) ?_
 refine tri_seq ?_
 refine tri_region ?_
 refine t_op rfl (sp_box (X := .agg (cFm q)) (k := 1) (.tmp 0) rfl rfl) ⟨.inl rfl, trivial⟩ trivial rfl ?_
 refine t_op rfl (sp_assign (.const (.slice none 0 0)) (.v (.slice none 0 0)) rfl) ⟨.inl rfl, trivial⟩ trivial trivial ?_
 refine t_op rfl (sp_assign (.const (.int .i64 0)) (iv 0) rfl) ⟨.inl rfl, trivial⟩ trivial trivial ?_
 refine tri_nil ?_
 refine tri_wk (wk_keep [(1, .box 27 (cFm q))] [(1, .box 1 0), (2, .v (.slice none 0 0)), (3, iv 0)] (n := 12) rfl (by kernel_rfl) (by kernel_rfl)) ?_
 refine t_then ?_
 refine tri_seq ?_
 refine tri_seq ?_
 refine tri_region ?_
 refine t_op rfl (sp_loadBoxS (Y := .box 27 (cFm q)) (ds := cFm q) (z := 10) (.tmp 1) rfl Tryd.underlying27 rfl (by kernel_rfl) (by decide) (by kernel_rfl) (by kernel_rfl)) ⟨.inl rfl, trivial⟩ ⟨rfl, trivial⟩ trivial ?_
 refine t_op rfl (sp_call (c := .func 17) (xs := #[.tmp 5]) [] (rValidate_c HQ) rfl (by kernel_rfl) rfl (Xs := [.agg (cFm q)]) rfl rfl rfl) ⟨.inl rfl, .inl rfl, trivial⟩ trivial trivial ?_
 refine t_op rfl (sp_assign (.tmp 6) (iv (valE q)) rfl) ⟨.inl rfl, trivial⟩ trivial trivial ?_
 refine tri_nil ?_
 refine tri_wk (wk_keep [(1, .box 27 (cFm q))] [(1, .box 1 0), (2, .v (.slice none 0 0)), (3, iv 0), (4, iv (valE q))] (n := 12) rfl (by kernel_rfl) (by kernel_rfl)) ?_
 refine t_then ?_
 refine tri_seq ?_
 by_cases hs1 : valE q = 0
 refine tri_region ?_
 refine t_op rfl (sp_move (.tmp 4) (iv (valE q)) rfl) ⟨.inl rfl, trivial⟩ trivial trivial ?_
 refine t_op rfl (sp_neq rfl (dT' hs1)) ⟨.inl rfl, .inl rfl, trivial⟩ trivial trivial ?_
 refine tri_nil ?_
 refine tri_wk (wk_keep [(1, .box 27 (cFm q))] [(1, .box 1 0), (2, .v (.slice none 0 0)), (3, iv 0), (4, iv (valE q)), (8, bv false)] (n := 12) rfl (by kernel_rfl) (by kernel_rfl)) ?_
 refine t_then ?_
 refine t_condF rfl ?_
 refine tri_skip ?_
 refine t_then ?_
 refine tri_seq ?_
 refine tri_region ?_
 refine t_op rfl (sp_loadBoxS (Y := .box 27 (cFm q)) (ds := cFm q) (z := 10) (.tmp 1) rfl Tryd.underlying27 rfl (by kernel_rfl) (by decide) (by kernel_rfl) (by kernel_rfl)) ⟨.inl rfl, trivial⟩ ⟨rfl, trivial⟩ trivial ?_
 refine t_op rfl (sp_call (c := .func 61) (xs := #[.tmp 10]) [] (distinct_c HQ (val_small hs1).1 (val_small hs1).2) rfl (by kernel_rfl) rfl (Xs := [.agg (cFm q)]) rfl rfl rfl) ⟨.inl rfl, .inl rfl, trivial⟩ trivial trivial ?_
 refine t_op rfl (sp_assign (.tmp 11) (.fr (slA 6 cTh (diffG q.rules))) rfl) ⟨.inl rfl, trivial⟩ trivial trivial ?_
 refine t_op rfl (sp_assign (.const (.int .i64 0)) (iv 0) rfl) ⟨.inl rfl, trivial⟩ trivial trivial ?_
 refine tri_nil ?_
 refine tri_wk (wk_keep [] [(2, .fr (slA 6 cTh (diffG q.rules))), (3, iv 0)] (n := 12) rfl (by kernel_rfl) (by kernel_rfl)) ?_
 refine t_then ?_
 refine tri_ret ?_
 refine tri_end2 Tryd.results26 (.tmp rfl) (.tmp rfl) ?_
 exact thr_ok hs1
 refine tri_region ?_
 refine t_op rfl (sp_move (.tmp 4) (iv (valE q)) rfl) ⟨.inl rfl, trivial⟩ trivial trivial ?_
 refine t_op rfl (sp_neq rfl (dF' hs1)) ⟨.inl rfl, .inl rfl, trivial⟩ trivial trivial ?_
 refine tri_nil ?_
 refine tri_wk (wk_keep [(1, .box 27 (cFm q))] [(1, .box 1 0), (2, .v (.slice none 0 0)), (3, iv 0), (4, iv (valE q)), (8, bv true)] (n := 12) rfl (by kernel_rfl) (by kernel_rfl)) ?_
 refine t_then ?_
 refine t_condT rfl ?_
 refine tri_seq ?_
 refine tri_region ?_
 refine t_op rfl (sp_move (.tmp 4) (iv (valE q)) rfl) ⟨.inl rfl, trivial⟩ trivial trivial ?_
 refine t_op rfl (sp_assign (.const (.slice none 0 0)) (.v (.slice none 0 0)) rfl) ⟨.inl rfl, trivial⟩ trivial trivial ?_
 refine t_op rfl (sp_assign (.tmp 9) (iv (valE q)) rfl) ⟨.inl rfl, trivial⟩ trivial trivial ?_
 refine tri_nil ?_
 refine tri_wk (wk_keep [(1, .box 27 (cFm q))] [(1, .box 1 0), (2, .v (.slice none 0 0)), (3, iv (valE q))] (n := 12) rfl (by kernel_rfl) (by kernel_rfl)) ?_
 refine t_then ?_
 refine tri_ret ?_
 refine t_then_ret ?_
 refine tri_wk (wk_adopt 2 2 true 55 6 rfl rfl rfl) ?_
 refine tri_end2 Tryd.results26 (.tmp rfl) (.tmp rfl) ?_
 exact thr_err hs1
set_option linter.unusedSimpArgs false in
set_option linter.unusedVariables false in
set_option maxRecDepth 100000 in
set_option maxHeartbeats 6400000 in
theorem qThresholds_c {q : Fm} (HQ : FmOk q) : Ctr Tryd.prog J 25 [.agg (cFm q)] (.tup [slA 6 cTh (thL q), iv (valE q)]) := by
 refine ctr_of_tri Tryd.func25 rfl (by intro X hX; simp only [List.mem_cons, List.not_mem_nil, or_false] at hX; rcases hX with rfl; exact plain_agg (plain_fm q)) (n := 13) rfl (by simp) (fun w0 => ?_)
 refine tri_wk (wk_keep [] [(0, .agg (cFm q))] (n := 13) rfl (by kernel_rfl) (by kernel_rfl)) ?_
 refine tri_seq ?_
 refine tri_region ?_
 refine t_op rfl (sp_box (X := .agg (cFm q)) (k := 1) (.tmp 0) rfl rfl) ⟨.inl rfl, trivial⟩ trivial rfl ?_
 refine t_op rfl (sp_assign (.const (.slice none 0 0)) (.v (.slice none 0 0)) rfl) ⟨.inl rfl, trivial⟩ trivial trivial ?_
 refine t_op rfl (sp_assign (.const (.int .i64 0)) (iv 0) rfl) ⟨.inl rfl, trivial⟩ trivial trivial ?_
 refine tri_nil ?_
 refine tri_wk (wk_keep [(1, .box 27 (cFm q))] [(1, .box 1 0), (2, .v (.slice none 0 0)), (3, iv 0)] (n := 13) rfl (by kernel_rfl) (by kernel_rfl)) ?_
 refine t_then ?_
 refine tri_seq ?_
 refine tri_seq ?_
 refine tri_region ?_
 refine t_op rfl (sp_loadBoxS (Y := .box 27 (cFm q)) (ds := cFm q) (z := 10) (.tmp 1) rfl Tryd.underlying27 rfl (by kernel_rfl) (by decide) (by kernel_rfl) (by kernel_rfl)) ⟨.inl rfl, trivial⟩ ⟨rfl, trivial⟩ trivial ?_
 refine t_op rfl (sp_call (c := .func 16) (xs := #[.tmp 5]) [] (qValidate_c HQ) rfl (by kernel_rfl) rfl (Xs := [.agg (cFm q)]) rfl rfl rfl) ⟨.inl rfl, .inl rfl, trivial⟩ trivial trivial ?_
 refine t_op rfl (sp_assign (.tmp 6) (iv (valE q)) rfl) ⟨.inl rfl, trivial⟩ trivial trivial ?_
 refine tri_nil ?_
 refine tri_wk (wk_keep [(1, .box 27 (cFm q))] [(1, .box 1 0), (2, .v (.slice none 0 0)), (3, iv 0), (4, iv (valE q))] (n := 13) rfl (by kernel_rfl) (by kernel_rfl)) ?_
 refine t_then ?_
 refine tri_seq ?_
 by_cases hs1 : valE q = 0
 refine tri_region ?_
 refine t_op rfl (sp_move (.tmp 4) (iv (valE q)) rfl) ⟨.inl rfl, trivial⟩ trivial trivial ?_
 refine t_op rfl (sp_neq rfl (dT' hs1)) ⟨.inl rfl, .inl rfl, trivial⟩ trivial trivial ?_
 refine tri_nil ?_
 refine tri_wk (wk_keep [(1, .box 27 (cFm q))] [(1, .box 1 0), (2, .v (.slice none 0 0)), (3, iv 0), (4, iv (valE q)), (8, bv false)] (n := 13) rfl (by kernel_rfl) (by kernel_rfl)) ?_
 refine t_then ?_
 refine t_condF rfl ?_
 refine tri_skip ?_
 refine t_then ?_
 refine tri_seq ?_
 refine tri_region ?_
 refine t_op rfl (sp_fieldBox (off' := 9) (.tmp 1) rfl Tryd.underlying27 rfl (z := 1) (by kernel_rfl) (by decide) rfl) ⟨.inl rfl, trivial⟩ trivial trivial ?_
 refine t_op rfl (sp_loadBox1 (Y := .box 27 (cFm q)) (X := slA 18 cRu q.rules) (.tmp 10) rfl Tryd.underlying25 rfl rfl) ⟨.inl rfl, trivial⟩ ⟨rfl, trivial⟩ trivial ?_
 refine t_op rfl (sp_call (c := .func 54) (xs := #[.tmp 11]) [] (diff_c HQ (val_small hs1).1 (val_small hs1).2) rfl (by kernel_rfl) rfl (Xs := [slA 18 cRu q.rules]) rfl rfl rfl) ⟨.inl rfl, .inl rfl, trivial⟩ trivial trivial ?_
 refine t_op rfl (sp_assign (.tmp 12) (.fr (slA 6 cTh (diffG q.rules))) rfl) ⟨.inl rfl, trivial⟩ trivial trivial ?_
 refine t_op rfl (sp_assign (.const (.int .i64 0)) (iv 0) rfl) ⟨.inl rfl, trivial⟩ trivial trivial ?_
 refine tri_nil ?_
 refine tri_wk (wk_keep [] [(2, .fr (slA 6 cTh (diffG q.rules))), (3, iv 0)] (n := 13) rfl (by kernel_rfl) (by kernel_rfl)) ?_
 refine t_then ?_
 refine tri_ret ?_
 refine tri_end2 Tryd.results25 (.tmp rfl) (.tmp rfl) ?_
 exact thr_ok hs1
 refine tri_region ?_
 refine t_op rfl (sp_move (.tmp 4) (iv (valE q)) rfl) ⟨.inl rfl, trivial⟩ trivial trivial ?_
 refine t_op rfl (sp_neq rfl (dF' hs1)) ⟨.inl rfl, .inl rfl, trivial⟩ trivial trivial ?_
 refine tri_nil ?_
 refine tri_wk (wk_keep [(1, .box 27 (cFm q))] [(1, .box 1 0), (2, .v (.slice none 0 0)), (3, iv 0), (4, iv (valE q)), (8, bv true)] (n := 13) rfl (by kernel_rfl) (by kernel_rfl)) ?_
 refine t_then ?_
 refine t_condT rfl ?_
 refine tri_seq ?_
 refine tri_region ?_
 refine t_op rfl (sp_move (.tmp 4) (iv (valE q)) rfl) ⟨.inl rfl, trivial⟩ trivial trivial ?_
 refine t_op rfl (sp_assign (.const (.slice none 0 0)) (.v (.slice none 0 0)) rfl) ⟨.inl rfl, trivial⟩ trivial trivial ?_
 refine t_op rfl (sp_assign (.tmp 9) (iv (valE q)) rfl) ⟨.inl rfl, trivial⟩ trivial trivial ?_
 refine tri_nil ?_
 refine tri_wk (wk_keep [(1, .box 27 (cFm q))] [(1, .box 1 0), (2, .v (.slice none 0 0)), (3, iv (valE q))] (n := 13) rfl (by kernel_rfl) (by kernel_rfl)) ?_
 refine t_then ?_
 refine tri_ret ?_
 refine t_then_ret ?_
 refine tri_wk (wk_adopt 2 2 true 55 6 rfl rfl rfl) ?_
 refine tri_end2 Tryd.results25 (.tmp rfl) (.tmp rfl) ?_
 exact thr_err hs1
set_option linter.unusedSimpArgs false in
set_option linter.unusedVariables false in
set_option maxRecDepth 100000 in
set_option maxHeartbeats 6400000 in
theorem lawThresholds_c {q : Fm} (HQ : FmOk q) : Ctr Tryd.prog TabW 8 [.agg (cFm q)] (bv true) := by
 have hl := thL_len q
 refine ctr_of_tri Tryd.func8 rfl (by intro X hX; simp only [List.mem_cons, List.not_mem_nil, or_false] at hX; rcases hX with rfl; exact plain_agg (plain_fm q)) (n := 47) rfl (by simp) (fun w0 => ?_)
 refine tri_wk (wk_keep [] [(0, .agg (cFm q))] (n := 47) rfl (by kernel_rfl) (by kernel_rfl)) ?_
 refine tri_seq ?_
 refine tri_region ?_
 refine t_op rfl (sp_box (X := .agg (cFm q)) (k := 1) (.tmp 0) rfl rfl) ⟨.inl rfl, trivial⟩ trivial rfl ?_
 refine t_op rfl (sp_assign (.const (.bool false)) (bv false) rfl) ⟨.inl rfl, trivial⟩ trivial trivial ?_
 refine tri_nil ?_
 refine tri_wk (wk_keep [(1, .box 27 (cFm q))] [(1, .box 1 0), (2, bv false)] (n := 47) rfl (by kernel_rfl) (by kernel_rfl)) ?_
 refine t_then ?_
 refine tri_seq ?_
 refine tri_seq ?_
 by_cases hs1 : (bigF q) = true
 refine tri_region ?_
 refine t_op rfl (sp_loadBoxS (Y := .box 27 (cFm q)) (ds := cFm q) (z := 10) (.tmp 1) rfl Tryd.underlying27 rfl (by kernel_rfl) (by decide) (by kernel_rfl) (by kernel_rfl)) ⟨.inl rfl, trivial⟩ ⟨rfl, trivial⟩ trivial ?_
 refine t_op rfl (sp_call (c := .func 13) (xs := #[.tmp 8]) [] (ctr_b (Big_c HQ) hs1) rfl (by kernel_rfl) rfl (Xs := [.agg (cFm q)]) rfl rfl rfl) ⟨.inl rfl, .inl rfl, trivial⟩ trivial trivial ?_
 refine tri_nil ?_
 refine tri_wk (wk_keep [(1, .box 27 (cFm q))] [(1, .box 1 0), (2, bv false), (9, bv true)] (n := 47) rfl (by kernel_rfl) (by kernel_rfl)) ?_
 refine t_then ?_
 refine t_condT rfl ?_
 refine tri_seq ?_
 refine tri_region ?_
 refine t_op rfl (sp_call (c := .func 14) (xs := #[]) [] known_c rfl (by kernel_rfl) rfl (Xs := []) rfl rfl rfl) ⟨.inl rfl, trivial⟩ trivial trivial ?_
 refine t_op rfl (sp_assign (.tmp 10) (bv true) rfl) ⟨.inl rfl, trivial⟩ trivial trivial ?_
 refine tri_nil ?_
 refine tri_wk (wk_keep [(1, .box 27 (cFm q))] [(1, .box 1 0), (2, bv true)] (n := 47) rfl (by kernel_rfl) (by kernel_rfl)) ?_
 refine t_then ?_
 refine tri_ret ?_
 refine t_then_ret ?_
 refine tri_end1 Tryd.results8 (.tmp rfl) ?_
 exact rfl
 have hs1f : (bigF q) = false := by simpa using hs1
 refine tri_region ?_
 refine t_op rfl (sp_loadBoxS (Y := .box 27 (cFm q)) (ds := cFm q) (z := 10) (.tmp 1) rfl Tryd.underlying27 rfl (by kernel_rfl) (by decide) (by kernel_rfl) (by kernel_rfl)) ⟨.inl rfl, trivial⟩ ⟨rfl, trivial⟩ trivial ?_
 refine t_op rfl (sp_call (c := .func 13) (xs := #[.tmp 8]) [] (ctr_b (Big_c HQ) hs1f) rfl (by kernel_rfl) rfl (Xs := [.agg (cFm q)]) rfl rfl rfl) ⟨.inl rfl, .inl rfl, trivial⟩ trivial trivial ?_
 refine tri_nil ?_
 refine tri_wk (wk_keep [(1, .box 27 (cFm q))] [(1, .box 1 0), (2, bv false), (9, bv false)] (n := 47) rfl (by kernel_rfl) (by kernel_rfl)) ?_
 refine t_then ?_
 refine t_condF rfl ?_
 refine tri_skip ?_
 refine t_then ?_
 refine tri_seq ?_
 refine tri_region ?_
 refine t_op rfl (sp_loadBoxS (Y := .box 27 (cFm q)) (ds := cFm q) (z := 10) (.tmp 1) rfl Tryd.underlying27 rfl (by kernel_rfl) (by decide) (by kernel_rfl) (by kernel_rfl)) ⟨.inl rfl, trivial⟩ ⟨rfl, trivial⟩ trivial ?_
 refine t_op rfl (sp_call (c := .func 25) (xs := #[.tmp 12]) [] (qThresholds_c HQ) rfl (by kernel_rfl) rfl (Xs := [.agg (cFm q)]) rfl rfl rfl) ⟨.inl rfl, .inl rfl, trivial⟩ trivial trivial ?_
 refine t_op rfl (sp_move (.tmp 13) (.tup [.fr (slA 6 cTh (thL q)), iv (valE q)]) rfl) ⟨.inl rfl, trivial⟩ trivial trivial ?_
 refine t_op rfl (sp_extract (X := .fr (slA 6 cTh (thL q))) (.tmp 11) rfl rfl) ⟨.inl rfl, trivial⟩ trivial trivial ?_
 refine t_op rfl (sp_extract (X := iv (valE q)) (.tmp 11) rfl rfl) ⟨.inl rfl, trivial⟩ trivial trivial ?_
 refine t_op rfl (sp_assign (.tmp 14) (.fr (slA 6 cTh (thL q))) rfl) ⟨.inl rfl, trivial⟩ trivial trivial ?_
 refine t_op rfl (sp_assign (.tmp 15) (iv (valE q)) rfl) ⟨.inl rfl, trivial⟩ trivial trivial ?_
 refine tri_nil ?_
 refine tri_wk (wk_keep [(1, .box 27 (cFm q))] [(1, .box 1 0), (2, bv false), (3, .fr (slA 6 cTh (thL q))), (4, iv (valE q))] (n := 47) rfl (by kernel_rfl) (by kernel_rfl)) ?_
 refine t_then ?_
 refine tri_seq ?_
 refine tri_region ?_
 refine t_op rfl (sp_loadBoxS (Y := .box 27 (cFm q)) (ds := cFm q) (z := 10) (.tmp 1) rfl Tryd.underlying27 rfl (by kernel_rfl) (by decide) (by kernel_rfl) (by kernel_rfl)) ⟨.inl rfl, trivial⟩ ⟨rfl, trivial⟩ trivial ?_
 refine t_op rfl (sp_call (c := .func 26) (xs := #[.tmp 17]) [] (rThresholds_c HQ) rfl (by kernel_rfl) rfl (Xs := [.agg (cFm q)]) rfl rfl rfl) ⟨.inl rfl, .inl rfl, trivial⟩ trivial trivial ?_
 refine t_op rfl (sp_move (.tmp 18) (.tup [.fr (slA 6 cTh (thL q)), iv (valE q)]) rfl) ⟨.inl rfl, trivial⟩ trivial trivial ?_
 refine t_op rfl (sp_extract (X := .fr (slA 6 cTh (thL q))) (.tmp 16) rfl rfl) ⟨.inl rfl, trivial⟩ trivial trivial ?_
 refine t_op rfl (sp_extract (X := iv (valE q)) (.tmp 16) rfl rfl) ⟨.inl rfl, trivial⟩ trivial trivial ?_
 refine t_op rfl (sp_assign (.tmp 19) (.fr (slA 6 cTh (thL q))) rfl) ⟨.inl rfl, trivial⟩ trivial trivial ?_
 refine t_op rfl (sp_assign (.tmp 20) (iv (valE q)) rfl) ⟨.inl rfl, trivial⟩ trivial trivial ?_
 refine tri_nil ?_
 refine tri_wk (wk_keep [] [(2, bv false), (3, .fr (slA 6 cTh (thL q))), (4, iv (valE q)), (5, .fr (slA 6 cTh (thL q))), (6, iv (valE q))] (n := 47) rfl (by kernel_rfl) (by kernel_rfl)) ?_
 refine t_then ?_
 refine tri_seq ?_
 refine tri_seq ?_
 refine tri_region ?_
 refine t_op rfl (sp_move (.tmp 4) (iv (valE q)) rfl) ⟨.inl rfl, trivial⟩ trivial trivial ?_
 refine t_op rfl (sp_move (.tmp 6) (iv (valE q)) rfl) ⟨.inl rfl, trivial⟩ trivial trivial ?_
 refine t_op rfl (sp_neq rfl (dT' rfl)) ⟨.inl rfl, .inl rfl, trivial⟩ trivial trivial ?_
 refine t_op rfl (sp_move (.tmp 23) (bv false) rfl) ⟨.inl rfl, trivial⟩ trivial trivial ?_
 refine t_opG rfl (sp_move (.tmp 3) (.fr (slA 6 cTh (thL q))) rfl) ⟨.inl rfl, trivial⟩ trivial trivial ?_
 refine t_opG rfl (sp_lenSl (.tmp 25) rfl Tryd.underlying49) ⟨.inr (.inl rfl), trivial⟩ trivial trivial ?_
 refine t_opG rfl (sp_move (.tmp 5) (.fr (slA 6 cTh (thL q))) rfl) ⟨.inl rfl, trivial⟩ trivial trivial ?_
 refine t_opG rfl (sp_lenSl (.tmp 27) rfl Tryd.underlying49) ⟨.inr (.inl rfl), trivial⟩ trivial trivial ?_
 refine t_opG rfl (sp_neq rfl (dT' rfl)) ⟨.inl rfl, .inl rfl, trivial⟩ trivial trivial ?_
 refine t_op rfl (sp_pick (.tmp 24) (.const (.bool true)) (.tmp 29) false (bv true) (bv false) rfl) ⟨.inl rfl, .inl rfl, .inl rfl, trivial⟩ trivial trivial ?_
 refine tri_nil ?_
 refine tri_wk (wk_keep [] [(2, bv false), (3, .fr (slA 6 cTh (thL q))), (5, .fr (slA 6 cTh (thL q))), (30, bv false)] (n := 47) rfl (by kernel_rfl) (by kernel_rfl)) ?_
 refine t_then ?_
 refine t_condF rfl ?_
 refine tri_skip ?_
 refine t_then ?_
 refine tri_seq ?_
 refine tri_seq ?_
 refine tri_region ?_
 refine t_op rfl (sp_assign (.const (.int .i64 0)) (iv 0) rfl) ⟨.inl rfl, trivial⟩ trivial trivial ?_
 refine tri_nil ?_
 refine tri_wk (wk_keep [] [(2, bv false), (3, .fr (slA 6 cTh (thL q))), (5, .fr (slA 6 cTh (thL q))), (7, iv 0)] (n := 47) rfl (by kernel_rfl) (by kernel_rfl)) ?_
 refine t_then ?_
 refine tri_block ?_
 refine tri_loop (σ := {k : Nat // k ≤ (thL q).length}) (fun s => (ofL [], ofT 47 [(3, .fr (slA 6 cTh (thL q))), (5, .fr (slA 6 cTh (thL q))), (7, iv s.1)])) (fun s => (thL q).length - s.1) ⟨0, Nat.zero_le _⟩ (wk_keep [] _ rfl (by kernel_rfl) (by kernel_rfl)) (fun s => ?_)
 obtain ⟨k, hk0⟩ := s
 show ETri TabW w0 (ofL []) (ofT 47 [(3, .fr (slA 6 cTh (thL q))), (5, .fr (slA 6 cTh (thL q))), (7, iv k)]) _
 refine tri_seq ?_
 refine tri_seq ?_
 by_cases hs2 : ((k : Nat) : Int) < (((thL q).length : Nat) : Int)
 refine tri_region ?_
 refine t_op rfl (sp_move (.tmp 7) (iv k) rfl) ⟨.inl rfl, trivial⟩ trivial trivial ?_
 refine t_op rfl (sp_move (.tmp 3) (.fr (slA 6 cTh (thL q))) rfl) ⟨.inl rfl, trivial⟩ trivial trivial ?_
 refine t_op rfl (sp_lenSl (.tmp 32) rfl Tryd.underlying49) ⟨.inr (.inl rfl), trivial⟩ trivial trivial ?_
 refine t_op rfl (sp_lss rfl (dT hs2)) ⟨.inl rfl, .inl rfl, trivial⟩ trivial trivial ?_
 refine tri_nil ?_
 refine tri_wk (wk_keep [] [(3, .fr (slA 6 cTh (thL q))), (5, .fr (slA 6 cTh (thL q))), (7, iv k), (34, bv true)] (n := 47) rfl (by kernel_rfl) (by kernel_rfl)) ?_
 refine t_then ?_
 refine t_condT rfl ?_
 refine tri_skip ?_
 refine t_then ?_
 refine tri_seq ?_
 refine tri_block ?_
 refine tri_seq ?_
 refine tri_draw [⟨[(.tmp 3, .fr (slA 6 cTh (thL q)))], [], .fr (slA 6 cTh (thL q)), .no⟩, ⟨[(.tmp 7, iv k)], [], iv k, .no⟩, ⟨[(.tmp 37, slA 6 cTh (thL q)), (.tmp 38, iv k)], [], .el ((thL q).flatMap cTh) (k * 6), .no⟩, ⟨[(.tmp 39, .el ((thL q).flatMap cTh) (k * 6))], [], .agg (cTh (thL q)[k]), .no⟩, ⟨[(.tmp 5, .fr (slA 6 cTh (thL q)))], [], .fr (slA 6 cTh (thL q)), .no⟩, ⟨[(.tmp 7, iv k)], [], iv k, .no⟩, ⟨[(.tmp 41, slA 6 cTh (thL q)), (.tmp 42, iv k)], [], .el ((thL q).flatMap cTh) (k * 6), .no⟩, ⟨[(.tmp 43, .el ((thL q).flatMap cTh) (k * 6))], [], .agg (cTh (thL q)[k]), .no⟩, ⟨[(.tmp 40, .agg (cTh (thL q)[k])), (.tmp 44, .agg (cTh (thL q)[k]))], [], bv false, .no⟩] (by kernel_rfl) (by kernel_rfl) ?_
 refine ⟨app_yes rfl (sp_move (.tmp 3) (.fr (slA 6 cTh (thL q))) rfl) ⟨.inl rfl, trivial⟩ trivial trivial, ?_⟩
 refine ⟨app_yes rfl (sp_move (.tmp 7) (iv k) rfl) ⟨.inl rfl, trivial⟩ trivial trivial, ?_⟩
 refine ⟨app_yes rfl (sp_indexSl (off := k * 6) (.tmp 37) (.tmp 38) rfl Tryd.underlying49 (by kernel_rfl) (by omega) (by omega) rfl) ⟨.inr (.inl rfl), .inl rfl, trivial⟩ trivial trivial, ?_⟩
 refine ⟨app_yes rfl (sp_loadElS (z := 6) (.tmp 39) rfl Tryd.underlying55 rfl (by kernel_rfl) (flat_take lenTh (thL q) k (by omega)) rfl) ⟨.inl rfl, trivial⟩ trivial trivial, ?_⟩
 refine ⟨app_yes rfl (sp_move (.tmp 5) (.fr (slA 6 cTh (thL q))) rfl) ⟨.inl rfl, trivial⟩ trivial trivial, ?_⟩
 refine ⟨app_yes rfl (sp_move (.tmp 7) (iv k) rfl) ⟨.inl rfl, trivial⟩ trivial trivial, ?_⟩
 refine ⟨app_yes rfl (sp_indexSl (off := k * 6) (.tmp 41) (.tmp 42) rfl Tryd.underlying49 (by kernel_rfl) (by omega) (by omega) rfl) ⟨.inr (.inl rfl), .inl rfl, trivial⟩ trivial trivial, ?_⟩
 refine ⟨app_yes rfl (sp_loadElS (z := 6) (.tmp 43) rfl Tryd.underlying55 rfl (by kernel_rfl) (flat_take lenTh (thL q) k (by omega)) rfl) ⟨.inl rfl, trivial⟩ trivial trivial, ?_⟩
 refine ⟨app_yes rfl (sp_aggNeq [.int .i64 ((thL q)[k].msg), .int .i64 ((thL q)[k].coef), .int .i64 ((thL q)[k].bd.c), .int .i64 ((thL q)[k].bd.n), .int .i64 ((thL q)[k].bd.t), .int .i64 ((thL q)[k].bd.f)] rfl (by kernel_rfl) (fun w => eqn_th _ _ _ _ _ _ w)) ⟨.inl rfl, .inl rfl, trivial⟩ trivial trivial, ?_⟩
 show ETri TabW w0 _ _ _
 refine tri_wk (wk_keep [] [(3, .fr (slA 6 cTh (thL q))), (5, .fr (slA 6 cTh (thL q))), (7, iv k), (34, bv true), (45, bv false)] (n := 47) rfl (by kernel_rfl) (by kernel_rfl)) ?_
 refine t_then ?_
 refine t_condF rfl ?_
 refine tri_skip ?_
 refine t_block ?_
 refine t_then ?_
 refine tri_region ?_
 refine t_op rfl (sp_move (.tmp 7) (iv k) rfl) ⟨.inl rfl, trivial⟩ trivial trivial ?_
 refine t_op rfl (sp_add (c := ((k + 1 : Nat) : Int)) rfl (w64 (by omega) (by omega) (by omega))) ⟨.inl rfl, .inl rfl, trivial⟩ trivial trivial ?_
 refine t_op rfl (sp_assign (.tmp 36) (iv (k + 1 : Nat)) rfl) ⟨.inl rfl, trivial⟩ trivial trivial ?_
 refine tri_nil ?_
 refine tri_wk (wk_keep [] [(3, .fr (slA 6 cTh (thL q))), (5, .fr (slA 6 cTh (thL q))), (7, iv (k + 1 : Nat)), (34, bv true), (45, bv false)] (n := 47) rfl (by kernel_rfl) (by kernel_rfl)) ?_
 refine t_then ?_
 refine tri_again ⟨k + 1, by omega⟩ (show (thL q).length - (k + 1) < (thL q).length - k by omega) ?_
 exact wk_keep [] _ rfl (by kernel_rfl) (by kernel_rfl)
 refine tri_region ?_
 refine t_op rfl (sp_move (.tmp 7) (iv k) rfl) ⟨.inl rfl, trivial⟩ trivial trivial ?_
 refine t_op rfl (sp_move (.tmp 3) (.fr (slA 6 cTh (thL q))) rfl) ⟨.inl rfl, trivial⟩ trivial trivial ?_
 refine t_op rfl (sp_lenSl (.tmp 32) rfl Tryd.underlying49) ⟨.inr (.inl rfl), trivial⟩ trivial trivial ?_
 refine t_op rfl (sp_lss rfl (dF hs2)) ⟨.inl rfl, .inl rfl, trivial⟩ trivial trivial ?_
 refine tri_nil ?_
 refine tri_wk (wk_keep [] [(3, .fr (slA 6 cTh (thL q))), (5, .fr (slA 6 cTh (thL q))), (7, iv k), (34, bv false)] (n := 47) rfl (by kernel_rfl) (by kernel_rfl)) ?_
 refine t_then ?_
 refine t_condF rfl ?_
 refine tri_exit ?_
 refine t_then_exit ?_
 refine t_then_exit ?_
 refine t_hit ?_
 refine t_then ?_
 refine tri_seq ?_
 refine tri_region ?_
 refine t_op rfl (sp_call (c := .func 14) (xs := #[]) [] known_c rfl (by kernel_rfl) rfl (Xs := []) rfl rfl rfl) ⟨.inl rfl, trivial⟩ trivial trivial ?_
 refine t_op rfl (sp_assign (.tmp 46) (bv true) rfl) ⟨.inl rfl, trivial⟩ trivial trivial ?_
 refine tri_nil ?_
 refine tri_wk (wk_keep [] [(2, bv true)] (n := 47) rfl (by kernel_rfl) (by kernel_rfl)) ?_
 refine t_then ?_
 refine tri_ret ?_
 refine tri_end1 Tryd.results8 (.tmp rfl) ?_
 exact rfl
theorem walk_Thresholds {v : Value} {q : Fm} (w : World) (hq : IsFam 0 w v q) (ht : TabW w) :
    Calls Tryd.prog 8 #[v] w fun e w' => e = .returned (.bool true) ∧ Below w.heap.size w w' :=
  walk1 (lawThresholds_c hq.ok) (famw hq) ht
end Go.Proofs.YtmpbfdfjcfanoaaDoor

/-
  THE TABLE THAT strconv READS, out of a row's condition on the listed variables.
-/
namespace Go.Proofs.YtmpbfdfjcfanoaaDoor
open Go.RowKit Go.Deep

theorem tab_of_laid {W : World} (h : laidMetH Tryd.prog [("math/bits.deBruijn32tab", Rows.laid_math_bits_deBruijn32tab), ("math/bits.deBruijn64tab", Rows.laid_math_bits_deBruijn64tab), ("internal/strconv.uint64pow10", Rows.laid_internal_strconv_uint64pow10)] W) : TabW W := by
  have h1 := h.filter fun x => x.1 == "internal/strconv.uint64pow10"
  have h2 := (laidMetH_iff.1 h1).1
  have e : ((([("math/bits.deBruijn32tab", Rows.laid_math_bits_deBruijn32tab), ("math/bits.deBruijn64tab", Rows.laid_math_bits_deBruijn64tab), ("internal/strconv.uint64pow10", Rows.laid_internal_strconv_uint64pow10)] : List (String × DataW Unit)).filter fun x => x.1 == "internal/strconv.uint64pow10").filter fun x => x.2.handleName?.isNone) = [("internal/strconv.uint64pow10", Go.Lib.tabData .u64 Go.Lib.pow10Tab)] := by kernel_rfl
  rw [e] at h2
  exact Go.Lib.tabIs_of_head (g := 0) (t := 142) (e := 134) (n := 20) (by kernel_rfl) (by kernel_rfl) Tryd.underlying142 Tryd.underlying134 (by kernel_rfl) (by kernel_rfl) h2
end Go.Proofs.YtmpbfdfjcfanoaaDoor
