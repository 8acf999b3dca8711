import Derived.Test.YtmpbfdfjcfanoaaDoorProg
import Derived.Laws.StructEq
import Derived.Laws.Tables
import Derived.Test.YtmpbfdfjcfanoaaDoorGrpdmhkgkhd
import Derived.Test.YtmpbfdfjcfanoaaDoorGrpcdpephbp
import Derived.Test.YtmpbfdfjcfanoaaDoorGrpelhnkfnn
import Derived.Test.YtmpbfdfjcfanoaaDoorGrpmimdldbm
set_option linter.all false
/-
  Sizes AND Admissible OF THE PROGRAM.
-/
namespace Go.Proofs.YtmpbfdfjcfanoaaDoor
open Go.RowKit Go.Deep
structure Sz where
  n : Int
  t : Int
  f : Int
  deriving DecidableEq, Inhabited
def szC (s : Sz) : List Value := [.int .i64 s.n, .int .i64 s.t, .int .i64 s.f]
def szI (s : Sz) : Prop := I64 s.n ∧ I64 s.t ∧ I64 s.f
def SzEl (_ : Nat) (_ : World) (cs : List Value) (s : Sz) : Prop := cs = szC s ∧ szI s
theorem sflat_len (l : List Sz) : (l.flatMap szC).length = l.length * 3 := by
  induction l with
  | nil => rfl
  | cons x xs ih => rw [List.flatMap_cons, List.length_append, ih, List.length_cons]; simp [szC]; omega
theorem sflat_get : ∀ (l : List Sz) (i : Nat) (hi : i < l.length) (j : Nat), j < 3 → (l.flatMap szC)[i * 3 + j]? = (szC l[i])[j]?
  | [], i, hi, _, _ => absurd hi (by simp)
  | x :: xs, 0, _, j, hj => by
    rw [List.flatMap_cons, List.getElem?_append_left (by simp [szC]; omega)]
    simp
  | x :: xs, i + 1, hi, j, hj => by
    rw [List.flatMap_cons, List.getElem?_append_right (by simp [szC]; omega), show (i + 1) * 3 + j - (szC x).length = i * 3 + j by simp [szC]; omega]
    exact sflat_get xs i (by simpa using hi) j hj
/-- A list of sizes that the call has made. -/
def OwnSz (lo : Nat) (w : World) (v : Value) (l : List Sz) : Prop := w.ownsRow lo 44 3 v l.length (l.flatMap szC) ∧ ∀ g ∈ l, szI g
theorem OwnSz.nil (lo : Nat) (w : World) : OwnSz lo w (.slice none 0 0) [] := ⟨World.ownsRow_nil _ _ _ _, by simp⟩
theorem OwnSz.still {lo : Nat} {w w' : World} {v : Value} {l : List Sz} (h : OwnSz lo w v l) (hb : Below w.heap.size w w') : OwnSz lo w' v l := ⟨row_still h.1 hb, h.2⟩
theorem OwnSz.sl {lo : Nat} {w : World} {v : Value} {l : List Sz} (h : OwnSz lo w v l) : IsSl 3 SzEl lo w v l := by
  obtain ⟨⟨hl, h2⟩, hI⟩ := h
  rcases h2 with ⟨rfl, h0⟩ | ⟨g, cap, cur, rfl, hb, hg, hn, hm, hc, ht⟩
  · exact ⟨none, 0, by rw [h0], by omega, by simp [maxLen], fun _ => rfl, .inl (List.eq_nil_of_length_eq_zero h0)⟩
  · refine ⟨_, _, rfl, hn, hm, by simp, .inr ⟨g, 0, rfl, hb, (Array.getElem?_eq_some_iff.1 hg).1, fun i hi => ⟨szC l[i], rfl, fun j hj => ?_, rfl, hI _ (List.getElem_mem hi)⟩⟩⟩
    have hcell : w.cell? ⟨g, 0 + i * 3 + j, none⟩ = cur[i * 3 + j]? := by
      simp only [World.cell?, hg]; simp
    rw [hcell, ← Array.getElem?_toList, show cur.toList[i * 3 + j]? = (cur.toList.take (l.length * 3))[i * 3 + j]? by rw [List.getElem?_take_of_lt (by omega)], ht]
    exact sflat_get l i hi j hj
theorem szrow_lower {w : World} {B B' : Nat} {e : TypeId} {size n : Nat} {v : Value} {xs : List Value} (h : w.ownsRow B e size v n xs) (hb : B' ≤ B) : w.ownsRow B' e size v n xs := by
  obtain ⟨h1, h2⟩ := h
  refine ⟨h1, ?_⟩
  rcases h2 with h2 | ⟨g, cap, cur, hv, hg, r⟩
  · exact .inl h2
  · exact .inr ⟨g, cap, cur, hv, Nat.le_trans hb hg, r⟩
theorem elSz : ElT Tryd.prog 46 44 (.agg #[.int .i64 0, .int .i64 0, .int .i64 0]) 3 24 := ⟨Tryd.underlying46, by kernel_rfl, rfl, by decide⟩
theorem info_sz : (Tryd.prog.info? 44).map (·.size) = some 3 := by kernel_rfl
/-- The admissible sizes with n processes and f, t below T. -/
def rowS (q : Fm) (n f : Int) (T : Nat) : List Sz := ((List.range T).map fun t : Nat => (⟨n, t, f⟩ : Sz)).filter fun s => admB q s.n s.t s.f
/-- All of them with f below F. -/
def allS (q : Fm) (n : Int) (m F : Nat) : List Sz := (List.range F).flatMap fun f : Nat => rowS q n f m
theorem rowS_yes {q : Fm} {n f : Int} {T : Nat} (h : admB q n T f = true) : rowS q n f (T + 1) = rowS q n f T ++ [⟨n, T, f⟩] := by
  unfold rowS; rw [List.range_succ, List.map_append, List.filter_append]; simp [h]
theorem rowS_no {q : Fm} {n f : Int} {T : Nat} (h : admB q n T f = false) : rowS q n f (T + 1) = rowS q n f T := by
  unfold rowS; rw [List.range_succ, List.map_append, List.filter_append]; simp [h]
theorem allS_succ {q : Fm} {n : Int} {m F : Nat} : allS q n m (F + 1) = allS q n m F ++ rowS q n F m := by
  unfold allS; rw [List.range_succ, List.flatMap_append]; simp
def szE (q : Fm) (n : Int) : Int := if valE q ≠ 0 then valE q else if inB 1 8 n = false then 1 else 0
def szL (q : Fm) (n : Int) : List Sz := if szE q n = 0 then allS q n (n.toNat + 1) (n.toNat + 1) else []
theorem Admissible_any_start : True := trivial
set_option maxRecDepth 100000 in
set_option maxHeartbeats 6400000 in
theorem Admissible_any {lo : Nat} {w : World} {v : Value} {q : Fm} (n t f : Int) (hq : IsFam lo w v q) :
    Calls Tryd.prog 21 #[v, .agg #[.int .i64 n, .int .i64 t, .int .i64 f]] w fun e w' => e = .returned (.bool (decide (valE q = 0) && admB q n t f)) ∧ Below w.heap.size w w' := by
  have HQ := Lib.hid hq
  obtain ⟨v2, v3, v4, v6, v7, v8, v9, rfl, hnm, _, h2, h3, h4, _, h6, h7, h8, h9⟩ := hq
  obtain ⟨a2, c2, rfl⟩ := h2.shape
  obtain ⟨a3, c3, rfl⟩ := h3.shape
  obtain ⟨a4, c4, rfl⟩ := h4.shape
  obtain ⟨a6, c6, rfl⟩ := h6.shape
  obtain ⟨a7, c7, rfl⟩ := h7.shape
  obtain ⟨a8, c8, rfl⟩ := h8.shape
  obtain ⟨a9, c9, rfl⟩ := h9.shape
  have H9 := Lib.hid h9
  clear hnm h2 h3 h4 h6 h7 h8 h9
  clear H9
  go_enter Tryd.func21, Tryd.ntmps21
  go_upto_region 1 with (fail)
  obtain ⟨W, hW⟩ : ∃ W : World, W = (w.alloc (.cells #[.string q.nm, .int .i64 q.top, .slice a2 q.states.length c2, .slice a3 q.msgs.length c3, .slice a4 q.vals.length c4, .int .i64 q.fault, .slice a6 q.res.length c6, .slice a7 q.init.length c7, .slice a8 q.leader.length c8, .slice a9 q.rules.length c9] 27)).alloc (.cells #[.int .i64 n, .int .i64 t, .int .i64 f] 44) := ⟨_, rfl⟩
  rw [← hW]
  have WB := Lib.hid (show Below w.heap.size w W by rw [hW]; go_grown)
  have WP := Lib.hid (show W.heap[w.heap.size]? = some (.cells #[.string q.nm, .int .i64 q.top, .slice a2 q.states.length c2, .slice a3 q.msgs.length c3, .slice a4 q.vals.length c4, .int .i64 q.fault, .slice a6 q.res.length c6, .slice a7 q.init.length c7, .slice a8 q.leader.length c8, .slice a9 q.rules.length c9] 27 (0, 0)) by rw [hW]; exact (heap_old _ _ (by simp)).trans (heap_new _ _ rfl))
  have WS := Lib.hid (show W.heap[w.heap.size + 1]? = some (.cells #[.int .i64 n, .int .i64 t, .int .i64 f] 44 (0, 0)) by rw [hW]; exact heap_new _ _ (by simp))
  clear hW
  have WPn := Lib.hid (show ∀ n : WIn (Below W.heap.size W), n.val.heap[w.heap.size]? = some (.cells #[.string q.nm, .int .i64 q.top, .slice a2 q.states.length c2, .slice a3 q.msgs.length c3, .slice a4 q.vals.length c4, .int .i64 q.fault, .slice a6 q.res.length c6, .slice a7 q.init.length c7, .slice a8 q.leader.length c8, .slice a9 q.rules.length c9] 27 (0, 0)) from fun n => keepB WP.out n.ok)
  have WBn := Lib.hid (show ∀ n : WIn (Below W.heap.size W), Below w.heap.size w n.val from fun n => thenBelow WB.out n.ok)
  have WSn := Lib.hid (show ∀ n' : WIn (Below W.heap.size W), n'.val.heap[w.heap.size + 1]? = some (.cells #[.int .i64 n, .int .i64 t, .int .i64 f] 44 (0, 0)) from fun n' => keepB WS.out n'.ok)
  have s0 : ∀ n' : WIn (Below W.heap.size W), n'.val.cell? ⟨w.heap.size + 1, 0, none⟩ = some (.int .i64 n) := fun n' => cellB (WSn.out n') 0 rfl
  have s1 : ∀ n' : WIn (Below W.heap.size W), n'.val.cell? ⟨w.heap.size + 1, 1, none⟩ = some (.int .i64 t) := fun n' => cellB (WSn.out n') 1 rfl
  have s2 : ∀ n' : WIn (Below W.heap.size W), n'.val.cell? ⟨w.heap.size + 1, 2, none⟩ = some (.int .i64 f) := fun n' => cellB (WSn.out n') 2 rfl
  by_cases v0 : valE q = 0
  · have V0 := Lib.hid v0
    clear v0
    refine wp_cls_seq ?_
    refine BigFrame.wpQuiet_want (by rfl) (fun K hK => ?_)
    refine quiet_ld Tryd.underlying27 info_prot (.tmp 2) (by rfl) w.heap.size 0 [.string q.nm, .int .i64 q.top, .slice a2 q.states.length c2, .slice a3 q.msgs.length c3, .slice a4 q.vals.length c4, .int .i64 q.fault, .slice a6 q.res.length c6, .slice a7 q.init.length c7, .slice a8 q.leader.length c8, .slice a9 q.rules.length c9] (by rfl) (by rfl) (by rintro _ ⟨n', rfl⟩; exact rangeBlock (WPn.out n')) (hK _ ?_)
    clear hK K
    simp only [Act.put, List.setIfInBounds_toArray, List.set_cons_succ, List.set_cons_zero]
    go_big_quiet_step (((with_reducible refine (Validate_any (HQ.out.below (WBn.out _))).mono ?_); rw [V0.out]; rintro e w1 ⟨rfl, hb⟩; exact ⟨rfl, ⟨w1, thenBelow (WIn.ok _) hb⟩, rfl⟩))
    iterate 2 go_big_quiet_step (fail)
    refine BigFrame.wpQuiet_want (by rfl) (fun K hK => ?_)
    refine quiet_ld Tryd.underlying27 info_prot (.tmp 2) (by rfl) w.heap.size 0 [.string q.nm, .int .i64 q.top, .slice a2 q.states.length c2, .slice a3 q.msgs.length c3, .slice a4 q.vals.length c4, .int .i64 q.fault, .slice a6 q.res.length c6, .slice a7 q.init.length c7, .slice a8 q.leader.length c8, .slice a9 q.rules.length c9] (by rfl) (by rfl) (by rintro _ ⟨n', rfl⟩; exact rangeBlock (WPn.out n')) (hK _ ?_)
    clear hK K
    simp only [Act.put, List.setIfInBounds_toArray, List.set_cons_succ, List.set_cons_zero]
    iterate 1 go_big_quiet_step (fail)
    go_big_quiet_step (((with_reducible refine (admits_any n t f (HQ.out.below (WBn.out _))).mono ?_); rintro e w1 ⟨rfl, hb⟩; exact ⟨rfl, ⟨w1, thenBelow (WIn.ok _) hb⟩, rfl⟩))
    repeat (go_big_quiet_step (fail))
    refine wpQuiet_nil ?_
    intro n'
    go_wp2_with fail
    go_ret
    exact ⟨ret_bool (by rw [V0.out]; simp), WBn.out n'⟩
  · have V0 := Lib.hid v0
    have i0 : (valE q == 0) = false := by simpa using v0
    clear v0
    refine wp_cls_seq ?_
    refine BigFrame.wpQuiet_want (by rfl) (fun K hK => ?_)
    refine quiet_ld Tryd.underlying27 info_prot (.tmp 2) (by rfl) w.heap.size 0 [.string q.nm, .int .i64 q.top, .slice a2 q.states.length c2, .slice a3 q.msgs.length c3, .slice a4 q.vals.length c4, .int .i64 q.fault, .slice a6 q.res.length c6, .slice a7 q.init.length c7, .slice a8 q.leader.length c8, .slice a9 q.rules.length c9] (by rfl) (by rfl) (by rintro _ ⟨n', rfl⟩; exact rangeBlock (WPn.out n')) (hK _ ?_)
    clear hK K
    simp only [Act.put, List.setIfInBounds_toArray, List.set_cons_succ, List.set_cons_zero]
    go_big_quiet_step (((with_reducible refine (Validate_any (HQ.out.below (WBn.out _))).mono ?_); rintro e w1 ⟨rfl, hb⟩; exact ⟨rfl, ⟨w1, thenBelow (WIn.ok _) hb⟩, rfl⟩))
    repeat (go_big_quiet_step (fail))
    refine wpQuiet_nil ?_
    intro n'
    go_wp2_with fail
    go_ret
    exact ⟨ret_bool (by simp [V0.out]), WBn.out n'⟩
theorem szI_mk {a b c : Nat} (ha : a ≤ 100) (hb : b ≤ 100) (hc : c ≤ 100) : szI ⟨a, b, c⟩ := by
  refine ⟨?_, ?_, ?_⟩ <;> (show I64 (_ : Int); dsimp only; constructor <;> omega)
theorem ret_tup {u : Value} {a b : Int} (h : a = b) : Ending.returned (.tuple #[u, .int .i64 a]) = .returned (.tuple #[u, .int .i64 b]) := by rw [h]
set_option maxRecDepth 100000 in
set_option maxHeartbeats 12800000 in
theorem Sizes_any {lo : Nat} {w : World} {v : Value} {q : Fm} (n : Int) (hq : IsFam lo w v q) :
    Calls Tryd.prog 23 #[v, .int .i64 n] w fun e w' => ∃ v', e = .returned (.tuple #[v', .int .i64 (szE q n)]) ∧ OwnSz w.heap.size w' v' (szL q n) ∧ Below w.heap.size w w' := by
  have HQ := Lib.hid hq
  obtain ⟨v2, v3, v4, v6, v7, v8, v9, rfl, hnm, _, h2, h3, h4, _, h6, h7, h8, h9⟩ := hq
  obtain ⟨a2, c2, rfl⟩ := h2.shape
  obtain ⟨a3, c3, rfl⟩ := h3.shape
  obtain ⟨a4, c4, rfl⟩ := h4.shape
  obtain ⟨a6, c6, rfl⟩ := h6.shape
  obtain ⟨a7, c7, rfl⟩ := h7.shape
  obtain ⟨a8, c8, rfl⟩ := h8.shape
  obtain ⟨a9, c9, rfl⟩ := h9.shape
  have H9 := Lib.hid h9
  clear hnm h2 h3 h4 h6 h7 h8 h9
  clear H9
  go_enter Tryd.func23, Tryd.ntmps23
  go_upto_region 1 with (fail)
  obtain ⟨W, hW⟩ : ∃ W : World, W = (w.alloc (.cells #[.string q.nm, .int .i64 q.top, .slice a2 q.states.length c2, .slice a3 q.msgs.length c3, .slice a4 q.vals.length c4, .int .i64 q.fault, .slice a6 q.res.length c6, .slice a7 q.init.length c7, .slice a8 q.leader.length c8, .slice a9 q.rules.length c9] 27)) := ⟨_, rfl⟩
  rw [← hW]
  have WB := Lib.hid (show Below w.heap.size w W by rw [hW]; exact allocBelow _ _)
  have WP := Lib.hid (show W.heap[w.heap.size]? = some (.cells #[.string q.nm, .int .i64 q.top, .slice a2 q.states.length c2, .slice a3 q.msgs.length c3, .slice a4 q.vals.length c4, .int .i64 q.fault, .slice a6 q.res.length c6, .slice a7 q.init.length c7, .slice a8 q.leader.length c8, .slice a9 q.rules.length c9] 27 (0, 0)) by rw [hW]; exact heap_new _ _ rfl)
  clear hW
  by_cases v0 : valE q = 0
  rotate_left
  · have V0 := Lib.hid v0
    have i0 : (valE q != 0) = true := by simpa using v0
    have E : szE q n = valE q := by unfold szE; rw [if_pos v0]
    have EL : szL q n = [] := by unfold szL; rw [if_neg (by rw [E]; exact v0)]
    have HE := Lib.hid E
    have HL := Lib.hid EL
    clear E EL v0
    refine wp_region_lit ?_
    refine ld_mid Tryd.underlying27 info_prot (by rfl) (.tmp 2) (by rfl) w.heap.size 0 [.string q.nm, .int .i64 q.top, .slice a2 q.states.length c2, .slice a3 q.msgs.length c3, .slice a4 q.vals.length c4, .int .i64 q.fault, .slice a6 q.res.length c6, .slice a7 q.init.length c7, .slice a8 q.leader.length c8, .slice a9 q.rules.length c9] (by rfl) (by rfl) (rangeBlock WP.out) ?_
    go_wp2_with (go_at_call 16; (with_reducible refine (Validate_any (HQ.out.below WB.out)).mono ?_); rintro e Y ⟨rfl, hb⟩; have YB := Lib.hid (thenBelow WB.out hb); clear hb)
    go_ret2
    exact ⟨_, ret_tup HE.out.symm, by rw [HL.out]; exact OwnSz.nil _ _, YB.out⟩
  · have V0 := Lib.hid v0
    clear v0
    refine wp_region_lit ?_
    refine ld_mid Tryd.underlying27 info_prot (by rfl) (.tmp 2) (by rfl) w.heap.size 0 [.string q.nm, .int .i64 q.top, .slice a2 q.states.length c2, .slice a3 q.msgs.length c3, .slice a4 q.vals.length c4, .int .i64 q.fault, .slice a6 q.res.length c6, .slice a7 q.init.length c7, .slice a8 q.leader.length c8, .slice a9 q.rules.length c9] (by rfl) (by rfl) (rangeBlock WP.out) ?_
    refine wpList_step fun K hK => ?_
    go_simp
    go_at_call 16
    (with_reducible refine (Validate_any (HQ.out.below WB.out)).mono ?_)
    rw [V0.out]
    rintro e Y ⟨rfl, hb⟩
    have YB := Lib.hid (thenBelow WB.out hb)
    have YP := Lib.hid (keepB WP.out hb)
    go_simp
    refine hK _ _ ?_
    clear hK K hb WB WP
    cases n0 : inB 1 8 n with
    | false =>
      have N0 := Lib.hid n0
      have E : szE q n = 1 := by unfold szE; rw [if_neg (by rw [V0.out]; simp), if_pos n0]
      have EL : szL q n = [] := by unfold szL; rw [if_neg (by rw [E]; decide)]
      have HE := Lib.hid E
      have HL := Lib.hid EL
      clear E EL n0
      go_wp2_with (go_at_call 44; (with_reducible refine (between_is N0.out _).mono ?_); rintro e w1 ⟨rfl, rfl⟩)
      go_ret2
      exact ⟨_, ret_tup HE.out.symm, by rw [HL.out]; exact OwnSz.nil _ _, YB.out⟩
    | true =>
      obtain ⟨m, rfl, hm1, hm8⟩ : ∃ m : Nat, n = m ∧ 1 ≤ m ∧ m ≤ 8 := by
        unfold inB at n0; simp only [Bool.and_eq_true, decide_eq_true_eq] at n0
        exact ⟨n.toNat, by omega, by omega, by omega⟩
      have N0 := Lib.hid n0
      have E : szE q m = 0 := by unfold szE; rw [if_neg (by rw [V0.out]; simp), if_neg (by rw [n0]; simp)]
      have EL : szL q m = allS q m (m + 1) (m + 1) := by unfold szL; rw [if_pos E]; simp
      have HE := Lib.hid E
      have HL := Lib.hid EL
      clear E EL n0
      go_wp2_with (go_at_call 44; (with_reducible refine (between_is N0.out _).mono ?_); rintro e w1 ⟨rfl, rfl⟩)
      go_loopw [7, 21] (fun v u wr => ∃ (F : Nat) (a : Option Addr) (c : Nat) (l : List Sz), F ≤ m + 1 ∧ u = .int .i64 F ∧ v = .slice a l.length c ∧ l = allS q m (m + 1) F ∧ l.length ≤ F * 9 ∧ OwnSz Y.heap.size wr (.slice a l.length c) l ∧ Below Y.heap.size Y wr) (fun _ u _ => m + 1 - (intOf u).toNat)
      case atStart => exact ⟨0, none, 0, [], by omega, rfl, rfl, rfl, by simp, OwnSz.nil _ _, Below.refl _ _⟩
      case round =>
        obtain ⟨F, a, ca, l, hF, rfl, rfl, hl, hlen, hO, hB⟩ := hrel
        have HO := Lib.hid hO
        have HB := Lib.hid hB
        have HLI := Lib.hid hl
        clear hO hB hl
        by_cases h1 : F < m + 1
        · have h1i : ((F : Nat) : Int) < (m : Int) + 1 := by omega
          go_wp2_with fail
          go_loopw [7, 26] (fun v u wr' => ∃ (T : Nat) (a : Option Addr) (c : Nat) (l' : List Sz), T ≤ m + 1 ∧ u = .int .i64 T ∧ v = .slice a l'.length c ∧ l' = l ++ rowS q m F T ∧ l'.length ≤ l.length + T ∧ OwnSz Y.heap.size wr' (.slice a l'.length c) l' ∧ Below Y.heap.size Y wr') (fun _ u _ => m + 1 - (intOf u).toNat)
          case atStart => exact ⟨0, a, ca, l, Nat.zero_le _, rfl, rfl, by simp [rowS], Nat.le_refl _, HO.out, HB.out⟩
          case round =>
            obtain ⟨T, aj, cj, l', hT, rfl, rfl, hl', hlen', hOj, hBj⟩ := hrel
            have HOj := Lib.hid hOj
            have HBj := Lib.hid hBj
            have HLJ := Lib.hid hl'
            clear hOj hBj hl'
            by_cases h2 : T < m + 1
            · have h2i : ((T : Nat) : Int) < (m : Int) + 1 := by omega
              obtain ⟨X, hX⟩ : ∃ X : World, X = wr := ⟨_, rfl⟩
              rw [← hX] at HOj HBj ⊢
              clear hX
              go_upto_region 13 with (fail)
              refine wp_region_lit ?_
              iterate 5
                refine wpList_step fun K hK => ?_
                go_simp
                refine hK _ _ ?_
                clear hK K
              refine st_whole (T := 44) info_sz (by rfl) (.tmp 10) (.tmp 32) (by rfl) X.heap.size (szC ⟨m, T, F⟩) (by rfl) (by rfl) (by rfl) (heap_new _ _ rfl) (by rfl) (by intro v hv; simp [szC] at hv; rcases hv with rfl | rfl | rfl <;> rfl) (fun Z hZ hbl hsz _ => ?_)
              have ZB := Lib.hid (show Below Y.heap.size Y Z from hbl _ _ HBj.out.size (HBj.out.trans ((allocBelow X _).mono HBj.out.size)))
              have ZR := Lib.hid (show Below X.heap.size X Z from hbl _ _ (Nat.le_refl _) (allocBelow X _))
              have y0 : Z.cell? ⟨X.heap.size, 0, none⟩ = some (.int .i64 m) := cellB hZ 0 (by rfl)
              have y1 : Z.cell? ⟨X.heap.size, 1, none⟩ = some (.int .i64 T) := cellB hZ 1 (by rfl)
              have y2 : Z.cell? ⟨X.heap.size, 2, none⟩ = some (.int .i64 F) := cellB hZ 2 (by rfl)
              have ZO := Lib.hid (HOj.out.still ZR.out)
              have ZP := Lib.hid (keepB YP.out ZB.out)
              have hZs : X.heap.size < Z.heap.size := by rw [hsz]; simp
              have HZS := Lib.hid hZs
              clear hZ hbl hsz ZR
              refine wpList_nil ?_
              simp only [Act.put]
              go_upto_region 14 with (fail)
              refine wp_region_lit ?_
              refine ld_mid Tryd.underlying27 info_prot (by rfl) (.tmp 2) (by rfl) w.heap.size 0 [.string q.nm, .int .i64 q.top, .slice a2 q.states.length c2, .slice a3 q.msgs.length c3, .slice a4 q.vals.length c4, .int .i64 q.fault, .slice a6 q.res.length c6, .slice a7 q.init.length c7, .slice a8 q.leader.length c8, .slice a9 q.rules.length c9] (by rfl) (by rfl) (rangeBlock ZP.out) ?_
              cases hA : admB q m T F with
              | false =>
                have HA := Lib.hid hA
                clear hA
                go_wp2_with (go_at_call 69; (with_reducible refine (admits_any m T F (HQ.out.below (thenBelow YB.out ZB.out))).mono ?_); rw [HA.out]; rintro e w2 ⟨rfl, hb2⟩; have HB2 := Lib.hid hb2; clear hb2)
                go_roundw
                case rel => exact ⟨T + 1, aj, cj, l', by omega, by go_num, rfl, by rw [HLJ.out, rowS_no HA.out], by omega, ZO.out.still HB2.out, thenBelow ZB.out HB2.out⟩
                case measure => simp [intOf]; omega
              | true =>
                have HA := Lib.hid hA
                clear hA
                go_wp2_with (first | (go_at_call 69; (with_reducible refine (admits_any m T F (HQ.out.below (thenBelow YB.out ZB.out))).mono ?_); rw [HA.out]; rintro e w2 ⟨rfl, hb2⟩; have HB2 := Lib.hid hb2; have HO2 := Lib.hid (ZO.out.still hb2); have h20 := keep1 y0 hb2; have h21 := keep1 y1 hb2; have h22 := keep1 y2 hb2; clear hb2) | (at_builtin; refine append_one elSz (by rfl) (.tmp 36) (.tmp 38) (by rfl) Y.heap.size _ l'.length _ (szC ⟨m, T, F⟩) w2.heap.size (by rfl) (by rfl) (by rfl) HO2.out.1 (by rfl) (by intro v hv; simp [szC] at hv; rcases hv with rfl | rfl | rfl <;> rfl) (by omega) (by unfold maxLen; omega) ((thenBelow ZB.out HB2.out).size) (by rfl) ?_; intro g cap w3 hown hgrow hat hlo hlt hsz))
                go_roundw
                case rel =>
                  refine ⟨T + 1, some ⟨g, 0, none⟩, cap, l' ++ [⟨m, T, F⟩], by omega, by go_num, by simp, by rw [HLJ.out, rowS_yes HA.out, List.append_assoc], by simp; omega, ⟨?_, ?_⟩, ?_⟩
                  · rw [List.length_append, List.flatMap_append]; simpa using hown
                  · intro y hy
                    rcases List.mem_append.1 hy with hy | hy
                    · exact HO2.out.2 y hy
                    · rw [List.mem_singleton.1 hy]; exact szI_mk (by omega) (by omega) (by omega)
                  · exact (thenBelow ZB.out HB2.out).grown hgrow (thenBelow ZB.out HB2.out).size (row_above HO2.out.1)
                case measure => simp [intOf]; omega
            · obtain rfl : T = m + 1 := by omega
              go_wp2_with fail
              go_roundw
              case rel => exact ⟨F + 1, aj, cj, l', by omega, by go_num, rfl, by rw [HLJ.out, HLI.out, allS_succ], by omega, HOj.out, HBj.out⟩
              case measure => simp [intOf]; omega
        · obtain rfl : F = m + 1 := by omega
          go_wp2_with fail
          go_ret2
          refine ⟨_, ret_tup HE.out.symm, ?_, thenBelow YB.out HB.out⟩
          rw [HL.out, ← HLI.out]
          exact ⟨szrow_lower HO.out.1 YB.out.size, HO.out.2⟩
end Go.Proofs.YtmpbfdfjcfanoaaDoor

/-
  A FAMILY IN MEMORY, AS THE RULES READ IT; the walk of a law out of its contract.
-/
namespace Go.Proofs.YtmpbfdfjcfanoaaDoor
open Go.RowKit Go.Deep
section
variable {F ok : Nat → Prop} {lo : Nat} {w : World}
theorem ln_pu (l : Ln) (vs : List Value) (h : LnEl lo w vs l) : ∀ j (hj : j < (cLn l).length), Pu F w ok (cLn l)[j] (vs.getD j undef) := by
  obtain ⟨rfl, _⟩ := h
  intro j hj
  match j, hj with
  | 0, _ => exact .v _
  | 1, _ => exact .v _
  | 2, _ => exact .v _
  | 3, _ => exact .v _
theorem str_pu (s : ByteArray) (vs : List Value) (h : StrEl lo w vs s) : ∀ j (hj : j < [sv s].length), Pu F w ok [sv s][j] (vs.getD j undef) := by
  obtain ⟨rfl, _⟩ := h
  intro j hj
  match j, hj with
  | 0, _ => exact .v _
theorem ru_pu (hok : ∀ b, lo ≤ b → b < w.heap.size → ok b) (r : Ru) (vs : List Value) (h : RuEl lo w vs r) : ∀ j (hj : j < (cRu r).length), Pu F w ok (cRu r)[j] (vs.getD j undef) := by
  obtain ⟨v6, v7, v8, v9, v12, v14, v15, v16, rfl, h0, h1, h2, h3, h4, h5, h6, h7, h8, h9, h10, h11, h12, h13, h14, h15, h16, h17⟩ := h
  intro j hj
  match j, hj with
  | 0, _ => exact .v _
  | 1, _ => exact .v _
  | 2, _ => exact .v _
  | 3, _ => exact .v _
  | 4, _ => exact .v _
  | 5, _ => exact .v _
  | 6, _ => exact ints_pu hok h6
  | 7, _ => exact sl_pu lenTh hok th_pu h7
  | 8, _ => exact ints_pu hok h8
  | 9, _ => exact ints_pu hok h9
  | 10, _ => exact .v _
  | 11, _ => exact .v _
  | 12, _ => exact ints_pu hok h12
  | 13, _ => exact .v _
  | 14, _ => exact ints_pu hok h14
  | 15, _ => exact ints_pu hok h15
  | 16, _ => exact ints_pu hok h16
  | 17, _ => exact .v _
  | j + 18, hj => exact absurd hj (by rw [lenRu]; omega)
theorem strs_pu (hok : ∀ b, lo ≤ b → b < w.heap.size → ok b) {v : Value} {xs : List ByteArray} (h : IsSl 1 StrEl lo w v xs) : Pu F w ok (strsA xs) v := by
  rw [fst1]; exact sl_pu lenStr hok str_pu h
theorem fam_pu (hok : ∀ b, lo ≤ b → b < w.heap.size → ok b) {v : Value} {q : Fm} (h : IsFam lo w v q) : Pu F w ok (.agg (cFm q)) v := by
  obtain ⟨v2, v3, v4, v6, v7, v8, v9, rfl, h0, h1, h2, h3, h4, h5, h6, h7, h8, h9⟩ := h
  refine .agg rfl fun j hj => ?_
  match j, hj with
  | 0, _ => exact .v _
  | 1, _ => exact .v _
  | 2, _ => exact strs_pu hok h2
  | 3, _ => exact strs_pu hok h3
  | 4, _ => exact strs_pu hok h4
  | 5, _ => exact .v _
  | 6, _ => exact sl_pu lenLn hok ln_pu h6
  | 7, _ => exact ints_pu hok h7
  | 8, _ => exact ints_pu hok h8
  | 9, _ => exact sl_pu lenRu hok (ru_pu hok) h9
end
/-- The cells of a size. -/
def cSz (n t f : Int) : List AV := [iv n, iv t, iv f]
theorem cells3 {vs : List Value} (h : vs.length = 3) : vs = [vs.getD 0 undef, vs.getD 1 undef, vs.getD 2 undef] := by
  match vs, h with
  | [_, _, _], _ => rfl
theorem sz_of {F ok : Nat → Prop} {w : World} {v : Value} {n t f : Int} (h : Pu F w ok (.agg (cSz n t f)) v) : v = .agg #[.int .i64 n, .int .i64 t, .int .i64 f] := by
  obtain ⟨vs, rfl, hl, hv⟩ := agg_cells h
  rw [cells3 hl, (hv 0 (by simp [cSz])).v_inv, (hv 1 (by simp [cSz])).v_inv, (hv 2 (by simp [cSz])).v_inv]
theorem sz_pu {F ok : Nat → Prop} {w : World} {n t f : Int} : Pu F w ok (.agg (cSz n t f)) (.agg #[.int .i64 n, .int .i64 t, .int .i64 f]) := by
  refine .agg rfl fun j hj => ?_
  match j, hj with
  | 0, _ => exact .v _
  | 1, _ => exact .v _
  | 2, _ => exact .v _
/-- The walk of a law, out of its contract. -/
theorem walk1 {f : FuncId} {A : AV} {w : World} {v : Value} (h : Ctr Tryd.prog TabW f [A] (bv true)) (hA : Pu (fun _ => True) w (fun b => b < w.heap.size) A v) (ht : TabW w) :
    Calls Tryd.prog f #[v] w fun e w' => e = .returned (.bool true) ∧ Below w.heap.size w w' :=
  (h w #[v] (fun _ hb => ht.below hb) rfl (fun j hj => by match j, hj with | 0, _ => exact hA)).mono fun _ _ ⟨_, he, hu, hb⟩ => ⟨by rw [he, hu.v_inv], hb⟩
theorem walk2 {f : FuncId} {A B : AV} {w : World} {v v' : Value} (h : Ctr Tryd.prog TabW f [A, B] (bv true)) (hA : Pu (fun _ => True) w (fun b => b < w.heap.size) A v) (hB : Pu (fun _ => True) w (fun b => b < w.heap.size) B v') (ht : TabW w) :
    Calls Tryd.prog f #[v, v'] w fun e w' => e = .returned (.bool true) ∧ Below w.heap.size w w' :=
  (h w #[v, v'] (fun _ hb => ht.below hb) rfl (fun j hj => by match j, hj with | 0, _ => exact hA | 1, _ => exact hB)).mono fun _ _ ⟨_, he, hu, hb⟩ => ⟨by rw [he, hu.v_inv], hb⟩
theorem famw {w : World} {v : Value} {q : Fm} (h : IsFam 0 w v q) : Pu (fun _ => True) w (fun b => b < w.heap.size) (.agg (cFm q)) v := fam_pu (fun _ _ h => h) h
section
variable {J : World → Prop}
theorem value_c (l : Ln) (a b d : Int) : Ctr Tryd.prog J 106 [.agg (cLn l), .agg (cSz a b d)] (iv (linV l.c l.n l.t l.f a b d)) := ctr2 fun w v v' _ h h' => by
  obtain ⟨vs, rfl, hl, hv⟩ := agg_cells h
  have e : vs = [.int .i64 l.c, .int .i64 l.n, .int .i64 l.t, .int .i64 l.f] := by
    rw [cells4 hl, (hv 0 (by simp [cLn])).v_inv, (hv 1 (by simp [cLn])).v_inv, (hv 2 (by simp [cLn])).v_inv, (hv 3 (by simp [cLn])).v_inv]
  subst e
  rw [sz_of h']
  exact (rvalueAt_any l.c l.n l.t l.f a b d w).mono fun _ _ => ret_sc
theorem qAdmissible_c {q : Fm} (hq : FmOk q) (n t f : Int) : Ctr Tryd.prog J 21 [.agg (cFm q), .agg (cSz n t f)] (bv (decide (valE q = 0) && admB q n t f)) := ctr2 fun w v v' _ h h' => by
  rw [sz_of h']; exact (Admissible_any n t f (fam_of hq lo0 h)).mono fun _ _ => ret_sc
/-- The first condition of an admissible size; the third one. -/
def radA (n t f : Int) : Bool := (!inB 1 1048576 n || !inB 0 n t) || !inB 0 n f
def nofB (q : Fm) (t f : Int) : Bool := decide (q.fault = 0) && (!decide (t = 0) || !decide (f = 0))
def resvK (q : Fm) (n t f : Int) (k : Nat) : Bool := (q.res.take k).all fun l => decide (0 ≤ linV l.c l.n l.t l.f n t f)
theorem resvK_succ {q : Fm} {n t f : Int} {k : Nat} (hk : k < q.res.length) (h : resvK q n t f k = true) (e : ¬ linV q.res[k].c q.res[k].n q.res[k].t q.res[k].f n t f < 0) : resvK q n t f (k + 1) = true :=
  all_succ hk h (by rw [decide_eq_true_eq]; omega)
theorem radA_f {n t f : Int} (h : radA n t f = false) : inB 1 1048576 n = true ∧ inB 0 n t = true ∧ inB 0 n f = true := by
  unfold radA at h; simpa [and_assoc] using h
theorem adm_a {q : Fm} {n t f : Int} (h : radA n t f = true) : admB q n t f = false := by
  unfold radA at h
  unfold admB
  simp only [Bool.or_eq_true, Bool.not_eq_true'] at h
  rcases h with (h | h) | h <;> simp [h]
theorem adm_r {q : Fm} {n t f : Int} {k : Nat} (hk : k < q.res.length) (e : linV q.res[k].c q.res[k].n q.res[k].t q.res[k].f n t f < 0) : admB q n t f = false := by
  have : resvB q n t f = false := all_no hk (by rw [decide_eq_false_iff_not]; omega)
  unfold admB; rw [this, Bool.and_false]
theorem nof_iff {q : Fm} {t f : Int} : nofB q t f = (decide (q.fault = 0) && !(decide (t = 0) && decide (f = 0))) := by unfold nofB; simp
theorem adm_f {q : Fm} {n t f : Int} (h : nofB q t f = true) : admB q n t f = false := by
  unfold admB; rw [← nof_iff, h]; simp
theorem adm_0 {q : Fm} {n t f : Int} (h : radA n t f = false) (hr : resvK q n t f q.res.length = true) (hn : nofB q t f = false) (ht : ¬ q.top = 4) : admB q n t f = true := by
  have h2 : resvB q n t f = true := by unfold resvK at hr; rwa [List.take_length] at hr
  obtain ⟨a, b, c⟩ := radA_f h
  unfold admB; rw [← nof_iff, hn, a, b, c, h2]; simp [ht]
theorem adm_1 {q : Fm} {n t f : Int} (h : radA n t f = false) (hr : resvK q n t f q.res.length = true) (hn : nofB q t f = false) (ht : q.top = 4) : admB q n t f = decide (n.tmod 2 = 1) := by
  have h2 : resvB q n t f = true := by unfold resvK at hr; rwa [List.take_length] at hr
  obtain ⟨a, b, c⟩ := radA_f h
  unfold admB; rw [← nof_iff, hn, a, b, c, h2]
  have h1 : 1 ≤ n := by unfold inB at a; simp only [Bool.and_eq_true, decide_eq_true_eq] at a; omega
  have e : n.tmod 2 = n % 2 := Int.tmod_eq_emod_of_nonneg (by omega)
  rw [Bool.eq_iff_iff, e]
  simp only [Bool.and_eq_true, Bool.not_eq_true', Bool.and_eq_false_iff, decide_eq_true_eq, decide_eq_false_iff_not, ht]
  simp
  omega
end
end Go.Proofs.YtmpbfdfjcfanoaaDoor

/-
  STRUCTS: BUILT OF VALUES, AND COMPARED WITH THEMSELVES.
-/
namespace Go.Proofs.YtmpbfdfjcfanoaaDoor
open Go.RowKit Go.Deep
section
variable {P : Program} {J : World → Prop} {o : Oper}
theorem agg_known {ρ : Names} {B : Nat} {w : World} {xs : List Value} {x : Value} (h : Rel ρ B w (.agg (xs.map AV.v)) x) : x = .agg xs.toArray := by
  obtain ⟨vs, rfl, hl, hc⟩ := h.agg_inv
  have e : vs.toList = xs := by
    refine List.ext_getElem (by simpa using hl) fun i h1 h2 => ?_
    have h3 := hc i (by simpa using h2)
    simp only [List.getElem_map] at h3
    have h4 := h3.v_inv
    have h5 : i < vs.size := by simpa using h1
    simpa [Array.getD, h5] using h4
  rw [← e]
theorem sp_bld {T : TypeId} {parts : Array (Nat × Operand)} (args : List (Operand × Value)) (cells : Array Value) {cs : List AV} (ho : o.op = .build T parts) (hp : parts.toList.map (·.2) = args.map (·.1))
    (hb : P.built T ((parts.toList.zip args).map fun p => (p.1.1, p.2.2)) = some cells) (hc : cells.toList.map AV.v = cs) : ASpec P J o (args.map fun p => (p.1, .v p.2)) [] (.agg cs) .no :=
  aspec_val fun ρ B a w _ ha _ => by
    subst hc
    have hl : parts.toList.length = args.length := by simpa using congrArg List.length hp
    have e : (parts.map fun (i, x) => (i, a.eval x)).toList = (parts.toList.zip args).map fun p => (p.1.1, p.2.2) := by
      rw [Array.toList_map]
      refine List.ext_getElem (by simp at hl ⊢; omega) fun i h1 h2 => ?_
      have h3 : i < parts.toList.length := by simpa using h1
      have h4 : i < args.length := by omega
      have h5 : parts.toList[i].2 = args[i].1 := by
        have h7 : (parts.toList.map (·.2))[i]'(by simpa using h3) = (args.map (·.1))[i]'(by simpa using h4) := by simp only [hp]
        simpa only [List.getElem_map] using h7
      have h6 := (ha (args[i].1, .v args[i].2) (List.mem_map_of_mem (f := fun p : Operand × Value => (p.1, AV.v p.2)) (List.getElem_mem h4))).v_inv
      simp only [List.getElem_map, List.getElem_zip]
      rw [← h6, ← h5]
    refine ⟨.agg cells, ?_, .pu (.agg (by simp) fun j hj => ?_)⟩
    · simp only [execOp, ho]
      refine run_val (run_build w T _ cells ?_)
      rw [e]; exact hb
    · simp only [List.getElem_map, Array.getElem_toList]
      have : j < cells.size := by simpa using hj
      simp only [Array.getD, this, dif_pos]
      exact .v _
/-- A struct of the same cells. -/
theorem sp_aggNeq {T ty : TypeId} {x y : Operand} (xs : List Value) (ho : o.op = .binOp .neq T x y ty) (hm : P.eqGuardType P.depth T = false) (H : ∀ w, (Op.equalIn 10000 T (.agg xs.toArray) (.agg xs.toArray)).run P w = .ok true w) :
    ASpec P J o [(x, .agg (xs.map AV.v)), (y, .agg (xs.map AV.v))] [] (.v (.bool false)) .no :=
  aspec_val fun ρ B a w _ ha _ => by
    have h1 := agg_known (ha (x, .agg (xs.map AV.v)) (by simp))
    have h2 := agg_known (ha (y, .agg (xs.map AV.v)) (by simp))
    refine ⟨.bool false, ?_, .pu (.v _)⟩
    simp only [execOp, ho, h1, h2]
    refine run_val ?_
    rw [Sem.run_bind, run_eqGuard_agg w .neq T x y _ _ hm, Result.andThen_ok, run_neq_struct, H w]
    rfl
theorem sp_aggEql {T ty : TypeId} {x y : Operand} (xs : List Value) (ho : o.op = .binOp .eql T x y ty) (hm : P.eqGuardType P.depth T = false) (H : ∀ w, (Op.equalIn 10000 T (.agg xs.toArray) (.agg xs.toArray)).run P w = .ok true w) :
    ASpec P J o [(x, .agg (xs.map AV.v)), (y, .agg (xs.map AV.v))] [] (.v (.bool true)) .no :=
  aspec_val fun ρ B a w _ ha _ => by
    have h1 := agg_known (ha (x, .agg (xs.map AV.v)) (by simp))
    have h2 := agg_known (ha (y, .agg (xs.map AV.v)) (by simp))
    refine ⟨.bool true, ?_, .pu (.v _)⟩
    simp only [execOp, ho, h1, h2]
    refine run_val ?_
    rw [Sem.run_bind, run_eqGuard_agg w .eql T x y _ _ hm, Result.andThen_ok, run_eql_struct, H w]
    rfl
end
theorem eq_int {a : Int} : (a == a) = true := by simp
theorem eqn_sz (a b c : Int) (w : World) : (Op.equalIn 10000 44 (.agg #[.int .i64 a, .int .i64 b, .int .i64 c]) (.agg #[.int .i64 a, .int .i64 b, .int .i64 c])).run Tryd.prog w = .ok true w := by
  rw [run_equalIn_agg w 9999 _ _ _ (by kernel_rfl) (by kernel_rfl)]
  rw [show (Program.fieldsOf Tryd.prog 44).toList = _ from by unfold Program.fieldsOf; rw [Tryd.underlying44]]
  simp [go_sem, Op.eqFields, part, asAgg, isAgg, Tryd.underlying3, run_underlying]
theorem eqn_th (a b c d e f : Int) (w : World) : (Op.equalIn 10000 55 (.agg #[.int .i64 a, .int .i64 b, .int .i64 c, .int .i64 d, .int .i64 e, .int .i64 f]) (.agg #[.int .i64 a, .int .i64 b, .int .i64 c, .int .i64 d, .int .i64 e, .int .i64 f])).run Tryd.prog w = .ok true w := by
  rw [run_equalIn_agg w 9999 _ _ _ (by kernel_rfl) (by kernel_rfl)]
  rw [show (Program.fieldsOf Tryd.prog 55).toList = _ from by unfold Program.fieldsOf; rw [Tryd.underlying55]]
  simp [go_sem, Op.eqFields, part, asAgg, isAgg, Tryd.underlying3, run_underlying]
end Go.Proofs.YtmpbfdfjcfanoaaDoor
