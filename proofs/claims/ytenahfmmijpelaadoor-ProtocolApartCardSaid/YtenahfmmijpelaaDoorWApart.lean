/-
  THE WALK OF ProtocolApart.
-/
import Derived.Test.YtenahfmmijpelaaDoorVClassify
import Derived.Test.YtenahfmmijpelaaDoorBigFam
import Derived.Test.YtenahfmmijpelaaDoorPKnown
namespace Go.Proofs.YtenahfmmijpelaaDoor
open Go.RowKit Go.Deep
theorem Classify_ok {lo : Nat} {w : World} {v : Value} {q : Fm} (hq : IsFam lo w v q) (h : valE q = 0) :
    Calls Tryd.prog 11 #[v] w fun e w' => e = .returned (.tuple #[.agg #[.bool (clTh q), .bool (clCo q), .bool (clWo q), .bool (clTr q), .bool (clMo q)], .int .i64 0]) ∧ Below w.heap.size w w' := by
  have := Classify_any hq
  rw [if_pos h, h] at this
  exact this
theorem Classify_err {lo : Nat} {w : World} {v : Value} {q : Fm} (hq : IsFam lo w v q) (h : valE q ≠ 0) :
    Calls Tryd.prog 11 #[v] w fun e w' => e = .returned (.tuple #[.agg #[.bool false, .bool false, .bool false, .bool false, .bool false], .int .i64 (valE q)]) ∧ Below w.heap.size w w' := by
  have := Classify_any hq
  rw [if_neg h] at this
  exact this
def relB (th co wo tr mo pl : Bool) : Bool := !(wo && tr) && !((th || co || mo) && (wo || tr)) && (!mo || !pl || co)
theorem rel_q (q : Fm) : relB (clTh q) (clCo q) (clWo q) (clTr q) (clMo q) (!q.rules.any demB) = true := by
  have hp : plainQ q = true → q.top = 1 := plain_top
  unfold relB clCo clMo
  cases hpl : plainQ q with
  | true =>
    have h1 := hp hpl
    have : clWo q = false := by unfold clWo; rw [h1]; rfl
    have h4 : clTr q = false := by unfold clTr; rw [h1]; rfl
    rw [this, h4]
    generalize clTh q = x
    generalize q.rules.any demB = y
    generalize decide (q.states.length ≤ 4) = z
    revert x y z
    decide
  | false =>
    simp
    unfold clTh clWo clTr
    by_cases h1 : q.top = 1
    · simp [h1]
    · by_cases h4 : q.top = 4
      · simp [h4]
      · simp [h1, h4]
theorem rule_fa {lo : Nat} {w : World} {cs : List Value} {r : Ru} (h : RuEl lo w cs r) : ∃ a c, cs[9]? = some (.slice a r.fa.length c) := by
  obtain ⟨v6, v7, v8, v9, v12, v14, v15, v16, rfl, h0, h1, h2, h3, h4, h5, h6, h7, h8, h9, h10, h11, h12, h13, h14, h15, h16, h17⟩ := h
  obtain ⟨a9, c9, rfl⟩ := h9.shape
  exact ⟨a9, c9, rfl⟩
theorem any_take {α : Type} {p : α → Bool} {xs : List α} {k : Nat} (h : k < xs.length) : (xs.take (k + 1)).any p = ((xs.take k).any p || p xs[k]) := by
  rw [List.take_succ_eq_append_getElem h, List.any_append]; simp
set_option maxRecDepth 100000 in
set_option maxHeartbeats 12800000 in
theorem walk_Apart {v : Value} {q : Fm} (w : World) (hq : IsFam 0 w v q) (ht : TabW w) :
    Calls Tryd.prog 3 #[v] w fun e w' => e = .returned (.bool true) ∧ Below w.heap.size w w' := by
  have HT := Lib.hid ht
  clear ht
  have HQ := Lib.hid hq
  obtain ⟨v2, v3, v4, v6, v7, v8, v9, rfl, hnm, _, h2, h3, h4, _, h6, h7, h8, h9⟩ := hq
  obtain ⟨a2, c2, rfl⟩ := h2.shape
  obtain ⟨a3, c3, rfl⟩ := h3.shape
  obtain ⟨a4, c4, rfl⟩ := h4.shape
  obtain ⟨a6, c6, rfl⟩ := h6.shape
  obtain ⟨a7, c7, rfl⟩ := h7.shape
  obtain ⟨a8, c8, rfl⟩ := h8.shape
  obtain ⟨a9, c9, rfl⟩ := h9.shape
  have H9 := Lib.hid h9
  clear hnm h2 h3 h4 h6 h7 h8 h9
  go_enter Tryd.func3, Tryd.ntmps3
  go_upto_region 1 with (fail)
  obtain ⟨W, hW⟩ : ∃ W : World, W = (w.alloc (.cells #[.string q.nm, .int .i64 q.top, .slice a2 q.states.length c2, .slice a3 q.msgs.length c3, .slice a4 q.vals.length c4, .int .i64 q.fault, .slice a6 q.res.length c6, .slice a7 q.init.length c7, .slice a8 q.leader.length c8, .slice a9 q.rules.length c9] 27)) := ⟨_, rfl⟩
  rw [← hW]
  have WB := Lib.hid (show Below w.heap.size w W by rw [hW]; exact allocBelow _ _)
  have WP := Lib.hid (show W.heap[w.heap.size]? = some (.cells #[.string q.nm, .int .i64 q.top, .slice a2 q.states.length c2, .slice a3 q.msgs.length c3, .slice a4 q.vals.length c4, .int .i64 q.fault, .slice a6 q.res.length c6, .slice a7 q.init.length c7, .slice a8 q.leader.length c8, .slice a9 q.rules.length c9] 27 (0, 0)) by rw [hW]; exact heap_new _ _ rfl)
  clear hW
  have WPn := Lib.hid (show ∀ n : WIn (Below W.heap.size W), n.val.heap[w.heap.size]? = some (.cells #[.string q.nm, .int .i64 q.top, .slice a2 q.states.length c2, .slice a3 q.msgs.length c3, .slice a4 q.vals.length c4, .int .i64 q.fault, .slice a6 q.res.length c6, .slice a7 q.init.length c7, .slice a8 q.leader.length c8, .slice a9 q.rules.length c9] 27 (0, 0)) from fun n => keepB WP.out n.ok)
  have WBn := Lib.hid (show ∀ n : WIn (Below W.heap.size W), Below w.heap.size w n.val from fun n => thenBelow WB.out n.ok)
  refine wp_cls_seq ?_
  refine BigFrame.wpQuiet_want (by rfl) (fun K hK => ?_)
  refine quiet_ld Tryd.underlying27 info_prot (.tmp 1) (by rfl) w.heap.size 0 [.string q.nm, .int .i64 q.top, .slice a2 q.states.length c2, .slice a3 q.msgs.length c3, .slice a4 q.vals.length c4, .int .i64 q.fault, .slice a6 q.res.length c6, .slice a7 q.init.length c7, .slice a8 q.leader.length c8, .slice a9 q.rules.length c9] (by rfl) (by rfl) (by rintro _ ⟨n, rfl⟩; exact rangeBlock (WPn.out n)) (hK _ ?_)
  clear hK K
  simp only [Act.put, List.setIfInBounds_toArray, List.set_cons_succ, List.set_cons_zero]
  go_big_quiet_step (((with_reducible refine (Big_any (HQ.out.below (WBn.out _))).mono ?_); rintro e w1 ⟨rfl, hb⟩; exact ⟨rfl, ⟨w1, thenBelow (WIn.ok _) hb⟩, rfl⟩))
  refine wpQuiet_nil ?_
  intro n
  have YP := Lib.hid (WPn.out n)
  have YB := Lib.hid (WBn.out n)
  generalize n.val = Y at YP YB ⊢
  clear n WPn WBn
  clear WB WP
  cases hB : bigF q with
  | true =>
    clear hB
    go_wp2_with (go_at_call 10; refine (vknown_any _ (HT.out.below YB.out)).mono ?_; rintro e wk ⟨rfl, hbk⟩)
    go_ret
    exact ⟨rfl, thenBelow YB.out hbk⟩
  | false =>
    clear hB
    go_upto_region 3 with (fail)
    refine wp_region_lit ?_
    refine ld_mid Tryd.underlying27 info_prot (by rfl) (.tmp 1) (by rfl) w.heap.size 0 [.string q.nm, .int .i64 q.top, .slice a2 q.states.length c2, .slice a3 q.msgs.length c3, .slice a4 q.vals.length c4, .int .i64 q.fault, .slice a6 q.res.length c6, .slice a7 q.init.length c7, .slice a8 q.leader.length c8, .slice a9 q.rules.length c9] (by rfl) (by rfl) (rangeBlock YP.out) ?_
    by_cases v0 : valE q = 0
    rotate_left
    · have V0 := Lib.hid v0
      have i0 : (valE q != 0) = true := by simpa using v0
      clear v0
      refine wpList_step fun K hK => ?_
      go_simp
      go_at_call 11
      (with_reducible refine (Classify_err (HQ.out.below YB.out) V0.out).mono ?_)
      rintro e Z ⟨rfl, hb⟩
      have ZB := Lib.hid (thenBelow YB.out hb)
      go_simp
      refine hK _ _ ?_
      clear hK K hb
      iterate 3
        refine wpList_step fun K hK => ?_
        go_simp
        refine hK _ _ ?_
        clear hK K
      refine wpList_step fun K hK => ?_
      go_simp
      refine hK _ _ ?_
      clear hK K
      refine st_whole (T := 31) info_cls (by rfl) (.tmp 3) (.tmp 14) (by rfl) Z.heap.size [.bool false, .bool false, .bool false, .bool false, .bool false] (by rfl) (by rfl) (by rfl) (heap_new _ _ rfl) (by rfl) (by simp [Value.oneCell']) (fun N hZ hbl hsz hoth => ?_)
      have NB := Lib.hid (show Below w.heap.size w N from hbl _ _ ZB.out.size (ZB.out.trans ((allocBelow Z _).mono ZB.out.size)))
      have z0 := cellB hZ 0 rfl
      have z1 := cellB hZ 1 rfl
      have z2 := cellB hZ 2 rfl
      have z3 := cellB hZ 3 rfl
      have z4 := cellB hZ 4 rfl
      generalize Z.heap.size = g at hZ z0 z1 z2 z3 z4 ⊢
      have NC := Lib.hid hZ
      clear hZ hbl hsz hoth
      go_wp2_with (go_at_call 10; refine (vknown_any _ (HT.out.below NB.out)).mono ?_; rintro e wk ⟨rfl, hbk⟩)
      go_ret
      exact ⟨rfl, thenBelow NB.out hbk⟩
    · have V0 := Lib.hid v0
      clear v0
      refine wpList_step fun K hK => ?_
      go_simp
      go_at_call 11
      (with_reducible refine (Classify_ok (HQ.out.below YB.out) V0.out).mono ?_)
      rintro e Z ⟨rfl, hb⟩
      have ZB := Lib.hid (thenBelow YB.out hb)
      have ZP := Lib.hid (keepB YP.out hb)
      go_simp
      refine hK _ _ ?_
      clear hK K hb
      iterate 3
        refine wpList_step fun K hK => ?_
        go_simp
        refine hK _ _ ?_
        clear hK K
      refine wpList_step fun K hK => ?_
      go_simp
      refine hK _ _ ?_
      clear hK K
      refine st_whole (T := 31) info_cls (by rfl) (.tmp 3) (.tmp 14) (by rfl) Z.heap.size [.bool (clTh q), .bool (clCo q), .bool (clWo q), .bool (clTr q), .bool (clMo q)] (by rfl) (by rfl) (by rfl) (heap_new _ _ rfl) (by rfl) (by simp [Value.oneCell']) (fun N hZ hbl hsz hoth => ?_)
      have NB := Lib.hid (show Below w.heap.size w N from hbl _ _ ZB.out.size (ZB.out.trans ((allocBelow Z _).mono ZB.out.size)))
      have NP := Lib.hid (show N.heap[w.heap.size]? = some (.cells #[.string q.nm, .int .i64 q.top, .slice a2 q.states.length c2, .slice a3 q.msgs.length c3, .slice a4 q.vals.length c4, .int .i64 q.fault, .slice a6 q.res.length c6, .slice a7 q.init.length c7, .slice a8 q.leader.length c8, .slice a9 q.rules.length c9] 27 (0, 0)) from (hoth _ (by have := (Array.getElem?_eq_some_iff.1 ZP.out).1; omega)).trans ((heap_old _ _ (Array.getElem?_eq_some_iff.1 ZP.out).1).trans ZP.out))
      have z0 := cellB hZ 0 rfl
      have z1 := cellB hZ 1 rfl
      have z2 := cellB hZ 2 rfl
      have z3 := cellB hZ 3 rfl
      have z4 := cellB hZ 4 rfl
      generalize Z.heap.size = g at hZ z0 z1 z2 z3 z4 ⊢
      have NC := Lib.hid hZ
      clear hZ hbl hsz hoth
      have x9 : N.cell? ⟨w.heap.size, 9, none⟩ = some (.slice a9 q.rules.length c9) := cellB NP.out 9 rfl
      have R := Lib.hid (rel_q q)
      have hb9 := H9.out.bound
      go_upto_region 8 with (fail)
      go_loopw [5, 6] (fun v u wr => ∃ k : Nat, k ≤ q.rules.length ∧ u = .int .i64 k ∧ v = .bool (!(q.rules.take k).any demB) ∧ Below N.heap.size N wr) (fun _ u _ => q.rules.length - (intOf u).toNat)
      case atStart => exact ⟨0, Nat.zero_le _, rfl, rfl, Below.refl _ _⟩
      case round =>
        obtain ⟨k, hk, rfl, rfl, hB⟩ := hrel
        have HB := Lib.hid hB
        clear hB
        have y9 := keep1 x9 HB.out
        by_cases h1 : k < q.rules.length
        · obtain ⟨b', off', cs, hab, hbw, _, hcl, hcc, hel⟩ := H9.out.at k h1
          obtain ⟨a10, c10, hp9⟩ := rule_fa hel
          obtain rfl := hab
          have HR := Lib.hid (rangeBelow (rangeOf hcl hcc) (thenBelow NB.out HB.out))
          have e9 : wr.cell? ⟨b', off' + k * 18 + 9, none⟩ = some (.slice a10 q.rules[k].fa.length c10) := by
            exact HR.out 9 _ hp9
          have HS := Lib.hid (any_take (p := demB) h1)
          clear hcl hcc hel hp9 hbw
          have hfa : demB q.rules[k] = decide (0 < q.rules[k].fa.length) := rfl
          have HFA := Lib.hid hfa
          clear hfa
          generalize q.rules[k].fa.length = m at e9 HFA
          cases hp : (q.rules.take k).any demB with
          | true =>
            have HP := Lib.hid hp
            clear hp
            go_wp2_with fail
            go_roundw
            case rel => exact ⟨k + 1, by omega, by go_num, by rw [HS.out, HP.out]; rfl, HB.out⟩
            case measure => simp [intOf]; omega
          | false =>
            have HP := Lib.hid hp
            clear hp
            by_cases hm : m = 0
            · have i0 : (((m : Nat) : Int) == 0) = true := by rw [hm]; rfl
              have HM := Lib.hid hm
              clear hm
              go_wp2_with fail
              go_roundw
              case rel => exact ⟨k + 1, by omega, by go_num, by rw [HS.out, HP.out, HFA.out, HM.out]; rfl, HB.out⟩
              case measure => simp [intOf]; omega
            · have i0 : (((m : Nat) : Int) == 0) = false := by simpa using hm
              have HM := Lib.hid hm
              clear hm
              go_wp2_with fail
              go_roundw
              case rel => exact ⟨k + 1, by omega, by go_num, by rw [HS.out, HP.out, HFA.out, decide_eq_true (by have := HM.out; omega)]; rfl, HB.out⟩
              case measure => simp [intOf]; omega
        · have hk2 : k = q.rules.length := by omega
          have HT2 := Lib.hid (show q.rules.take k = q.rules by rw [hk2]; exact List.take_length)
          rw [HT2.out]
          have g0 := keep1 z0 HB.out
          have g1 := keep1 z1 HB.out
          have g2 := keep1 z2 HB.out
          have g3 := keep1 z3 HB.out
          have g4 := keep1 z4 HB.out
          have VB := Lib.hid (thenBelow NB.out HB.out)
          clear HT2 hk2
          clear HB z0 z1 z2 z3 z4 x9 NC NP
          generalize clTh q = th at R g0
          generalize clCo q = co at R g1
          generalize clWo q = wo at R g2
          generalize clTr q = tr at R g3
          generalize clMo q = mo at R g4
          generalize (!q.rules.any demB) = pl at R ⊢
          cases wo <;> cases tr <;> cases mo <;> cases co <;> cases pl <;> cases th <;> first | (exact absurd R.out (by decide)) | (go_wp2_with ((go_at_call 10; refine (vknown_any _ (HT.out.below VB.out)).mono ?_; rintro e wk ⟨rfl, hbk⟩)); go_ret; exact ⟨rfl, thenBelow VB.out hbk⟩)
end Go.Proofs.YtenahfmmijpelaaDoor
