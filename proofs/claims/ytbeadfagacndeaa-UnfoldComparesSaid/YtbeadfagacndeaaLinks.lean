/-
  treeLinks OF THE PROGRAM.
-/
import Derived.Test.YtbeadfagacndeaaProg
import Derived.Test.YtbeadfagacndeaaBase
import Derived.Test.YtbeadfagacndeaaHold
import Derived.Test.YtbeadfagacndeaaCopyInts
import Derived.Test.YtbeadfagacndeaaTreeMath
import Derived.WalkSpells
import Derived.WalkLawsBesides
import Derived.LoopTactic
import Derived.Lib.Hide
import Derived.Outline
import Derived.Deep.DeepCutAuto
import Derived.Test.YtbeadfagacndeaaApp1
namespace Go.Proofs.Ytbeadfagacndeaa
open Go.RowKit Go.Deep

/-- The cells of the links. -/
def cf (s : TS) (j : Nat) : Int := if j % 3 = 0 then s.fi (j / 3) else if j % 3 = 1 then s.se (j / 3) else s.pa (j / 3)
theorem cf_fi (s : TS) (i : Nat) : cf s (i * 3) = s.fi i := by unfold cf; rw [if_pos (by omega)]; congr 1; omega
theorem cf_se (s : TS) (i : Nat) : cf s (i * 3 + 1) = s.se i := by unfold cf; rw [if_neg (by omega), if_pos (by omega)]; congr 1; omega
theorem cf_pa (s : TS) (i : Nat) : cf s (i * 3 + 2) = s.pa i := by unfold cf; rw [if_neg (by omega), if_neg (by omega)]; congr 1; omega
theorem up_fi (s : TS) (i : Nat) (v : Int) : up (cf s) (i * 3) v = cf ⟨up s.fi i v, s.se, s.pa, s.wt⟩ := by
  funext j; unfold up cf
  by_cases e : j = i * 3
  · subst e; rw [if_pos rfl, if_pos (by omega)]; dsimp only; rw [if_pos (by omega)]
  · rw [if_neg e]; split
    · dsimp only; rw [if_neg (by omega)]
    · rfl
theorem up_se (s : TS) (i : Nat) (v : Int) : up (cf s) (i * 3 + 1) v = cf ⟨s.fi, up s.se i v, s.pa, s.wt⟩ := by
  funext j; unfold up cf
  by_cases e : j = i * 3 + 1
  · subst e; rw [if_pos rfl, if_neg (by omega), if_pos (by omega)]; dsimp only; rw [if_pos (by omega)]
  · rw [if_neg e]; split
    · rfl
    · split
      · dsimp only; rw [if_neg (by omega)]
      · rfl
theorem up_pa (s : TS) (i : Nat) (v : Int) : up (cf s) (i * 3 + 2) v = cf ⟨s.fi, s.se, up s.pa i v, s.wt⟩ := by
  funext j; unfold up cf
  by_cases e : j = i * 3 + 2
  · subst e; rw [if_pos rfl, if_neg (by omega), if_neg (by omega)]; dsimp only; rw [if_pos (by omega)]
  · rw [if_neg e]; split
    · rfl
    · split
      · rfl
      · dsimp only; rw [if_neg (by omega)]

theorem info_link : (Try.prog.info? 43).map (fun i => (i.zero, i.size, i.bytes)) = some (some (.agg #[.int .i64 0, .int .i64 0, .int .i64 0]), 3, 24) := by kernel_rfl
theorem elInt : ElT Try.prog 22 3 (.int .i64 0) 1 8 := ⟨Try.underlying22, by kernel_rfl, rfl, by decide⟩
set_option maxHeartbeats 800000 in
theorem treeLinks_full (b off n cap : Nat) (w : World) (xs : List Int) (hx : xs.length = n) (hn : n ≤ 100) (h0 : 0 < n)
    (hc : ∀ i, i < n → w.cell? ⟨b, off + i, none⟩ = some (.int .i64 (xs.getD i 0))) :
    Calls Try.prog 19 #[.slice (some ⟨b, off, none⟩) n cap] w fun e w' => ∃ g, e = .returned (.slice (some ⟨g, 0, none⟩) n n) ∧ OwnF w.heap.size w' g (n * 3) (cf (trun xs n)) ∧ Below w.heap.size w w' := by
  have HC := Lib.hid hc
  have HX := Lib.hid hx
  clear hc hx
  have hmk := make_n (P := Try.prog) 46 43 _ 3 24 Try.underlying46 info_link n (by omega) (by omega)
  go_enter Try.func19, Try.ntmps19
  go_wp2_with fail
  have HO0 : Hid (OwnF w.heap.size (w.alloc (.cells (madeCells #[Value.int IntKind.i64 0, Value.int IntKind.i64 0, Value.int IntKind.i64 0] (n * 3)) 43)) w.heap.size (n * 3) (cf (trun xs 0))) := by
    refine ⟨Nat.le_refl _, _, _, heap_alloc_new _ _, fun j hj => made_get _ _ _ _ hj ?_⟩
    have h3 : j % 3 = 0 ∨ j % 3 = 1 ∨ j % 3 = 2 := by omega
    unfold cf trun
    rcases h3 with h | h | h <;> simp [h]
  go_loopw [4, 14] (fun v u wr => ∃ (k : Nat) (av : Option Addr) (cv : Nat), k ≤ n ∧ u = .int .i64 k ∧ v = .slice av (trun xs k).wt.length cv ∧ OwnF w.heap.size wr w.heap.size (n * 3) (cf (trun xs k)) ∧ wr.ownsRow (w.heap.size + 1) 3 1 (.slice av (trun xs k).wt.length cv) (trun xs k).wt.length ((trun xs k).wt.map fun p : Nat => Value.int .i64 p) ∧ (∀ p ∈ (trun xs k).wt, p < k) ∧ (trun xs k).wt.length ≤ k ∧ Below w.heap.size w wr) (fun _ u _ => n - (intOf u).toNat)
  case atStart => exact ⟨0, _, _, Nat.zero_le _, rfl, rfl, HO0.out, World.ownsRow_nil _ _ _ _, by simp [trun], by simp [trun], allocBelow _ _⟩
  case round =>
    obtain ⟨k, av, cv, hk, rfl, rfl, hO, hR, hW, hL, hB⟩ := hrel
    have HO := Lib.hid hO
    have HR := Lib.hid hR
    have HW := Lib.hid hW
    have HB := Lib.hid hB
    by_cases hlt : k < n
    · have g1 : wr.cell? ⟨b, off + k, none⟩ = some (.int .i64 (xs.getD k 0)) := keep1 (HC.out k hlt) hB
      have hT : trun xs (k + 1) = tstep (trun xs k) k (xs.getD k 0) := rfl
      have HT := Lib.hid hT
      generalize hX : xs.getD k 0 = x at g1 HT
      generalize hS : trun xs k = s at HO HR HW HT hL
      have f0 := HO.out.cell (k * 3) (by omega)
      have f1 := HO.out.cell (k * 3 + 1) (by omega)
      have f2 := HO.out.cell (k * 3 + 2) (by omega)
      have z0 := HO.out.frozen (k * 3)
      have z1 := HO.out.frozen (k * 3 + 1)
      have z2 := HO.out.frozen (k * 3 + 2)
      have zz := HO.out.lt
      clear hX hS hT hO hR hW hB
      rcases hw : s.wt.getLast? with _ | p
      · have hnil : s.wt = [] := by simpa using hw
        have hl0 : s.wt.length = 0 := by rw [hnil]; rfl
        have HNil := Lib.hid hnil
        have HW0 := Lib.hid hw
        rw [hl0] at HR ⊢
        clear hnil hl0 hw
        have HS : Hid (OwnF w.heap.size (((wr.setCell ⟨w.heap.size, k * 3, none⟩ (.int .i64 (-1))).setCell ⟨w.heap.size, k * 3 + 1, none⟩ (.int .i64 (-1))).setCell ⟨w.heap.size, k * 3 + 2, none⟩ (.int .i64 (-1))) w.heap.size (n * 3) (cf (tkid s k))) := by
          have := ((HO.out.set (k * 3) (-1)).set (k * 3 + 1) (-1)).set (k * 3 + 2) (-1)
          rw [up_fi, up_se, up_pa] at this
          show OwnF _ _ _ _ _
          unfold tkid
          rw [HW0.out]
          exact this
        have HK : Hid ((tkid s k).wt = []) := by
          show (tkid s k).wt = []
          unfold tkid
          rw [HW0.out]
          exact HNil.out
        have HR2 : Hid ((((wr.setCell ⟨w.heap.size, k * 3, none⟩ (.int .i64 (-1))).setCell ⟨w.heap.size, k * 3 + 1, none⟩ (.int .i64 (-1))).setCell ⟨w.heap.size, k * 3 + 2, none⟩ (.int .i64 (-1))).ownsRow (w.heap.size + 1) 3 1 (.slice av 0 cv) 0 []) := by
          have h := HR.out
          rw [HNil.out] at h
          exact ownsRow_setCell_below (ownsRow_setCell_below (ownsRow_setCell_below h (by simp) _) (by simp) _) (by simp) _
        by_cases x2 : x = 2
        · subst x2
          go_wp2_with (at_builtin; refine append_one elInt (by rfl) (.tmp 58) (.tmp 60) (by rfl) (w.heap.size + 1) _ 0 [] [.int .i64 k] wr.heap.size (by rfl) (by rfl) (by simp) HR2.out (by rfl) (by intro u hu; simp at hu; subst hu; rfl) (by omega) (by unfold maxLen; omega) (by omega) (by rfl) ?_; intro g cap w1 hown hgrow hat hlo hlt hsz)
          go_roundw
          case rel =>
            have hTS : trun xs (k + 1) = ⟨(tkid s k).fi, (tkid s k).se, (tkid s k).pa, [k]⟩ := by rw [HT.out]; unfold tstep; rw [if_pos rfl, HK.out]; rfl
            refine ⟨k + 1, some ⟨g, 0, none⟩, cap, by omega, by go_num, ?_, ?_, ?_, ?_, ?_, ?_⟩
            all_goals (try rw [hTS])
            · rfl
            · exact HS.out.grown hgrow (fun e => by have := (HR2.out.lt _ e).1; omega)
            · exact hown
            · simp
            · simp
            · exact (((HB.out.setCell (by simp) _).setCell (by simp) _).setCell (by simp) _).grown hgrow (by simp; omega) (fun k hk => by have := (HR2.out.lt _ hk).1; omega)
          case measure => simp [intOf]; omega
        · have x3 : (x == 2) = false := by simpa using x2
          have X2 := Lib.hid x2
          clear x2
          go_wp2_with fail
          go_roundw
          case rel =>
            have hTS : trun xs (k + 1) = tkid s k := by rw [HT.out]; unfold tstep; rw [if_neg X2.out]
            refine ⟨k + 1, av, cv, by omega, by go_num, ?_, ?_, ?_, ?_, ?_, ((HB.out.setCell (by simp) _).setCell (by simp) _).setCell (by simp) _⟩
            all_goals rw [hTS]
            · rw [HK.out]; rfl
            · exact HS.out
            · rw [HK.out]; exact HR2.out
            · rw [HK.out]; simp
            · rw [HK.out]; simp
          case measure => simp [intOf]; omega
      · obtain ⟨ys, hys⟩ : ∃ ys, s.wt = ys ++ [p] := List.getLast?_eq_some_iff.1 hw
        have hpk : p < k := HW.out p (by rw [hys]; simp)
        have hl1 : s.wt.length = ys.length + 1 := by rw [hys]; simp
        have hyl : ys.length + 1 ≤ k := by omega
        have HY := Lib.hid hys
        have HW0 := Lib.hid hw
        rw [hl1] at HR ⊢
        obtain ⟨gw, rfl, hgw, hgs, hcv, hcm, hcells⟩ := row_last HR.out
        have q1 : wr.cell? ⟨gw, ys.length, none⟩ = some (.int .i64 p) := by rw [hcells _ (by omega), HY.out]; simp
        have q2 : wr.cell? ⟨w.heap.size, p * 3, none⟩ = some (.int .i64 (s.fi p)) := by rw [← cf_fi]; exact HO.out.cell _ (by omega)
        have q3 : wr.cell? ⟨w.heap.size, p * 3 + 1, none⟩ = some (.int .i64 (s.se p)) := by rw [← cf_se]; exact HO.out.cell _ (by omega)
        have q4 := HO.out.frozen (p * 3)
        have q5 := HO.out.frozen (p * 3 + 1)
        have n1 : p * 3 ≠ k * 3 := by omega
        have n2 : p * 3 ≠ k * 3 + 1 := by omega
        have n3 : p * 3 ≠ k * 3 + 2 := by omega
        have n4 : p * 3 + 1 ≠ k * 3 := by omega
        have n5 : p * 3 + 1 ≠ k * 3 + 1 := by omega
        have n6 : p * 3 + 1 ≠ k * 3 + 2 := by omega
        have n7 : gw ≠ w.heap.size := by omega
        have CM := Lib.hid hcm
        unfold maxLen at hcm
        clear hys hl1 hw hcells hL
        by_cases hf : s.fi p < 0
        · have HK : Hid ((tkid s k).wt = s.wt) := by
            show (tkid s k).wt = s.wt
            unfold tkid
            rw [HW0.out]
            dsimp only
            rw [up_ne _ _ (by omega : p ≠ k), if_pos hf]
          have HS : Hid (OwnF w.heap.size (((((wr.setCell ⟨w.heap.size, k * 3, none⟩ (.int .i64 (-1))).setCell ⟨w.heap.size, k * 3 + 1, none⟩ (.int .i64 (-1))).setCell ⟨w.heap.size, k * 3 + 2, none⟩ (.int .i64 (-1))).setCell ⟨w.heap.size, k * 3 + 2, none⟩ (.int .i64 p)).setCell ⟨w.heap.size, p * 3, none⟩ (.int .i64 k)) w.heap.size (n * 3) (cf (tkid s k))) := by
            have := ((((HO.out.set (k * 3) (-1)).set (k * 3 + 1) (-1)).set (k * 3 + 2) (-1)).set (k * 3 + 2) p).set (p * 3) k
            rw [up_fi, up_se, up_pa, up_pa, up_fi] at this
            show OwnF _ _ _ _ _
            unfold tkid
            rw [HW0.out]
            dsimp only
            rw [up_ne _ _ (by omega : p ≠ k), if_pos hf]
            exact this
          have HL : Hid (s.wt.length = (ys.length + 1)) := by
            show _ = _
            rw [HY.out]; simp
          have HR2 : Hid ((((((wr.setCell ⟨w.heap.size, k * 3, none⟩ (.int .i64 (-1))).setCell ⟨w.heap.size, k * 3 + 1, none⟩ (.int .i64 (-1))).setCell ⟨w.heap.size, k * 3 + 2, none⟩ (.int .i64 (-1))).setCell ⟨w.heap.size, k * 3 + 2, none⟩ (.int .i64 p)).setCell ⟨w.heap.size, p * 3, none⟩ (.int .i64 k)).ownsRow (w.heap.size + 1) 3 1 (.slice (some ⟨gw, 0, none⟩) (ys.length + 1) cv) (ys.length + 1) (s.wt.map fun p : Nat => Value.int .i64 p)) := by
            exact ownsRow_setCell_below (ownsRow_setCell_below (ownsRow_setCell_below (ownsRow_setCell_below (ownsRow_setCell_below HR.out (by simp) _) (by simp) _) (by simp) _) (by simp) _) (by simp) _
          have HM : Hid (∀ q ∈ s.wt, q < k) := fun q hq => HW.out q (by exact hq)
          by_cases x2 : x = 2
          · subst x2
            go_wp2_with (at_builtin; refine append_one elInt (by rfl) (.tmp 58) (.tmp 60) (by rfl) (w.heap.size + 1) _ (ys.length + 1) _ [.int .i64 k] wr.heap.size (by rfl) (by rfl) (by simp) HR2.out (by rfl) (by intro u hu; simp at hu; subst hu; rfl) (by omega) (by unfold maxLen; omega) (by omega) (by rfl) ?_; intro g cap w1 hown hgrow hat hlo hlt hsz)
            go_roundw
            case rel =>
              have hTS : trun xs (k + 1) = ⟨(tkid s k).fi, (tkid s k).se, (tkid s k).pa, s.wt ++ [k]⟩ := by rw [HT.out]; unfold tstep; rw [if_pos rfl, HK.out]
              have hln : (s.wt ++ [k]).length = (ys.length + 1) + 1 := by rw [List.length_append, HL.out]; rfl
              refine ⟨k + 1, some ⟨g, 0, none⟩, cap, by omega, by go_num, ?_, ?_, ?_, ?_, ?_, (((((HB.out.setCell (by simp) _).setCell (by simp) _).setCell (by simp) _).setCell (by simp) _).setCell (by simp) _).grown hgrow (by simp; omega) (fun k hk => by have := (HR2.out.lt _ hk).1; omega)⟩
              all_goals rw [hTS]
              · dsimp only; rw [hln]
              · exact HS.out.grown hgrow (fun e => by have := (HR2.out.lt _ e).1; omega)
              · dsimp only; rw [hln, List.map_append]; exact hown
              · intro q hq
                rcases List.mem_append.1 hq with hq | hq
                · have := HM.out q hq; omega
                · obtain rfl : q = k := by simpa using hq
                  omega
              · dsimp only; rw [hln]; omega
            case measure => simp [intOf]; omega
          · have x3 : (x == 2) = false := by simpa using x2
            have X2 := Lib.hid x2
            clear x2
            go_wp2_with fail
            go_roundw
            case rel =>
              have hTS : trun xs (k + 1) = tkid s k := by rw [HT.out]; unfold tstep; rw [if_neg X2.out]
              refine ⟨k + 1, some ⟨gw, 0, none⟩, cv, by omega, by go_num, ?_, ?_, ?_, ?_, ?_, ((((HB.out.setCell (by simp) _).setCell (by simp) _).setCell (by simp) _).setCell (by simp) _).setCell (by simp) _⟩
              all_goals rw [hTS]
              · rw [HK.out, HL.out]
              · exact HS.out
              · rw [HK.out, HL.out]; exact HR2.out
              · rw [HK.out]; exact fun q hq => by have := HM.out q hq; omega
              · rw [HK.out, HL.out]; omega
            case measure => simp [intOf]; omega
        · have HK : Hid ((tkid s k).wt = ys) := by
            show (tkid s k).wt = ys
            unfold tkid
            rw [HW0.out]
            dsimp only
            rw [up_ne _ _ (by omega : p ≠ k), if_neg hf]
            show s.wt.dropLast = ys; rw [HY.out]; simp
          have HS : Hid (OwnF w.heap.size (((((wr.setCell ⟨w.heap.size, k * 3, none⟩ (.int .i64 (-1))).setCell ⟨w.heap.size, k * 3 + 1, none⟩ (.int .i64 (-1))).setCell ⟨w.heap.size, k * 3 + 2, none⟩ (.int .i64 (-1))).setCell ⟨w.heap.size, k * 3 + 2, none⟩ (.int .i64 p)).setCell ⟨w.heap.size, p * 3 + 1, none⟩ (.int .i64 k)) w.heap.size (n * 3) (cf (tkid s k))) := by
            have := ((((HO.out.set (k * 3) (-1)).set (k * 3 + 1) (-1)).set (k * 3 + 2) (-1)).set (k * 3 + 2) p).set (p * 3 + 1) k
            rw [up_fi, up_se, up_pa, up_pa, up_se] at this
            show OwnF _ _ _ _ _
            unfold tkid
            rw [HW0.out]
            dsimp only
            rw [up_ne _ _ (by omega : p ≠ k), if_neg hf]
            exact this
          have HL : Hid (ys.length = ys.length) := by
            show _ = _
            rfl
          have HR2 : Hid ((((((wr.setCell ⟨w.heap.size, k * 3, none⟩ (.int .i64 (-1))).setCell ⟨w.heap.size, k * 3 + 1, none⟩ (.int .i64 (-1))).setCell ⟨w.heap.size, k * 3 + 2, none⟩ (.int .i64 (-1))).setCell ⟨w.heap.size, k * 3 + 2, none⟩ (.int .i64 p)).setCell ⟨w.heap.size, p * 3 + 1, none⟩ (.int .i64 k)).ownsRow (w.heap.size + 1) 3 1 (.slice (some ⟨gw, 0, none⟩) ys.length cv) ys.length (ys.map fun p : Nat => Value.int .i64 p)) := by
            have h := row_cut HR.out
            rw [HY.out, List.map_append, List.take_append_of_le_length (by simp), List.take_of_length_le (by simp)] at h
            exact ownsRow_setCell_below (ownsRow_setCell_below (ownsRow_setCell_below (ownsRow_setCell_below (ownsRow_setCell_below h (by simp) _) (by simp) _) (by simp) _) (by simp) _) (by simp) _
          have HM : Hid (∀ q ∈ ys, q < k) := fun q hq => HW.out q (by rw [HY.out]; simp [hq])
          by_cases x2 : x = 2
          · subst x2
            go_wp2_with (at_builtin; refine append_one elInt (by rfl) (.tmp 58) (.tmp 60) (by rfl) (w.heap.size + 1) _ ys.length _ [.int .i64 k] wr.heap.size (by rfl) (by rfl) (by simp) HR2.out (by rfl) (by intro u hu; simp at hu; subst hu; rfl) (by omega) (by unfold maxLen; omega) (by omega) (by rfl) ?_; intro g cap w1 hown hgrow hat hlo hlt hsz)
            go_roundw
            case rel =>
              have hTS : trun xs (k + 1) = ⟨(tkid s k).fi, (tkid s k).se, (tkid s k).pa, ys ++ [k]⟩ := by rw [HT.out]; unfold tstep; rw [if_pos rfl, HK.out]
              have hln : (ys ++ [k]).length = ys.length + 1 := by rw [List.length_append, HL.out]; rfl
              refine ⟨k + 1, some ⟨g, 0, none⟩, cap, by omega, by go_num, ?_, ?_, ?_, ?_, ?_, (((((HB.out.setCell (by simp) _).setCell (by simp) _).setCell (by simp) _).setCell (by simp) _).setCell (by simp) _).grown hgrow (by simp; omega) (fun k hk => by have := (HR2.out.lt _ hk).1; omega)⟩
              all_goals rw [hTS]
              · dsimp only; rw [hln]
              · exact HS.out.grown hgrow (fun e => by have := (HR2.out.lt _ e).1; omega)
              · dsimp only; rw [hln, List.map_append]; exact hown
              · intro q hq
                rcases List.mem_append.1 hq with hq | hq
                · have := HM.out q hq; omega
                · obtain rfl : q = k := by simpa using hq
                  omega
              · dsimp only; rw [hln]; omega
            case measure => simp [intOf]; omega
          · have x3 : (x == 2) = false := by simpa using x2
            have X2 := Lib.hid x2
            clear x2
            go_wp2_with fail
            go_roundw
            case rel =>
              have hTS : trun xs (k + 1) = tkid s k := by rw [HT.out]; unfold tstep; rw [if_neg X2.out]
              refine ⟨k + 1, some ⟨gw, 0, none⟩, cv, by omega, by go_num, ?_, ?_, ?_, ?_, ?_, ((((HB.out.setCell (by simp) _).setCell (by simp) _).setCell (by simp) _).setCell (by simp) _).setCell (by simp) _⟩
              all_goals rw [hTS]
              · rw [HK.out, HL.out]
              · exact HS.out
              · rw [HK.out, HL.out]; exact HR2.out
              · rw [HK.out]; exact fun q hq => by have := HM.out q hq; omega
              · rw [HK.out, HL.out]; omega
            case measure => simp [intOf]; omega
    · obtain rfl : k = n := by omega
      go_wp2_with fail
      go_ret
      exact ⟨_, rfl, HO.out, HB.out⟩
end Go.Proofs.Ytbeadfagacndeaa
