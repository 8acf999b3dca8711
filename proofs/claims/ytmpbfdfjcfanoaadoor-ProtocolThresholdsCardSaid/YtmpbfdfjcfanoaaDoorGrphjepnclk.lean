import Derived.ChangeArms
import Derived.ChangeMaps5
import Derived.Deep.DeepCutAuto
import Derived.Outline
import Derived.Test.YtmpbfdfjcfanoaaDoorProg
import Derived.WalkSpells
import Derived.WalkLawsBesides
import Derived.Deep.QuietTactic
import Derived.BigQuiet
import Derived.Laws.AppendOwnNone
import Derived.Deep.RegionWith
import Derived.StillTailTactics
import Derived.Deep.RegionHeld3
import Derived.LoopTactic
import Derived.Lib.Hide
import Derived.Deep.Quiet
import Derived.StillTail
import Derived.LoopN
import Derived.Test.YtmpbfdfjcfanoaaDoorGrppalbkohp
set_option linter.all false
/-
  A LAW's ARGUMENT THAT IS A FAMILY, by its cells.
-/
namespace Go.Proofs.YtmpbfdfjcfanoaaDoor
open Go.RowKit Go.Deep Go.ChangeShapes Go.WideShapes Go.ChangeAt Go.Joins

theorem fcells_string : Tryd.prog.cellsOf 9 = 1 := by kernel_rfl
theorem fcells_ints : Tryd.prog.cellsOf 24 = 1 := by kernel_rfl
theorem cells_ths : Tryd.prog.cellsOf 49 = 1 := by kernel_rfl
theorem cells_strs : Tryd.prog.cellsOf 22 = 1 := by kernel_rfl
theorem cells_lns : Tryd.prog.cellsOf 23 = 1 := by kernel_rfl
theorem cells_rus : Tryd.prog.cellsOf 25 = 1 := by kernel_rfl
theorem cells_lnE : Tryd.prog.cellsOf 53 = 4 := by kernel_rfl
theorem cells_thE : Tryd.prog.cellsOf 55 = 6 := by kernel_rfl
theorem cells_ruE : Tryd.prog.cellsOf 76 = 18 := by kernel_rfl
theorem cells_famE : Tryd.prog.cellsOf 27 = 10 := by kernel_rfl
section
variable {H : Type} {enc : TypeId × Value → H} {w : World} {base : Nat} {sp : Nat → Bool} {held : Bool}
theorem str_of_trod {n : Nat} {cs : List Value} {x : DataW H × List MemPlace} (h : DataW.trod enc Tryd.prog w base sp held n 9 cs = some x) : ∃ s, StrEl 0 w cs s := by
  obtain ⟨s, hs, _, hn⟩ := DataW.trod_string Tryd.underlying9 h
  exact ⟨s, hs, hn⟩
set_option maxRecDepth 100000 in
theorem th_of_trod {n : Nat} {cs : List Value} {x : DataW H × List MemPlace} (h : DataW.trod enc Tryd.prog w base sp held n 55 cs = some x) : ∃ g, ThEl 0 w cs g := by
  obtain ⟨ys, m, _, _, hlen, _, hf⟩ := DataW.trod_struct Tryd.underlying55 h
  rw [cells_thE] at hlen
  match cs, hlen with
  | [v0, v1, v2, v3, v4, v5], _ =>
    have h0 : DataW.trod enc Tryd.prog w base sp held m 3 (([v0, v1, v2, v3, v4, v5].drop 0).take (Tryd.prog.cellsOf 3)) = ys[0]? := hf 0 _ rfl
    have h1 : DataW.trod enc Tryd.prog w base sp held m 3 (([v0, v1, v2, v3, v4, v5].drop 1).take (Tryd.prog.cellsOf 3)) = ys[1]? := hf 1 _ rfl
    have h2 : DataW.trod enc Tryd.prog w base sp held m 53 (([v0, v1, v2, v3, v4, v5].drop 2).take (Tryd.prog.cellsOf 53)) = ys[2]? := hf 2 _ rfl
    rw [cells_int] at h0 h1
    rw [cells_lin] at h2
    simp only [List.drop_zero, List.take_succ_cons, List.take_zero] at h0
    simp only [List.drop_succ_cons, List.drop_zero, List.take_succ_cons, List.take_zero] at h1 h2
    have hx : ∀ i, i < 3 → ∃ y, ys[i]? = some y := fun i hi => ⟨ys[i]'(by simp at *; omega), List.getElem?_eq_getElem _⟩
    obtain ⟨y0, e0⟩ := hx 0 (by omega)
    rw [e0] at h0
    obtain ⟨y1, e1⟩ := hx 1 (by omega)
    rw [e1] at h1
    obtain ⟨y2, e2⟩ := hx 2 (by omega)
    rw [e2] at h2
    obtain ⟨a, rfl, ha⟩ := int_of_trod h0
    obtain ⟨b, rfl, hb⟩ := int_of_trod h1
    obtain ⟨c0, c1, c2, c3, e, q⟩ := lin_of_trod h2
    simp only [List.cons.injEq, and_true] at e
    obtain ⟨rfl, rfl, rfl, rfl⟩ := e
    exact ⟨⟨a, b, ⟨c0, c1, c2, c3⟩⟩, rfl, ha, hb, q⟩
theorem ln_of_trod {n : Nat} {cs : List Value} {x : DataW H × List MemPlace} (h : DataW.trod enc Tryd.prog w base sp held n 53 cs = some x) : ∃ l, LnEl 0 w cs l := by
  obtain ⟨c0, c1, c2, c3, e, q⟩ := lin_of_trod h
  exact ⟨⟨c0, c1, c2, c3⟩, e, q⟩

set_option maxRecDepth 100000 in
set_option maxHeartbeats 1600000 in
theorem ru_of_trod {n : Nat} {cs : List Value} {x : DataW H × List MemPlace} (h : DataW.trod enc Tryd.prog w base sp held n 76 cs = some x) : ∃ r, RuEl 0 w cs r := by
  obtain ⟨ys, m, _, _, hlen, _, hf⟩ := DataW.trod_struct Tryd.underlying76 h
  rw [cells_ruE] at hlen
  match cs, hlen with
  | [v0, v1, v2, v3, v4, v5, v6, v7, v8, v9, v10, v11, v12, v13, v14, v15, v16, v17], _ =>
    have h0 : DataW.trod enc Tryd.prog w base sp held m 9 (([v0, v1, v2, v3, v4, v5, v6, v7, v8, v9, v10, v11, v12, v13, v14, v15, v16, v17].drop 0).take (Tryd.prog.cellsOf 9)) = ys[0]? := hf 0 _ rfl
    rw [fcells_string] at h0
    have h1 : DataW.trod enc Tryd.prog w base sp held m 3 (([v0, v1, v2, v3, v4, v5, v6, v7, v8, v9, v10, v11, v12, v13, v14, v15, v16, v17].drop 1).take (Tryd.prog.cellsOf 3)) = ys[1]? := hf 1 _ rfl
    rw [cells_int] at h1
    have h2 : DataW.trod enc Tryd.prog w base sp held m 3 (([v0, v1, v2, v3, v4, v5, v6, v7, v8, v9, v10, v11, v12, v13, v14, v15, v16, v17].drop 2).take (Tryd.prog.cellsOf 3)) = ys[2]? := hf 2 _ rfl
    rw [cells_int] at h2
    have h3 : DataW.trod enc Tryd.prog w base sp held m 3 (([v0, v1, v2, v3, v4, v5, v6, v7, v8, v9, v10, v11, v12, v13, v14, v15, v16, v17].drop 3).take (Tryd.prog.cellsOf 3)) = ys[3]? := hf 3 _ rfl
    rw [cells_int] at h3
    have h4 : DataW.trod enc Tryd.prog w base sp held m 3 (([v0, v1, v2, v3, v4, v5, v6, v7, v8, v9, v10, v11, v12, v13, v14, v15, v16, v17].drop 4).take (Tryd.prog.cellsOf 3)) = ys[4]? := hf 4 _ rfl
    rw [cells_int] at h4
    have h5 : DataW.trod enc Tryd.prog w base sp held m 3 (([v0, v1, v2, v3, v4, v5, v6, v7, v8, v9, v10, v11, v12, v13, v14, v15, v16, v17].drop 5).take (Tryd.prog.cellsOf 3)) = ys[5]? := hf 5 _ rfl
    rw [cells_int] at h5
    have h6 : DataW.trod enc Tryd.prog w base sp held m 24 (([v0, v1, v2, v3, v4, v5, v6, v7, v8, v9, v10, v11, v12, v13, v14, v15, v16, v17].drop 6).take (Tryd.prog.cellsOf 24)) = ys[6]? := hf 6 _ rfl
    rw [fcells_ints] at h6
    have h7 : DataW.trod enc Tryd.prog w base sp held m 49 (([v0, v1, v2, v3, v4, v5, v6, v7, v8, v9, v10, v11, v12, v13, v14, v15, v16, v17].drop 7).take (Tryd.prog.cellsOf 49)) = ys[7]? := hf 7 _ rfl
    rw [cells_ths] at h7
    have h8 : DataW.trod enc Tryd.prog w base sp held m 24 (([v0, v1, v2, v3, v4, v5, v6, v7, v8, v9, v10, v11, v12, v13, v14, v15, v16, v17].drop 8).take (Tryd.prog.cellsOf 24)) = ys[8]? := hf 8 _ rfl
    rw [fcells_ints] at h8
    have h9 : DataW.trod enc Tryd.prog w base sp held m 24 (([v0, v1, v2, v3, v4, v5, v6, v7, v8, v9, v10, v11, v12, v13, v14, v15, v16, v17].drop 9).take (Tryd.prog.cellsOf 24)) = ys[9]? := hf 9 _ rfl
    rw [fcells_ints] at h9
    have h10 : DataW.trod enc Tryd.prog w base sp held m 3 (([v0, v1, v2, v3, v4, v5, v6, v7, v8, v9, v10, v11, v12, v13, v14, v15, v16, v17].drop 10).take (Tryd.prog.cellsOf 3)) = ys[10]? := hf 10 _ rfl
    rw [cells_int] at h10
    have h11 : DataW.trod enc Tryd.prog w base sp held m 3 (([v0, v1, v2, v3, v4, v5, v6, v7, v8, v9, v10, v11, v12, v13, v14, v15, v16, v17].drop 11).take (Tryd.prog.cellsOf 3)) = ys[11]? := hf 11 _ rfl
    rw [cells_int] at h11
    have h12 : DataW.trod enc Tryd.prog w base sp held m 24 (([v0, v1, v2, v3, v4, v5, v6, v7, v8, v9, v10, v11, v12, v13, v14, v15, v16, v17].drop 12).take (Tryd.prog.cellsOf 24)) = ys[12]? := hf 12 _ rfl
    rw [fcells_ints] at h12
    have h13 : DataW.trod enc Tryd.prog w base sp held m 3 (([v0, v1, v2, v3, v4, v5, v6, v7, v8, v9, v10, v11, v12, v13, v14, v15, v16, v17].drop 13).take (Tryd.prog.cellsOf 3)) = ys[13]? := hf 13 _ rfl
    rw [cells_int] at h13
    have h14 : DataW.trod enc Tryd.prog w base sp held m 24 (([v0, v1, v2, v3, v4, v5, v6, v7, v8, v9, v10, v11, v12, v13, v14, v15, v16, v17].drop 14).take (Tryd.prog.cellsOf 24)) = ys[14]? := hf 14 _ rfl
    rw [fcells_ints] at h14
    have h15 : DataW.trod enc Tryd.prog w base sp held m 24 (([v0, v1, v2, v3, v4, v5, v6, v7, v8, v9, v10, v11, v12, v13, v14, v15, v16, v17].drop 15).take (Tryd.prog.cellsOf 24)) = ys[15]? := hf 15 _ rfl
    rw [fcells_ints] at h15
    have h16 : DataW.trod enc Tryd.prog w base sp held m 24 (([v0, v1, v2, v3, v4, v5, v6, v7, v8, v9, v10, v11, v12, v13, v14, v15, v16, v17].drop 16).take (Tryd.prog.cellsOf 24)) = ys[16]? := hf 16 _ rfl
    rw [fcells_ints] at h16
    have h17 : DataW.trod enc Tryd.prog w base sp held m 3 (([v0, v1, v2, v3, v4, v5, v6, v7, v8, v9, v10, v11, v12, v13, v14, v15, v16, v17].drop 17).take (Tryd.prog.cellsOf 3)) = ys[17]? := hf 17 _ rfl
    rw [cells_int] at h17
    simp only [List.drop_zero, List.take_succ_cons, List.take_zero] at h0
    simp only [List.drop_succ_cons, List.drop_zero, List.take_succ_cons, List.take_zero] at h1 h2 h3 h4 h5 h6 h7 h8 h9 h10 h11 h12 h13 h14 h15 h16 h17
    have hx : ∀ i, i < 18 → ∃ y, ys[i]? = some y := fun i hi => ⟨ys[i]'(by simp at *; omega), List.getElem?_eq_getElem _⟩
    obtain ⟨y0, e0⟩ := hx 0 (by omega)
    rw [e0] at h0
    obtain ⟨x0, r0, q0⟩ := str_of_trod (w := w) h0
    simp only [List.cons.injEq, and_true] at r0
    subst r0
    obtain ⟨y1, e1⟩ := hx 1 (by omega)
    rw [e1] at h1
    obtain ⟨x1, rfl, q1⟩ := int_of_trod h1
    obtain ⟨y2, e2⟩ := hx 2 (by omega)
    rw [e2] at h2
    obtain ⟨x2, rfl, q2⟩ := int_of_trod h2
    obtain ⟨y3, e3⟩ := hx 3 (by omega)
    rw [e3] at h3
    obtain ⟨x3, rfl, q3⟩ := int_of_trod h3
    obtain ⟨y4, e4⟩ := hx 4 (by omega)
    rw [e4] at h4
    obtain ⟨x4, rfl, q4⟩ := int_of_trod h4
    obtain ⟨y5, e5⟩ := hx 5 (by omega)
    rw [e5] at h5
    obtain ⟨x5, rfl, q5⟩ := int_of_trod h5
    obtain ⟨y6, e6⟩ := hx 6 (by omega)
    rw [e6] at h6
    obtain ⟨x6, q6⟩ := ints_of_trod Tryd.underlying24 Tryd.underlying3 cells_int h6
    obtain ⟨y7, e7⟩ := hx 7 (by omega)
    rw [e7] at h7
    obtain ⟨x7, q7⟩ := sl_of_trod Tryd.underlying49 cells_thE (by omega) (fun _ _ _ hh _ => th_of_trod hh) h7
    obtain ⟨y8, e8⟩ := hx 8 (by omega)
    rw [e8] at h8
    obtain ⟨x8, q8⟩ := ints_of_trod Tryd.underlying24 Tryd.underlying3 cells_int h8
    obtain ⟨y9, e9⟩ := hx 9 (by omega)
    rw [e9] at h9
    obtain ⟨x9, q9⟩ := ints_of_trod Tryd.underlying24 Tryd.underlying3 cells_int h9
    obtain ⟨y10, e10⟩ := hx 10 (by omega)
    rw [e10] at h10
    obtain ⟨x10, rfl, q10⟩ := int_of_trod h10
    obtain ⟨y11, e11⟩ := hx 11 (by omega)
    rw [e11] at h11
    obtain ⟨x11, rfl, q11⟩ := int_of_trod h11
    obtain ⟨y12, e12⟩ := hx 12 (by omega)
    rw [e12] at h12
    obtain ⟨x12, q12⟩ := ints_of_trod Tryd.underlying24 Tryd.underlying3 cells_int h12
    obtain ⟨y13, e13⟩ := hx 13 (by omega)
    rw [e13] at h13
    obtain ⟨x13, rfl, q13⟩ := int_of_trod h13
    obtain ⟨y14, e14⟩ := hx 14 (by omega)
    rw [e14] at h14
    obtain ⟨x14, q14⟩ := ints_of_trod Tryd.underlying24 Tryd.underlying3 cells_int h14
    obtain ⟨y15, e15⟩ := hx 15 (by omega)
    rw [e15] at h15
    obtain ⟨x15, q15⟩ := ints_of_trod Tryd.underlying24 Tryd.underlying3 cells_int h15
    obtain ⟨y16, e16⟩ := hx 16 (by omega)
    rw [e16] at h16
    obtain ⟨x16, q16⟩ := ints_of_trod Tryd.underlying24 Tryd.underlying3 cells_int h16
    obtain ⟨y17, e17⟩ := hx 17 (by omega)
    rw [e17] at h17
    obtain ⟨x17, rfl, q17⟩ := int_of_trod h17
    exact ⟨⟨x0, x1, x2, x3, x4, x5, x6, x7, x8, x9, x10, x11, x12, x13, x14, x15, x16, x17⟩, v6, v7, v8, v9, v12, v14, v15, v16, rfl, q0, q1, q2, q3, q4, q5, q6, q7, q8, q9, q10, q11, q12, q13, q14, q15, q16, q17⟩
set_option maxRecDepth 100000 in
set_option maxHeartbeats 1600000 in
theorem fam_of_trod {n : Nat} {cs : List Value} {x : DataW H × List MemPlace} (h : DataW.trod enc Tryd.prog w base sp held n 27 cs = some x) : ∃ v q, v = .agg cs.toArray ∧ IsFam 0 w v q := by
  obtain ⟨ys, m, _, _, hlen, _, hf⟩ := DataW.trod_struct Tryd.underlying27 h
  rw [cells_famE] at hlen
  match cs, hlen with
  | [v0, v1, v2, v3, v4, v5, v6, v7, v8, v9], _ =>
    have h0 : DataW.trod enc Tryd.prog w base sp held m 9 (([v0, v1, v2, v3, v4, v5, v6, v7, v8, v9].drop 0).take (Tryd.prog.cellsOf 9)) = ys[0]? := hf 0 _ rfl
    rw [fcells_string] at h0
    have h1 : DataW.trod enc Tryd.prog w base sp held m 3 (([v0, v1, v2, v3, v4, v5, v6, v7, v8, v9].drop 1).take (Tryd.prog.cellsOf 3)) = ys[1]? := hf 1 _ rfl
    rw [cells_int] at h1
    have h2 : DataW.trod enc Tryd.prog w base sp held m 22 (([v0, v1, v2, v3, v4, v5, v6, v7, v8, v9].drop 2).take (Tryd.prog.cellsOf 22)) = ys[2]? := hf 2 _ rfl
    rw [cells_strs] at h2
    have h3 : DataW.trod enc Tryd.prog w base sp held m 22 (([v0, v1, v2, v3, v4, v5, v6, v7, v8, v9].drop 3).take (Tryd.prog.cellsOf 22)) = ys[3]? := hf 3 _ rfl
    rw [cells_strs] at h3
    have h4 : DataW.trod enc Tryd.prog w base sp held m 22 (([v0, v1, v2, v3, v4, v5, v6, v7, v8, v9].drop 4).take (Tryd.prog.cellsOf 22)) = ys[4]? := hf 4 _ rfl
    rw [cells_strs] at h4
    have h5 : DataW.trod enc Tryd.prog w base sp held m 3 (([v0, v1, v2, v3, v4, v5, v6, v7, v8, v9].drop 5).take (Tryd.prog.cellsOf 3)) = ys[5]? := hf 5 _ rfl
    rw [cells_int] at h5
    have h6 : DataW.trod enc Tryd.prog w base sp held m 23 (([v0, v1, v2, v3, v4, v5, v6, v7, v8, v9].drop 6).take (Tryd.prog.cellsOf 23)) = ys[6]? := hf 6 _ rfl
    rw [cells_lns] at h6
    have h7 : DataW.trod enc Tryd.prog w base sp held m 24 (([v0, v1, v2, v3, v4, v5, v6, v7, v8, v9].drop 7).take (Tryd.prog.cellsOf 24)) = ys[7]? := hf 7 _ rfl
    rw [fcells_ints] at h7
    have h8 : DataW.trod enc Tryd.prog w base sp held m 24 (([v0, v1, v2, v3, v4, v5, v6, v7, v8, v9].drop 8).take (Tryd.prog.cellsOf 24)) = ys[8]? := hf 8 _ rfl
    rw [fcells_ints] at h8
    have h9 : DataW.trod enc Tryd.prog w base sp held m 25 (([v0, v1, v2, v3, v4, v5, v6, v7, v8, v9].drop 9).take (Tryd.prog.cellsOf 25)) = ys[9]? := hf 9 _ rfl
    rw [cells_rus] at h9
    simp only [List.drop_zero, List.take_succ_cons, List.take_zero] at h0
    simp only [List.drop_succ_cons, List.drop_zero, List.take_succ_cons, List.take_zero] at h1 h2 h3 h4 h5 h6 h7 h8 h9
    have hx : ∀ i, i < 10 → ∃ y, ys[i]? = some y := fun i hi => ⟨ys[i]'(by simp at *; omega), List.getElem?_eq_getElem _⟩
    obtain ⟨y0, e0⟩ := hx 0 (by omega)
    rw [e0] at h0
    obtain ⟨x0, r0, q0⟩ := str_of_trod (w := w) h0
    simp only [List.cons.injEq, and_true] at r0
    subst r0
    obtain ⟨y1, e1⟩ := hx 1 (by omega)
    rw [e1] at h1
    obtain ⟨x1, rfl, q1⟩ := int_of_trod h1
    obtain ⟨y2, e2⟩ := hx 2 (by omega)
    rw [e2] at h2
    obtain ⟨x2, q2⟩ := sl_of_trod Tryd.underlying22 fcells_string (by omega) (fun _ _ _ hh _ => str_of_trod hh) h2
    obtain ⟨y3, e3⟩ := hx 3 (by omega)
    rw [e3] at h3
    obtain ⟨x3, q3⟩ := sl_of_trod Tryd.underlying22 fcells_string (by omega) (fun _ _ _ hh _ => str_of_trod hh) h3
    obtain ⟨y4, e4⟩ := hx 4 (by omega)
    rw [e4] at h4
    obtain ⟨x4, q4⟩ := sl_of_trod Tryd.underlying22 fcells_string (by omega) (fun _ _ _ hh _ => str_of_trod hh) h4
    obtain ⟨y5, e5⟩ := hx 5 (by omega)
    rw [e5] at h5
    obtain ⟨x5, rfl, q5⟩ := int_of_trod h5
    obtain ⟨y6, e6⟩ := hx 6 (by omega)
    rw [e6] at h6
    obtain ⟨x6, q6⟩ := sl_of_trod Tryd.underlying23 cells_lnE (by omega) (fun _ _ _ hh _ => ln_of_trod hh) h6
    obtain ⟨y7, e7⟩ := hx 7 (by omega)
    rw [e7] at h7
    obtain ⟨x7, q7⟩ := ints_of_trod Tryd.underlying24 Tryd.underlying3 cells_int h7
    obtain ⟨y8, e8⟩ := hx 8 (by omega)
    rw [e8] at h8
    obtain ⟨x8, q8⟩ := ints_of_trod Tryd.underlying24 Tryd.underlying3 cells_int h8
    obtain ⟨y9, e9⟩ := hx 9 (by omega)
    rw [e9] at h9
    obtain ⟨x9, q9⟩ := sl_of_trod Tryd.underlying25 cells_ruE (by omega) (fun _ _ _ hh _ => ru_of_trod hh) h9
    exact ⟨_, ⟨x0, x1, x2, x3, x4, x5, x6, x7, x8, x9⟩, rfl, v2, v3, v4, v6, v7, v8, v9, rfl, q0, q1, q2, q3, q4, q5, q6, q7, q8, q9⟩
end
set_option maxRecDepth 100000 in
theorem arg_fam {H : Type} {enc : TypeId × Value → H} {w : World} {r : Reach} {b0 : Nat} {v : Value} {d : DataW H} {p : List MemPlace} (hv : Value.okWide Tryd.prog w r b0 27 v) (h : DataW.Trod enc Tryd.prog w 0 (fun _ => true) true 27 v d p) :
    ∃ q, IsFam 0 w v q := by
  obtain ⟨cs, rfl, _⟩ := okWide_struct Tryd.underlying27 hv
  obtain ⟨fuel, hf⟩ := h
  obtain ⟨v', q, e, hq⟩ := fam_of_trod hf
  have e2 : v' = .agg cs := by rw [e]; simp [Value.cells]
  exact ⟨q, e2 ▸ hq⟩
end Go.Proofs.YtmpbfdfjcfanoaaDoor

/-
  THE SMALL FUNCTIONS OF ruleError: positionError, directionError, responseError, guardsError, sharedError, statesExist.
-/
namespace Go.Proofs.YtmpbfdfjcfanoaaDoor
open Go.RowKit Go.Deep
set_option maxHeartbeats 800000 in
theorem positionError_any (pos top : Int) (w : World) : Calls Tryd.prog 119 #[.int .i64 pos, .int .i64 top] w fun e w' => e = .returned (.int .i64 (posE pos top)) ∧ w = w' := by
  have E : Hid (posE pos top = if inB 0 2 pos = false ∨ (pos ≠ 0 ∧ top = 3) then 1 else 0) := (rfl : posE pos top = _)
  cases h1 : inB 0 2 pos with
  | false =>
    have H1 := Lib.hid h1
    clear h1
    go_enter Tryd.func119, Tryd.ntmps119
    go_wp2_with (go_at_call 44; refine (between_any _ _ _ _).mono ?_; rintro e w' ⟨rfl, rfl⟩; rw [H1.out])
    go_ret
    exact ⟨ret_int (by have := H1.out; rw [E.out]; simp [this]), rfl⟩
  | true =>
    have H1 := Lib.hid h1
    clear h1
    by_cases h2 : pos = 0
    · subst h2
      go_enter Tryd.func119, Tryd.ntmps119
      go_wp2_with (go_at_call 44; refine (between_any _ _ _ _).mono ?_; rintro e w' ⟨rfl, rfl⟩; rw [H1.out])
      go_ret
      exact ⟨ret_int (by have := H1.out; rw [E.out]; simp [this]), rfl⟩
    · have b2 : (pos != 0) = true := by simpa using h2
      have H2 := Lib.hid h2
      clear h2
      by_cases h3 : top = 3
      · subst h3
        go_enter Tryd.func119, Tryd.ntmps119
        go_wp2_with (go_at_call 44; refine (between_any _ _ _ _).mono ?_; rintro e w' ⟨rfl, rfl⟩; rw [H1.out])
        go_ret
        exact ⟨ret_int (by have := H2.out; rw [E.out]; simp [this]), rfl⟩
      · have b3 : (top == 3) = false := by simpa using h3
        have H3 := Lib.hid h3
        clear h3
        go_enter Tryd.func119, Tryd.ntmps119
        go_wp2_with (go_at_call 44; refine (between_any _ _ _ _).mono ?_; rintro e w' ⟨rfl, rfl⟩; rw [H1.out])
        go_ret
        exact ⟨ret_int (by have h1 := H1.out; have h3 := H3.out; rw [E.out]; simp [h1, h3]), rfl⟩
set_option maxHeartbeats 800000 in
theorem directionError_any (dir top : Int) (w : World) : Calls Tryd.prog 120 #[.int .i64 dir, .int .i64 top] w fun e w' => e = .returned (.int .i64 (dirE dir top)) ∧ w = w' := by
  have E : Hid (dirE dir top = if top = 4 then (if dir = 3 ∨ dir = 4 then 0 else 1) else (if dir = 1 ∨ dir = 2 then 0 else 1)) := (rfl : dirE dir top = _)
  by_cases ht : top = 4
  · subst ht
    by_cases h1 : dir = 3
    · subst h1
      go_enter Tryd.func120, Tryd.ntmps120
      go_wp2_with fail
      go_ret
      exact ⟨ret_int (by rw [E.out]; simp), rfl⟩
    · have b1 : (dir != 3) = true := by simpa using h1
      have b1' : (dir == 3) = false := by simpa using h1
      by_cases h2 : dir = 4
      · subst h2
        go_enter Tryd.func120, Tryd.ntmps120
        go_wp2_with fail
        go_ret
        exact ⟨ret_int (by rw [E.out]; simp), rfl⟩
      · have b2 : (dir != 4) = true := by simpa using h2
        have H := Lib.hid (And.intro h1 h2)
        clear h1 h2
        go_enter Tryd.func120, Tryd.ntmps120
        go_wp2_with fail
        go_ret
        exact ⟨ret_int (by have := H.out; rw [E.out]; simp [this]), rfl⟩
  · have bt : (top == 4) = false := by simpa using ht
    have HT := Lib.hid ht
    clear ht
    by_cases h1 : dir = 1
    · subst h1
      go_enter Tryd.func120, Tryd.ntmps120
      go_wp2_with fail
      go_ret
      exact ⟨ret_int (by have := HT.out; rw [E.out]; simp [this]), rfl⟩
    · have b1 : (dir != 1) = true := by simpa using h1
      have b1' : (dir == 1) = false := by simpa using h1
      by_cases h2 : dir = 2
      · subst h2
        go_enter Tryd.func120, Tryd.ntmps120
        go_wp2_with fail
        go_ret
        exact ⟨ret_int (by have := HT.out; rw [E.out]; simp [this]), rfl⟩
      · have b2 : (dir != 2) = true := by simpa using h2
        have H := Lib.hid (And.intro h1 h2)
        clear h1 h2
        go_enter Tryd.func120, Tryd.ntmps120
        go_wp2_with fail
        go_ret
        exact ⟨ret_int (by have := H.out; have t := HT.out; rw [E.out]; simp [this, t]), rfl⟩

set_option maxHeartbeats 800000 in
theorem responseError_any {lo : Nat} {w : World} {v : Value} {xs : List Int} (n : Nat) (hn : n ≤ 9223372036854775807) (h : IsInts lo w v xs) :
    Calls Tryd.prog 116 #[v, .int .i64 n] w fun e w' => e = .returned (.int .i64 (reE n xs)) ∧ w = w' := by
  obtain ⟨a, cap, rfl, hl, hm, hi, hc⟩ := h
  unfold maxLen at hm
  by_cases hne : xs.length = n
  · rcases hc with rfl | ⟨b, off, rfl, _, _, hc⟩
    · obtain rfl : n = 0 := by simpa using hne.symm
      go_enter Tryd.func116, Tryd.ntmps116
      go_wp2_with fail
      refine wp_loop_rounds 1 ?_
      rw [rounds_succ]
      go_wp2_with fail
      go_ret
      exact ⟨rfl, rfl⟩
    · have HC := Lib.hid hc
      have HE : Hid (reE n xs = if allK n xs xs.length = false then 5 else 0) := by show _ = _; unfold reE; rw [if_neg (by simpa using hne)]
      have b1 : ((xs.length : Int) == (n : Int)) = true := by rw [hne]; simp
      have b2 : ((xs.length : Int) != (n : Int)) = false := by rw [hne]; simp
      clear hc hi hne
      go_enter Tryd.func116, Tryd.ntmps116
      go_wp2_with fail
      go_loop [13] (fun u => ∃ k : Nat, k ≤ xs.length ∧ u = .int .i64 k ∧ allK n xs k = true) (fun u => xs.length - (intOf u).toNat)
      case atStart => exact ⟨0, Nat.zero_le _, rfl, rfl⟩
      case round =>
        obtain ⟨k, hk, rfl, hs⟩ := hrel
        have HS := Lib.hid hs
        clear hs
        by_cases hlt : k < xs.length
        · have g1 := HC.out k hlt
          have ex : xs.getD k 0 = xs[k] := by simp [List.getD, List.getElem?_eq_getElem hlt]
          have HX := Lib.hid ex
          generalize hX : xs.getD k 0 = x at g1 HX
          clear ex hX
          cases hp : ixB n x with
          | true =>
            have HP := Lib.hid hp
            clear hp
            go_wp2_with (go_at_call 93; refine (isIndex_any x n hn _).mono ?_; rintro e w1 ⟨rfl, rfl⟩; rw [HP.out])
            go_round
            case rel => exact ⟨k + 1, by omega, by go_num, allK_succ hlt HS.out (by rw [← HX.out]; exact HP.out)⟩
            case measure => simp [intOf]; omega
          | false =>
            have HP := Lib.hid hp
            clear hp
            go_wp2_with (go_at_call 93; refine (isIndex_any x n hn _).mono ?_; rintro e w1 ⟨rfl, rfl⟩; rw [HP.out])
            go_ret
            exact ⟨ret_int (by rw [HE.out, if_pos (allK_no hlt (by rw [← HX.out]; exact HP.out))]), rfl⟩
        · have hke : k = xs.length := by omega
          have HF := Lib.hid (show reE n xs = 0 by rw [HE.out, if_neg (by rw [← hke, HS.out]; simp)])
          clear hke
          go_wp2_with fail
          go_ret
          exact ⟨ret_int (by rw [HF.out]), rfl⟩
  · have HE := Lib.hid (show reE n xs = 1 by unfold reE; rw [if_pos hne])
    have b1 : ((xs.length : Int) == (n : Int)) = false := by rw [beq_eq_false_iff_ne]; omega
    have b2 : ((xs.length : Int) != (n : Int)) = true := by rw [bne, b1]; rfl
    clear hne hc hi
    go_enter Tryd.func116, Tryd.ntmps116
    go_wp2_with fail
    go_ret
    exact ⟨ret_int (by rw [HE.out]), rfl⟩
end Go.Proofs.YtmpbfdfjcfanoaaDoor

/-
  sharedError, statesExist, guardsError, hasCliqueParts OF THE PROGRAM.
-/
namespace Go.Proofs.YtmpbfdfjcfanoaaDoor
open Go.RowKit Go.Deep
set_option maxHeartbeats 1600000 in
theorem sharedError_any {lo : Nat} {w : World} {cs : List Value} {r : Ru} (n : Nat) (hn : n ≤ 9223372036854775807) (h : RuEl lo w cs r) :
    Calls Tryd.prog 117 #[.agg cs.toArray, .int .i64 n] w fun e w' => e = .returned (.int .i64 (shE n r.rd r.wr)) ∧ Below w.heap.size w w' := by
  obtain ⟨v6, v7, v8, v9, v12, v14, v15, v16, rfl, _, _, _, _, _, _, _, _, _, _, _, _, _, _, _, _, _, _⟩ := h
  obtain ⟨nm, kind, frm, tt, pf, pt, resp, guards, ex, fa, rd, wr, send, pos, left, right, parent, dir⟩ := r
  dsimp only
  have E : Hid (shE n rd wr = if (rd ≠ -1 ∧ ixB n rd = false) ∨ (wr ≠ -1 ∧ ixB n wr = false) then 5 else 0) := (rfl : shE n rd wr = _)
  by_cases r0 : rd = -1
  · subst r0
    have R := Lib.hid (show ¬ ((-1 : Int) ≠ -1 ∧ ixB n (-1) = false) by simp)
    by_cases w0 : wr = -1
    · subst w0
      go_enter Tryd.func117, Tryd.ntmps117
      go_wp2_with fail
      go_ret
      exact ⟨ret_int (by rw [E.out]; have t := R.out; simp), allocBelow _ _⟩
    · have c0 : (wr != -1) = true := by simpa using w0
      have W0 := Lib.hid w0
      clear w0
      cases w1 : ixB n wr with
      | true =>
        have W1 := Lib.hid w1
        clear w1
        go_enter Tryd.func117, Tryd.ntmps117
        go_wp2_with (first | (go_at_call 93; (with_reducible refine (isIndex_any wr n hn _).mono ?_); rintro e w1 ⟨rfl, rfl⟩; rw [W1.out]))
        go_ret
        exact ⟨ret_int (by rw [E.out]; have t := R.out; have t1 := W1.out; simp [t1]), allocBelow _ _⟩
      | false =>
        have W1 := Lib.hid w1
        clear w1
        go_enter Tryd.func117, Tryd.ntmps117
        go_wp2_with (first | (go_at_call 93; (with_reducible refine (isIndex_any wr n hn _).mono ?_); rintro e w1 ⟨rfl, rfl⟩; rw [W1.out]))
        go_ret
        exact ⟨ret_int (by rw [E.out]; have t := R.out; have t1 := W1.out; have t2 := W0.out; simp [t1, t2]), allocBelow _ _⟩
  · have b0 : (rd != -1) = true := by simpa using r0
    have R0 := Lib.hid r0
    clear r0
    cases r1 : ixB n rd with
    | true =>
      have R1 := Lib.hid r1
      have R := Lib.hid (show ¬ (rd ≠ -1 ∧ ixB n rd = false) by rw [r1]; simp)
      clear r1
      by_cases w0 : wr = -1
      · subst w0
        go_enter Tryd.func117, Tryd.ntmps117
        go_wp2_with (go_at_call 93; (with_reducible refine (isIndex_any rd n hn _).mono ?_); rintro e w1 ⟨rfl, rfl⟩; rw [R1.out])
        go_ret
        exact ⟨ret_int (by rw [E.out]; have t := R.out; simp [t]), allocBelow _ _⟩
      · have c0 : (wr != -1) = true := by simpa using w0
        have W0 := Lib.hid w0
        clear w0
        cases w1 : ixB n wr with
        | true =>
          have W1 := Lib.hid w1
          clear w1
          go_enter Tryd.func117, Tryd.ntmps117
          go_wp2_with (first | (go_at_call 93; (with_reducible refine (isIndex_any rd n hn _).mono ?_); rintro e w1 ⟨rfl, rfl⟩; rw [R1.out]) | (go_at_call 93; (with_reducible refine (isIndex_any wr n hn _).mono ?_); rintro e w1 ⟨rfl, rfl⟩; rw [W1.out]))
          go_ret
          exact ⟨ret_int (by rw [E.out]; have t := R.out; have t1 := W1.out; simp [t, t1]), allocBelow _ _⟩
        | false =>
          have W1 := Lib.hid w1
          clear w1
          go_enter Tryd.func117, Tryd.ntmps117
          go_wp2_with (first | (go_at_call 93; (with_reducible refine (isIndex_any rd n hn _).mono ?_); rintro e w1 ⟨rfl, rfl⟩; rw [R1.out]) | (go_at_call 93; (with_reducible refine (isIndex_any wr n hn _).mono ?_); rintro e w1 ⟨rfl, rfl⟩; rw [W1.out]))
          go_ret
          exact ⟨ret_int (by rw [E.out]; have t := R.out; have t1 := W1.out; have t2 := W0.out; simp [t1, t2]), allocBelow _ _⟩
    | false =>
      have R1 := Lib.hid r1
      clear r1
      go_enter Tryd.func117, Tryd.ntmps117
      go_wp2_with (go_at_call 93; (with_reducible refine (isIndex_any rd n hn _).mono ?_); rintro e w1 ⟨rfl, rfl⟩; rw [R1.out])
      go_ret
      exact ⟨ret_int (by rw [E.out]; have t := R0.out; have t1 := R1.out; simp [t, t1]), allocBelow _ _⟩
set_option maxHeartbeats 1600000 in
theorem statesExist_any {lo : Nat} {w : World} {cs : List Value} {r : Ru} (n : Nat) (hn : n ≤ 9223372036854775807) (h : RuEl lo w cs r) :
    Calls Tryd.prog 97 #[.agg cs.toArray, .int .i64 n] w fun e w' => e = .returned (.bool (stB r n)) ∧ Below w.heap.size w w' := by
  obtain ⟨v6, v7, v8, v9, v12, v14, v15, v16, rfl, _, _, _, _, _, _, _, _, _, _, _, _, _, _, _, _, _, _⟩ := h
  obtain ⟨nm, kind, frm, tt, pf, pt, resp, guards, ex, fa, rd, wr, send, pos, left, right, parent, dir⟩ := r
  dsimp only
  have E : Hid (stB ⟨nm, kind, frm, tt, pf, pt, resp, guards, ex, fa, rd, wr, send, pos, left, right, parent, dir⟩ n = (ixB n frm && ixB n tt && ixB n pf && ixB n pt)) := (rfl : stB _ n = _)
  cases h0 : ixB n frm with
  | false =>
    have H0 := Lib.hid h0
    clear h0
    go_enter Tryd.func97, Tryd.ntmps97
    go_wp2_with (first | (go_at_call 93; (with_reducible refine (isIndex_any frm n hn _).mono ?_); rintro e w1 ⟨rfl, rfl⟩; rw [H0.out]))
    go_ret
    exact ⟨ret_bool (by have t0 := H0.out; rw [E.out]; simp [t0]), allocBelow _ _⟩
  | true =>
    have H0 := Lib.hid h0
    clear h0
    cases h1 : ixB n tt with
    | false =>
      have H1 := Lib.hid h1
      clear h1
      go_enter Tryd.func97, Tryd.ntmps97
      go_wp2_with (first | (go_at_call 93; (with_reducible refine (isIndex_any frm n hn _).mono ?_); rintro e w1 ⟨rfl, rfl⟩; rw [H0.out]) | (go_at_call 93; (with_reducible refine (isIndex_any tt n hn _).mono ?_); rintro e w1 ⟨rfl, rfl⟩; rw [H1.out]))
      go_ret
      exact ⟨ret_bool (by have t0 := H0.out; have t1 := H1.out; rw [E.out]; simp [t0, t1]), allocBelow _ _⟩
    | true =>
      have H1 := Lib.hid h1
      clear h1
      cases h2 : ixB n pf with
      | false =>
        have H2 := Lib.hid h2
        clear h2
        go_enter Tryd.func97, Tryd.ntmps97
        go_wp2_with (first | (go_at_call 93; (with_reducible refine (isIndex_any frm n hn _).mono ?_); rintro e w1 ⟨rfl, rfl⟩; rw [H0.out]) | (go_at_call 93; (with_reducible refine (isIndex_any tt n hn _).mono ?_); rintro e w1 ⟨rfl, rfl⟩; rw [H1.out]) | (go_at_call 93; (with_reducible refine (isIndex_any pf n hn _).mono ?_); rintro e w1 ⟨rfl, rfl⟩; rw [H2.out]))
        go_ret
        exact ⟨ret_bool (by have t0 := H0.out; have t1 := H1.out; have t2 := H2.out; rw [E.out]; simp [t0, t1, t2]), allocBelow _ _⟩
      | true =>
        have H2 := Lib.hid h2
        clear h2
        cases h3 : ixB n pt with
        | false =>
          have H3 := Lib.hid h3
          clear h3
          go_enter Tryd.func97, Tryd.ntmps97
          go_wp2_with (first | (go_at_call 93; (with_reducible refine (isIndex_any frm n hn _).mono ?_); rintro e w1 ⟨rfl, rfl⟩; rw [H0.out]) | (go_at_call 93; (with_reducible refine (isIndex_any tt n hn _).mono ?_); rintro e w1 ⟨rfl, rfl⟩; rw [H1.out]) | (go_at_call 93; (with_reducible refine (isIndex_any pf n hn _).mono ?_); rintro e w1 ⟨rfl, rfl⟩; rw [H2.out]) | (go_at_call 93; (with_reducible refine (isIndex_any pt n hn _).mono ?_); rintro e w1 ⟨rfl, rfl⟩; rw [H3.out]))
          go_ret
          exact ⟨ret_bool (by have t0 := H0.out; have t1 := H1.out; have t2 := H2.out; have t3 := H3.out; rw [E.out]; simp [t0, t1, t2, t3]), allocBelow _ _⟩
        | true =>
          have H3 := Lib.hid h3
          clear h3
          go_enter Tryd.func97, Tryd.ntmps97
          go_wp2_with (first | (go_at_call 93; (with_reducible refine (isIndex_any frm n hn _).mono ?_); rintro e w1 ⟨rfl, rfl⟩; rw [H0.out]) | (go_at_call 93; (with_reducible refine (isIndex_any tt n hn _).mono ?_); rintro e w1 ⟨rfl, rfl⟩; rw [H1.out]) | (go_at_call 93; (with_reducible refine (isIndex_any pf n hn _).mono ?_); rintro e w1 ⟨rfl, rfl⟩; rw [H2.out]) | (go_at_call 93; (with_reducible refine (isIndex_any pt n hn _).mono ?_); rintro e w1 ⟨rfl, rfl⟩; rw [H3.out]))
          go_ret
          exact ⟨ret_bool (by have t0 := H0.out; have t1 := H1.out; have t2 := H2.out; have t3 := H3.out; rw [E.out]; simp [t0, t1, t2, t3]), allocBelow _ _⟩
theorem gusE_drop {m : Nat} {gs : List Th} {k : Nat} (h : k < gs.length) (h0 : guE m gs[k] = 0) : gusE m (gs.drop k) = gusE m (gs.drop (k + 1)) := by
  rw [List.drop_eq_getElem_cons h, gusE, if_pos h0]
theorem gusE_bad {m : Nat} {gs : List Th} {k : Nat} (h : k < gs.length) (h0 : guE m gs[k] ≠ 0) : gusE m (gs.drop k) = guE m gs[k] := by
  rw [List.drop_eq_getElem_cons h, gusE, if_neg h0]
set_option maxHeartbeats 3200000 in
theorem guardsError_any {lo : Nat} {w : World} {v : Value} {gs : List Th} (n : Nat) (hn : n ≤ 9223372036854775807) (h : IsSl 6 ThEl lo w v gs) :
    Calls Tryd.prog 118 #[v, .int .i64 n] w fun e w' => e = .returned (.int .i64 (guardE n gs)) ∧ Below w.heap.size w w' := by
  have H := Lib.hid h
  have hbd := h.bound
  obtain ⟨a, cap, rfl⟩ := h.shape
  clear h
  have E : Hid (guardE n gs = if gusE n gs = 0 then (if 2 < gs.length then 4 else 0) else gusE n gs) := (rfl : guardE n gs = _)
  go_enter Tryd.func118, Tryd.ntmps118
  go_wp2_with fail
  go_loopw [9] (fun u wr => ∃ k : Nat, k ≤ gs.length ∧ u = .int .i64 k ∧ gusE n (gs.drop k) = gusE n gs ∧ Below w.heap.size w wr) (fun u _ => gs.length - (intOf u).toNat)
  case atStart => exact ⟨0, Nat.zero_le _, rfl, rfl, Below.refl _ _⟩
  case round =>
    obtain ⟨k, hk, rfl, hs, hB⟩ := hrel
    have HS := Lib.hid hs
    have HB := Lib.hid hB
    by_cases hlt : k < gs.length
    · obtain ⟨b, off, cs, rfl, _, hbw, _, hc, hg⟩ := H.out.at k hlt
      have HG := Lib.hid (@gusE_drop n gs k hlt)
      have HG' := Lib.hid (@gusE_bad n gs k hlt)
      generalize hgk : gs[k]'hlt = g at hg HG HG'
      obtain ⟨msg, coef, ⟨c, nn, t, f⟩⟩ := g
      obtain ⟨rfl, _⟩ := hg
      have g0 := keep1 (show w.cell? ⟨b, off + k * 6, none⟩ = some (.int .i64 msg) from hc 0 (by omega)) hB
      have g1 := keep1 (show w.cell? ⟨b, off + k * 6 + 1, none⟩ = some (.int .i64 coef) from hc 1 (by omega)) hB
      have g2 := keep1 (show w.cell? ⟨b, off + k * 6 + 2, none⟩ = some (.int .i64 c) from hc 2 (by omega)) hB
      have g3 := keep1 (show w.cell? ⟨b, off + k * 6 + 3, none⟩ = some (.int .i64 nn) from hc 3 (by omega)) hB
      have g4 := keep1 (show w.cell? ⟨b, off + k * 6 + 4, none⟩ = some (.int .i64 t) from hc 4 (by omega)) hB
      have g5 := keep1 (show w.cell? ⟨b, off + k * 6 + 5, none⟩ = some (.int .i64 f) from hc 5 (by omega)) hB
      have HE : Hid (guE n ⟨msg, coef, ⟨c, nn, t, f⟩⟩ = if ixB n msg = false then 5 else if inB 1 100 coef = false then 1 else if smL c nn t f = false then 4 else 0) := (rfl : guE n _ = _)
      have hbr : b < wr.heap.size := cell_lt g0
      clear hs hB hc hgk
      cases m1 : ixB n msg with
      | false =>
        have M1 := Lib.hid m1
        clear m1
        go_wp2_with (first | (go_at_call 93; (with_reducible refine (isIndex_any msg n hn _).mono ?_); rintro e w1 ⟨rfl, rfl⟩; rw [M1.out]))
        go_ret
        exact ⟨ret_int (by have t1 := M1.out; have q : guE n ⟨msg, coef, ⟨c, nn, t, f⟩⟩ = 5 := (by rw [HE.out]; simp [t1]); rw [E.out, ← HS.out, HG'.out (by rw [q]; omega), q]; rfl), thenBelow HB.out (allocBelow _ _)⟩
      | true =>
        have M1 := Lib.hid m1
        clear m1
        cases m2 : inB 1 100 coef with
        | false =>
          have M2 := Lib.hid m2
          clear m2
          go_wp2_with (first | (go_at_call 93; (with_reducible refine (isIndex_any msg n hn _).mono ?_); rintro e w1 ⟨rfl, rfl⟩; rw [M1.out]) | (go_at_call 44; (with_reducible refine (between_any coef 1 100 _).mono ?_); rintro e w1 ⟨rfl, rfl⟩; rw [M2.out]))
          go_ret
          exact ⟨ret_int (by have t1 := M1.out; have t2 := M2.out; have q : guE n ⟨msg, coef, ⟨c, nn, t, f⟩⟩ = 1 := (by rw [HE.out]; simp [t1, t2]); rw [E.out, ← HS.out, HG'.out (by rw [q]; omega), q]; rfl), thenBelow HB.out (allocBelow _ _)⟩
        | true =>
          have M2 := Lib.hid m2
          clear m2
          cases m3 : smL c nn t f with
          | false =>
            have M3 := Lib.hid m3
            clear m3
            go_wp2_with (first | (go_at_call 93; (with_reducible refine (isIndex_any msg n hn _).mono ?_); rintro e w1 ⟨rfl, rfl⟩; rw [M1.out]) | (go_at_call 44; (with_reducible refine (between_any coef 1 100 _).mono ?_); rintro e w1 ⟨rfl, rfl⟩; rw [M2.out]) | (go_at_call 49; (with_reducible refine (isLarge_any c nn t f _).mono ?_); rintro e w2 ⟨rfl, hb2⟩; rw [M3.out]))
            go_ret
            exact ⟨ret_int (by have t1 := M1.out; have t2 := M2.out; have t3 := M3.out; have q : guE n ⟨msg, coef, ⟨c, nn, t, f⟩⟩ = 4 := (by rw [HE.out]; simp [t1, t2, t3]); rw [E.out, ← HS.out, HG'.out (by rw [q]; omega), q]; rfl), thenBelow HB.out (thenBelow (allocBelow _ _) hb2)⟩
          | true =>
            have M3 := Lib.hid m3
            have HZ := Lib.hid (show gusE n (gs.drop (k + 1)) = gusE n gs by rw [← HS.out]; exact (HG.out (by rw [HE.out, M1.out, M2.out, m3]; simp)).symm)
            clear m3
            go_wp2_with (first | (go_at_call 93; (with_reducible refine (isIndex_any msg n hn _).mono ?_); rintro e w1 ⟨rfl, rfl⟩; rw [M1.out]) | (go_at_call 44; (with_reducible refine (between_any coef 1 100 _).mono ?_); rintro e w1 ⟨rfl, rfl⟩; rw [M2.out]) | (go_at_call 49; (with_reducible refine (isLarge_any c nn t f _).mono ?_); rintro e w2 ⟨rfl, hb2⟩; rw [M3.out]))
            go_roundw
            case rel => exact ⟨k + 1, by omega, by go_num, HZ.out, thenBelow HB.out (thenBelow (allocBelow _ _) hb2)⟩
            case measure => simp [intOf]; omega
    · have HZ := Lib.hid (show gusE n gs = 0 by rw [← HS.out, List.drop_eq_nil_of_le (by omega)]; rfl)
      clear hs hB
      by_cases h2 : 2 < gs.length
      · have b2 : (2 : Int) < (gs.length : Int) := by omega
        go_wp2_with fail
        go_ret
        exact ⟨ret_int (by rw [E.out, if_pos HZ.out, if_pos h2]), HB.out⟩
      · have b2 : ¬ (2 : Int) < (gs.length : Int) := by omega
        go_wp2_with fail
        go_ret
        exact ⟨ret_int (by rw [E.out, if_pos HZ.out, if_neg h2]), HB.out⟩
end Go.Proofs.YtmpbfdfjcfanoaaDoor

/-
  withoutUsed AND hasCliqueParts OF THE PROGRAM.
-/
namespace Go.Proofs.YtmpbfdfjcfanoaaDoor
open Go.RowKit Go.Deep
theorem ints_nil (lo : Nat) (w : World) : IsInts lo w (.slice none 0 0) [] := ⟨none, 0, rfl, by simp, by simp [maxLen], by simp, .inl rfl⟩
theorem ths_nil (lo : Nat) (w : World) : IsSl 6 ThEl lo w (.slice none 0 0) [] := ⟨none, 0, rfl, by simp, by simp [maxLen], by simp, .inl rfl⟩
theorem new_frz (w : World) (cs : Array Value) (t : TypeId) (o : Nat) {n : Nat} (h : n = w.heap.size) : (w.alloc (.cells cs t)).frozen? ⟨n, o, none⟩ = false := by subst h; simp
theorem bare_end {lo : Nat} {w w' : World} {cs' : List Value} {B : Ru} {e : Ending} (hb : Below w.heap.size w w') (he : e = .returned (.agg cs'.toArray)) (h : ∀ W, Below w.heap.size w W → RuEl lo W cs' B) : e = .returned (.agg cs'.toArray) ∧ RuEl lo w' cs' B ∧ Below w.heap.size w w' :=
  ⟨he, h w' hb, hb⟩
/-- The cells that are left, by the kind. -/
def bareC1 (cs : List Value) : List Value := ((((((((cs).set 2 (.int .i64 0)).set 3 (.int .i64 0)).set 7 (.slice none 0 0)).set 8 (.slice none 0 0)).set 9 (.slice none 0 0)).set 12 (.slice none 0 0)).set 10 (.int .i64 (-1))).set 11 (.int .i64 (-1))
def bareC2 (cs : List Value) : List Value := ((((((cs).set 2 (.int .i64 0)).set 3 (.int .i64 0)).set 4 (.int .i64 0)).set 5 (.int .i64 0)).set 10 (.int .i64 (-1))).set 11 (.int .i64 (-1))
def bareC3 (cs : List Value) : List Value := (((((cs).set 2 (.int .i64 0)).set 3 (.int .i64 0)).set 6 (.slice none 0 0)).set 10 (.int .i64 (-1))).set 11 (.int .i64 (-1))
def bareC4t (cs : List Value) : List Value := ((((((cs).set 2 (.int .i64 0)).set 3 (.int .i64 0)).set 13 (.int .i64 0)).set 14 (.slice none 0 0)).set 15 (.slice none 0 0)).set 16 (.slice none 0 0)
def bareC4n (cs : List Value) : List Value := (((((cs).set 2 (.int .i64 0)).set 3 (.int .i64 0)).set 13 (.int .i64 0)).set 14 (.slice none 0 0)).set 15 (.slice none 0 0)
def bareC5 (cs : List Value) : List Value := (((((cs).set 2 (.int .i64 0)).set 3 (.int .i64 0)).set 4 (.int .i64 0)).set 5 (.int .i64 0)).set 17 (.int .i64 0)
def bareC (kind top : Int) (cs : List Value) : List Value := if kind = 1 then bareC1 cs else if kind = 2 then bareC2 cs else if kind = 3 then bareC3 cs else if kind = 4 then (if top = 4 then bareC4t cs else bareC4n cs) else bareC5 cs
theorem bareC_1 (top : Int) (cs : List Value) : bareC 1 top cs = bareC1 cs := by unfold bareC; rw [if_pos rfl]
theorem bareC_2 (top : Int) (cs : List Value) : bareC 2 top cs = bareC2 cs := by unfold bareC; rw [if_neg (by decide), if_pos rfl]
theorem bareC_3 (top : Int) (cs : List Value) : bareC 3 top cs = bareC3 cs := by unfold bareC; rw [if_neg (by decide), if_neg (by decide), if_pos rfl]
theorem bareC_4t (cs : List Value) : bareC 4 4 cs = bareC4t cs := by unfold bareC; rw [if_neg (by decide), if_neg (by decide), if_neg (by decide), if_pos rfl, if_pos rfl]
theorem bareC_4n (top : Int) (cs : List Value) (h : top ≠ 4) : bareC 4 top cs = bareC4n cs := by unfold bareC; rw [if_neg (by decide), if_neg (by decide), if_neg (by decide), if_pos rfl, if_neg h]
theorem bareC_5 (top : Int) (cs : List Value) : bareC 5 top cs = bareC5 cs := by unfold bareC; rw [if_neg (by decide), if_neg (by decide), if_neg (by decide), if_neg (by decide)]
theorem info_rule : (Tryd.prog.info? 76).map (·.size) = some 18 := by kernel_rfl
theorem block_set {w : World} {g i : Nat} {cur cur' : Array Value} {t : TypeId} {v : Value} (h : w.heap[g]? = some (.cells cur t (0, 0))) (e : cur.setIfInBounds i v = cur') : (w.setCell ⟨g, i, none⟩ v).heap[g]? = some (.cells cur' t (0, 0)) := by rw [← e]; exact heap_setCell_same w g i cur t v h
theorem i64_0 : I64 0 := by constructor <;> omega
theorem i64_m1 : I64 (-1) := by constructor <;> omega
set_option maxHeartbeats 1600000 in
theorem withoutUsed_1 {lo : Nat} {w : World} {cs : List Value} {nm : ByteArray} {frm tw pf pt rd wr pos dir : Int} {resp ex fa send left right parent : List Int} {guards : List Th} (top : Int) (h : RuEl lo w cs ⟨nm, 1, frm, tw, pf, pt, resp, guards, ex, fa, rd, wr, send, pos, left, right, parent, dir⟩) :
    Calls Tryd.prog 115 #[.agg cs.toArray, .int .i64 top] w fun e w' => e = .returned (.agg (bareC1 cs).toArray) ∧ RuEl lo w' (bareC1 cs) ⟨nm, 1, 0, 0, pf, pt, resp, [], [], [], (-1), (-1), [], pos, left, right, parent, dir⟩ ∧ Below w.heap.size w w' := by
  obtain ⟨v6, v7, v8, v9, v12, v14, v15, v16, rfl, h0, h1, h2, h3, h4, h5, h6, h7, h8, h9, h10, h11, h12, h13, h14, h15, h16, h17⟩ := h
  dsimp only at h0 h1 h2 h3 h4 h5 h6 h7 h8 h9 h10 h11 h12 h13 h14 h15 h16 h17 ⊢
  obtain ⟨a6, c6, rfl⟩ := h6.shape
  obtain ⟨a7, c7, rfl⟩ := h7.shape
  obtain ⟨a8, c8, rfl⟩ := h8.shape
  obtain ⟨a9, c9, rfl⟩ := h9.shape
  obtain ⟨a12, c12, rfl⟩ := h12.shape
  obtain ⟨a14, c14, rfl⟩ := h14.shape
  obtain ⟨a15, c15, rfl⟩ := h15.shape
  obtain ⟨a16, c16, rfl⟩ := h16.shape
  have H0 := Lib.hid h0
  have H1 := Lib.hid h1
  have H2 := Lib.hid h2
  have H3 := Lib.hid h3
  have H4 := Lib.hid h4
  have H5 := Lib.hid h5
  have H6 := Lib.hid h6
  have H7 := Lib.hid h7
  have H8 := Lib.hid h8
  have H9 := Lib.hid h9
  have H10 := Lib.hid h10
  have H11 := Lib.hid h11
  have H12 := Lib.hid h12
  have H13 := Lib.hid h13
  have H14 := Lib.hid h14
  have H15 := Lib.hid h15
  have H16 := Lib.hid h16
  have H17 := Lib.hid h17
  clear h0 h1 h2 h3 h4 h5 h6 h7 h8 h9 h10 h11 h12 h13 h14 h15 h16 h17
  go_enter Tryd.func115, Tryd.ntmps115
  go_upto_region 1 with (fail)
  obtain ⟨W, hW⟩ : ∃ W : World, W = (w.alloc (.cells #[.string nm, .int .i64 1, .int .i64 frm, .int .i64 tw, .int .i64 pf, .int .i64 pt, .slice a6 resp.length c6, .slice a7 guards.length c7, .slice a8 ex.length c8, .slice a9 fa.length c9, .int .i64 rd, .int .i64 wr, .slice a12 send.length c12, .int .i64 pos, .slice a14 left.length c14, .slice a15 right.length c15, .slice a16 parent.length c16, .int .i64 dir] 76)).alloc (.cells #[.string ⟨#[]⟩, .int .i64 0, .int .i64 0, .int .i64 0, .int .i64 0, .int .i64 0, .slice none 0 0, .slice none 0 0, .slice none 0 0, .slice none 0 0, .int .i64 0, .int .i64 0, .slice none 0 0, .int .i64 0, .slice none 0 0, .slice none 0 0, .slice none 0 0, .int .i64 0] 76) := ⟨_, rfl⟩
  rw [← hW]
  have HB := Lib.hid (show Below w.heap.size w W by rw [hW]; show Below _ _ _; go_grown)
  have HG := Lib.hid (show W.heap[w.heap.size]? = some (.cells #[.string nm, .int .i64 1, .int .i64 frm, .int .i64 tw, .int .i64 pf, .int .i64 pt, .slice a6 resp.length c6, .slice a7 guards.length c7, .slice a8 ex.length c8, .slice a9 fa.length c9, .int .i64 rd, .int .i64 wr, .slice a12 send.length c12, .int .i64 pos, .slice a14 left.length c14, .slice a15 right.length c15, .slice a16 parent.length c16, .int .i64 dir] 76 (0, 0)) by rw [hW]; exact (heap_old _ _ (by simp)).trans (heap_new _ _ rfl))
  have HZ := Lib.hid (show W.heap[w.heap.size + 1]? = some (.cells #[.string ⟨#[]⟩, .int .i64 0, .int .i64 0, .int .i64 0, .int .i64 0, .int .i64 0, .slice none 0 0, .slice none 0 0, .slice none 0 0, .slice none 0 0, .int .i64 0, .int .i64 0, .slice none 0 0, .int .i64 0, .slice none 0 0, .slice none 0 0, .slice none 0 0, .int .i64 0] 76 (0, 0)) by rw [hW]; exact heap_new _ _ (by simp))
  clear hW
  have x1 : W.cell? ⟨w.heap.size, 1, none⟩ = some (.int .i64 1) := cellB HG.out 1 rfl
  have x2 : W.cell? ⟨w.heap.size, 2, none⟩ = some (.int .i64 frm) := cellB HG.out 2 rfl
  have x3 : W.cell? ⟨w.heap.size, 3, none⟩ = some (.int .i64 tw) := cellB HG.out 3 rfl
  have x7 : W.cell? ⟨w.heap.size, 7, none⟩ = some (.slice a7 guards.length c7) := cellB HG.out 7 rfl
  have x8 : W.cell? ⟨w.heap.size, 8, none⟩ = some (.slice a8 ex.length c8) := cellB HG.out 8 rfl
  have x9 : W.cell? ⟨w.heap.size, 9, none⟩ = some (.slice a9 fa.length c9) := cellB HG.out 9 rfl
  have x10 : W.cell? ⟨w.heap.size, 10, none⟩ = some (.int .i64 rd) := cellB HG.out 10 rfl
  have x11 : W.cell? ⟨w.heap.size, 11, none⟩ = some (.int .i64 wr) := cellB HG.out 11 rfl
  have x12 : W.cell? ⟨w.heap.size, 12, none⟩ = some (.slice a12 send.length c12) := cellB HG.out 12 rfl
  have f0 : ∀ o, W.frozen? ⟨w.heap.size, o, none⟩ = false := frozenB HG.out
  go_upto_region 18 with (fail)
  obtain ⟨X, hX⟩ : ∃ X : World, X = ((((((((W).setCell ⟨w.heap.size, 2, none⟩ (.int .i64 0)).setCell ⟨w.heap.size, 3, none⟩ (.int .i64 0)).setCell ⟨w.heap.size, 7, none⟩ (.slice none 0 0)).setCell ⟨w.heap.size, 8, none⟩ (.slice none 0 0)).setCell ⟨w.heap.size, 9, none⟩ (.slice none 0 0)).setCell ⟨w.heap.size, 12, none⟩ (.slice none 0 0)).setCell ⟨w.heap.size, 10, none⟩ (.int .i64 (-1))).setCell ⟨w.heap.size, 11, none⟩ (.int .i64 (-1)) := ⟨_, rfl⟩
  rw [← hX]
  have GX := Lib.hid (show X.heap[w.heap.size]? = some (.cells (#[.string nm, .int .i64 1, .int .i64 0, .int .i64 0, .int .i64 pf, .int .i64 pt, .slice a6 resp.length c6, .slice none 0 0, .slice none 0 0, .slice none 0 0, .int .i64 (-1), .int .i64 (-1), .slice none 0 0, .int .i64 pos, .slice a14 left.length c14, .slice a15 right.length c15, .slice a16 parent.length c16, .int .i64 dir]) 76 (0, 0)) by rw [hX]; exact (block_set (cur' := #[.string nm, .int .i64 1, .int .i64 0, .int .i64 0, .int .i64 pf, .int .i64 pt, .slice a6 resp.length c6, .slice none 0 0, .slice none 0 0, .slice none 0 0, .int .i64 (-1), .int .i64 (-1), .slice none 0 0, .int .i64 pos, .slice a14 left.length c14, .slice a15 right.length c15, .slice a16 parent.length c16, .int .i64 dir]) ((block_set (cur' := #[.string nm, .int .i64 1, .int .i64 0, .int .i64 0, .int .i64 pf, .int .i64 pt, .slice a6 resp.length c6, .slice none 0 0, .slice none 0 0, .slice none 0 0, .int .i64 (-1), .int .i64 wr, .slice none 0 0, .int .i64 pos, .slice a14 left.length c14, .slice a15 right.length c15, .slice a16 parent.length c16, .int .i64 dir]) ((block_set (cur' := #[.string nm, .int .i64 1, .int .i64 0, .int .i64 0, .int .i64 pf, .int .i64 pt, .slice a6 resp.length c6, .slice none 0 0, .slice none 0 0, .slice none 0 0, .int .i64 rd, .int .i64 wr, .slice none 0 0, .int .i64 pos, .slice a14 left.length c14, .slice a15 right.length c15, .slice a16 parent.length c16, .int .i64 dir]) ((block_set (cur' := #[.string nm, .int .i64 1, .int .i64 0, .int .i64 0, .int .i64 pf, .int .i64 pt, .slice a6 resp.length c6, .slice none 0 0, .slice none 0 0, .slice none 0 0, .int .i64 rd, .int .i64 wr, .slice a12 send.length c12, .int .i64 pos, .slice a14 left.length c14, .slice a15 right.length c15, .slice a16 parent.length c16, .int .i64 dir]) ((block_set (cur' := #[.string nm, .int .i64 1, .int .i64 0, .int .i64 0, .int .i64 pf, .int .i64 pt, .slice a6 resp.length c6, .slice none 0 0, .slice none 0 0, .slice a9 fa.length c9, .int .i64 rd, .int .i64 wr, .slice a12 send.length c12, .int .i64 pos, .slice a14 left.length c14, .slice a15 right.length c15, .slice a16 parent.length c16, .int .i64 dir]) ((block_set (cur' := #[.string nm, .int .i64 1, .int .i64 0, .int .i64 0, .int .i64 pf, .int .i64 pt, .slice a6 resp.length c6, .slice none 0 0, .slice a8 ex.length c8, .slice a9 fa.length c9, .int .i64 rd, .int .i64 wr, .slice a12 send.length c12, .int .i64 pos, .slice a14 left.length c14, .slice a15 right.length c15, .slice a16 parent.length c16, .int .i64 dir]) ((block_set (cur' := #[.string nm, .int .i64 1, .int .i64 0, .int .i64 0, .int .i64 pf, .int .i64 pt, .slice a6 resp.length c6, .slice a7 guards.length c7, .slice a8 ex.length c8, .slice a9 fa.length c9, .int .i64 rd, .int .i64 wr, .slice a12 send.length c12, .int .i64 pos, .slice a14 left.length c14, .slice a15 right.length c15, .slice a16 parent.length c16, .int .i64 dir]) ((block_set (cur' := #[.string nm, .int .i64 1, .int .i64 0, .int .i64 tw, .int .i64 pf, .int .i64 pt, .slice a6 resp.length c6, .slice a7 guards.length c7, .slice a8 ex.length c8, .slice a9 fa.length c9, .int .i64 rd, .int .i64 wr, .slice a12 send.length c12, .int .i64 pos, .slice a14 left.length c14, .slice a15 right.length c15, .slice a16 parent.length c16, .int .i64 dir]) (HG.out) (by simp))) (by simp))) (by simp))) (by simp))) (by simp))) (by simp))) (by simp))) (by simp)))
  have ZX := Lib.hid (show X.heap[w.heap.size + 1]? = some (.cells #[.string ⟨#[]⟩, .int .i64 0, .int .i64 0, .int .i64 0, .int .i64 0, .int .i64 0, .slice none 0 0, .slice none 0 0, .slice none 0 0, .slice none 0 0, .int .i64 0, .int .i64 0, .slice none 0 0, .int .i64 0, .slice none 0 0, .slice none 0 0, .slice none 0 0, .int .i64 0] 76 (0, 0)) by rw [hX]; exact ((Below.heap_setCell _ ⟨w.heap.size, 11, none⟩ _ _ (by simp)).trans (((Below.heap_setCell _ ⟨w.heap.size, 10, none⟩ _ _ (by simp)).trans (((Below.heap_setCell _ ⟨w.heap.size, 12, none⟩ _ _ (by simp)).trans (((Below.heap_setCell _ ⟨w.heap.size, 9, none⟩ _ _ (by simp)).trans (((Below.heap_setCell _ ⟨w.heap.size, 8, none⟩ _ _ (by simp)).trans (((Below.heap_setCell _ ⟨w.heap.size, 7, none⟩ _ _ (by simp)).trans (((Below.heap_setCell _ ⟨w.heap.size, 3, none⟩ _ _ (by simp)).trans (((Below.heap_setCell _ ⟨w.heap.size, 2, none⟩ _ _ (by simp)).trans (HZ.out)))))))))))))))))
  have HX := Lib.hid (show Below w.heap.size w X by rw [hX]; exact ((((((((HB.out).setCell (by simp) _).setCell (by simp) _).setCell (by simp) _).setCell (by simp) _).setCell (by simp) _).setCell (by simp) _).setCell (by simp) _).setCell (by simp) _)
  clear hX x1 x2 x3 x7 x8 x9 x10 x11 x12 f0
  refine wp_region_lit ?_
  refine ld_mid Tryd.underlying76 info_rule (by rfl) (.tmp 2) (by rfl) w.heap.size 0 [.string nm, .int .i64 1, .int .i64 0, .int .i64 0, .int .i64 pf, .int .i64 pt, .slice a6 resp.length c6, .slice none 0 0, .slice none 0 0, .slice none 0 0, .int .i64 (-1), .int .i64 (-1), .slice none 0 0, .int .i64 pos, .slice a14 left.length c14, .slice a15 right.length c15, .slice a16 parent.length c16, .int .i64 dir] (by rfl) (by rfl) (rangeBlock GX.out) ?_
  refine st_whole (T := 76) info_rule (by rfl) (.tmp 4) (.tmp 41) (by rfl) (w.heap.size + 1) [.string nm, .int .i64 1, .int .i64 0, .int .i64 0, .int .i64 pf, .int .i64 pt, .slice a6 resp.length c6, .slice none 0 0, .slice none 0 0, .slice none 0 0, .int .i64 (-1), .int .i64 (-1), .slice none 0 0, .int .i64 pos, .slice a14 left.length c14, .slice a15 right.length c15, .slice a16 parent.length c16, .int .i64 dir] (by rfl) (by rfl) (by rfl) ZX.out (by rfl) (by simp [Value.oneCell']) (fun Z hZ hbl _ _ => ?_)
  have ZZ := Lib.hid hZ
  have ZB := Lib.hid (hbl _ _ (by omega) HX.out)
  clear hZ hbl
  go_wp2_with fail
  refine bodyPost_ret (v := .agg #[.string nm, .int .i64 1, .int .i64 0, .int .i64 0, .int .i64 pf, .int .i64 pt, .slice a6 resp.length c6, .slice none 0 0, .slice none 0 0, .slice none 0 0, .int .i64 (-1), .int .i64 (-1), .slice none 0 0, .int .i64 pos, .slice a14 left.length c14, .slice a15 right.length c15, .slice a16 parent.length c16, .int .i64 dir]) (results_cell_row (by rfl) _ _ (w.heap.size + 1) 76 _ (0, 0) _ (by rfl) ZZ.out Tryd.underlying76 rfl (by exact info_rule)) rfl (bare_end (cs' := [.string nm, .int .i64 1, .int .i64 0, .int .i64 0, .int .i64 pf, .int .i64 pt, .slice a6 resp.length c6, .slice none 0 0, .slice none 0 0, .slice none 0 0, .int .i64 (-1), .int .i64 (-1), .slice none 0 0, .int .i64 pos, .slice a14 left.length c14, .slice a15 right.length c15, .slice a16 parent.length c16, .int .i64 dir]) ZB.out rfl (fun W hB => ?_))
  have HB := Lib.hid hB
  exact ⟨_, _, _, _, _, _, _, _, rfl, H0.out, H1.out, i64_0, i64_0, H4.out, H5.out, H6.out.below HB.out, ths_nil _ _, ints_nil _ _, ints_nil _ _, i64_m1, i64_m1, ints_nil _ _, H13.out, H14.out.below HB.out, H15.out.below HB.out, H16.out.below HB.out, H17.out⟩
set_option maxHeartbeats 1600000 in
theorem withoutUsed_2 {lo : Nat} {w : World} {cs : List Value} {nm : ByteArray} {frm tw pf pt rd wr pos dir : Int} {resp ex fa send left right parent : List Int} {guards : List Th} (top : Int) (h : RuEl lo w cs ⟨nm, 2, frm, tw, pf, pt, resp, guards, ex, fa, rd, wr, send, pos, left, right, parent, dir⟩) :
    Calls Tryd.prog 115 #[.agg cs.toArray, .int .i64 top] w fun e w' => e = .returned (.agg (bareC2 cs).toArray) ∧ RuEl lo w' (bareC2 cs) ⟨nm, 2, 0, 0, 0, 0, resp, guards, ex, fa, (-1), (-1), send, pos, left, right, parent, dir⟩ ∧ Below w.heap.size w w' := by
  obtain ⟨v6, v7, v8, v9, v12, v14, v15, v16, rfl, h0, h1, h2, h3, h4, h5, h6, h7, h8, h9, h10, h11, h12, h13, h14, h15, h16, h17⟩ := h
  dsimp only at h0 h1 h2 h3 h4 h5 h6 h7 h8 h9 h10 h11 h12 h13 h14 h15 h16 h17 ⊢
  obtain ⟨a6, c6, rfl⟩ := h6.shape
  obtain ⟨a7, c7, rfl⟩ := h7.shape
  obtain ⟨a8, c8, rfl⟩ := h8.shape
  obtain ⟨a9, c9, rfl⟩ := h9.shape
  obtain ⟨a12, c12, rfl⟩ := h12.shape
  obtain ⟨a14, c14, rfl⟩ := h14.shape
  obtain ⟨a15, c15, rfl⟩ := h15.shape
  obtain ⟨a16, c16, rfl⟩ := h16.shape
  have H0 := Lib.hid h0
  have H1 := Lib.hid h1
  have H2 := Lib.hid h2
  have H3 := Lib.hid h3
  have H4 := Lib.hid h4
  have H5 := Lib.hid h5
  have H6 := Lib.hid h6
  have H7 := Lib.hid h7
  have H8 := Lib.hid h8
  have H9 := Lib.hid h9
  have H10 := Lib.hid h10
  have H11 := Lib.hid h11
  have H12 := Lib.hid h12
  have H13 := Lib.hid h13
  have H14 := Lib.hid h14
  have H15 := Lib.hid h15
  have H16 := Lib.hid h16
  have H17 := Lib.hid h17
  clear h0 h1 h2 h3 h4 h5 h6 h7 h8 h9 h10 h11 h12 h13 h14 h15 h16 h17
  go_enter Tryd.func115, Tryd.ntmps115
  go_upto_region 1 with (fail)
  obtain ⟨W, hW⟩ : ∃ W : World, W = (w.alloc (.cells #[.string nm, .int .i64 2, .int .i64 frm, .int .i64 tw, .int .i64 pf, .int .i64 pt, .slice a6 resp.length c6, .slice a7 guards.length c7, .slice a8 ex.length c8, .slice a9 fa.length c9, .int .i64 rd, .int .i64 wr, .slice a12 send.length c12, .int .i64 pos, .slice a14 left.length c14, .slice a15 right.length c15, .slice a16 parent.length c16, .int .i64 dir] 76)).alloc (.cells #[.string ⟨#[]⟩, .int .i64 0, .int .i64 0, .int .i64 0, .int .i64 0, .int .i64 0, .slice none 0 0, .slice none 0 0, .slice none 0 0, .slice none 0 0, .int .i64 0, .int .i64 0, .slice none 0 0, .int .i64 0, .slice none 0 0, .slice none 0 0, .slice none 0 0, .int .i64 0] 76) := ⟨_, rfl⟩
  rw [← hW]
  have HB := Lib.hid (show Below w.heap.size w W by rw [hW]; show Below _ _ _; go_grown)
  have HG := Lib.hid (show W.heap[w.heap.size]? = some (.cells #[.string nm, .int .i64 2, .int .i64 frm, .int .i64 tw, .int .i64 pf, .int .i64 pt, .slice a6 resp.length c6, .slice a7 guards.length c7, .slice a8 ex.length c8, .slice a9 fa.length c9, .int .i64 rd, .int .i64 wr, .slice a12 send.length c12, .int .i64 pos, .slice a14 left.length c14, .slice a15 right.length c15, .slice a16 parent.length c16, .int .i64 dir] 76 (0, 0)) by rw [hW]; exact (heap_old _ _ (by simp)).trans (heap_new _ _ rfl))
  have HZ := Lib.hid (show W.heap[w.heap.size + 1]? = some (.cells #[.string ⟨#[]⟩, .int .i64 0, .int .i64 0, .int .i64 0, .int .i64 0, .int .i64 0, .slice none 0 0, .slice none 0 0, .slice none 0 0, .slice none 0 0, .int .i64 0, .int .i64 0, .slice none 0 0, .int .i64 0, .slice none 0 0, .slice none 0 0, .slice none 0 0, .int .i64 0] 76 (0, 0)) by rw [hW]; exact heap_new _ _ (by simp))
  clear hW
  have x1 : W.cell? ⟨w.heap.size, 1, none⟩ = some (.int .i64 2) := cellB HG.out 1 rfl
  have x2 : W.cell? ⟨w.heap.size, 2, none⟩ = some (.int .i64 frm) := cellB HG.out 2 rfl
  have x3 : W.cell? ⟨w.heap.size, 3, none⟩ = some (.int .i64 tw) := cellB HG.out 3 rfl
  have x4 : W.cell? ⟨w.heap.size, 4, none⟩ = some (.int .i64 pf) := cellB HG.out 4 rfl
  have x5 : W.cell? ⟨w.heap.size, 5, none⟩ = some (.int .i64 pt) := cellB HG.out 5 rfl
  have x10 : W.cell? ⟨w.heap.size, 10, none⟩ = some (.int .i64 rd) := cellB HG.out 10 rfl
  have x11 : W.cell? ⟨w.heap.size, 11, none⟩ = some (.int .i64 wr) := cellB HG.out 11 rfl
  have f0 : ∀ o, W.frozen? ⟨w.heap.size, o, none⟩ = false := frozenB HG.out
  go_upto_region 18 with (fail)
  obtain ⟨X, hX⟩ : ∃ X : World, X = ((((((W).setCell ⟨w.heap.size, 2, none⟩ (.int .i64 0)).setCell ⟨w.heap.size, 3, none⟩ (.int .i64 0)).setCell ⟨w.heap.size, 4, none⟩ (.int .i64 0)).setCell ⟨w.heap.size, 5, none⟩ (.int .i64 0)).setCell ⟨w.heap.size, 10, none⟩ (.int .i64 (-1))).setCell ⟨w.heap.size, 11, none⟩ (.int .i64 (-1)) := ⟨_, rfl⟩
  rw [← hX]
  have GX := Lib.hid (show X.heap[w.heap.size]? = some (.cells (#[.string nm, .int .i64 2, .int .i64 0, .int .i64 0, .int .i64 0, .int .i64 0, .slice a6 resp.length c6, .slice a7 guards.length c7, .slice a8 ex.length c8, .slice a9 fa.length c9, .int .i64 (-1), .int .i64 (-1), .slice a12 send.length c12, .int .i64 pos, .slice a14 left.length c14, .slice a15 right.length c15, .slice a16 parent.length c16, .int .i64 dir]) 76 (0, 0)) by rw [hX]; exact (block_set (cur' := #[.string nm, .int .i64 2, .int .i64 0, .int .i64 0, .int .i64 0, .int .i64 0, .slice a6 resp.length c6, .slice a7 guards.length c7, .slice a8 ex.length c8, .slice a9 fa.length c9, .int .i64 (-1), .int .i64 (-1), .slice a12 send.length c12, .int .i64 pos, .slice a14 left.length c14, .slice a15 right.length c15, .slice a16 parent.length c16, .int .i64 dir]) ((block_set (cur' := #[.string nm, .int .i64 2, .int .i64 0, .int .i64 0, .int .i64 0, .int .i64 0, .slice a6 resp.length c6, .slice a7 guards.length c7, .slice a8 ex.length c8, .slice a9 fa.length c9, .int .i64 (-1), .int .i64 wr, .slice a12 send.length c12, .int .i64 pos, .slice a14 left.length c14, .slice a15 right.length c15, .slice a16 parent.length c16, .int .i64 dir]) ((block_set (cur' := #[.string nm, .int .i64 2, .int .i64 0, .int .i64 0, .int .i64 0, .int .i64 0, .slice a6 resp.length c6, .slice a7 guards.length c7, .slice a8 ex.length c8, .slice a9 fa.length c9, .int .i64 rd, .int .i64 wr, .slice a12 send.length c12, .int .i64 pos, .slice a14 left.length c14, .slice a15 right.length c15, .slice a16 parent.length c16, .int .i64 dir]) ((block_set (cur' := #[.string nm, .int .i64 2, .int .i64 0, .int .i64 0, .int .i64 0, .int .i64 pt, .slice a6 resp.length c6, .slice a7 guards.length c7, .slice a8 ex.length c8, .slice a9 fa.length c9, .int .i64 rd, .int .i64 wr, .slice a12 send.length c12, .int .i64 pos, .slice a14 left.length c14, .slice a15 right.length c15, .slice a16 parent.length c16, .int .i64 dir]) ((block_set (cur' := #[.string nm, .int .i64 2, .int .i64 0, .int .i64 0, .int .i64 pf, .int .i64 pt, .slice a6 resp.length c6, .slice a7 guards.length c7, .slice a8 ex.length c8, .slice a9 fa.length c9, .int .i64 rd, .int .i64 wr, .slice a12 send.length c12, .int .i64 pos, .slice a14 left.length c14, .slice a15 right.length c15, .slice a16 parent.length c16, .int .i64 dir]) ((block_set (cur' := #[.string nm, .int .i64 2, .int .i64 0, .int .i64 tw, .int .i64 pf, .int .i64 pt, .slice a6 resp.length c6, .slice a7 guards.length c7, .slice a8 ex.length c8, .slice a9 fa.length c9, .int .i64 rd, .int .i64 wr, .slice a12 send.length c12, .int .i64 pos, .slice a14 left.length c14, .slice a15 right.length c15, .slice a16 parent.length c16, .int .i64 dir]) (HG.out) (by simp))) (by simp))) (by simp))) (by simp))) (by simp))) (by simp)))
  have ZX := Lib.hid (show X.heap[w.heap.size + 1]? = some (.cells #[.string ⟨#[]⟩, .int .i64 0, .int .i64 0, .int .i64 0, .int .i64 0, .int .i64 0, .slice none 0 0, .slice none 0 0, .slice none 0 0, .slice none 0 0, .int .i64 0, .int .i64 0, .slice none 0 0, .int .i64 0, .slice none 0 0, .slice none 0 0, .slice none 0 0, .int .i64 0] 76 (0, 0)) by rw [hX]; exact ((Below.heap_setCell _ ⟨w.heap.size, 11, none⟩ _ _ (by simp)).trans (((Below.heap_setCell _ ⟨w.heap.size, 10, none⟩ _ _ (by simp)).trans (((Below.heap_setCell _ ⟨w.heap.size, 5, none⟩ _ _ (by simp)).trans (((Below.heap_setCell _ ⟨w.heap.size, 4, none⟩ _ _ (by simp)).trans (((Below.heap_setCell _ ⟨w.heap.size, 3, none⟩ _ _ (by simp)).trans (((Below.heap_setCell _ ⟨w.heap.size, 2, none⟩ _ _ (by simp)).trans (HZ.out)))))))))))))
  have HX := Lib.hid (show Below w.heap.size w X by rw [hX]; exact ((((((HB.out).setCell (by simp) _).setCell (by simp) _).setCell (by simp) _).setCell (by simp) _).setCell (by simp) _).setCell (by simp) _)
  clear hX x1 x2 x3 x4 x5 x10 x11 f0
  refine wp_region_lit ?_
  refine ld_mid Tryd.underlying76 info_rule (by rfl) (.tmp 2) (by rfl) w.heap.size 0 [.string nm, .int .i64 2, .int .i64 0, .int .i64 0, .int .i64 0, .int .i64 0, .slice a6 resp.length c6, .slice a7 guards.length c7, .slice a8 ex.length c8, .slice a9 fa.length c9, .int .i64 (-1), .int .i64 (-1), .slice a12 send.length c12, .int .i64 pos, .slice a14 left.length c14, .slice a15 right.length c15, .slice a16 parent.length c16, .int .i64 dir] (by rfl) (by rfl) (rangeBlock GX.out) ?_
  refine st_whole (T := 76) info_rule (by rfl) (.tmp 4) (.tmp 41) (by rfl) (w.heap.size + 1) [.string nm, .int .i64 2, .int .i64 0, .int .i64 0, .int .i64 0, .int .i64 0, .slice a6 resp.length c6, .slice a7 guards.length c7, .slice a8 ex.length c8, .slice a9 fa.length c9, .int .i64 (-1), .int .i64 (-1), .slice a12 send.length c12, .int .i64 pos, .slice a14 left.length c14, .slice a15 right.length c15, .slice a16 parent.length c16, .int .i64 dir] (by rfl) (by rfl) (by rfl) ZX.out (by rfl) (by simp [Value.oneCell']) (fun Z hZ hbl _ _ => ?_)
  have ZZ := Lib.hid hZ
  have ZB := Lib.hid (hbl _ _ (by omega) HX.out)
  clear hZ hbl
  go_wp2_with fail
  refine bodyPost_ret (v := .agg #[.string nm, .int .i64 2, .int .i64 0, .int .i64 0, .int .i64 0, .int .i64 0, .slice a6 resp.length c6, .slice a7 guards.length c7, .slice a8 ex.length c8, .slice a9 fa.length c9, .int .i64 (-1), .int .i64 (-1), .slice a12 send.length c12, .int .i64 pos, .slice a14 left.length c14, .slice a15 right.length c15, .slice a16 parent.length c16, .int .i64 dir]) (results_cell_row (by rfl) _ _ (w.heap.size + 1) 76 _ (0, 0) _ (by rfl) ZZ.out Tryd.underlying76 rfl (by exact info_rule)) rfl (bare_end (cs' := [.string nm, .int .i64 2, .int .i64 0, .int .i64 0, .int .i64 0, .int .i64 0, .slice a6 resp.length c6, .slice a7 guards.length c7, .slice a8 ex.length c8, .slice a9 fa.length c9, .int .i64 (-1), .int .i64 (-1), .slice a12 send.length c12, .int .i64 pos, .slice a14 left.length c14, .slice a15 right.length c15, .slice a16 parent.length c16, .int .i64 dir]) ZB.out rfl (fun W hB => ?_))
  have HB := Lib.hid hB
  exact ⟨_, _, _, _, _, _, _, _, rfl, H0.out, H1.out, i64_0, i64_0, i64_0, i64_0, H6.out.below HB.out, H7.out.below ThEl.stays HB.out, H8.out.below HB.out, H9.out.below HB.out, i64_m1, i64_m1, H12.out.below HB.out, H13.out, H14.out.below HB.out, H15.out.below HB.out, H16.out.below HB.out, H17.out⟩
set_option maxHeartbeats 1600000 in
theorem withoutUsed_3 {lo : Nat} {w : World} {cs : List Value} {nm : ByteArray} {frm tw pf pt rd wr pos dir : Int} {resp ex fa send left right parent : List Int} {guards : List Th} (top : Int) (h : RuEl lo w cs ⟨nm, 3, frm, tw, pf, pt, resp, guards, ex, fa, rd, wr, send, pos, left, right, parent, dir⟩) :
    Calls Tryd.prog 115 #[.agg cs.toArray, .int .i64 top] w fun e w' => e = .returned (.agg (bareC3 cs).toArray) ∧ RuEl lo w' (bareC3 cs) ⟨nm, 3, 0, 0, pf, pt, [], guards, ex, fa, (-1), (-1), send, pos, left, right, parent, dir⟩ ∧ Below w.heap.size w w' := by
  obtain ⟨v6, v7, v8, v9, v12, v14, v15, v16, rfl, h0, h1, h2, h3, h4, h5, h6, h7, h8, h9, h10, h11, h12, h13, h14, h15, h16, h17⟩ := h
  dsimp only at h0 h1 h2 h3 h4 h5 h6 h7 h8 h9 h10 h11 h12 h13 h14 h15 h16 h17 ⊢
  obtain ⟨a6, c6, rfl⟩ := h6.shape
  obtain ⟨a7, c7, rfl⟩ := h7.shape
  obtain ⟨a8, c8, rfl⟩ := h8.shape
  obtain ⟨a9, c9, rfl⟩ := h9.shape
  obtain ⟨a12, c12, rfl⟩ := h12.shape
  obtain ⟨a14, c14, rfl⟩ := h14.shape
  obtain ⟨a15, c15, rfl⟩ := h15.shape
  obtain ⟨a16, c16, rfl⟩ := h16.shape
  have H0 := Lib.hid h0
  have H1 := Lib.hid h1
  have H2 := Lib.hid h2
  have H3 := Lib.hid h3
  have H4 := Lib.hid h4
  have H5 := Lib.hid h5
  have H6 := Lib.hid h6
  have H7 := Lib.hid h7
  have H8 := Lib.hid h8
  have H9 := Lib.hid h9
  have H10 := Lib.hid h10
  have H11 := Lib.hid h11
  have H12 := Lib.hid h12
  have H13 := Lib.hid h13
  have H14 := Lib.hid h14
  have H15 := Lib.hid h15
  have H16 := Lib.hid h16
  have H17 := Lib.hid h17
  clear h0 h1 h2 h3 h4 h5 h6 h7 h8 h9 h10 h11 h12 h13 h14 h15 h16 h17
  go_enter Tryd.func115, Tryd.ntmps115
  go_upto_region 1 with (fail)
  obtain ⟨W, hW⟩ : ∃ W : World, W = (w.alloc (.cells #[.string nm, .int .i64 3, .int .i64 frm, .int .i64 tw, .int .i64 pf, .int .i64 pt, .slice a6 resp.length c6, .slice a7 guards.length c7, .slice a8 ex.length c8, .slice a9 fa.length c9, .int .i64 rd, .int .i64 wr, .slice a12 send.length c12, .int .i64 pos, .slice a14 left.length c14, .slice a15 right.length c15, .slice a16 parent.length c16, .int .i64 dir] 76)).alloc (.cells #[.string ⟨#[]⟩, .int .i64 0, .int .i64 0, .int .i64 0, .int .i64 0, .int .i64 0, .slice none 0 0, .slice none 0 0, .slice none 0 0, .slice none 0 0, .int .i64 0, .int .i64 0, .slice none 0 0, .int .i64 0, .slice none 0 0, .slice none 0 0, .slice none 0 0, .int .i64 0] 76) := ⟨_, rfl⟩
  rw [← hW]
  have HB := Lib.hid (show Below w.heap.size w W by rw [hW]; show Below _ _ _; go_grown)
  have HG := Lib.hid (show W.heap[w.heap.size]? = some (.cells #[.string nm, .int .i64 3, .int .i64 frm, .int .i64 tw, .int .i64 pf, .int .i64 pt, .slice a6 resp.length c6, .slice a7 guards.length c7, .slice a8 ex.length c8, .slice a9 fa.length c9, .int .i64 rd, .int .i64 wr, .slice a12 send.length c12, .int .i64 pos, .slice a14 left.length c14, .slice a15 right.length c15, .slice a16 parent.length c16, .int .i64 dir] 76 (0, 0)) by rw [hW]; exact (heap_old _ _ (by simp)).trans (heap_new _ _ rfl))
  have HZ := Lib.hid (show W.heap[w.heap.size + 1]? = some (.cells #[.string ⟨#[]⟩, .int .i64 0, .int .i64 0, .int .i64 0, .int .i64 0, .int .i64 0, .slice none 0 0, .slice none 0 0, .slice none 0 0, .slice none 0 0, .int .i64 0, .int .i64 0, .slice none 0 0, .int .i64 0, .slice none 0 0, .slice none 0 0, .slice none 0 0, .int .i64 0] 76 (0, 0)) by rw [hW]; exact heap_new _ _ (by simp))
  clear hW
  have x1 : W.cell? ⟨w.heap.size, 1, none⟩ = some (.int .i64 3) := cellB HG.out 1 rfl
  have x2 : W.cell? ⟨w.heap.size, 2, none⟩ = some (.int .i64 frm) := cellB HG.out 2 rfl
  have x3 : W.cell? ⟨w.heap.size, 3, none⟩ = some (.int .i64 tw) := cellB HG.out 3 rfl
  have x6 : W.cell? ⟨w.heap.size, 6, none⟩ = some (.slice a6 resp.length c6) := cellB HG.out 6 rfl
  have x10 : W.cell? ⟨w.heap.size, 10, none⟩ = some (.int .i64 rd) := cellB HG.out 10 rfl
  have x11 : W.cell? ⟨w.heap.size, 11, none⟩ = some (.int .i64 wr) := cellB HG.out 11 rfl
  have f0 : ∀ o, W.frozen? ⟨w.heap.size, o, none⟩ = false := frozenB HG.out
  go_upto_region 18 with (fail)
  obtain ⟨X, hX⟩ : ∃ X : World, X = (((((W).setCell ⟨w.heap.size, 2, none⟩ (.int .i64 0)).setCell ⟨w.heap.size, 3, none⟩ (.int .i64 0)).setCell ⟨w.heap.size, 6, none⟩ (.slice none 0 0)).setCell ⟨w.heap.size, 10, none⟩ (.int .i64 (-1))).setCell ⟨w.heap.size, 11, none⟩ (.int .i64 (-1)) := ⟨_, rfl⟩
  rw [← hX]
  have GX := Lib.hid (show X.heap[w.heap.size]? = some (.cells (#[.string nm, .int .i64 3, .int .i64 0, .int .i64 0, .int .i64 pf, .int .i64 pt, .slice none 0 0, .slice a7 guards.length c7, .slice a8 ex.length c8, .slice a9 fa.length c9, .int .i64 (-1), .int .i64 (-1), .slice a12 send.length c12, .int .i64 pos, .slice a14 left.length c14, .slice a15 right.length c15, .slice a16 parent.length c16, .int .i64 dir]) 76 (0, 0)) by rw [hX]; exact (block_set (cur' := #[.string nm, .int .i64 3, .int .i64 0, .int .i64 0, .int .i64 pf, .int .i64 pt, .slice none 0 0, .slice a7 guards.length c7, .slice a8 ex.length c8, .slice a9 fa.length c9, .int .i64 (-1), .int .i64 (-1), .slice a12 send.length c12, .int .i64 pos, .slice a14 left.length c14, .slice a15 right.length c15, .slice a16 parent.length c16, .int .i64 dir]) ((block_set (cur' := #[.string nm, .int .i64 3, .int .i64 0, .int .i64 0, .int .i64 pf, .int .i64 pt, .slice none 0 0, .slice a7 guards.length c7, .slice a8 ex.length c8, .slice a9 fa.length c9, .int .i64 (-1), .int .i64 wr, .slice a12 send.length c12, .int .i64 pos, .slice a14 left.length c14, .slice a15 right.length c15, .slice a16 parent.length c16, .int .i64 dir]) ((block_set (cur' := #[.string nm, .int .i64 3, .int .i64 0, .int .i64 0, .int .i64 pf, .int .i64 pt, .slice none 0 0, .slice a7 guards.length c7, .slice a8 ex.length c8, .slice a9 fa.length c9, .int .i64 rd, .int .i64 wr, .slice a12 send.length c12, .int .i64 pos, .slice a14 left.length c14, .slice a15 right.length c15, .slice a16 parent.length c16, .int .i64 dir]) ((block_set (cur' := #[.string nm, .int .i64 3, .int .i64 0, .int .i64 0, .int .i64 pf, .int .i64 pt, .slice a6 resp.length c6, .slice a7 guards.length c7, .slice a8 ex.length c8, .slice a9 fa.length c9, .int .i64 rd, .int .i64 wr, .slice a12 send.length c12, .int .i64 pos, .slice a14 left.length c14, .slice a15 right.length c15, .slice a16 parent.length c16, .int .i64 dir]) ((block_set (cur' := #[.string nm, .int .i64 3, .int .i64 0, .int .i64 tw, .int .i64 pf, .int .i64 pt, .slice a6 resp.length c6, .slice a7 guards.length c7, .slice a8 ex.length c8, .slice a9 fa.length c9, .int .i64 rd, .int .i64 wr, .slice a12 send.length c12, .int .i64 pos, .slice a14 left.length c14, .slice a15 right.length c15, .slice a16 parent.length c16, .int .i64 dir]) (HG.out) (by simp))) (by simp))) (by simp))) (by simp))) (by simp)))
  have ZX := Lib.hid (show X.heap[w.heap.size + 1]? = some (.cells #[.string ⟨#[]⟩, .int .i64 0, .int .i64 0, .int .i64 0, .int .i64 0, .int .i64 0, .slice none 0 0, .slice none 0 0, .slice none 0 0, .slice none 0 0, .int .i64 0, .int .i64 0, .slice none 0 0, .int .i64 0, .slice none 0 0, .slice none 0 0, .slice none 0 0, .int .i64 0] 76 (0, 0)) by rw [hX]; exact ((Below.heap_setCell _ ⟨w.heap.size, 11, none⟩ _ _ (by simp)).trans (((Below.heap_setCell _ ⟨w.heap.size, 10, none⟩ _ _ (by simp)).trans (((Below.heap_setCell _ ⟨w.heap.size, 6, none⟩ _ _ (by simp)).trans (((Below.heap_setCell _ ⟨w.heap.size, 3, none⟩ _ _ (by simp)).trans (((Below.heap_setCell _ ⟨w.heap.size, 2, none⟩ _ _ (by simp)).trans (HZ.out)))))))))))
  have HX := Lib.hid (show Below w.heap.size w X by rw [hX]; exact (((((HB.out).setCell (by simp) _).setCell (by simp) _).setCell (by simp) _).setCell (by simp) _).setCell (by simp) _)
  clear hX x1 x2 x3 x6 x10 x11 f0
  refine wp_region_lit ?_
  refine ld_mid Tryd.underlying76 info_rule (by rfl) (.tmp 2) (by rfl) w.heap.size 0 [.string nm, .int .i64 3, .int .i64 0, .int .i64 0, .int .i64 pf, .int .i64 pt, .slice none 0 0, .slice a7 guards.length c7, .slice a8 ex.length c8, .slice a9 fa.length c9, .int .i64 (-1), .int .i64 (-1), .slice a12 send.length c12, .int .i64 pos, .slice a14 left.length c14, .slice a15 right.length c15, .slice a16 parent.length c16, .int .i64 dir] (by rfl) (by rfl) (rangeBlock GX.out) ?_
  refine st_whole (T := 76) info_rule (by rfl) (.tmp 4) (.tmp 41) (by rfl) (w.heap.size + 1) [.string nm, .int .i64 3, .int .i64 0, .int .i64 0, .int .i64 pf, .int .i64 pt, .slice none 0 0, .slice a7 guards.length c7, .slice a8 ex.length c8, .slice a9 fa.length c9, .int .i64 (-1), .int .i64 (-1), .slice a12 send.length c12, .int .i64 pos, .slice a14 left.length c14, .slice a15 right.length c15, .slice a16 parent.length c16, .int .i64 dir] (by rfl) (by rfl) (by rfl) ZX.out (by rfl) (by simp [Value.oneCell']) (fun Z hZ hbl _ _ => ?_)
  have ZZ := Lib.hid hZ
  have ZB := Lib.hid (hbl _ _ (by omega) HX.out)
  clear hZ hbl
  go_wp2_with fail
  refine bodyPost_ret (v := .agg #[.string nm, .int .i64 3, .int .i64 0, .int .i64 0, .int .i64 pf, .int .i64 pt, .slice none 0 0, .slice a7 guards.length c7, .slice a8 ex.length c8, .slice a9 fa.length c9, .int .i64 (-1), .int .i64 (-1), .slice a12 send.length c12, .int .i64 pos, .slice a14 left.length c14, .slice a15 right.length c15, .slice a16 parent.length c16, .int .i64 dir]) (results_cell_row (by rfl) _ _ (w.heap.size + 1) 76 _ (0, 0) _ (by rfl) ZZ.out Tryd.underlying76 rfl (by exact info_rule)) rfl (bare_end (cs' := [.string nm, .int .i64 3, .int .i64 0, .int .i64 0, .int .i64 pf, .int .i64 pt, .slice none 0 0, .slice a7 guards.length c7, .slice a8 ex.length c8, .slice a9 fa.length c9, .int .i64 (-1), .int .i64 (-1), .slice a12 send.length c12, .int .i64 pos, .slice a14 left.length c14, .slice a15 right.length c15, .slice a16 parent.length c16, .int .i64 dir]) ZB.out rfl (fun W hB => ?_))
  have HB := Lib.hid hB
  exact ⟨_, _, _, _, _, _, _, _, rfl, H0.out, H1.out, i64_0, i64_0, H4.out, H5.out, ints_nil _ _, H7.out.below ThEl.stays HB.out, H8.out.below HB.out, H9.out.below HB.out, i64_m1, i64_m1, H12.out.below HB.out, H13.out, H14.out.below HB.out, H15.out.below HB.out, H16.out.below HB.out, H17.out⟩
set_option maxHeartbeats 1600000 in
theorem withoutUsed_4t {lo : Nat} {w : World} {cs : List Value} {nm : ByteArray} {frm tw pf pt rd wr pos dir : Int} {resp ex fa send left right parent : List Int} {guards : List Th} (h : RuEl lo w cs ⟨nm, 4, frm, tw, pf, pt, resp, guards, ex, fa, rd, wr, send, pos, left, right, parent, dir⟩) :
    Calls Tryd.prog 115 #[.agg cs.toArray, .int .i64 4] w fun e w' => e = .returned (.agg (bareC4t cs).toArray) ∧ RuEl lo w' (bareC4t cs) ⟨nm, 4, 0, 0, pf, pt, resp, guards, ex, fa, rd, wr, send, 0, [], [], [], dir⟩ ∧ Below w.heap.size w w' := by
  obtain ⟨v6, v7, v8, v9, v12, v14, v15, v16, rfl, h0, h1, h2, h3, h4, h5, h6, h7, h8, h9, h10, h11, h12, h13, h14, h15, h16, h17⟩ := h
  dsimp only at h0 h1 h2 h3 h4 h5 h6 h7 h8 h9 h10 h11 h12 h13 h14 h15 h16 h17 ⊢
  obtain ⟨a6, c6, rfl⟩ := h6.shape
  obtain ⟨a7, c7, rfl⟩ := h7.shape
  obtain ⟨a8, c8, rfl⟩ := h8.shape
  obtain ⟨a9, c9, rfl⟩ := h9.shape
  obtain ⟨a12, c12, rfl⟩ := h12.shape
  obtain ⟨a14, c14, rfl⟩ := h14.shape
  obtain ⟨a15, c15, rfl⟩ := h15.shape
  obtain ⟨a16, c16, rfl⟩ := h16.shape
  have H0 := Lib.hid h0
  have H1 := Lib.hid h1
  have H2 := Lib.hid h2
  have H3 := Lib.hid h3
  have H4 := Lib.hid h4
  have H5 := Lib.hid h5
  have H6 := Lib.hid h6
  have H7 := Lib.hid h7
  have H8 := Lib.hid h8
  have H9 := Lib.hid h9
  have H10 := Lib.hid h10
  have H11 := Lib.hid h11
  have H12 := Lib.hid h12
  have H13 := Lib.hid h13
  have H14 := Lib.hid h14
  have H15 := Lib.hid h15
  have H16 := Lib.hid h16
  have H17 := Lib.hid h17
  clear h0 h1 h2 h3 h4 h5 h6 h7 h8 h9 h10 h11 h12 h13 h14 h15 h16 h17
  go_enter Tryd.func115, Tryd.ntmps115
  go_upto_region 1 with (fail)
  obtain ⟨W, hW⟩ : ∃ W : World, W = (w.alloc (.cells #[.string nm, .int .i64 4, .int .i64 frm, .int .i64 tw, .int .i64 pf, .int .i64 pt, .slice a6 resp.length c6, .slice a7 guards.length c7, .slice a8 ex.length c8, .slice a9 fa.length c9, .int .i64 rd, .int .i64 wr, .slice a12 send.length c12, .int .i64 pos, .slice a14 left.length c14, .slice a15 right.length c15, .slice a16 parent.length c16, .int .i64 dir] 76)).alloc (.cells #[.string ⟨#[]⟩, .int .i64 0, .int .i64 0, .int .i64 0, .int .i64 0, .int .i64 0, .slice none 0 0, .slice none 0 0, .slice none 0 0, .slice none 0 0, .int .i64 0, .int .i64 0, .slice none 0 0, .int .i64 0, .slice none 0 0, .slice none 0 0, .slice none 0 0, .int .i64 0] 76) := ⟨_, rfl⟩
  rw [← hW]
  have HB := Lib.hid (show Below w.heap.size w W by rw [hW]; show Below _ _ _; go_grown)
  have HG := Lib.hid (show W.heap[w.heap.size]? = some (.cells #[.string nm, .int .i64 4, .int .i64 frm, .int .i64 tw, .int .i64 pf, .int .i64 pt, .slice a6 resp.length c6, .slice a7 guards.length c7, .slice a8 ex.length c8, .slice a9 fa.length c9, .int .i64 rd, .int .i64 wr, .slice a12 send.length c12, .int .i64 pos, .slice a14 left.length c14, .slice a15 right.length c15, .slice a16 parent.length c16, .int .i64 dir] 76 (0, 0)) by rw [hW]; exact (heap_old _ _ (by simp)).trans (heap_new _ _ rfl))
  have HZ := Lib.hid (show W.heap[w.heap.size + 1]? = some (.cells #[.string ⟨#[]⟩, .int .i64 0, .int .i64 0, .int .i64 0, .int .i64 0, .int .i64 0, .slice none 0 0, .slice none 0 0, .slice none 0 0, .slice none 0 0, .int .i64 0, .int .i64 0, .slice none 0 0, .int .i64 0, .slice none 0 0, .slice none 0 0, .slice none 0 0, .int .i64 0] 76 (0, 0)) by rw [hW]; exact heap_new _ _ (by simp))
  clear hW
  have x1 : W.cell? ⟨w.heap.size, 1, none⟩ = some (.int .i64 4) := cellB HG.out 1 rfl
  have x2 : W.cell? ⟨w.heap.size, 2, none⟩ = some (.int .i64 frm) := cellB HG.out 2 rfl
  have x3 : W.cell? ⟨w.heap.size, 3, none⟩ = some (.int .i64 tw) := cellB HG.out 3 rfl
  have x13 : W.cell? ⟨w.heap.size, 13, none⟩ = some (.int .i64 pos) := cellB HG.out 13 rfl
  have x14 : W.cell? ⟨w.heap.size, 14, none⟩ = some (.slice a14 left.length c14) := cellB HG.out 14 rfl
  have x15 : W.cell? ⟨w.heap.size, 15, none⟩ = some (.slice a15 right.length c15) := cellB HG.out 15 rfl
  have x16 : W.cell? ⟨w.heap.size, 16, none⟩ = some (.slice a16 parent.length c16) := cellB HG.out 16 rfl
  have f0 : ∀ o, W.frozen? ⟨w.heap.size, o, none⟩ = false := frozenB HG.out
  go_upto_region 18 with (fail)
  obtain ⟨X, hX⟩ : ∃ X : World, X = ((((((W).setCell ⟨w.heap.size, 2, none⟩ (.int .i64 0)).setCell ⟨w.heap.size, 3, none⟩ (.int .i64 0)).setCell ⟨w.heap.size, 13, none⟩ (.int .i64 0)).setCell ⟨w.heap.size, 14, none⟩ (.slice none 0 0)).setCell ⟨w.heap.size, 15, none⟩ (.slice none 0 0)).setCell ⟨w.heap.size, 16, none⟩ (.slice none 0 0) := ⟨_, rfl⟩
  rw [← hX]
  have GX := Lib.hid (show X.heap[w.heap.size]? = some (.cells (#[.string nm, .int .i64 4, .int .i64 0, .int .i64 0, .int .i64 pf, .int .i64 pt, .slice a6 resp.length c6, .slice a7 guards.length c7, .slice a8 ex.length c8, .slice a9 fa.length c9, .int .i64 rd, .int .i64 wr, .slice a12 send.length c12, .int .i64 0, .slice none 0 0, .slice none 0 0, .slice none 0 0, .int .i64 dir]) 76 (0, 0)) by rw [hX]; exact (block_set (cur' := #[.string nm, .int .i64 4, .int .i64 0, .int .i64 0, .int .i64 pf, .int .i64 pt, .slice a6 resp.length c6, .slice a7 guards.length c7, .slice a8 ex.length c8, .slice a9 fa.length c9, .int .i64 rd, .int .i64 wr, .slice a12 send.length c12, .int .i64 0, .slice none 0 0, .slice none 0 0, .slice none 0 0, .int .i64 dir]) ((block_set (cur' := #[.string nm, .int .i64 4, .int .i64 0, .int .i64 0, .int .i64 pf, .int .i64 pt, .slice a6 resp.length c6, .slice a7 guards.length c7, .slice a8 ex.length c8, .slice a9 fa.length c9, .int .i64 rd, .int .i64 wr, .slice a12 send.length c12, .int .i64 0, .slice none 0 0, .slice none 0 0, .slice a16 parent.length c16, .int .i64 dir]) ((block_set (cur' := #[.string nm, .int .i64 4, .int .i64 0, .int .i64 0, .int .i64 pf, .int .i64 pt, .slice a6 resp.length c6, .slice a7 guards.length c7, .slice a8 ex.length c8, .slice a9 fa.length c9, .int .i64 rd, .int .i64 wr, .slice a12 send.length c12, .int .i64 0, .slice none 0 0, .slice a15 right.length c15, .slice a16 parent.length c16, .int .i64 dir]) ((block_set (cur' := #[.string nm, .int .i64 4, .int .i64 0, .int .i64 0, .int .i64 pf, .int .i64 pt, .slice a6 resp.length c6, .slice a7 guards.length c7, .slice a8 ex.length c8, .slice a9 fa.length c9, .int .i64 rd, .int .i64 wr, .slice a12 send.length c12, .int .i64 0, .slice a14 left.length c14, .slice a15 right.length c15, .slice a16 parent.length c16, .int .i64 dir]) ((block_set (cur' := #[.string nm, .int .i64 4, .int .i64 0, .int .i64 0, .int .i64 pf, .int .i64 pt, .slice a6 resp.length c6, .slice a7 guards.length c7, .slice a8 ex.length c8, .slice a9 fa.length c9, .int .i64 rd, .int .i64 wr, .slice a12 send.length c12, .int .i64 pos, .slice a14 left.length c14, .slice a15 right.length c15, .slice a16 parent.length c16, .int .i64 dir]) ((block_set (cur' := #[.string nm, .int .i64 4, .int .i64 0, .int .i64 tw, .int .i64 pf, .int .i64 pt, .slice a6 resp.length c6, .slice a7 guards.length c7, .slice a8 ex.length c8, .slice a9 fa.length c9, .int .i64 rd, .int .i64 wr, .slice a12 send.length c12, .int .i64 pos, .slice a14 left.length c14, .slice a15 right.length c15, .slice a16 parent.length c16, .int .i64 dir]) (HG.out) (by simp))) (by simp))) (by simp))) (by simp))) (by simp))) (by simp)))
  have ZX := Lib.hid (show X.heap[w.heap.size + 1]? = some (.cells #[.string ⟨#[]⟩, .int .i64 0, .int .i64 0, .int .i64 0, .int .i64 0, .int .i64 0, .slice none 0 0, .slice none 0 0, .slice none 0 0, .slice none 0 0, .int .i64 0, .int .i64 0, .slice none 0 0, .int .i64 0, .slice none 0 0, .slice none 0 0, .slice none 0 0, .int .i64 0] 76 (0, 0)) by rw [hX]; exact ((Below.heap_setCell _ ⟨w.heap.size, 16, none⟩ _ _ (by simp)).trans (((Below.heap_setCell _ ⟨w.heap.size, 15, none⟩ _ _ (by simp)).trans (((Below.heap_setCell _ ⟨w.heap.size, 14, none⟩ _ _ (by simp)).trans (((Below.heap_setCell _ ⟨w.heap.size, 13, none⟩ _ _ (by simp)).trans (((Below.heap_setCell _ ⟨w.heap.size, 3, none⟩ _ _ (by simp)).trans (((Below.heap_setCell _ ⟨w.heap.size, 2, none⟩ _ _ (by simp)).trans (HZ.out)))))))))))))
  have HX := Lib.hid (show Below w.heap.size w X by rw [hX]; exact ((((((HB.out).setCell (by simp) _).setCell (by simp) _).setCell (by simp) _).setCell (by simp) _).setCell (by simp) _).setCell (by simp) _)
  clear hX x1 x2 x3 x13 x14 x15 x16 f0
  refine wp_region_lit ?_
  refine ld_mid Tryd.underlying76 info_rule (by rfl) (.tmp 2) (by rfl) w.heap.size 0 [.string nm, .int .i64 4, .int .i64 0, .int .i64 0, .int .i64 pf, .int .i64 pt, .slice a6 resp.length c6, .slice a7 guards.length c7, .slice a8 ex.length c8, .slice a9 fa.length c9, .int .i64 rd, .int .i64 wr, .slice a12 send.length c12, .int .i64 0, .slice none 0 0, .slice none 0 0, .slice none 0 0, .int .i64 dir] (by rfl) (by rfl) (rangeBlock GX.out) ?_
  refine st_whole (T := 76) info_rule (by rfl) (.tmp 4) (.tmp 41) (by rfl) (w.heap.size + 1) [.string nm, .int .i64 4, .int .i64 0, .int .i64 0, .int .i64 pf, .int .i64 pt, .slice a6 resp.length c6, .slice a7 guards.length c7, .slice a8 ex.length c8, .slice a9 fa.length c9, .int .i64 rd, .int .i64 wr, .slice a12 send.length c12, .int .i64 0, .slice none 0 0, .slice none 0 0, .slice none 0 0, .int .i64 dir] (by rfl) (by rfl) (by rfl) ZX.out (by rfl) (by simp [Value.oneCell']) (fun Z hZ hbl _ _ => ?_)
  have ZZ := Lib.hid hZ
  have ZB := Lib.hid (hbl _ _ (by omega) HX.out)
  clear hZ hbl
  go_wp2_with fail
  refine bodyPost_ret (v := .agg #[.string nm, .int .i64 4, .int .i64 0, .int .i64 0, .int .i64 pf, .int .i64 pt, .slice a6 resp.length c6, .slice a7 guards.length c7, .slice a8 ex.length c8, .slice a9 fa.length c9, .int .i64 rd, .int .i64 wr, .slice a12 send.length c12, .int .i64 0, .slice none 0 0, .slice none 0 0, .slice none 0 0, .int .i64 dir]) (results_cell_row (by rfl) _ _ (w.heap.size + 1) 76 _ (0, 0) _ (by rfl) ZZ.out Tryd.underlying76 rfl (by exact info_rule)) rfl (bare_end (cs' := [.string nm, .int .i64 4, .int .i64 0, .int .i64 0, .int .i64 pf, .int .i64 pt, .slice a6 resp.length c6, .slice a7 guards.length c7, .slice a8 ex.length c8, .slice a9 fa.length c9, .int .i64 rd, .int .i64 wr, .slice a12 send.length c12, .int .i64 0, .slice none 0 0, .slice none 0 0, .slice none 0 0, .int .i64 dir]) ZB.out rfl (fun W hB => ?_))
  have HB := Lib.hid hB
  exact ⟨_, _, _, _, _, _, _, _, rfl, H0.out, H1.out, i64_0, i64_0, H4.out, H5.out, H6.out.below HB.out, H7.out.below ThEl.stays HB.out, H8.out.below HB.out, H9.out.below HB.out, H10.out, H11.out, H12.out.below HB.out, i64_0, ints_nil _ _, ints_nil _ _, ints_nil _ _, H17.out⟩
set_option maxHeartbeats 1600000 in
theorem withoutUsed_4n {lo : Nat} {w : World} {cs : List Value} {nm : ByteArray} {frm tw pf pt rd wr pos dir : Int} {resp ex fa send left right parent : List Int} {guards : List Th} (top : Int) (bt : (top == 4) = false) (h : RuEl lo w cs ⟨nm, 4, frm, tw, pf, pt, resp, guards, ex, fa, rd, wr, send, pos, left, right, parent, dir⟩) :
    Calls Tryd.prog 115 #[.agg cs.toArray, .int .i64 top] w fun e w' => e = .returned (.agg (bareC4n cs).toArray) ∧ RuEl lo w' (bareC4n cs) ⟨nm, 4, 0, 0, pf, pt, resp, guards, ex, fa, rd, wr, send, 0, [], [], parent, dir⟩ ∧ Below w.heap.size w w' := by
  obtain ⟨v6, v7, v8, v9, v12, v14, v15, v16, rfl, h0, h1, h2, h3, h4, h5, h6, h7, h8, h9, h10, h11, h12, h13, h14, h15, h16, h17⟩ := h
  dsimp only at h0 h1 h2 h3 h4 h5 h6 h7 h8 h9 h10 h11 h12 h13 h14 h15 h16 h17 ⊢
  obtain ⟨a6, c6, rfl⟩ := h6.shape
  obtain ⟨a7, c7, rfl⟩ := h7.shape
  obtain ⟨a8, c8, rfl⟩ := h8.shape
  obtain ⟨a9, c9, rfl⟩ := h9.shape
  obtain ⟨a12, c12, rfl⟩ := h12.shape
  obtain ⟨a14, c14, rfl⟩ := h14.shape
  obtain ⟨a15, c15, rfl⟩ := h15.shape
  obtain ⟨a16, c16, rfl⟩ := h16.shape
  have H0 := Lib.hid h0
  have H1 := Lib.hid h1
  have H2 := Lib.hid h2
  have H3 := Lib.hid h3
  have H4 := Lib.hid h4
  have H5 := Lib.hid h5
  have H6 := Lib.hid h6
  have H7 := Lib.hid h7
  have H8 := Lib.hid h8
  have H9 := Lib.hid h9
  have H10 := Lib.hid h10
  have H11 := Lib.hid h11
  have H12 := Lib.hid h12
  have H13 := Lib.hid h13
  have H14 := Lib.hid h14
  have H15 := Lib.hid h15
  have H16 := Lib.hid h16
  have H17 := Lib.hid h17
  clear h0 h1 h2 h3 h4 h5 h6 h7 h8 h9 h10 h11 h12 h13 h14 h15 h16 h17
  go_enter Tryd.func115, Tryd.ntmps115
  go_upto_region 1 with (fail)
  obtain ⟨W, hW⟩ : ∃ W : World, W = (w.alloc (.cells #[.string nm, .int .i64 4, .int .i64 frm, .int .i64 tw, .int .i64 pf, .int .i64 pt, .slice a6 resp.length c6, .slice a7 guards.length c7, .slice a8 ex.length c8, .slice a9 fa.length c9, .int .i64 rd, .int .i64 wr, .slice a12 send.length c12, .int .i64 pos, .slice a14 left.length c14, .slice a15 right.length c15, .slice a16 parent.length c16, .int .i64 dir] 76)).alloc (.cells #[.string ⟨#[]⟩, .int .i64 0, .int .i64 0, .int .i64 0, .int .i64 0, .int .i64 0, .slice none 0 0, .slice none 0 0, .slice none 0 0, .slice none 0 0, .int .i64 0, .int .i64 0, .slice none 0 0, .int .i64 0, .slice none 0 0, .slice none 0 0, .slice none 0 0, .int .i64 0] 76) := ⟨_, rfl⟩
  rw [← hW]
  have HB := Lib.hid (show Below w.heap.size w W by rw [hW]; show Below _ _ _; go_grown)
  have HG := Lib.hid (show W.heap[w.heap.size]? = some (.cells #[.string nm, .int .i64 4, .int .i64 frm, .int .i64 tw, .int .i64 pf, .int .i64 pt, .slice a6 resp.length c6, .slice a7 guards.length c7, .slice a8 ex.length c8, .slice a9 fa.length c9, .int .i64 rd, .int .i64 wr, .slice a12 send.length c12, .int .i64 pos, .slice a14 left.length c14, .slice a15 right.length c15, .slice a16 parent.length c16, .int .i64 dir] 76 (0, 0)) by rw [hW]; exact (heap_old _ _ (by simp)).trans (heap_new _ _ rfl))
  have HZ := Lib.hid (show W.heap[w.heap.size + 1]? = some (.cells #[.string ⟨#[]⟩, .int .i64 0, .int .i64 0, .int .i64 0, .int .i64 0, .int .i64 0, .slice none 0 0, .slice none 0 0, .slice none 0 0, .slice none 0 0, .int .i64 0, .int .i64 0, .slice none 0 0, .int .i64 0, .slice none 0 0, .slice none 0 0, .slice none 0 0, .int .i64 0] 76 (0, 0)) by rw [hW]; exact heap_new _ _ (by simp))
  clear hW
  have x1 : W.cell? ⟨w.heap.size, 1, none⟩ = some (.int .i64 4) := cellB HG.out 1 rfl
  have x2 : W.cell? ⟨w.heap.size, 2, none⟩ = some (.int .i64 frm) := cellB HG.out 2 rfl
  have x3 : W.cell? ⟨w.heap.size, 3, none⟩ = some (.int .i64 tw) := cellB HG.out 3 rfl
  have x13 : W.cell? ⟨w.heap.size, 13, none⟩ = some (.int .i64 pos) := cellB HG.out 13 rfl
  have x14 : W.cell? ⟨w.heap.size, 14, none⟩ = some (.slice a14 left.length c14) := cellB HG.out 14 rfl
  have x15 : W.cell? ⟨w.heap.size, 15, none⟩ = some (.slice a15 right.length c15) := cellB HG.out 15 rfl
  have f0 : ∀ o, W.frozen? ⟨w.heap.size, o, none⟩ = false := frozenB HG.out
  go_upto_region 18 with (fail)
  obtain ⟨X, hX⟩ : ∃ X : World, X = (((((W).setCell ⟨w.heap.size, 2, none⟩ (.int .i64 0)).setCell ⟨w.heap.size, 3, none⟩ (.int .i64 0)).setCell ⟨w.heap.size, 13, none⟩ (.int .i64 0)).setCell ⟨w.heap.size, 14, none⟩ (.slice none 0 0)).setCell ⟨w.heap.size, 15, none⟩ (.slice none 0 0) := ⟨_, rfl⟩
  rw [← hX]
  have GX := Lib.hid (show X.heap[w.heap.size]? = some (.cells (#[.string nm, .int .i64 4, .int .i64 0, .int .i64 0, .int .i64 pf, .int .i64 pt, .slice a6 resp.length c6, .slice a7 guards.length c7, .slice a8 ex.length c8, .slice a9 fa.length c9, .int .i64 rd, .int .i64 wr, .slice a12 send.length c12, .int .i64 0, .slice none 0 0, .slice none 0 0, .slice a16 parent.length c16, .int .i64 dir]) 76 (0, 0)) by rw [hX]; exact (block_set (cur' := #[.string nm, .int .i64 4, .int .i64 0, .int .i64 0, .int .i64 pf, .int .i64 pt, .slice a6 resp.length c6, .slice a7 guards.length c7, .slice a8 ex.length c8, .slice a9 fa.length c9, .int .i64 rd, .int .i64 wr, .slice a12 send.length c12, .int .i64 0, .slice none 0 0, .slice none 0 0, .slice a16 parent.length c16, .int .i64 dir]) ((block_set (cur' := #[.string nm, .int .i64 4, .int .i64 0, .int .i64 0, .int .i64 pf, .int .i64 pt, .slice a6 resp.length c6, .slice a7 guards.length c7, .slice a8 ex.length c8, .slice a9 fa.length c9, .int .i64 rd, .int .i64 wr, .slice a12 send.length c12, .int .i64 0, .slice none 0 0, .slice a15 right.length c15, .slice a16 parent.length c16, .int .i64 dir]) ((block_set (cur' := #[.string nm, .int .i64 4, .int .i64 0, .int .i64 0, .int .i64 pf, .int .i64 pt, .slice a6 resp.length c6, .slice a7 guards.length c7, .slice a8 ex.length c8, .slice a9 fa.length c9, .int .i64 rd, .int .i64 wr, .slice a12 send.length c12, .int .i64 0, .slice a14 left.length c14, .slice a15 right.length c15, .slice a16 parent.length c16, .int .i64 dir]) ((block_set (cur' := #[.string nm, .int .i64 4, .int .i64 0, .int .i64 0, .int .i64 pf, .int .i64 pt, .slice a6 resp.length c6, .slice a7 guards.length c7, .slice a8 ex.length c8, .slice a9 fa.length c9, .int .i64 rd, .int .i64 wr, .slice a12 send.length c12, .int .i64 pos, .slice a14 left.length c14, .slice a15 right.length c15, .slice a16 parent.length c16, .int .i64 dir]) ((block_set (cur' := #[.string nm, .int .i64 4, .int .i64 0, .int .i64 tw, .int .i64 pf, .int .i64 pt, .slice a6 resp.length c6, .slice a7 guards.length c7, .slice a8 ex.length c8, .slice a9 fa.length c9, .int .i64 rd, .int .i64 wr, .slice a12 send.length c12, .int .i64 pos, .slice a14 left.length c14, .slice a15 right.length c15, .slice a16 parent.length c16, .int .i64 dir]) (HG.out) (by simp))) (by simp))) (by simp))) (by simp))) (by simp)))
  have ZX := Lib.hid (show X.heap[w.heap.size + 1]? = some (.cells #[.string ⟨#[]⟩, .int .i64 0, .int .i64 0, .int .i64 0, .int .i64 0, .int .i64 0, .slice none 0 0, .slice none 0 0, .slice none 0 0, .slice none 0 0, .int .i64 0, .int .i64 0, .slice none 0 0, .int .i64 0, .slice none 0 0, .slice none 0 0, .slice none 0 0, .int .i64 0] 76 (0, 0)) by rw [hX]; exact ((Below.heap_setCell _ ⟨w.heap.size, 15, none⟩ _ _ (by simp)).trans (((Below.heap_setCell _ ⟨w.heap.size, 14, none⟩ _ _ (by simp)).trans (((Below.heap_setCell _ ⟨w.heap.size, 13, none⟩ _ _ (by simp)).trans (((Below.heap_setCell _ ⟨w.heap.size, 3, none⟩ _ _ (by simp)).trans (((Below.heap_setCell _ ⟨w.heap.size, 2, none⟩ _ _ (by simp)).trans (HZ.out)))))))))))
  have HX := Lib.hid (show Below w.heap.size w X by rw [hX]; exact (((((HB.out).setCell (by simp) _).setCell (by simp) _).setCell (by simp) _).setCell (by simp) _).setCell (by simp) _)
  clear hX x1 x2 x3 x13 x14 x15 f0
  refine wp_region_lit ?_
  refine ld_mid Tryd.underlying76 info_rule (by rfl) (.tmp 2) (by rfl) w.heap.size 0 [.string nm, .int .i64 4, .int .i64 0, .int .i64 0, .int .i64 pf, .int .i64 pt, .slice a6 resp.length c6, .slice a7 guards.length c7, .slice a8 ex.length c8, .slice a9 fa.length c9, .int .i64 rd, .int .i64 wr, .slice a12 send.length c12, .int .i64 0, .slice none 0 0, .slice none 0 0, .slice a16 parent.length c16, .int .i64 dir] (by rfl) (by rfl) (rangeBlock GX.out) ?_
  refine st_whole (T := 76) info_rule (by rfl) (.tmp 4) (.tmp 41) (by rfl) (w.heap.size + 1) [.string nm, .int .i64 4, .int .i64 0, .int .i64 0, .int .i64 pf, .int .i64 pt, .slice a6 resp.length c6, .slice a7 guards.length c7, .slice a8 ex.length c8, .slice a9 fa.length c9, .int .i64 rd, .int .i64 wr, .slice a12 send.length c12, .int .i64 0, .slice none 0 0, .slice none 0 0, .slice a16 parent.length c16, .int .i64 dir] (by rfl) (by rfl) (by rfl) ZX.out (by rfl) (by simp [Value.oneCell']) (fun Z hZ hbl _ _ => ?_)
  have ZZ := Lib.hid hZ
  have ZB := Lib.hid (hbl _ _ (by omega) HX.out)
  clear hZ hbl
  go_wp2_with fail
  refine bodyPost_ret (v := .agg #[.string nm, .int .i64 4, .int .i64 0, .int .i64 0, .int .i64 pf, .int .i64 pt, .slice a6 resp.length c6, .slice a7 guards.length c7, .slice a8 ex.length c8, .slice a9 fa.length c9, .int .i64 rd, .int .i64 wr, .slice a12 send.length c12, .int .i64 0, .slice none 0 0, .slice none 0 0, .slice a16 parent.length c16, .int .i64 dir]) (results_cell_row (by rfl) _ _ (w.heap.size + 1) 76 _ (0, 0) _ (by rfl) ZZ.out Tryd.underlying76 rfl (by exact info_rule)) rfl (bare_end (cs' := [.string nm, .int .i64 4, .int .i64 0, .int .i64 0, .int .i64 pf, .int .i64 pt, .slice a6 resp.length c6, .slice a7 guards.length c7, .slice a8 ex.length c8, .slice a9 fa.length c9, .int .i64 rd, .int .i64 wr, .slice a12 send.length c12, .int .i64 0, .slice none 0 0, .slice none 0 0, .slice a16 parent.length c16, .int .i64 dir]) ZB.out rfl (fun W hB => ?_))
  have HB := Lib.hid hB
  exact ⟨_, _, _, _, _, _, _, _, rfl, H0.out, H1.out, i64_0, i64_0, H4.out, H5.out, H6.out.below HB.out, H7.out.below ThEl.stays HB.out, H8.out.below HB.out, H9.out.below HB.out, H10.out, H11.out, H12.out.below HB.out, i64_0, ints_nil _ _, ints_nil _ _, H16.out.below HB.out, H17.out⟩
set_option maxHeartbeats 1600000 in
theorem withoutUsed_5 {lo : Nat} {w : World} {cs : List Value} {nm : ByteArray} {frm tw pf pt rd wr pos dir : Int} {resp ex fa send left right parent : List Int} {guards : List Th} (top : Int) (h : RuEl lo w cs ⟨nm, 5, frm, tw, pf, pt, resp, guards, ex, fa, rd, wr, send, pos, left, right, parent, dir⟩) :
    Calls Tryd.prog 115 #[.agg cs.toArray, .int .i64 top] w fun e w' => e = .returned (.agg (bareC5 cs).toArray) ∧ RuEl lo w' (bareC5 cs) ⟨nm, 5, 0, 0, 0, 0, resp, guards, ex, fa, rd, wr, send, pos, left, right, parent, 0⟩ ∧ Below w.heap.size w w' := by
  obtain ⟨v6, v7, v8, v9, v12, v14, v15, v16, rfl, h0, h1, h2, h3, h4, h5, h6, h7, h8, h9, h10, h11, h12, h13, h14, h15, h16, h17⟩ := h
  dsimp only at h0 h1 h2 h3 h4 h5 h6 h7 h8 h9 h10 h11 h12 h13 h14 h15 h16 h17 ⊢
  obtain ⟨a6, c6, rfl⟩ := h6.shape
  obtain ⟨a7, c7, rfl⟩ := h7.shape
  obtain ⟨a8, c8, rfl⟩ := h8.shape
  obtain ⟨a9, c9, rfl⟩ := h9.shape
  obtain ⟨a12, c12, rfl⟩ := h12.shape
  obtain ⟨a14, c14, rfl⟩ := h14.shape
  obtain ⟨a15, c15, rfl⟩ := h15.shape
  obtain ⟨a16, c16, rfl⟩ := h16.shape
  have H0 := Lib.hid h0
  have H1 := Lib.hid h1
  have H2 := Lib.hid h2
  have H3 := Lib.hid h3
  have H4 := Lib.hid h4
  have H5 := Lib.hid h5
  have H6 := Lib.hid h6
  have H7 := Lib.hid h7
  have H8 := Lib.hid h8
  have H9 := Lib.hid h9
  have H10 := Lib.hid h10
  have H11 := Lib.hid h11
  have H12 := Lib.hid h12
  have H13 := Lib.hid h13
  have H14 := Lib.hid h14
  have H15 := Lib.hid h15
  have H16 := Lib.hid h16
  have H17 := Lib.hid h17
  clear h0 h1 h2 h3 h4 h5 h6 h7 h8 h9 h10 h11 h12 h13 h14 h15 h16 h17
  go_enter Tryd.func115, Tryd.ntmps115
  go_upto_region 1 with (fail)
  obtain ⟨W, hW⟩ : ∃ W : World, W = (w.alloc (.cells #[.string nm, .int .i64 5, .int .i64 frm, .int .i64 tw, .int .i64 pf, .int .i64 pt, .slice a6 resp.length c6, .slice a7 guards.length c7, .slice a8 ex.length c8, .slice a9 fa.length c9, .int .i64 rd, .int .i64 wr, .slice a12 send.length c12, .int .i64 pos, .slice a14 left.length c14, .slice a15 right.length c15, .slice a16 parent.length c16, .int .i64 dir] 76)).alloc (.cells #[.string ⟨#[]⟩, .int .i64 0, .int .i64 0, .int .i64 0, .int .i64 0, .int .i64 0, .slice none 0 0, .slice none 0 0, .slice none 0 0, .slice none 0 0, .int .i64 0, .int .i64 0, .slice none 0 0, .int .i64 0, .slice none 0 0, .slice none 0 0, .slice none 0 0, .int .i64 0] 76) := ⟨_, rfl⟩
  rw [← hW]
  have HB := Lib.hid (show Below w.heap.size w W by rw [hW]; show Below _ _ _; go_grown)
  have HG := Lib.hid (show W.heap[w.heap.size]? = some (.cells #[.string nm, .int .i64 5, .int .i64 frm, .int .i64 tw, .int .i64 pf, .int .i64 pt, .slice a6 resp.length c6, .slice a7 guards.length c7, .slice a8 ex.length c8, .slice a9 fa.length c9, .int .i64 rd, .int .i64 wr, .slice a12 send.length c12, .int .i64 pos, .slice a14 left.length c14, .slice a15 right.length c15, .slice a16 parent.length c16, .int .i64 dir] 76 (0, 0)) by rw [hW]; exact (heap_old _ _ (by simp)).trans (heap_new _ _ rfl))
  have HZ := Lib.hid (show W.heap[w.heap.size + 1]? = some (.cells #[.string ⟨#[]⟩, .int .i64 0, .int .i64 0, .int .i64 0, .int .i64 0, .int .i64 0, .slice none 0 0, .slice none 0 0, .slice none 0 0, .slice none 0 0, .int .i64 0, .int .i64 0, .slice none 0 0, .int .i64 0, .slice none 0 0, .slice none 0 0, .slice none 0 0, .int .i64 0] 76 (0, 0)) by rw [hW]; exact heap_new _ _ (by simp))
  clear hW
  have x1 : W.cell? ⟨w.heap.size, 1, none⟩ = some (.int .i64 5) := cellB HG.out 1 rfl
  have x2 : W.cell? ⟨w.heap.size, 2, none⟩ = some (.int .i64 frm) := cellB HG.out 2 rfl
  have x3 : W.cell? ⟨w.heap.size, 3, none⟩ = some (.int .i64 tw) := cellB HG.out 3 rfl
  have x4 : W.cell? ⟨w.heap.size, 4, none⟩ = some (.int .i64 pf) := cellB HG.out 4 rfl
  have x5 : W.cell? ⟨w.heap.size, 5, none⟩ = some (.int .i64 pt) := cellB HG.out 5 rfl
  have x17 : W.cell? ⟨w.heap.size, 17, none⟩ = some (.int .i64 dir) := cellB HG.out 17 rfl
  have f0 : ∀ o, W.frozen? ⟨w.heap.size, o, none⟩ = false := frozenB HG.out
  go_upto_region 18 with (fail)
  obtain ⟨X, hX⟩ : ∃ X : World, X = (((((W).setCell ⟨w.heap.size, 2, none⟩ (.int .i64 0)).setCell ⟨w.heap.size, 3, none⟩ (.int .i64 0)).setCell ⟨w.heap.size, 4, none⟩ (.int .i64 0)).setCell ⟨w.heap.size, 5, none⟩ (.int .i64 0)).setCell ⟨w.heap.size, 17, none⟩ (.int .i64 0) := ⟨_, rfl⟩
  rw [← hX]
  have GX := Lib.hid (show X.heap[w.heap.size]? = some (.cells (#[.string nm, .int .i64 5, .int .i64 0, .int .i64 0, .int .i64 0, .int .i64 0, .slice a6 resp.length c6, .slice a7 guards.length c7, .slice a8 ex.length c8, .slice a9 fa.length c9, .int .i64 rd, .int .i64 wr, .slice a12 send.length c12, .int .i64 pos, .slice a14 left.length c14, .slice a15 right.length c15, .slice a16 parent.length c16, .int .i64 0]) 76 (0, 0)) by rw [hX]; exact (block_set (cur' := #[.string nm, .int .i64 5, .int .i64 0, .int .i64 0, .int .i64 0, .int .i64 0, .slice a6 resp.length c6, .slice a7 guards.length c7, .slice a8 ex.length c8, .slice a9 fa.length c9, .int .i64 rd, .int .i64 wr, .slice a12 send.length c12, .int .i64 pos, .slice a14 left.length c14, .slice a15 right.length c15, .slice a16 parent.length c16, .int .i64 0]) ((block_set (cur' := #[.string nm, .int .i64 5, .int .i64 0, .int .i64 0, .int .i64 0, .int .i64 0, .slice a6 resp.length c6, .slice a7 guards.length c7, .slice a8 ex.length c8, .slice a9 fa.length c9, .int .i64 rd, .int .i64 wr, .slice a12 send.length c12, .int .i64 pos, .slice a14 left.length c14, .slice a15 right.length c15, .slice a16 parent.length c16, .int .i64 dir]) ((block_set (cur' := #[.string nm, .int .i64 5, .int .i64 0, .int .i64 0, .int .i64 0, .int .i64 pt, .slice a6 resp.length c6, .slice a7 guards.length c7, .slice a8 ex.length c8, .slice a9 fa.length c9, .int .i64 rd, .int .i64 wr, .slice a12 send.length c12, .int .i64 pos, .slice a14 left.length c14, .slice a15 right.length c15, .slice a16 parent.length c16, .int .i64 dir]) ((block_set (cur' := #[.string nm, .int .i64 5, .int .i64 0, .int .i64 0, .int .i64 pf, .int .i64 pt, .slice a6 resp.length c6, .slice a7 guards.length c7, .slice a8 ex.length c8, .slice a9 fa.length c9, .int .i64 rd, .int .i64 wr, .slice a12 send.length c12, .int .i64 pos, .slice a14 left.length c14, .slice a15 right.length c15, .slice a16 parent.length c16, .int .i64 dir]) ((block_set (cur' := #[.string nm, .int .i64 5, .int .i64 0, .int .i64 tw, .int .i64 pf, .int .i64 pt, .slice a6 resp.length c6, .slice a7 guards.length c7, .slice a8 ex.length c8, .slice a9 fa.length c9, .int .i64 rd, .int .i64 wr, .slice a12 send.length c12, .int .i64 pos, .slice a14 left.length c14, .slice a15 right.length c15, .slice a16 parent.length c16, .int .i64 dir]) (HG.out) (by simp))) (by simp))) (by simp))) (by simp))) (by simp)))
  have ZX := Lib.hid (show X.heap[w.heap.size + 1]? = some (.cells #[.string ⟨#[]⟩, .int .i64 0, .int .i64 0, .int .i64 0, .int .i64 0, .int .i64 0, .slice none 0 0, .slice none 0 0, .slice none 0 0, .slice none 0 0, .int .i64 0, .int .i64 0, .slice none 0 0, .int .i64 0, .slice none 0 0, .slice none 0 0, .slice none 0 0, .int .i64 0] 76 (0, 0)) by rw [hX]; exact ((Below.heap_setCell _ ⟨w.heap.size, 17, none⟩ _ _ (by simp)).trans (((Below.heap_setCell _ ⟨w.heap.size, 5, none⟩ _ _ (by simp)).trans (((Below.heap_setCell _ ⟨w.heap.size, 4, none⟩ _ _ (by simp)).trans (((Below.heap_setCell _ ⟨w.heap.size, 3, none⟩ _ _ (by simp)).trans (((Below.heap_setCell _ ⟨w.heap.size, 2, none⟩ _ _ (by simp)).trans (HZ.out)))))))))))
  have HX := Lib.hid (show Below w.heap.size w X by rw [hX]; exact (((((HB.out).setCell (by simp) _).setCell (by simp) _).setCell (by simp) _).setCell (by simp) _).setCell (by simp) _)
  clear hX x1 x2 x3 x4 x5 x17 f0
  refine wp_region_lit ?_
  refine ld_mid Tryd.underlying76 info_rule (by rfl) (.tmp 2) (by rfl) w.heap.size 0 [.string nm, .int .i64 5, .int .i64 0, .int .i64 0, .int .i64 0, .int .i64 0, .slice a6 resp.length c6, .slice a7 guards.length c7, .slice a8 ex.length c8, .slice a9 fa.length c9, .int .i64 rd, .int .i64 wr, .slice a12 send.length c12, .int .i64 pos, .slice a14 left.length c14, .slice a15 right.length c15, .slice a16 parent.length c16, .int .i64 0] (by rfl) (by rfl) (rangeBlock GX.out) ?_
  refine st_whole (T := 76) info_rule (by rfl) (.tmp 4) (.tmp 41) (by rfl) (w.heap.size + 1) [.string nm, .int .i64 5, .int .i64 0, .int .i64 0, .int .i64 0, .int .i64 0, .slice a6 resp.length c6, .slice a7 guards.length c7, .slice a8 ex.length c8, .slice a9 fa.length c9, .int .i64 rd, .int .i64 wr, .slice a12 send.length c12, .int .i64 pos, .slice a14 left.length c14, .slice a15 right.length c15, .slice a16 parent.length c16, .int .i64 0] (by rfl) (by rfl) (by rfl) ZX.out (by rfl) (by simp [Value.oneCell']) (fun Z hZ hbl _ _ => ?_)
  have ZZ := Lib.hid hZ
  have ZB := Lib.hid (hbl _ _ (by omega) HX.out)
  clear hZ hbl
  go_wp2_with fail
  refine bodyPost_ret (v := .agg #[.string nm, .int .i64 5, .int .i64 0, .int .i64 0, .int .i64 0, .int .i64 0, .slice a6 resp.length c6, .slice a7 guards.length c7, .slice a8 ex.length c8, .slice a9 fa.length c9, .int .i64 rd, .int .i64 wr, .slice a12 send.length c12, .int .i64 pos, .slice a14 left.length c14, .slice a15 right.length c15, .slice a16 parent.length c16, .int .i64 0]) (results_cell_row (by rfl) _ _ (w.heap.size + 1) 76 _ (0, 0) _ (by rfl) ZZ.out Tryd.underlying76 rfl (by exact info_rule)) rfl (bare_end (cs' := [.string nm, .int .i64 5, .int .i64 0, .int .i64 0, .int .i64 0, .int .i64 0, .slice a6 resp.length c6, .slice a7 guards.length c7, .slice a8 ex.length c8, .slice a9 fa.length c9, .int .i64 rd, .int .i64 wr, .slice a12 send.length c12, .int .i64 pos, .slice a14 left.length c14, .slice a15 right.length c15, .slice a16 parent.length c16, .int .i64 0]) ZB.out rfl (fun W hB => ?_))
  have HB := Lib.hid hB
  exact ⟨_, _, _, _, _, _, _, _, rfl, H0.out, H1.out, i64_0, i64_0, i64_0, i64_0, H6.out.below HB.out, H7.out.below ThEl.stays HB.out, H8.out.below HB.out, H9.out.below HB.out, H10.out, H11.out, H12.out.below HB.out, H13.out, H14.out.below HB.out, H15.out.below HB.out, H16.out.below HB.out, i64_0⟩
theorem withoutUsed_any {lo : Nat} {w : World} {cs : List Value} {r : Ru} (top : Int) (hk : r.kind = 1 ∨ r.kind = 2 ∨ r.kind = 3 ∨ r.kind = 4 ∨ r.kind = 5) (h : RuEl lo w cs r) :
    Calls Tryd.prog 115 #[.agg cs.toArray, .int .i64 top] w fun e w' => e = .returned (.agg (bareC r.kind top cs).toArray) ∧ RuEl lo w' (bareC r.kind top cs) (bare r top) ∧ Below w.heap.size w w' := by
  obtain ⟨nm, kind, frm, tw, pf, pt, resp, guards, ex, fa, rd, wr, send, pos, left, right, parent, dir⟩ := r
  dsimp only at hk ⊢
  rcases hk with rfl | rfl | rfl | rfl | rfl
  · rw [show bare ⟨nm, 1, frm, tw, pf, pt, resp, guards, ex, fa, rd, wr, send, pos, left, right, parent, dir⟩ top = ⟨nm, 1, 0, 0, pf, pt, resp, [], [], [], (-1), (-1), [], pos, left, right, parent, dir⟩ by unfold bare; simp, show bareC 1 top cs = bareC1 cs by unfold bareC; simp]; exact withoutUsed_1 top h
  · rw [show bare ⟨nm, 2, frm, tw, pf, pt, resp, guards, ex, fa, rd, wr, send, pos, left, right, parent, dir⟩ top = ⟨nm, 2, 0, 0, 0, 0, resp, guards, ex, fa, (-1), (-1), send, pos, left, right, parent, dir⟩ by unfold bare; simp, show bareC 2 top cs = bareC2 cs by unfold bareC; simp]; exact withoutUsed_2 top h
  · rw [show bare ⟨nm, 3, frm, tw, pf, pt, resp, guards, ex, fa, rd, wr, send, pos, left, right, parent, dir⟩ top = ⟨nm, 3, 0, 0, pf, pt, [], guards, ex, fa, (-1), (-1), send, pos, left, right, parent, dir⟩ by unfold bare; simp, show bareC 3 top cs = bareC3 cs by unfold bareC; simp]; exact withoutUsed_3 top h
  · by_cases ht : top = 4
    · subst ht
      rw [show bare ⟨nm, 4, frm, tw, pf, pt, resp, guards, ex, fa, rd, wr, send, pos, left, right, parent, dir⟩ 4 = ⟨nm, 4, 0, 0, pf, pt, resp, guards, ex, fa, rd, wr, send, 0, [], [], [], dir⟩ by unfold bare; simp, show bareC 4 4 cs = bareC4t cs by unfold bareC; simp]; exact withoutUsed_4t h
    · rw [show bare ⟨nm, 4, frm, tw, pf, pt, resp, guards, ex, fa, rd, wr, send, pos, left, right, parent, dir⟩ top = ⟨nm, 4, 0, 0, pf, pt, resp, guards, ex, fa, rd, wr, send, 0, [], [], parent, dir⟩ by unfold bare; simp [ht], show bareC 4 top cs = bareC4n cs by unfold bareC; simp [ht]]; exact withoutUsed_4n top (by simpa using ht) h
  · rw [show bare ⟨nm, 5, frm, tw, pf, pt, resp, guards, ex, fa, rd, wr, send, pos, left, right, parent, dir⟩ top = ⟨nm, 5, 0, 0, 0, 0, resp, guards, ex, fa, rd, wr, send, pos, left, right, parent, 0⟩ by unfold bare; simp, show bareC 5 top cs = bareC5 cs by unfold bareC; simp]; exact withoutUsed_5 top h
theorem bareC_el {lo : Nat} {w : World} {cs : List Value} {r : Ru} (top : Int) (hk : r.kind = 1 ∨ r.kind = 2 ∨ r.kind = 3 ∨ r.kind = 4 ∨ r.kind = 5) (h : RuEl lo w cs r) : RuEl lo w (bareC r.kind top cs) (bare r top) := by
  obtain ⟨v6, v7, v8, v9, v12, v14, v15, v16, rfl, h0, h1, h2, h3, h4, h5, h6, h7, h8, h9, h10, h11, h12, h13, h14, h15, h16, h17⟩ := h
  obtain ⟨nm, kind, frm, tw, pf, pt, resp, guards, ex, fa, rd, wr, send, pos, left, right, parent, dir⟩ := r
  dsimp only at hk h0 h1 h2 h3 h4 h5 h6 h7 h8 h9 h10 h11 h12 h13 h14 h15 h16 h17 ⊢
  rcases hk with rfl | rfl | rfl | rfl | rfl
  · rw [show bare ⟨nm, 1, frm, tw, pf, pt, resp, guards, ex, fa, rd, wr, send, pos, left, right, parent, dir⟩ top = ⟨nm, 1, 0, 0, pf, pt, resp, [], [], [], (-1), (-1), [], pos, left, right, parent, dir⟩ by unfold bare; simp]; rw [bareC_1]; exact ⟨_, _, _, _, _, _, _, _, rfl, h0, h1, i64_0, i64_0, h4, h5, h6, ths_nil _ _, ints_nil _ _, ints_nil _ _, i64_m1, i64_m1, ints_nil _ _, h13, h14, h15, h16, h17⟩
  · rw [show bare ⟨nm, 2, frm, tw, pf, pt, resp, guards, ex, fa, rd, wr, send, pos, left, right, parent, dir⟩ top = ⟨nm, 2, 0, 0, 0, 0, resp, guards, ex, fa, (-1), (-1), send, pos, left, right, parent, dir⟩ by unfold bare; simp]; rw [bareC_2]; exact ⟨_, _, _, _, _, _, _, _, rfl, h0, h1, i64_0, i64_0, i64_0, i64_0, h6, h7, h8, h9, i64_m1, i64_m1, h12, h13, h14, h15, h16, h17⟩
  · rw [show bare ⟨nm, 3, frm, tw, pf, pt, resp, guards, ex, fa, rd, wr, send, pos, left, right, parent, dir⟩ top = ⟨nm, 3, 0, 0, pf, pt, [], guards, ex, fa, (-1), (-1), send, pos, left, right, parent, dir⟩ by unfold bare; simp]; rw [bareC_3]; exact ⟨_, _, _, _, _, _, _, _, rfl, h0, h1, i64_0, i64_0, h4, h5, ints_nil _ _, h7, h8, h9, i64_m1, i64_m1, h12, h13, h14, h15, h16, h17⟩
  · by_cases ht : top = 4
    · subst ht
      rw [show bare ⟨nm, 4, frm, tw, pf, pt, resp, guards, ex, fa, rd, wr, send, pos, left, right, parent, dir⟩ 4 = ⟨nm, 4, 0, 0, pf, pt, resp, guards, ex, fa, rd, wr, send, 0, [], [], [], dir⟩ by unfold bare; simp]; rw [bareC_4t]; exact ⟨_, _, _, _, _, _, _, _, rfl, h0, h1, i64_0, i64_0, h4, h5, h6, h7, h8, h9, h10, h11, h12, i64_0, ints_nil _ _, ints_nil _ _, ints_nil _ _, h17⟩
    · rw [show bare ⟨nm, 4, frm, tw, pf, pt, resp, guards, ex, fa, rd, wr, send, pos, left, right, parent, dir⟩ top = ⟨nm, 4, 0, 0, pf, pt, resp, guards, ex, fa, rd, wr, send, 0, [], [], parent, dir⟩ by unfold bare; simp [ht]]; rw [bareC_4n _ _ ht]; exact ⟨_, _, _, _, _, _, _, _, rfl, h0, h1, i64_0, i64_0, h4, h5, h6, h7, h8, h9, h10, h11, h12, i64_0, ints_nil _ _, ints_nil _ _, h16, h17⟩
  · rw [show bare ⟨nm, 5, frm, tw, pf, pt, resp, guards, ex, fa, rd, wr, send, pos, left, right, parent, dir⟩ top = ⟨nm, 5, 0, 0, 0, 0, resp, guards, ex, fa, rd, wr, send, pos, left, right, parent, 0⟩ by unfold bare; simp]; rw [bareC_5]; exact ⟨_, _, _, _, _, _, _, _, rfl, h0, h1, i64_0, i64_0, i64_0, i64_0, h6, h7, h8, h9, h10, h11, h12, h13, h14, h15, h16, i64_0⟩
set_option maxHeartbeats 1600000 in
theorem hasCliqueParts_any {lo : Nat} {w : World} {v : Value} {q : Fm} (h : IsFam lo w v q) :
    Calls Tryd.prog 47 #[v] w fun e w' => e = .returned (.bool (cliB q)) ∧ Below w.heap.size w w' := by
  obtain ⟨v2, v3, v4, v6, v7, v8, v9, rfl, _, _, h2, h3, h4, _, h6, h7, h8, h9⟩ := h
  have E : Hid (cliB q = (decide (0 < q.msgs.length) || decide (0 < q.vals.length) || decide (0 < q.res.length) || decide (q.fault ≠ 0))) := (rfl : cliB q = _)
  have b3 : q.msgs.length ≤ 9223372036854775807 := h3.bound
  have b4 : q.vals.length ≤ 9223372036854775807 := h4.bound
  have b6 : q.res.length ≤ 9223372036854775807 := h6.bound
  obtain ⟨a3, c3, rfl⟩ := h3.shape
  obtain ⟨a4, c4, rfl⟩ := h4.shape
  obtain ⟨a6, c6, rfl⟩ := h6.shape
  clear h2 h3 h4 h6 h7 h8 h9
  by_cases t0 : 0 < q.msgs.length
  · have it0 : (0 : Int) < ((q.msgs.length : Nat) : Int) := by omega
    go_enter Tryd.func47, Tryd.ntmps47
    go_wp2_with fail
    go_ret
    exact ⟨ret_bool (by rw [E.out, decide_eq_true t0]; simp), allocBelow _ _⟩
  · have it0 : ¬ (0 : Int) < ((q.msgs.length : Nat) : Int) := by omega
    by_cases t1 : 0 < q.vals.length
    · have it1 : (0 : Int) < ((q.vals.length : Nat) : Int) := by omega
      go_enter Tryd.func47, Tryd.ntmps47
      go_wp2_with fail
      go_ret
      exact ⟨ret_bool (by rw [E.out, decide_eq_true t1]; simp), allocBelow _ _⟩
    · have it1 : ¬ (0 : Int) < ((q.vals.length : Nat) : Int) := by omega
      by_cases t2 : 0 < q.res.length
      · have it2 : (0 : Int) < ((q.res.length : Nat) : Int) := by omega
        go_enter Tryd.func47, Tryd.ntmps47
        go_wp2_with fail
        go_ret
        exact ⟨ret_bool (by rw [E.out, decide_eq_true t2]; simp), allocBelow _ _⟩
      · have it2 : ¬ (0 : Int) < ((q.res.length : Nat) : Int) := by omega
        by_cases t3 : q.fault = 0
        · have i3 : (q.fault != 0) = false := by simpa using t3
          have T := Lib.hid (And.intro t0 (And.intro t1 (And.intro t2 t3)))
          clear t3
          go_enter Tryd.func47, Tryd.ntmps47
          go_wp2_with fail
          go_ret
          exact ⟨ret_bool (by rw [E.out, decide_eq_false T.out.1, decide_eq_false T.out.2.1, decide_eq_false T.out.2.2.1, decide_eq_false (fun h => h T.out.2.2.2)]; simp), allocBelow _ _⟩
        · have i3 : (q.fault != 0) = true := by simpa using t3
          have T := Lib.hid t3
          clear t3
          go_enter Tryd.func47, Tryd.ntmps47
          go_wp2_with fail
          go_ret
          exact ⟨ret_bool (by rw [E.out, decide_eq_true T.out]; simp), allocBelow _ _⟩
end Go.Proofs.YtmpbfdfjcfanoaaDoor

/-
  THE ORDER OF SLICES OF INTEGERS: CompareInts of the reference.
-/
namespace Go.Proofs.YtmpbfdfjcfanoaaDoor
open Go.RowKit Go.Deep

/-- The order of slices of integers. -/
def cmpI : List Int → List Int → Int
  | [], [] => 0
  | [], _ :: _ => -1
  | _ :: _, [] => 1
  | x :: xs, y :: ys => if x < y then -1 else if y < x then 1 else cmpI xs ys

set_option maxHeartbeats 400000 in
theorem cmpInts_full (b off n cap b' off' n' cap' : Nat) (w : World) (xs ys : List Int) (hx : xs.length = n) (hy : ys.length = n') (hn : n ≤ 9223372036854775807)
    (hc : ∀ i, i < n → w.cell? ⟨b, off + i, none⟩ = some (.int .i64 (xs.getD i 0))) (hc' : ∀ i, i < n' → w.cell? ⟨b', off' + i, none⟩ = some (.int .i64 (ys.getD i 0))) :
    Calls Tryd.prog 81 #[.slice (some ⟨b, off, none⟩) n cap, .slice (some ⟨b', off', none⟩) n' cap'] w fun e w' => e = .returned (.int .i64 (cmpI xs ys)) ∧ Below w.heap.size w w' := by
  go_enter Tryd.func81, Tryd.ntmps81
  go_wp2
  go_loopw [5] (fun v wr => ∃ k : Nat, k ≤ n ∧ k ≤ n' ∧ v = .int .i64 k ∧ cmpI (xs.drop k) (ys.drop k) = cmpI xs ys ∧ Below w.heap.size w wr ∧ (∀ p : Addr, wr.cell? p = w.cell? p)) (fun v _ => n - (intOf v).toNat)
  case atStart => exact ⟨0, Nat.zero_le _, Nat.zero_le _, rfl, rfl, Below.refl _ _, fun _ => rfl⟩
  case round =>
    obtain ⟨k, hk, hk', rfl, hcm, hb, hsame⟩ := hrel
    have HS : Hid (∀ p : Addr, wr.cell? p = w.cell? p) := hsame
    have HB : Hid (Below w.heap.size w wr) := hb
    by_cases h1 : k < n
    · by_cases h2 : k < n'
      · have g1 : wr.cell? ⟨b, off + k, none⟩ = some (.int .i64 (xs.getD k 0)) := (hsame _).trans (hc k h1)
        have g2 : wr.cell? ⟨b', off' + k, none⟩ = some (.int .i64 (ys.getD k 0)) := (hsame _).trans (hc' k h2)
        have HC : Hid (cmpI xs ys = (if xs[k]'(by omega) < ys[k]'(by omega) then -1 else if ys[k]'(by omega) < xs[k]'(by omega) then 1 else cmpI (xs.drop (k+1)) (ys.drop (k+1)))) := by
          show _ = _
          rw [← hcm, List.drop_eq_getElem_cons (l := xs) (by omega), List.drop_eq_getElem_cons (l := ys) (by omega), cmpI]
        clear hsame hcm hb
        go_wp2
        go_quiet (fail)
        go_wp2
        · have hlt : xs[k] < ys[k] := by assumption
          go_ret
          exact ⟨ret_int (by rw [HC.out, if_pos hlt]), quietBelow HB.out _⟩
        · have hle : ys[k] ≤ xs[k] := by assumption
          go_quiet (fail)
          go_wp2
          · have hlt : ys[k] < xs[k] := by assumption
            go_ret
            exact ⟨ret_int (by rw [HC.out, if_neg (by omega), if_pos hlt]), (by (repeat refine quietBelow ?_ _); exact HB.out)⟩
          · have hle' : xs[k] ≤ ys[k] := by assumption
            go_roundw
            case rel => exact ⟨k + 1, by omega, by omega, by go_num, by rw [HC.out, if_neg (by omega), if_neg (by omega)], (by (repeat refine quietBelow ?_ _); exact HB.out), fun p => HS.out p⟩
            case measure => simp [intOf]; omega
      · have hd : ys.drop k = [] := List.drop_eq_nil_of_le (by omega)
        have HC : Hid (cmpI xs ys = 1) := by
          show _ = _
          rw [← hcm, hd, List.drop_eq_getElem_cons (by omega), cmpI]
        have hlt : n' < n := by omega
        clear hsame hcm hb hd
        go_wp2
        go_ret
        exact ⟨ret_int HC.out.symm, HB.out⟩
    · have hkn : k = n := by omega
      have hd : xs.drop k = [] := List.drop_eq_nil_of_le (by omega)
      by_cases h2 : n < n'
      · have HC : Hid (cmpI xs ys = -1) := by
          show _ = _
          rw [← hcm, hd, List.drop_eq_getElem_cons (by omega), cmpI]
        clear hsame hcm hb hd hkn
        go_wp2
        go_ret
        exact ⟨ret_int HC.out.symm, HB.out⟩
      · have HC : Hid (cmpI xs ys = 0) := by
          show _ = _
          rw [← hcm, hd, List.drop_eq_nil_of_le (by omega), cmpI]
        have hnn : ¬ n' < n := by omega
        clear hsame hcm hb hd hkn
        go_wp2
        go_ret
        exact ⟨ret_int HC.out.symm, HB.out⟩

set_option maxHeartbeats 400000 in
theorem cmpInts_left (a a' : Option Addr) (cap n' cap' : Nat) (w : World) (ys : List Int) (hy : ys.length = n') (hn' : n' ≤ 9223372036854775807) :
    Calls Tryd.prog 81 #[.slice a 0 cap, .slice a' n' cap'] w fun e w' => e = .returned (.int .i64 (cmpI [] ys)) ∧ Below w.heap.size w w' := by
  have HC : Hid (cmpI [] ys = if 0 < n' then -1 else 0) := by
    show _ = _
    cases ys <;> simp_all [cmpI] <;> omega
  by_cases h2 : 0 < n'
  · go_enter Tryd.func81, Tryd.ntmps81
    go_wp2
    go_rounds 1
    go_ret
    exact ⟨ret_int (by rw [HC.out, if_pos h2]), Below.refl _ _⟩
  · obtain rfl : n' = 0 := by omega
    clear h2
    go_enter Tryd.func81, Tryd.ntmps81
    go_wp2
    go_rounds 1
    go_ret
    exact ⟨ret_int (by rw [HC.out]; rfl), Below.refl _ _⟩

set_option maxHeartbeats 400000 in
theorem cmpInts_right (a a' : Option Addr) (n cap cap' : Nat) (w : World) (x : Int) (xs : List Int) (hx : (x :: xs).length = n) (hn : n ≤ 9223372036854775807) :
    Calls Tryd.prog 81 #[.slice a n cap, .slice a' 0 cap'] w fun e w' => e = .returned (.int .i64 (cmpI (x :: xs) [])) ∧ Below w.heap.size w w' := by
  have h2 : 0 < n := by simp at hx; omega
  clear hx
  go_enter Tryd.func81, Tryd.ntmps81
  go_wp2
  go_rounds 1
  go_ret
  exact ⟨rfl, Below.refl _ _⟩

theorem cmpInts_any {lo lo' : Nat} {w : World} {v v' : Value} {xs ys : List Int} (h : IsInts lo w v xs) (h' : IsInts lo' w v' ys) :
    Calls Tryd.prog 81 #[v, v'] w fun e w' => e = .returned (.int .i64 (cmpI xs ys)) ∧ Below w.heap.size w w' := by
  obtain ⟨a, cap, rfl, hl, hm, hi, hc⟩ := h
  obtain ⟨a', cap', rfl, hl', hm', hi', hc'⟩ := h'
  unfold maxLen at hm hm'
  rcases hc with rfl | ⟨b, off, rfl, _, _, hc⟩
  · exact cmpInts_left _ _ _ _ _ _ _ rfl (by omega)
  · rcases hc' with rfl | ⟨b', off', rfl, _, _, hc'⟩
    · cases xs with
      | nil => exact cmpInts_left _ _ _ _ _ _ _ rfl (by simp)
      | cons x xs => exact cmpInts_right _ _ _ _ _ _ _ _ rfl (by omega)
    · exact cmpInts_full _ _ _ _ _ _ _ _ _ _ _ rfl rfl (by omega) hc hc'

end Go.Proofs.YtmpbfdfjcfanoaaDoor

/-
  COPIES AND COMPARISONS OF SLICES OF INTEGERS: CopyInts, SameInts of the reference; a slice that the call has made.
-/
namespace Go.Proofs.YtmpbfdfjcfanoaaDoor
open Go.RowKit Go.Deep

/-- A slice of integers that the call has made: nil, or a row of its own. -/
def OwnV (lo : Nat) (w : World) (v : Value) (xs : List Int) : Prop :=
  (v = .slice none 0 0 ∧ xs = []) ∨ ∃ g cap, v = .slice (some ⟨g, 0, none⟩) xs.length cap ∧ xs.length ≤ cap ∧ cap ≤ maxLen ∧ OwnInts lo w g xs
theorem OwnV.ints {lo : Nat} {w : World} {v : Value} {xs : List Int} (h : OwnV lo w v xs) : IsInts lo w v xs := by
  rcases h with ⟨rfl, rfl⟩ | ⟨g, cap, rfl, hl, hm, h1, h2, h3, cur, t, hg, hc⟩
  · exact ⟨none, 0, rfl, by simp, by simp [maxLen], by simp, .inl rfl⟩
  · exact ints_of_block hg h1 rfl hl hm h3 hc
theorem OwnV.below {lo : Nat} {w w' : World} {v : Value} {xs : List Int} (h : OwnV lo w v xs) (hb : Below w.heap.size w w') : OwnV lo w' v xs := by
  rcases h with h | ⟨g, cap, hv, hl, hm, h⟩
  · exact .inl h
  · exact .inr ⟨g, cap, hv, hl, hm, h.below hb⟩
theorem OwnV.mono {lo lo' : Nat} {w : World} {v : Value} {xs : List Int} (h : OwnV lo w v xs) (hl' : lo' ≤ lo) : OwnV lo' w v xs := by
  rcases h with h | ⟨g, cap, hv, hl, hm, h⟩
  · exact .inl h
  · exact .inr ⟨g, cap, hv, hl, hm, h.mono hl'⟩
theorem OwnV.shape {lo : Nat} {w : World} {v : Value} {xs : List Int} (h : OwnV lo w v xs) : ∃ a cap, v = .slice a xs.length cap := h.ints.shape
theorem own_of_row {lo : Nat} {w : World} {v : Value} {e : TypeId} {xs : List Int} (h : w.ownsRow lo e 1 v xs.length (xs.map (Value.int .i64))) (hi : ∀ x ∈ xs, I64 x) : OwnV lo w v xs := by
  obtain ⟨_, h⟩ := h
  rcases h with ⟨hv, hn⟩ | ⟨g, cap, cur, hv, hb, hg, hnc, hcm, hcs, htake⟩
  · exact .inl ⟨hv, List.eq_nil_of_length_eq_zero hn⟩
  · refine .inr ⟨g, cap, hv, hnc, hcm, hb, Nat.le_trans hnc hcm, hi, cur, e, hg, fun i h => ?_⟩
    have h1 : (cur.toList.take (xs.length * 1))[i]? = some (.int .i64 (xs.getD i 0)) := by rw [htake]; simp [h]
    rw [List.getElem?_take, if_pos (by omega)] at h1
    simpa using h1

theorem info_int4 : ∃ i, Tryd.prog.info? 3 = some i ∧ i.zero = some (.int .i64 0) ∧ i.size = 1 ∧ i.bytes = 8 := by
  obtain ⟨i, hi, h⟩ := Option.map_eq_some_iff.1 (show (Tryd.prog.info? 3).map (fun i => (i.zero, i.size, i.bytes)) = some (some (.int .i64 0), 1, 8) by kernel_rfl)
  simp only [Prod.mk.injEq] at h
  exact ⟨i, hi, h.1, h.2.1, h.2.2⟩

set_option maxHeartbeats 800000 in
theorem CopyInts_any {lo : Nat} {w : World} {v : Value} {xs : List Int} (h : IsInts lo w v xs) (hn : xs.length ≤ 1000) :
    Calls Tryd.prog 42 #[v] w fun e w' => ∃ v', e = .returned v' ∧ OwnV w.heap.size w' v' xs ∧ Below w.heap.size w w' := by
  have H := h
  obtain ⟨a, cap, rfl, hl, hm, hi, hc⟩ := h
  obtain ⟨i0, hi0, hz0, hz1, hz2⟩ := info_int4
  have HI := hid0 hi.1
  cases a with
  | none =>
    obtain rfl : cap = 0 := hi.2 rfl
    have h0 : xs.length = 0 := by omega
    obtain rfl : xs = [] := List.eq_nil_of_length_eq_zero h0
    have hown := World.ownsRow_lit (base := w.heap.size) (e := 3) (size := 1) w #[] 0 (Nat.le_refl _) (by simp) (by simp)
    have HO := hid0 hown
    clear hown hc hi hl hm h0 H
    go_enter Tryd.func42, Tryd.ntmps42
    go_wp2_with (refine wpList_append_own_none rfl (.tmp 3) (.tmp 4) 24 rfl w.heap.size 3 i0 1 Tryd.underlying24 hi0 _ _ _ rfl HO.out rfl ?_)
    go_ret
    exact ⟨_, rfl, own_of_row (e := 3) (by simpa using HO.out) (by simp), allocBelow _ _⟩
  | some ad =>
    have HS : Hid (∀ w', Below w.heap.size w w' → ∀ j u, (xs.map (Value.int .i64))[j]? = some u → w'.cell? (ad.add j) = some u) := hid0 fun w' hb j u hj => by
      have h0 : 0 < xs.length := by have := (List.getElem?_eq_some_iff.1 hj).1; simp at this; omega
      obtain ⟨ad', e, hS⟩ := H.src h0
      cases e
      exact hS w' hb j u hj
    have hown := World.ownsRow_lit (base := w.heap.size) (e := 3) (size := 1) w #[] 0 (Nat.le_refl _) (by simp) (by simp)
    have HO := hid0 hown
    clear hown hc hi
    go_enter Tryd.func42, Tryd.ntmps42
    go_wp2_with (refine wpList_append_own _ rfl (.tmp 3) (.tmp 4) 24 rfl w.heap.size 3 i0 (.int .i64 0) 1 8 Tryd.underlying24 hi0 hz0 hz1 hz2 rfl (by decide) _ _ _ rfl HO.out ad xs.length cap (xs.map (Value.int .i64)) rfl (by simp) (HS.out _ (by go_grown)) (by simp [Value.oneCell']) (by unfold maxLen; omega) (by omega) (by simp) ?_; intro v' w1 hown1 hgrow1 _)
    go_ret
    have hown2 : w1.ownsRow w.heap.size 3 1 v' xs.length (xs.map (Value.int .i64)) := by simpa using hown1
    refine ⟨v', rfl, own_of_row hown2 HI.out, (allocBelow w _).grown hgrow1 (by simp) fun k hk => ?_⟩
    have hk' : some w.heap.size = some k := hk
    injection hk' with hk'
    omega

theorem cmpI_self : ∀ xs, cmpI xs xs = 0
  | [] => rfl
  | x :: xs => by simp [cmpI, cmpI_self xs]
theorem cmpI_zero : ∀ {xs ys : List Int}, cmpI xs ys = 0 → xs = ys
  | [], [], _ => rfl
  | [], _ :: _, h => by simp [cmpI] at h
  | _ :: _, [], h => by simp [cmpI] at h
  | x :: xs, y :: ys, h => by
    unfold cmpI at h
    split at h
    · cases h
    · split at h
      · cases h
      · rw [show x = y by omega, cmpI_zero h]
def eqI (xs ys : List Int) : Bool := decide (xs = ys)
theorem eqI_cmp (xs ys : List Int) : (cmpI xs ys == 0) = eqI xs ys := by
  unfold eqI
  rw [Bool.eq_iff_iff, beq_iff_eq, decide_eq_true_iff]
  exact ⟨cmpI_zero, fun h => by rw [h]; exact cmpI_self _⟩
theorem SameInts_any {lo lo' : Nat} {w : World} {v v' : Value} {xs ys : List Int} (h : IsInts lo w v xs) (h' : IsInts lo' w v' ys) :
    Calls Tryd.prog 35 #[v, v'] w fun e w' => e = .returned (.bool (eqI xs ys)) ∧ Below w.heap.size w w' := by
  obtain ⟨a, cap, rfl⟩ := h.shape
  obtain ⟨a', cap', rfl⟩ := h'.shape
  have E := hid0 (eqI_cmp xs ys)
  go_enter Tryd.func35, Tryd.ntmps35
  go_wp2_with (go_at_call 81; refine (cmpInts_any h h').mono ?_; rintro e w1 ⟨rfl, hb1⟩)
  go_ret
  exact ⟨ret_bool E.out, hb1⟩
theorem grownTrans {a b c : World} {r : Option Nat} (h : a.grownBy b r) (k : b.grownBy c r) : a.grownBy c r :=
  ⟨k.os.trans h.os, k.tape.trans h.tape, k.output.trans h.output, Nat.le_trans h.size k.size, fun i hi hne => (k.block i (Nat.lt_of_lt_of_le hi h.size) hne).trans (h.block i hi hne)⟩

end Go.Proofs.YtmpbfdfjcfanoaaDoor

/-
  slices.Equal OF INTEGERS AND OF GUARDS: it only reads.
-/
namespace Go.Proofs.YtmpbfdfjcfanoaaDoor
open Go.RowKit Go.Deep
/-- The first k elements are the same. -/
def samK {α : Type} (xs ys : List α) (k : Nat) : Prop := xs.take k = ys.take k
theorem samK_succ {α : Type} {xs ys : List α} {k : Nat} (h : k < xs.length) (h' : k < ys.length) (hk : samK xs ys k) (e : xs[k] = ys[k]) : samK xs ys (k + 1) := by
  unfold samK at *; rw [List.take_succ_eq_append_getElem h, List.take_succ_eq_append_getElem h', hk, e]
section
variable {α : Type} [DecidableEq α]
theorem eq_differ {xs ys : List α} {k : Nat} (h : k < xs.length) (h' : k < ys.length) (e : xs[k] ≠ ys[k]) : decide (xs = ys) = false := by
  rw [decide_eq_false_iff_not]; rintro rfl; exact e rfl
theorem eq_len {xs ys : List α} (h : xs.length ≠ ys.length) : decide (xs = ys) = false := by
  rw [decide_eq_false_iff_not]; rintro rfl; exact h rfl
theorem eq_end {xs ys : List α} {k : Nat} (h : k = xs.length) (h' : k = ys.length) (hk : samK xs ys k) : decide (xs = ys) = true := by
  unfold samK at hk; rw [List.take_of_length_le (by omega), List.take_of_length_le (by omega)] at hk
  rw [decide_eq_true_iff]; exact hk
end
set_option maxHeartbeats 1600000 in
theorem eqIntsQ_full (b off n cap b' off' n' cap' : Nat) (w : World) (xs ys : List Int) (hx : xs.length = n) (hy : ys.length = n') (hn : n ≤ 9223372036854775807)
    (hc : ∀ i, i < n → w.cell? ⟨b, off + i, none⟩ = some (.int .i64 (xs.getD i 0))) (hc' : ∀ i, i < n' → w.cell? ⟨b', off' + i, none⟩ = some (.int .i64 (ys.getD i 0))) :
    Calls Tryd.prog 73 #[.slice (some ⟨b, off, none⟩) n cap, .slice (some ⟨b', off', none⟩) n' cap'] w fun e w' => e = .returned (.bool (decide (xs = ys))) ∧ ∃ q, w' = w.drewN q := by
  have HC := Lib.hid hc
  have HC' := Lib.hid hc'
  have HX := Lib.hid hx
  have HY := Lib.hid hy
  clear hc hc' hx hy
  by_cases hnn : n = n'
  · subst hnn
    go_enter Tryd.func73, Tryd.ntmps73
    go_wp2_with fail
    go_loopw [13] (fun v wr => ∃ (k q : Nat), k ≤ n ∧ v = .int .i64 k ∧ samK xs ys k ∧ wr = w.drewN q) (fun v _ => n - (intOf v).toNat)
    case atStart => exact ⟨0, 0, Nat.zero_le _, rfl, rfl, rfl⟩
    case round =>
      obtain ⟨k, q, hk, rfl, hs, rfl⟩ := hrel
      have HS := Lib.hid hs
      clear hs
      by_cases h1 : k < n
      · have hkx : k < xs.length := by rw [HX.out]; exact h1
        have hky : k < ys.length := by rw [HY.out]; exact h1
        have g1 := HC.out k h1
        have g2 := HC'.out k h1
        rw [show xs.getD k 0 = xs[k] by simp [List.getD, List.getElem?_eq_getElem hkx]] at g1
        rw [show ys.getD k 0 = ys[k] by simp [List.getD, List.getElem?_eq_getElem hky]] at g2
        generalize hX : xs[k] = x at g1
        generalize hY : ys[k] = y at g2
        have HXk := Lib.hid hX
        have HYk := Lib.hid hY
        clear hX hY
        by_cases he : x = y
        · have HE := Lib.hid he
          have e1 : (x == y) = true := by simp [he]
          have e2 : (x != y) = false := by rw [bne, e1]; rfl
          clear he
          go_wp2_with fail
          go_quiet (fail)
          go_wp2_with fail
          go_roundw
          case rel => exact ⟨k + 1, q + nq, by omega, by go_num, samK_succ hkx hky HS.out (by rw [HXk.out, HYk.out]; exact HE.out), by first | rfl | rw [World.drewN_drewN]⟩
          case measure => simp [intOf]; omega
        · have HE := Lib.hid he
          have e1 : (x == y) = false := by simp [he]
          have e2 : (x != y) = true := by rw [bne, e1]; rfl
          clear he
          go_wp2_with fail
          go_quiet (fail)
          go_wp2_with fail
          go_ret
          exact ⟨ret_bool (by rw [eq_differ hkx hky (by rw [HXk.out, HYk.out]; exact HE.out)]), q + nq, by first | rfl | rw [World.drewN_drewN]⟩
      · have HE := Lib.hid (eq_end (k := k) (by rw [HX.out]; omega) (by rw [HY.out]; omega) HS.out)
        go_wp2_with fail
        go_ret
        exact ⟨ret_bool (by rw [HE.out]), q, rfl⟩
  · have h1 : (((n : Nat) : Int) == ((n' : Nat) : Int)) = false := by simp; omega
    have h2 : (((n : Nat) : Int) != ((n' : Nat) : Int)) = true := by rw [bne, h1]; rfl
    have E := Lib.hid (eq_len (xs := xs) (ys := ys) (by rw [HX.out, HY.out]; exact hnn))
    clear hnn
    go_enter Tryd.func73, Tryd.ntmps73
    go_wp2_with fail
    go_ret
    exact ⟨ret_bool (by rw [E.out]), 0, rfl⟩
set_option maxHeartbeats 800000 in
theorem eqIntsQ_left (a a' : Option Addr) (cap n' cap' : Nat) (w : World) (ys : List Int) (hy : ys.length = n') (hn : n' ≤ 9223372036854775807) :
    Calls Tryd.prog 73 #[.slice a 0 cap, .slice a' n' cap'] w fun e w' => e = .returned (.bool (decide ([] = ys))) ∧ ∃ q, w' = w.drewN q := by
  by_cases h0 : n' = 0
  · subst h0
    obtain rfl := List.eq_nil_of_length_eq_zero hy
    go_enter Tryd.func73, Tryd.ntmps73
    go_wp2_with fail
    refine wp_loop_rounds 1 ?_
    rw [rounds_succ]
    go_wp2_with fail
    go_ret
    exact ⟨rfl, 0, rfl⟩
  · have h1' : ((0 : Int) == ((n' : Nat) : Int)) = false := by simp; omega
    have h2 : ((0 : Int) != ((n' : Nat) : Int)) = true := by rw [bne, h1']; rfl
    have E := Lib.hid (eq_len (xs := []) (ys := ys) (by simp; omega))
    clear h0
    go_enter Tryd.func73, Tryd.ntmps73
    go_wp2_with fail
    go_ret
    exact ⟨ret_bool (by rw [E.out]), 0, rfl⟩
set_option maxHeartbeats 800000 in
theorem eqIntsQ_right (a a' : Option Addr) (n cap cap' : Nat) (w : World) (x : Int) (xs : List Int) (hx : (x :: xs).length = n) (hn : n ≤ 9223372036854775807) :
    Calls Tryd.prog 73 #[.slice a n cap, .slice a' 0 cap'] w fun e w' => e = .returned (.bool (decide (x :: xs = []))) ∧ ∃ q, w' = w.drewN q := by
  have h0 : 0 < n := by simp at hx; omega
  have h1 : (((n : Nat) : Int) == (0 : Int)) = false := by simp; omega
  have h2 : (((n : Nat) : Int) != (0 : Int)) = true := by rw [bne, h1]; rfl
  have E := Lib.hid (eq_len (xs := x :: xs) (ys := []) (by simp))
  clear hx
  go_enter Tryd.func73, Tryd.ntmps73
  go_wp2_with fail
  go_ret
  exact ⟨ret_bool (by rw [E.out]), 0, rfl⟩
theorem eqIntsQ_any {lo lo' : Nat} {w : World} {v v' : Value} {xs ys : List Int} (h : IsInts lo w v xs) (h' : IsInts lo' w v' ys) :
    Calls Tryd.prog 73 #[v, v'] w fun e w' => e = .returned (.bool (decide (xs = ys))) ∧ ∃ q, w' = w.drewN q := by
  obtain ⟨a, cap, rfl, hl, hm, hi, hc⟩ := h
  obtain ⟨a', cap', rfl, hl', hm', hi', hc'⟩ := h'
  unfold maxLen at hm hm'
  rcases hc with rfl | ⟨b, off, rfl, _, _, hc⟩
  · exact eqIntsQ_left _ _ _ _ _ _ _ rfl (by omega)
  · rcases hc' with rfl | ⟨b', off', rfl, _, _, hc'⟩
    · cases xs with
      | nil => exact eqIntsQ_left _ _ _ _ _ _ _ rfl (by simp)
      | cons x xs => exact eqIntsQ_right _ _ _ _ _ _ _ _ rfl (by omega)
    · exact eqIntsQ_full _ _ _ _ _ _ _ _ _ _ _ rfl rfl (by omega) hc hc'

set_option maxHeartbeats 1600000 in
theorem eqThsQ_full (b off n cap b' off' n' cap' : Nat) (w : World) (xs ys : List Th) (hx : xs.length = n) (hy : ys.length = n') (hn : n ≤ 9223372036854775807)
    (hc : ∀ i (hi : i < xs.length), ∃ cs : List Value, cs.length = 6 ∧ (∀ j, j < 6 → w.cell? ⟨b, off + i * 6 + j, none⟩ = cs[j]?) ∧ ThEl 0 w cs xs[i]) (hc' : ∀ i (hi : i < ys.length), ∃ cs : List Value, cs.length = 6 ∧ (∀ j, j < 6 → w.cell? ⟨b', off' + i * 6 + j, none⟩ = cs[j]?) ∧ ThEl 0 w cs ys[i]) :
    Calls Tryd.prog 109 #[.slice (some ⟨b, off, none⟩) n cap, .slice (some ⟨b', off', none⟩) n' cap'] w fun e w' => e = .returned (.bool (decide (xs = ys))) ∧ ∃ q, w' = w.drewN q := by
  have HC := Lib.hid hc
  have HC' := Lib.hid hc'
  have HX := Lib.hid hx
  have HY := Lib.hid hy
  clear hc hc' hx hy
  by_cases hnn : n = n'
  · subst hnn
    go_enter Tryd.func109, Tryd.ntmps109
    go_wp2_with fail
    go_loopw [13] (fun v wr => ∃ (k q : Nat), k ≤ n ∧ v = .int .i64 k ∧ samK xs ys k ∧ wr = w.drewN q) (fun v _ => n - (intOf v).toNat)
    case atStart => exact ⟨0, 0, Nat.zero_le _, rfl, rfl, rfl⟩
    case round =>
      obtain ⟨k, q, hk, rfl, hs, rfl⟩ := hrel
      have HS := Lib.hid hs
      clear hs
      by_cases h1 : k < n
      · have hkx : k < xs.length := by rw [HX.out]; exact h1
        have hky : k < ys.length := by rw [HY.out]; exact h1
        obtain ⟨cs, _, r1, p1, _⟩ := HC.out k hkx
        obtain ⟨cs', _, r2, p2, _⟩ := HC'.out k hky
        generalize hX : xs[k] = x at p1
        generalize hY : ys[k] = y at p2
        have HXk := Lib.hid hX
        have HYk := Lib.hid hY
        obtain ⟨x1, x2, ⟨x3, x4, x5, x6⟩⟩ := x
        obtain ⟨y1, y2, ⟨y3, y4, y5, y6⟩⟩ := y
        subst p1 p2
        clear hX hY
        have g0 : w.cell? ⟨b, off + k * 6, none⟩ = some (.int .i64 x1) := r1 0 (by omega)
        have j0 : w.cell? ⟨b', off' + k * 6, none⟩ = some (.int .i64 y1) := r2 0 (by omega)
        have g1 : w.cell? ⟨b, off + k * 6 + 1, none⟩ = some (.int .i64 x2) := r1 1 (by omega)
        have j1 : w.cell? ⟨b', off' + k * 6 + 1, none⟩ = some (.int .i64 y2) := r2 1 (by omega)
        have g2 : w.cell? ⟨b, off + k * 6 + 2, none⟩ = some (.int .i64 x3) := r1 2 (by omega)
        have j2 : w.cell? ⟨b', off' + k * 6 + 2, none⟩ = some (.int .i64 y3) := r2 2 (by omega)
        have g3 : w.cell? ⟨b, off + k * 6 + 3, none⟩ = some (.int .i64 x4) := r1 3 (by omega)
        have j3 : w.cell? ⟨b', off' + k * 6 + 3, none⟩ = some (.int .i64 y4) := r2 3 (by omega)
        have g4 : w.cell? ⟨b, off + k * 6 + 4, none⟩ = some (.int .i64 x5) := r1 4 (by omega)
        have j4 : w.cell? ⟨b', off' + k * 6 + 4, none⟩ = some (.int .i64 y5) := r2 4 (by omega)
        have g5 : w.cell? ⟨b, off + k * 6 + 5, none⟩ = some (.int .i64 x6) := r1 5 (by omega)
        have j5 : w.cell? ⟨b', off' + k * 6 + 5, none⟩ = some (.int .i64 y6) := r2 5 (by omega)
        clear r1 r2
        by_cases e0 : x1 = y1
        · subst e0
          by_cases e1 : x2 = y2
          · subst e1
            by_cases e2 : x3 = y3
            · subst e2
              by_cases e3 : x4 = y4
              · subst e3
                by_cases e4 : x5 = y5
                · subst e4
                  by_cases e5 : x6 = y6
                  · subst e5
                    go_wp2_with fail
                    go_quiet (fail)
                    go_wp2_with fail
                    go_roundw
                    case rel => exact ⟨k + 1, q + nq, by omega, by go_num, samK_succ hkx hky HS.out (by rw [HXk.out, HYk.out]), by first | rfl | rw [World.drewN_drewN]⟩
                    case measure => simp [intOf]; omega
                  · have e5' : (x6 == y6) = false := by simp [e5]
                    have HE := Lib.hid (show (⟨x1, x2, ⟨x3, x4, x5, x6⟩⟩ : Th) ≠ ⟨x1, x2, ⟨x3, x4, x5, y6⟩⟩ by intro h; simp only [Th.mk.injEq, Ln.mk.injEq] at h; simp_all)
                    clear e5
                    go_wp2_with fail
                    go_quiet (fail)
                    go_wp2_with fail
                    go_ret
                    exact ⟨ret_bool (by rw [eq_differ hkx hky (by rw [HXk.out, HYk.out]; exact HE.out)]), q + nq, by first | rfl | rw [World.drewN_drewN]⟩
                · have e4' : (x5 == y5) = false := by simp [e4]
                  have HE := Lib.hid (show (⟨x1, x2, ⟨x3, x4, x5, x6⟩⟩ : Th) ≠ ⟨x1, x2, ⟨x3, x4, y5, y6⟩⟩ by intro h; simp only [Th.mk.injEq, Ln.mk.injEq] at h; simp_all)
                  clear e4
                  go_wp2_with fail
                  go_quiet (fail)
                  go_wp2_with fail
                  go_ret
                  exact ⟨ret_bool (by rw [eq_differ hkx hky (by rw [HXk.out, HYk.out]; exact HE.out)]), q + nq, by first | rfl | rw [World.drewN_drewN]⟩
              · have e3' : (x4 == y4) = false := by simp [e3]
                have HE := Lib.hid (show (⟨x1, x2, ⟨x3, x4, x5, x6⟩⟩ : Th) ≠ ⟨x1, x2, ⟨x3, y4, y5, y6⟩⟩ by intro h; simp only [Th.mk.injEq, Ln.mk.injEq] at h; simp_all)
                clear e3
                go_wp2_with fail
                go_quiet (fail)
                go_wp2_with fail
                go_ret
                exact ⟨ret_bool (by rw [eq_differ hkx hky (by rw [HXk.out, HYk.out]; exact HE.out)]), q + nq, by first | rfl | rw [World.drewN_drewN]⟩
            · have e2' : (x3 == y3) = false := by simp [e2]
              have HE := Lib.hid (show (⟨x1, x2, ⟨x3, x4, x5, x6⟩⟩ : Th) ≠ ⟨x1, x2, ⟨y3, y4, y5, y6⟩⟩ by intro h; simp only [Th.mk.injEq, Ln.mk.injEq] at h; simp_all)
              clear e2
              go_wp2_with fail
              go_quiet (fail)
              go_wp2_with fail
              go_ret
              exact ⟨ret_bool (by rw [eq_differ hkx hky (by rw [HXk.out, HYk.out]; exact HE.out)]), q + nq, by first | rfl | rw [World.drewN_drewN]⟩
          · have e1' : (x2 == y2) = false := by simp [e1]
            have HE := Lib.hid (show (⟨x1, x2, ⟨x3, x4, x5, x6⟩⟩ : Th) ≠ ⟨x1, y2, ⟨y3, y4, y5, y6⟩⟩ by intro h; simp only [Th.mk.injEq, Ln.mk.injEq] at h; simp_all)
            clear e1
            go_wp2_with fail
            go_quiet (fail)
            go_wp2_with fail
            go_ret
            exact ⟨ret_bool (by rw [eq_differ hkx hky (by rw [HXk.out, HYk.out]; exact HE.out)]), q + nq, by first | rfl | rw [World.drewN_drewN]⟩
        · have e0' : (x1 == y1) = false := by simp [e0]
          have HE := Lib.hid (show (⟨x1, x2, ⟨x3, x4, x5, x6⟩⟩ : Th) ≠ ⟨y1, y2, ⟨y3, y4, y5, y6⟩⟩ by intro h; simp only [Th.mk.injEq, Ln.mk.injEq] at h; simp_all)
          clear e0
          go_wp2_with fail
          go_quiet (fail)
          go_wp2_with fail
          go_ret
          exact ⟨ret_bool (by rw [eq_differ hkx hky (by rw [HXk.out, HYk.out]; exact HE.out)]), q + nq, by first | rfl | rw [World.drewN_drewN]⟩
      · have HE := Lib.hid (eq_end (k := k) (by rw [HX.out]; omega) (by rw [HY.out]; omega) HS.out)
        go_wp2_with fail
        go_ret
        exact ⟨ret_bool (by rw [HE.out]), q, rfl⟩
  · have h1 : (((n : Nat) : Int) == ((n' : Nat) : Int)) = false := by simp; omega
    have h2 : (((n : Nat) : Int) != ((n' : Nat) : Int)) = true := by rw [bne, h1]; rfl
    have E := Lib.hid (eq_len (xs := xs) (ys := ys) (by rw [HX.out, HY.out]; exact hnn))
    clear hnn
    go_enter Tryd.func109, Tryd.ntmps109
    go_wp2_with fail
    go_ret
    exact ⟨ret_bool (by rw [E.out]), 0, rfl⟩
set_option maxHeartbeats 800000 in
theorem eqThsQ_left (a a' : Option Addr) (cap n' cap' : Nat) (w : World) (ys : List Th) (hy : ys.length = n') (hn : n' ≤ 9223372036854775807) :
    Calls Tryd.prog 109 #[.slice a 0 cap, .slice a' n' cap'] w fun e w' => e = .returned (.bool (decide ([] = ys))) ∧ ∃ q, w' = w.drewN q := by
  by_cases h0 : n' = 0
  · subst h0
    obtain rfl := List.eq_nil_of_length_eq_zero hy
    go_enter Tryd.func109, Tryd.ntmps109
    go_wp2_with fail
    refine wp_loop_rounds 1 ?_
    rw [rounds_succ]
    go_wp2_with fail
    go_ret
    exact ⟨rfl, 0, rfl⟩
  · have h1' : ((0 : Int) == ((n' : Nat) : Int)) = false := by simp; omega
    have h2 : ((0 : Int) != ((n' : Nat) : Int)) = true := by rw [bne, h1']; rfl
    have E := Lib.hid (eq_len (xs := []) (ys := ys) (by simp; omega))
    clear h0
    go_enter Tryd.func109, Tryd.ntmps109
    go_wp2_with fail
    go_ret
    exact ⟨ret_bool (by rw [E.out]), 0, rfl⟩
set_option maxHeartbeats 800000 in
theorem eqThsQ_right (a a' : Option Addr) (n cap cap' : Nat) (w : World) (x : Th) (xs : List Th) (hx : (x :: xs).length = n) (hn : n ≤ 9223372036854775807) :
    Calls Tryd.prog 109 #[.slice a n cap, .slice a' 0 cap'] w fun e w' => e = .returned (.bool (decide (x :: xs = []))) ∧ ∃ q, w' = w.drewN q := by
  have h0 : 0 < n := by simp at hx; omega
  have h1 : (((n : Nat) : Int) == (0 : Int)) = false := by simp; omega
  have h2 : (((n : Nat) : Int) != (0 : Int)) = true := by rw [bne, h1]; rfl
  have E := Lib.hid (eq_len (xs := x :: xs) (ys := []) (by simp))
  clear hx
  go_enter Tryd.func109, Tryd.ntmps109
  go_wp2_with fail
  go_ret
  exact ⟨ret_bool (by rw [E.out]), 0, rfl⟩
theorem eqThsQ_any {lo lo' : Nat} {w : World} {v v' : Value} {xs ys : List Th} (h : IsSl 6 ThEl lo w v xs) (h' : IsSl 6 ThEl lo' w v' ys) :
    Calls Tryd.prog 109 #[v, v'] w fun e w' => e = .returned (.bool (decide (xs = ys))) ∧ ∃ q, w' = w.drewN q := by
  obtain ⟨a, cap, rfl, hl, hm, _, hc⟩ := h.mono ThEl.mono (Nat.zero_le lo)
  obtain ⟨a', cap', rfl, hl', hm', _, hc'⟩ := h'.mono ThEl.mono (Nat.zero_le lo')
  unfold maxLen at hm hm'
  rcases hc with rfl | ⟨b, off, rfl, _, _, hc⟩
  · exact eqThsQ_left _ _ _ _ _ _ _ rfl (by omega)
  · rcases hc' with rfl | ⟨b', off', rfl, _, _, hc'⟩
    · cases xs with
      | nil => exact eqThsQ_left _ _ _ _ _ _ _ rfl (by simp)
      | cons x xs => exact eqThsQ_right _ _ _ _ _ _ _ _ rfl (by omega)
    · exact eqThsQ_full _ _ _ _ _ _ _ _ _ _ _ rfl rfl (by omega) hc hc'

end Go.Proofs.YtmpbfdfjcfanoaaDoor

/-
  A REGION IN ONE ORDER whose operations only read and whose callees only read (they may draw): walked like one that draws, so the guards that are off are passed over.
-/
namespace Go.Proofs.YtmpbfdfjcfanoaaDoor
open Go
section
variable {P : Program} {ops : Array Oper} {C : World → Prop}
theorem wpList_quiet {Q : Exit → Act → World → Prop} : ∀ (l : List Oper) (a : Act) (w : World), C w → wpQuiet P ops C (fun a' => ∀ w', C w' → Q .normal a' w') l a → wpList P ops Q l a w
  | [], _, w, hC, h => h w hC
  | o :: l, a, w, hC, h => by
    refine wpList_step fun K hK => ?_
    unfold wpQuiet at h
    split
    · rename_i hw
      rw [if_pos hw] at h
      exact Oper.wp_of_quiet hC (fun a' w' hC' hh => hK _ _ (wpList_quiet l a' w' hC' hh)) h
    · rename_i hw
      rw [if_neg hw] at h
      exact hK _ _ (wpList_quiet l _ w hC h)
/-- The region as it stands, at the class 'w after some draws'. -/
theorem wp_seq_quiet {id : Nat} {Q : Exit → Act → World → Prop} {a : Act} {w : World} {l : List Oper}
    (h : wpQuiet P l.toArray (fun w' => ∃ n, w' = w.drewN n) (fun a' => ∀ w', (∃ n, w' = w.drewN n) → Q .normal a' w') l a) : (Code.region id l.toArray false).wp P Q a w :=
  wp_region_lit (wpList_quiet l a w ⟨0, rfl⟩ h)
/-- The same, some draws later. -/
theorem wp_seq_quiet_at {id k : Nat} {Q : Exit → Act → World → Prop} {a : Act} {w : World} {l : List Oper}
    (h : wpQuiet P l.toArray (fun w' => ∃ n, w' = w.drewN n) (fun a' => ∀ w', (∃ n, w' = w.drewN n) → Q .normal a' w') l a) : (Code.region id l.toArray false).wp P Q a (w.drewN k) :=
  wp_region_lit (wpList_quiet l a (w.drewN k) ⟨k, rfl⟩ h)
end
end Go.Proofs.YtmpbfdfjcfanoaaDoor

/-
  sameParts OF THE PROGRAM.
-/
namespace Go.Proofs.YtmpbfdfjcfanoaaDoor
open Go.RowKit Go.Deep
theorem eqIntsQ_t {lo lo' n : Nat} {w : World} {v v' : Value} {xs ys : List Int} (e : xs = ys) (h : IsInts lo (w.drewN n) v xs) (h' : IsInts lo' (w.drewN n) v' ys) :
    Calls Tryd.prog 73 #[v, v'] (w.drewN n) fun e w' => e = .returned (.bool true) ∧ ∃ m, w' = w.drewN m :=
  Calls.quiet_of ((eqIntsQ_any h h').mono fun _ _ hh => ⟨by rw [hh.1, decide_eq_true e], hh.2⟩)
theorem eqIntsQ_f {lo lo' n : Nat} {w : World} {v v' : Value} {xs ys : List Int} (e : xs ≠ ys) (h : IsInts lo (w.drewN n) v xs) (h' : IsInts lo' (w.drewN n) v' ys) :
    Calls Tryd.prog 73 #[v, v'] (w.drewN n) fun e w' => e = .returned (.bool false) ∧ ∃ m, w' = w.drewN m :=
  Calls.quiet_of ((eqIntsQ_any h h').mono fun _ _ hh => ⟨by rw [hh.1, decide_eq_false e], hh.2⟩)
theorem eqThsQ_t {lo lo' n : Nat} {w : World} {v v' : Value} {xs ys : List Th} (e : xs = ys) (h : IsSl 6 ThEl lo (w.drewN n) v xs) (h' : IsSl 6 ThEl lo' (w.drewN n) v' ys) :
    Calls Tryd.prog 109 #[v, v'] (w.drewN n) fun e w' => e = .returned (.bool true) ∧ ∃ m, w' = w.drewN m :=
  Calls.quiet_of ((eqThsQ_any h h').mono fun _ _ hh => ⟨by rw [hh.1, decide_eq_true e], hh.2⟩)
theorem eqThsQ_f {lo lo' n : Nat} {w : World} {v v' : Value} {xs ys : List Th} (e : xs ≠ ys) (h : IsSl 6 ThEl lo (w.drewN n) v xs) (h' : IsSl 6 ThEl lo' (w.drewN n) v' ys) :
    Calls Tryd.prog 109 #[v, v'] (w.drewN n) fun e w' => e = .returned (.bool false) ∧ ∃ m, w' = w.drewN m :=
  Calls.quiet_of ((eqThsQ_any h h').mono fun _ _ hh => ⟨by rw [hh.1, decide_eq_false e], hh.2⟩)
theorem quiet_end {W w : World} (h : Below w.heap.size w W) {e : Ending} {b c : Bool} (hb : b = c) (he : e = .returned (.bool c)) (n : Nat) : e = .returned (.bool b) ∧ Below w.heap.size w (W.drewN n) := ⟨by rw [he, hb], below_drewN h n⟩
theorem samP_no {r s : Ru} (h : ¬ (r.kind = s.kind ∧ r.frm = s.frm ∧ r.to = s.to ∧ r.pf = s.pf ∧ r.pt = s.pt ∧ r.resp = s.resp ∧ r.guards = s.guards ∧ r.ex = s.ex ∧ r.fa = s.fa ∧ r.rd = s.rd ∧ r.wr = s.wr ∧ r.send = s.send ∧ r.pos = s.pos ∧ r.left = s.left ∧ r.right = s.right ∧ r.parent = s.parent ∧ r.dir = s.dir)) : samP r s = false := by
  rw [Bool.eq_false_iff]; intro hh; exact h ((samP_iff r s).1 hh)
set_option maxRecDepth 100000 in
set_option maxHeartbeats 4000000 in
theorem sameParts_any {lo lo' : Nat} {w : World} {cs cs' : List Value} {r s : Ru} (h : RuEl lo w cs r) (h' : RuEl lo' w cs' s) :
    Calls Tryd.prog 83 #[.agg cs.toArray, .agg cs'.toArray] w fun e w' => e = .returned (.bool (samP r s)) ∧ Below w.heap.size w w' := by
  obtain ⟨v6, v7, v8, v9, v12, v14, v15, v16, rfl, _, _, _, _, _, _, h6, h7, h8, h9, _, _, h12, _, h14, h15, h16, _⟩ := h
  obtain ⟨u6, u7, u8, u9, u12, u14, u15, u16, rfl, _, _, _, _, _, _, k6, k7, k8, k9, _, _, k12, _, k14, k15, k16, _⟩ := h'
  obtain ⟨nm, kind, frm, tw, pf, pt, resp, guards, ex, fa, rd, wr, send, pos, left, right, parent, dir⟩ := r
  obtain ⟨nm', kind', frm', tw', pf', pt', resp', guards', ex', fa', rd', wr', send', pos', left', right', parent', dir'⟩ := s
  dsimp only at *
  obtain ⟨a6, c6, rfl⟩ := h6.shape
  obtain ⟨b6, d6, rfl⟩ := k6.shape
  obtain ⟨a7, c7, rfl⟩ := h7.shape
  obtain ⟨b7, d7, rfl⟩ := k7.shape
  obtain ⟨a8, c8, rfl⟩ := h8.shape
  obtain ⟨b8, d8, rfl⟩ := k8.shape
  obtain ⟨a9, c9, rfl⟩ := h9.shape
  obtain ⟨b9, d9, rfl⟩ := k9.shape
  obtain ⟨a12, c12, rfl⟩ := h12.shape
  obtain ⟨b12, d12, rfl⟩ := k12.shape
  obtain ⟨a14, c14, rfl⟩ := h14.shape
  obtain ⟨b14, d14, rfl⟩ := k14.shape
  obtain ⟨a15, c15, rfl⟩ := h15.shape
  obtain ⟨b15, d15, rfl⟩ := k15.shape
  obtain ⟨a16, c16, rfl⟩ := h16.shape
  obtain ⟨b16, d16, rfl⟩ := k16.shape
  have H6 := Lib.hid h6
  have K6 := Lib.hid k6
  have H7 := Lib.hid h7
  have K7 := Lib.hid k7
  have H8 := Lib.hid h8
  have K8 := Lib.hid k8
  have H9 := Lib.hid h9
  have K9 := Lib.hid k9
  have H12 := Lib.hid h12
  have K12 := Lib.hid k12
  have H14 := Lib.hid h14
  have K14 := Lib.hid k14
  have H15 := Lib.hid h15
  have K15 := Lib.hid k15
  have H16 := Lib.hid h16
  have K16 := Lib.hid k16
  clear h6 k6 h7 k7 h8 k8 h9 k9 h12 k12 h14 k14 h15 k15 h16 k16
  go_enter Tryd.func83, Tryd.ntmps83
  go_upto_region 1 with (fail)
  obtain ⟨W, hW⟩ : ∃ W, W = (w.alloc (.cells #[.string nm, .int .i64 kind, .int .i64 frm, .int .i64 tw, .int .i64 pf, .int .i64 pt, .slice a6 resp.length c6, .slice a7 guards.length c7, .slice a8 ex.length c8, .slice a9 fa.length c9, .int .i64 rd, .int .i64 wr, .slice a12 send.length c12, .int .i64 pos, .slice a14 left.length c14, .slice a15 right.length c15, .slice a16 parent.length c16, .int .i64 dir] 76)).alloc (.cells #[.string nm', .int .i64 kind', .int .i64 frm', .int .i64 tw', .int .i64 pf', .int .i64 pt', .slice b6 resp'.length d6, .slice b7 guards'.length d7, .slice b8 ex'.length d8, .slice b9 fa'.length d9, .int .i64 rd', .int .i64 wr', .slice b12 send'.length d12, .int .i64 pos', .slice b14 left'.length d14, .slice b15 right'.length d15, .slice b16 parent'.length d16, .int .i64 dir'] 76) := ⟨_, rfl⟩
  rw [← hW]
  have HB := Lib.hid (show Below w.heap.size w W by rw [hW]; show Below _ _ _; go_grown)
  have x1 : W.cell? ⟨w.heap.size, 1, none⟩ = some (.int .i64 kind) := by rw [hW]; exact keep1 ((new_cell w _ _ 1 rfl).trans rfl) (allocBelow _ _)
  have y1 : W.cell? ⟨w.heap.size + 1, 1, none⟩ = some (.int .i64 kind') := by rw [hW]; exact (new_cell _ _ _ 1 (by simp)).trans rfl
  have x2 : W.cell? ⟨w.heap.size, 2, none⟩ = some (.int .i64 frm) := by rw [hW]; exact keep1 ((new_cell w _ _ 2 rfl).trans rfl) (allocBelow _ _)
  have y2 : W.cell? ⟨w.heap.size + 1, 2, none⟩ = some (.int .i64 frm') := by rw [hW]; exact (new_cell _ _ _ 2 (by simp)).trans rfl
  have x3 : W.cell? ⟨w.heap.size, 3, none⟩ = some (.int .i64 tw) := by rw [hW]; exact keep1 ((new_cell w _ _ 3 rfl).trans rfl) (allocBelow _ _)
  have y3 : W.cell? ⟨w.heap.size + 1, 3, none⟩ = some (.int .i64 tw') := by rw [hW]; exact (new_cell _ _ _ 3 (by simp)).trans rfl
  have x4 : W.cell? ⟨w.heap.size, 4, none⟩ = some (.int .i64 pf) := by rw [hW]; exact keep1 ((new_cell w _ _ 4 rfl).trans rfl) (allocBelow _ _)
  have y4 : W.cell? ⟨w.heap.size + 1, 4, none⟩ = some (.int .i64 pf') := by rw [hW]; exact (new_cell _ _ _ 4 (by simp)).trans rfl
  have x5 : W.cell? ⟨w.heap.size, 5, none⟩ = some (.int .i64 pt) := by rw [hW]; exact keep1 ((new_cell w _ _ 5 rfl).trans rfl) (allocBelow _ _)
  have y5 : W.cell? ⟨w.heap.size + 1, 5, none⟩ = some (.int .i64 pt') := by rw [hW]; exact (new_cell _ _ _ 5 (by simp)).trans rfl
  have x6 : W.cell? ⟨w.heap.size, 6, none⟩ = some (.slice a6 resp.length c6) := by rw [hW]; exact keep1 ((new_cell w _ _ 6 rfl).trans rfl) (allocBelow _ _)
  have y6 : W.cell? ⟨w.heap.size + 1, 6, none⟩ = some (.slice b6 resp'.length d6) := by rw [hW]; exact (new_cell _ _ _ 6 (by simp)).trans rfl
  have x7 : W.cell? ⟨w.heap.size, 7, none⟩ = some (.slice a7 guards.length c7) := by rw [hW]; exact keep1 ((new_cell w _ _ 7 rfl).trans rfl) (allocBelow _ _)
  have y7 : W.cell? ⟨w.heap.size + 1, 7, none⟩ = some (.slice b7 guards'.length d7) := by rw [hW]; exact (new_cell _ _ _ 7 (by simp)).trans rfl
  have x8 : W.cell? ⟨w.heap.size, 8, none⟩ = some (.slice a8 ex.length c8) := by rw [hW]; exact keep1 ((new_cell w _ _ 8 rfl).trans rfl) (allocBelow _ _)
  have y8 : W.cell? ⟨w.heap.size + 1, 8, none⟩ = some (.slice b8 ex'.length d8) := by rw [hW]; exact (new_cell _ _ _ 8 (by simp)).trans rfl
  have x9 : W.cell? ⟨w.heap.size, 9, none⟩ = some (.slice a9 fa.length c9) := by rw [hW]; exact keep1 ((new_cell w _ _ 9 rfl).trans rfl) (allocBelow _ _)
  have y9 : W.cell? ⟨w.heap.size + 1, 9, none⟩ = some (.slice b9 fa'.length d9) := by rw [hW]; exact (new_cell _ _ _ 9 (by simp)).trans rfl
  have x10 : W.cell? ⟨w.heap.size, 10, none⟩ = some (.int .i64 rd) := by rw [hW]; exact keep1 ((new_cell w _ _ 10 rfl).trans rfl) (allocBelow _ _)
  have y10 : W.cell? ⟨w.heap.size + 1, 10, none⟩ = some (.int .i64 rd') := by rw [hW]; exact (new_cell _ _ _ 10 (by simp)).trans rfl
  have x11 : W.cell? ⟨w.heap.size, 11, none⟩ = some (.int .i64 wr) := by rw [hW]; exact keep1 ((new_cell w _ _ 11 rfl).trans rfl) (allocBelow _ _)
  have y11 : W.cell? ⟨w.heap.size + 1, 11, none⟩ = some (.int .i64 wr') := by rw [hW]; exact (new_cell _ _ _ 11 (by simp)).trans rfl
  have x12 : W.cell? ⟨w.heap.size, 12, none⟩ = some (.slice a12 send.length c12) := by rw [hW]; exact keep1 ((new_cell w _ _ 12 rfl).trans rfl) (allocBelow _ _)
  have y12 : W.cell? ⟨w.heap.size + 1, 12, none⟩ = some (.slice b12 send'.length d12) := by rw [hW]; exact (new_cell _ _ _ 12 (by simp)).trans rfl
  have x13 : W.cell? ⟨w.heap.size, 13, none⟩ = some (.int .i64 pos) := by rw [hW]; exact keep1 ((new_cell w _ _ 13 rfl).trans rfl) (allocBelow _ _)
  have y13 : W.cell? ⟨w.heap.size + 1, 13, none⟩ = some (.int .i64 pos') := by rw [hW]; exact (new_cell _ _ _ 13 (by simp)).trans rfl
  have x14 : W.cell? ⟨w.heap.size, 14, none⟩ = some (.slice a14 left.length c14) := by rw [hW]; exact keep1 ((new_cell w _ _ 14 rfl).trans rfl) (allocBelow _ _)
  have y14 : W.cell? ⟨w.heap.size + 1, 14, none⟩ = some (.slice b14 left'.length d14) := by rw [hW]; exact (new_cell _ _ _ 14 (by simp)).trans rfl
  have x15 : W.cell? ⟨w.heap.size, 15, none⟩ = some (.slice a15 right.length c15) := by rw [hW]; exact keep1 ((new_cell w _ _ 15 rfl).trans rfl) (allocBelow _ _)
  have y15 : W.cell? ⟨w.heap.size + 1, 15, none⟩ = some (.slice b15 right'.length d15) := by rw [hW]; exact (new_cell _ _ _ 15 (by simp)).trans rfl
  have x16 : W.cell? ⟨w.heap.size, 16, none⟩ = some (.slice a16 parent.length c16) := by rw [hW]; exact keep1 ((new_cell w _ _ 16 rfl).trans rfl) (allocBelow _ _)
  have y16 : W.cell? ⟨w.heap.size + 1, 16, none⟩ = some (.slice b16 parent'.length d16) := by rw [hW]; exact (new_cell _ _ _ 16 (by simp)).trans rfl
  have x17 : W.cell? ⟨w.heap.size, 17, none⟩ = some (.int .i64 dir) := by rw [hW]; exact keep1 ((new_cell w _ _ 17 rfl).trans rfl) (allocBelow _ _)
  have y17 : W.cell? ⟨w.heap.size + 1, 17, none⟩ = some (.int .i64 dir') := by rw [hW]; exact (new_cell _ _ _ 17 (by simp)).trans rfl
  clear hW
  refine wp_seq_quiet ?_
  simp only [List.append_eq, List.cons_append, List.nil_append]
  iterate 4 go_big_quiet_step (fail)
  by_cases e0 : kind = kind'
  · have t0 : (kind == kind') = true := by rw [e0]; exact beq_self_eq_true _
    replace e0 := Lib.hid e0
    go_big_quiet_step (fail)
    iterate 1 go_big_quiet_step (fail)
    iterate 4 go_big_quiet_step (fail)
    by_cases e1 : frm = frm'
    · have t1 : (frm == frm') = true := by rw [e1]; exact beq_self_eq_true _
      replace e1 := Lib.hid e1
      go_big_quiet_step (fail)
      iterate 2 go_big_quiet_step (fail)
      iterate 4 go_big_quiet_step (fail)
      by_cases e2 : tw = tw'
      · have t2 : (tw == tw') = true := by rw [e2]; exact beq_self_eq_true _
        replace e2 := Lib.hid e2
        go_big_quiet_step (fail)
        iterate 2 go_big_quiet_step (fail)
        iterate 4 go_big_quiet_step (fail)
        by_cases e3 : pf = pf'
        · have t3 : (pf == pf') = true := by rw [e3]; exact beq_self_eq_true _
          replace e3 := Lib.hid e3
          go_big_quiet_step (fail)
          iterate 2 go_big_quiet_step (fail)
          iterate 4 go_big_quiet_step (fail)
          by_cases e4 : pt = pt'
          · have t4 : (pt == pt') = true := by rw [e4]; exact beq_self_eq_true _
            replace e4 := Lib.hid e4
            go_big_quiet_step (fail)
            iterate 2 go_big_quiet_step (fail)
            iterate 4 go_big_quiet_step (fail)
            by_cases e5 : resp = resp'
            · replace e5 := Lib.hid e5
              go_big_quiet_step (exact eqIntsQ_t e5.out (H6.out.below (below_drewN HB.out _)) (K6.out.below (below_drewN HB.out _)))
              iterate 2 go_big_quiet_step (fail)
              iterate 4 go_big_quiet_step (fail)
              by_cases e6 : guards = guards'
              · replace e6 := Lib.hid e6
                go_big_quiet_step (exact eqThsQ_t e6.out (H7.out.below ThEl.stays (below_drewN HB.out _)) (K7.out.below ThEl.stays (below_drewN HB.out _)))
                iterate 2 go_big_quiet_step (fail)
                iterate 4 go_big_quiet_step (fail)
                by_cases e7 : ex = ex'
                · replace e7 := Lib.hid e7
                  go_big_quiet_step (exact eqIntsQ_t e7.out (H8.out.below (below_drewN HB.out _)) (K8.out.below (below_drewN HB.out _)))
                  iterate 2 go_big_quiet_step (fail)
                  iterate 4 go_big_quiet_step (fail)
                  by_cases e8 : fa = fa'
                  · replace e8 := Lib.hid e8
                    go_big_quiet_step (exact eqIntsQ_t e8.out (H9.out.below (below_drewN HB.out _)) (K9.out.below (below_drewN HB.out _)))
                    iterate 2 go_big_quiet_step (fail)
                    iterate 4 go_big_quiet_step (fail)
                    by_cases e9 : rd = rd'
                    · have t9 : (rd == rd') = true := by rw [e9]; exact beq_self_eq_true _
                      replace e9 := Lib.hid e9
                      go_big_quiet_step (fail)
                      iterate 2 go_big_quiet_step (fail)
                      iterate 4 go_big_quiet_step (fail)
                      by_cases e10 : wr = wr'
                      · have t10 : (wr == wr') = true := by rw [e10]; exact beq_self_eq_true _
                        replace e10 := Lib.hid e10
                        go_big_quiet_step (fail)
                        iterate 2 go_big_quiet_step (fail)
                        iterate 4 go_big_quiet_step (fail)
                        by_cases e11 : send = send'
                        · replace e11 := Lib.hid e11
                          go_big_quiet_step (exact eqIntsQ_t e11.out (H12.out.below (below_drewN HB.out _)) (K12.out.below (below_drewN HB.out _)))
                          iterate 2 go_big_quiet_step (fail)
                          iterate 4 go_big_quiet_step (fail)
                          by_cases e12 : pos = pos'
                          · have t12 : (pos == pos') = true := by rw [e12]; exact beq_self_eq_true _
                            replace e12 := Lib.hid e12
                            go_big_quiet_step (fail)
                            iterate 2 go_big_quiet_step (fail)
                            iterate 4 go_big_quiet_step (fail)
                            by_cases e13 : left = left'
                            · replace e13 := Lib.hid e13
                              go_big_quiet_step (exact eqIntsQ_t e13.out (H14.out.below (below_drewN HB.out _)) (K14.out.below (below_drewN HB.out _)))
                              iterate 2 go_big_quiet_step (fail)
                              iterate 4 go_big_quiet_step (fail)
                              by_cases e14 : right = right'
                              · replace e14 := Lib.hid e14
                                go_big_quiet_step (exact eqIntsQ_t e14.out (H15.out.below (below_drewN HB.out _)) (K15.out.below (below_drewN HB.out _)))
                                iterate 2 go_big_quiet_step (fail)
                                iterate 4 go_big_quiet_step (fail)
                                by_cases e15 : parent = parent'
                                · replace e15 := Lib.hid e15
                                  go_big_quiet_step (exact eqIntsQ_t e15.out (H16.out.below (below_drewN HB.out _)) (K16.out.below (below_drewN HB.out _)))
                                  iterate 2 go_big_quiet_step (fail)
                                  iterate 4 go_big_quiet_step (fail)
                                  by_cases e16 : dir = dir'
                                  · have t16 : (dir == dir') = true := by rw [e16]; exact beq_self_eq_true _
                                    replace e16 := Lib.hid e16
                                    go_big_quiet_step (fail)
                                    have E := Lib.hid ((samP_iff ⟨nm, kind, frm, tw, pf, pt, resp, guards, ex, fa, rd, wr, send, pos, left, right, parent, dir⟩ ⟨nm', kind', frm', tw', pf', pt', resp', guards', ex', fa', rd', wr', send', pos', left', right', parent', dir'⟩).2 ⟨e0.out, e1.out, e2.out, e3.out, e4.out, e5.out, e6.out, e7.out, e8.out, e9.out, e10.out, e11.out, e12.out, e13.out, e14.out, e15.out, e16.out⟩)
                                    repeat (go_big_quiet_step (fail))
                                    refine wpQuiet_nil ?_
                                    intro _ hw'
                                    obtain ⟨nq, rfl⟩ := hw'
                                    go_wp2_with fail
                                    go_ret
                                    exact quiet_end HB.out E.out rfl nq
                                  · have E := Lib.hid (samP_no (r := ⟨nm, kind, frm, tw, pf, pt, resp, guards, ex, fa, rd, wr, send, pos, left, right, parent, dir⟩) (s := ⟨nm', kind', frm', tw', pf', pt', resp', guards', ex', fa', rd', wr', send', pos', left', right', parent', dir'⟩) (fun h => e16 h.2.2.2.2.2.2.2.2.2.2.2.2.2.2.2.2))
                                    have t16 : (dir == dir') = false := by simpa using e16
                                    replace e16 := Lib.hid e16
                                    go_big_quiet_step (fail)
                                    repeat (go_big_quiet_step (fail))
                                    refine wpQuiet_nil ?_
                                    intro _ hw'
                                    obtain ⟨nq, rfl⟩ := hw'
                                    go_wp2_with fail
                                    go_ret
                                    exact quiet_end HB.out E.out rfl nq
                                · have E := Lib.hid (samP_no (r := ⟨nm, kind, frm, tw, pf, pt, resp, guards, ex, fa, rd, wr, send, pos, left, right, parent, dir⟩) (s := ⟨nm', kind', frm', tw', pf', pt', resp', guards', ex', fa', rd', wr', send', pos', left', right', parent', dir'⟩) (fun h => e15 h.2.2.2.2.2.2.2.2.2.2.2.2.2.2.2.1))
                                  replace e15 := Lib.hid e15
                                  go_big_quiet_step (exact eqIntsQ_f e15.out (H16.out.below (below_drewN HB.out _)) (K16.out.below (below_drewN HB.out _)))
                                  repeat (go_big_quiet_step (fail))
                                  refine wpQuiet_nil ?_
                                  intro _ hw'
                                  obtain ⟨nq, rfl⟩ := hw'
                                  go_wp2_with fail
                                  go_ret
                                  exact quiet_end HB.out E.out rfl nq
                              · have E := Lib.hid (samP_no (r := ⟨nm, kind, frm, tw, pf, pt, resp, guards, ex, fa, rd, wr, send, pos, left, right, parent, dir⟩) (s := ⟨nm', kind', frm', tw', pf', pt', resp', guards', ex', fa', rd', wr', send', pos', left', right', parent', dir'⟩) (fun h => e14 h.2.2.2.2.2.2.2.2.2.2.2.2.2.2.1))
                                replace e14 := Lib.hid e14
                                go_big_quiet_step (exact eqIntsQ_f e14.out (H15.out.below (below_drewN HB.out _)) (K15.out.below (below_drewN HB.out _)))
                                repeat (go_big_quiet_step (fail))
                                refine wpQuiet_nil ?_
                                intro _ hw'
                                obtain ⟨nq, rfl⟩ := hw'
                                go_wp2_with fail
                                go_ret
                                exact quiet_end HB.out E.out rfl nq
                            · have E := Lib.hid (samP_no (r := ⟨nm, kind, frm, tw, pf, pt, resp, guards, ex, fa, rd, wr, send, pos, left, right, parent, dir⟩) (s := ⟨nm', kind', frm', tw', pf', pt', resp', guards', ex', fa', rd', wr', send', pos', left', right', parent', dir'⟩) (fun h => e13 h.2.2.2.2.2.2.2.2.2.2.2.2.2.1))
                              replace e13 := Lib.hid e13
                              go_big_quiet_step (exact eqIntsQ_f e13.out (H14.out.below (below_drewN HB.out _)) (K14.out.below (below_drewN HB.out _)))
                              repeat (go_big_quiet_step (fail))
                              refine wpQuiet_nil ?_
                              intro _ hw'
                              obtain ⟨nq, rfl⟩ := hw'
                              go_wp2_with fail
                              go_ret
                              exact quiet_end HB.out E.out rfl nq
                          · have E := Lib.hid (samP_no (r := ⟨nm, kind, frm, tw, pf, pt, resp, guards, ex, fa, rd, wr, send, pos, left, right, parent, dir⟩) (s := ⟨nm', kind', frm', tw', pf', pt', resp', guards', ex', fa', rd', wr', send', pos', left', right', parent', dir'⟩) (fun h => e12 h.2.2.2.2.2.2.2.2.2.2.2.2.1))
                            have t12 : (pos == pos') = false := by simpa using e12
                            replace e12 := Lib.hid e12
                            go_big_quiet_step (fail)
                            repeat (go_big_quiet_step (fail))
                            refine wpQuiet_nil ?_
                            intro _ hw'
                            obtain ⟨nq, rfl⟩ := hw'
                            go_wp2_with fail
                            go_ret
                            exact quiet_end HB.out E.out rfl nq
                        · have E := Lib.hid (samP_no (r := ⟨nm, kind, frm, tw, pf, pt, resp, guards, ex, fa, rd, wr, send, pos, left, right, parent, dir⟩) (s := ⟨nm', kind', frm', tw', pf', pt', resp', guards', ex', fa', rd', wr', send', pos', left', right', parent', dir'⟩) (fun h => e11 h.2.2.2.2.2.2.2.2.2.2.2.1))
                          replace e11 := Lib.hid e11
                          go_big_quiet_step (exact eqIntsQ_f e11.out (H12.out.below (below_drewN HB.out _)) (K12.out.below (below_drewN HB.out _)))
                          repeat (go_big_quiet_step (fail))
                          refine wpQuiet_nil ?_
                          intro _ hw'
                          obtain ⟨nq, rfl⟩ := hw'
                          go_wp2_with fail
                          go_ret
                          exact quiet_end HB.out E.out rfl nq
                      · have E := Lib.hid (samP_no (r := ⟨nm, kind, frm, tw, pf, pt, resp, guards, ex, fa, rd, wr, send, pos, left, right, parent, dir⟩) (s := ⟨nm', kind', frm', tw', pf', pt', resp', guards', ex', fa', rd', wr', send', pos', left', right', parent', dir'⟩) (fun h => e10 h.2.2.2.2.2.2.2.2.2.2.1))
                        have t10 : (wr == wr') = false := by simpa using e10
                        replace e10 := Lib.hid e10
                        go_big_quiet_step (fail)
                        repeat (go_big_quiet_step (fail))
                        refine wpQuiet_nil ?_
                        intro _ hw'
                        obtain ⟨nq, rfl⟩ := hw'
                        go_wp2_with fail
                        go_ret
                        exact quiet_end HB.out E.out rfl nq
                    · have E := Lib.hid (samP_no (r := ⟨nm, kind, frm, tw, pf, pt, resp, guards, ex, fa, rd, wr, send, pos, left, right, parent, dir⟩) (s := ⟨nm', kind', frm', tw', pf', pt', resp', guards', ex', fa', rd', wr', send', pos', left', right', parent', dir'⟩) (fun h => e9 h.2.2.2.2.2.2.2.2.2.1))
                      have t9 : (rd == rd') = false := by simpa using e9
                      replace e9 := Lib.hid e9
                      go_big_quiet_step (fail)
                      repeat (go_big_quiet_step (fail))
                      refine wpQuiet_nil ?_
                      intro _ hw'
                      obtain ⟨nq, rfl⟩ := hw'
                      go_wp2_with fail
                      go_ret
                      exact quiet_end HB.out E.out rfl nq
                  · have E := Lib.hid (samP_no (r := ⟨nm, kind, frm, tw, pf, pt, resp, guards, ex, fa, rd, wr, send, pos, left, right, parent, dir⟩) (s := ⟨nm', kind', frm', tw', pf', pt', resp', guards', ex', fa', rd', wr', send', pos', left', right', parent', dir'⟩) (fun h => e8 h.2.2.2.2.2.2.2.2.1))
                    replace e8 := Lib.hid e8
                    go_big_quiet_step (exact eqIntsQ_f e8.out (H9.out.below (below_drewN HB.out _)) (K9.out.below (below_drewN HB.out _)))
                    repeat (go_big_quiet_step (fail))
                    refine wpQuiet_nil ?_
                    intro _ hw'
                    obtain ⟨nq, rfl⟩ := hw'
                    go_wp2_with fail
                    go_ret
                    exact quiet_end HB.out E.out rfl nq
                · have E := Lib.hid (samP_no (r := ⟨nm, kind, frm, tw, pf, pt, resp, guards, ex, fa, rd, wr, send, pos, left, right, parent, dir⟩) (s := ⟨nm', kind', frm', tw', pf', pt', resp', guards', ex', fa', rd', wr', send', pos', left', right', parent', dir'⟩) (fun h => e7 h.2.2.2.2.2.2.2.1))
                  replace e7 := Lib.hid e7
                  go_big_quiet_step (exact eqIntsQ_f e7.out (H8.out.below (below_drewN HB.out _)) (K8.out.below (below_drewN HB.out _)))
                  repeat (go_big_quiet_step (fail))
                  refine wpQuiet_nil ?_
                  intro _ hw'
                  obtain ⟨nq, rfl⟩ := hw'
                  go_wp2_with fail
                  go_ret
                  exact quiet_end HB.out E.out rfl nq
              · have E := Lib.hid (samP_no (r := ⟨nm, kind, frm, tw, pf, pt, resp, guards, ex, fa, rd, wr, send, pos, left, right, parent, dir⟩) (s := ⟨nm', kind', frm', tw', pf', pt', resp', guards', ex', fa', rd', wr', send', pos', left', right', parent', dir'⟩) (fun h => e6 h.2.2.2.2.2.2.1))
                replace e6 := Lib.hid e6
                go_big_quiet_step (exact eqThsQ_f e6.out (H7.out.below ThEl.stays (below_drewN HB.out _)) (K7.out.below ThEl.stays (below_drewN HB.out _)))
                repeat (go_big_quiet_step (fail))
                refine wpQuiet_nil ?_
                intro _ hw'
                obtain ⟨nq, rfl⟩ := hw'
                go_wp2_with fail
                go_ret
                exact quiet_end HB.out E.out rfl nq
            · have E := Lib.hid (samP_no (r := ⟨nm, kind, frm, tw, pf, pt, resp, guards, ex, fa, rd, wr, send, pos, left, right, parent, dir⟩) (s := ⟨nm', kind', frm', tw', pf', pt', resp', guards', ex', fa', rd', wr', send', pos', left', right', parent', dir'⟩) (fun h => e5 h.2.2.2.2.2.1))
              replace e5 := Lib.hid e5
              go_big_quiet_step (exact eqIntsQ_f e5.out (H6.out.below (below_drewN HB.out _)) (K6.out.below (below_drewN HB.out _)))
              repeat (go_big_quiet_step (fail))
              refine wpQuiet_nil ?_
              intro _ hw'
              obtain ⟨nq, rfl⟩ := hw'
              go_wp2_with fail
              go_ret
              exact quiet_end HB.out E.out rfl nq
          · have E := Lib.hid (samP_no (r := ⟨nm, kind, frm, tw, pf, pt, resp, guards, ex, fa, rd, wr, send, pos, left, right, parent, dir⟩) (s := ⟨nm', kind', frm', tw', pf', pt', resp', guards', ex', fa', rd', wr', send', pos', left', right', parent', dir'⟩) (fun h => e4 h.2.2.2.2.1))
            have t4 : (pt == pt') = false := by simpa using e4
            replace e4 := Lib.hid e4
            go_big_quiet_step (fail)
            repeat (go_big_quiet_step (fail))
            refine wpQuiet_nil ?_
            intro _ hw'
            obtain ⟨nq, rfl⟩ := hw'
            go_wp2_with fail
            go_ret
            exact quiet_end HB.out E.out rfl nq
        · have E := Lib.hid (samP_no (r := ⟨nm, kind, frm, tw, pf, pt, resp, guards, ex, fa, rd, wr, send, pos, left, right, parent, dir⟩) (s := ⟨nm', kind', frm', tw', pf', pt', resp', guards', ex', fa', rd', wr', send', pos', left', right', parent', dir'⟩) (fun h => e3 h.2.2.2.1))
          have t3 : (pf == pf') = false := by simpa using e3
          replace e3 := Lib.hid e3
          go_big_quiet_step (fail)
          repeat (go_big_quiet_step (fail))
          refine wpQuiet_nil ?_
          intro _ hw'
          obtain ⟨nq, rfl⟩ := hw'
          go_wp2_with fail
          go_ret
          exact quiet_end HB.out E.out rfl nq
      · have E := Lib.hid (samP_no (r := ⟨nm, kind, frm, tw, pf, pt, resp, guards, ex, fa, rd, wr, send, pos, left, right, parent, dir⟩) (s := ⟨nm', kind', frm', tw', pf', pt', resp', guards', ex', fa', rd', wr', send', pos', left', right', parent', dir'⟩) (fun h => e2 h.2.2.1))
        have t2 : (tw == tw') = false := by simpa using e2
        replace e2 := Lib.hid e2
        go_big_quiet_step (fail)
        repeat (go_big_quiet_step (fail))
        refine wpQuiet_nil ?_
        intro _ hw'
        obtain ⟨nq, rfl⟩ := hw'
        go_wp2_with fail
        go_ret
        exact quiet_end HB.out E.out rfl nq
    · have E := Lib.hid (samP_no (r := ⟨nm, kind, frm, tw, pf, pt, resp, guards, ex, fa, rd, wr, send, pos, left, right, parent, dir⟩) (s := ⟨nm', kind', frm', tw', pf', pt', resp', guards', ex', fa', rd', wr', send', pos', left', right', parent', dir'⟩) (fun h => e1 h.2.1))
      have t1 : (frm == frm') = false := by simpa using e1
      replace e1 := Lib.hid e1
      go_big_quiet_step (fail)
      repeat (go_big_quiet_step (fail))
      refine wpQuiet_nil ?_
      intro _ hw'
      obtain ⟨nq, rfl⟩ := hw'
      go_wp2_with fail
      go_ret
      exact quiet_end HB.out E.out rfl nq
  · have E := Lib.hid (samP_no (r := ⟨nm, kind, frm, tw, pf, pt, resp, guards, ex, fa, rd, wr, send, pos, left, right, parent, dir⟩) (s := ⟨nm', kind', frm', tw', pf', pt', resp', guards', ex', fa', rd', wr', send', pos', left', right', parent', dir'⟩) (fun h => e0 h.1))
    have t0 : (kind == kind') = false := by simpa using e0
    replace e0 := Lib.hid e0
    go_big_quiet_step (fail)
    repeat (go_big_quiet_step (fail))
    refine wpQuiet_nil ?_
    intro _ hw'
    obtain ⟨nq, rfl⟩ := hw'
    go_wp2_with fail
    go_ret
    exact quiet_end HB.out E.out rfl nq
end Go.Proofs.YtmpbfdfjcfanoaaDoor

/-
  A REGION THAT DRAWS ITS ORDER, whose first n operations give the same values in every world of a class and stay in it, and whose last operations come in one order: it is walked once, in the order of the text.
-/
namespace Go.Proofs.YtmpbfdfjcfanoaaDoor
open Go
section
variable {P : Program} {ops : Array Oper} {md : Region.Mode} {C : World → Prop}

/-- Whatever comes up next is one of the first n, until f of them have come. -/
def wpT (P : Program) (md : Region.Mode) (ops : Array Oper) (C : World → Prop) (n : Nat) (L : Array Bool → Act → Prop) : Nat → Array Bool → Act → Prop
  | 0, seen, a => L seen a
  | f + 1, seen, a => Region.ready md ops seen ≠ [] ∧ ∀ i ∈ Region.ready md ops seen, i < n ∧ qOp P ops C i (wpT P md ops C n L f (seen.setIfInBounds i true)) a

theorem wpT_any {n g : Nat} {L : Array Bool → Act → Prop} {Q : Exit → Act → World → Prop} (hL : ∀ seen a, L seen a → ∀ w, C w → wpAny P md ops Q g seen a w) :
    ∀ (f : Nat) (seen : Array Bool) (a : Act), wpT P md ops C n L f seen a → ∀ w, C w → wpAny P md ops Q (f + g) seen a w := by
  intro f
  induction f with
  | zero => intro seen a h w hw; rw [Nat.zero_add]; exact hL seen a h w hw
  | succ f ih =>
    intro seen a h w hw
    rw [show f + 1 + g = (f + g) + 1 by omega]
    exact ⟨fun h0 => absurd h0 h.1, fun i hi => wpOp_of_qOp hw (fun a' w' hw' hk => ih _ a' hk w' hw') (h.2 i hi).2⟩

/-- One of the first n that may come now may be taken first. -/
theorem wpT_take {n i : Nat} {oi : Oper} {v : Value} {L : Array Bool → Act → Prop} (hi : ops[i]? = some oi) (hsel : ∀ (j : Nat) (o : Oper) cs b, ops[j]? = some o → o.op ≠ .select cs b)
    (hs : Region.sinkB md ops n = true) (hc : Region.chainB md ops n = true) (hn : n < ops.size) (hin : i < n) (hend : ∀ seen a, L seen a → ∀ j ∈ Region.ready md ops seen, n ≤ j) :
    ∀ (f : Nat) (seen : Array Bool) (a : Act), HeadInv md ops n seen →
      (∀ j oj, ops[j]? = some oj → j ≠ i → seen.getD j true = false → (∀ e ∈ oj.after, Region.binds md e = true → e.on ≠ i) → oi.apart ops oj = true) →
      i ∈ Region.ready md ops seen → YieldsIn P ops C oi v a → wpT P md ops C n L f (seen.setIfInBounds i true) (a.put oi.dst v) → wpT P md ops C n L (f + 1) seen a := by
  intro f
  induction f with
  | zero =>
    intro seen a inv hfree hr hy H
    have hun := (mem_ready.1 hr).1
    refine ⟨List.ne_nil_of_mem hr, fun j hj => ?_⟩
    have hjn : j < n := Nat.lt_of_not_le fun h => tail_waits hs hc hn inv _ i rfl hin hun j h hj
    refine ⟨hjn, ?_⟩
    by_cases hji : j = i
    · subst hji; exact hy.qOp hi H
    · have h1 := hend _ _ H j (ready_mono hj hji)
      omega
  | succ f ih =>
    intro seen a inv hfree hr hy H
    have hun := (mem_ready.1 hr).1
    refine ⟨List.ne_nil_of_mem hr, fun j hj => ?_⟩
    have hjn : j < n := Nat.lt_of_not_le fun h => tail_waits hs hc hn inv _ i rfl hin hun j h hj
    refine ⟨hjn, ?_⟩
    by_cases hji : j = i
    · subst hji; exact hy.qOp hi H
    · obtain ⟨hjun, oj, hoj, hall⟩ := mem_ready.1 hj
      have hno : ∀ e ∈ oj.after, Region.binds md e = true → e.on ≠ i := fun e he hb heq => by
        have h0 := hall e he hb
        rw [heq, getD_both hun] at h0
        cases h0
      have h1 := qOp_put hoj (hfree j oj hoj hji hjun hno) (fun cs b => hsel i oi cs b hi) (fun cs b => hsel j oj cs b hoj) hy (H.2 j (ready_mono hj hji)).2
      refine qOp_mono (fun a' h2 => ih (seen.setIfInBounds j true) a' (inv.set hj hjn) (fun k ok hk hki hunk hnk => hfree k ok hk hki ?_ hnk) (ready_mono hr (Ne.symm hji)) h2.1 ?_) h1
      · by_cases hjk : j = k
        · subst hjk; exact hjun
        · rwa [getD_set_ne true hjk] at hunk
      · rw [Array.setIfInBounds_comm _ _ hji]; exact h2.2

theorem wpT_lex {n g : Nat} {Lq : Act → Prop} (hsel : Region.noSelect ops = true) (hs : Region.sinkB md ops n = true) (hc : Region.chainB md ops n = true) (hn : n < ops.size) :
    ∀ (l : List Oper) (k : Nat) (seen : Array Bool) (a : Act), (∀ j, j < l.length → l[j]? = ops[k + j]?) → k + l.length = n → HeadInv md ops n seen → Region.lexHead md ops g l.length k seen = true →
    wpQuiet P ops C Lq l a → wpT P md ops C n (fun seen' a' => Region.seqB md ops g n seen' = true ∧ Lq a') l.length seen a
  | [], k, seen, a, _, hk, _, hB, h => by
    obtain rfl : k = n := by simpa using hk
    exact ⟨by simpa [Region.lexHead] using hB, h⟩
  | o :: l, k, seen, a, hl, hk, inv, hB, h => by
    have h0 : ops[k]? = some o := by simpa using (hl 0 (by simp)).symm
    simp only [List.length_cons, Region.lexHead, Bool.and_eq_true] at hB
    have hkn : k < n := by simp only [List.length_cons] at hk; omega
    have hr : k ∈ Region.ready md ops seen := by simpa using hB.1.1
    obtain ⟨v, hy, hK⟩ := yieldsIn_of_qOp h0 (show qOp P ops C k (wpQuiet P ops C Lq l) a by unfold qOp; simp only [h0]; exact h)
    exact wpT_take h0 (Region.noSelect_spec hsel) hs hc hn hkn (fun seen' a' hL => seqB_ready hL.1) l.length seen a inv (Region.free_spec h0 hB.1.2) hr hy
      (wpT_lex hsel hs hc hn l (k + 1) _ _ (fun j hj => by have := hl (j + 1) (by simp; omega); simpa [Nat.add_assoc, Nat.add_comm 1 j] using this) (by simp only [List.length_cons] at hk; omega) (inv.set hr hkn) hB.2 hK)

/-- The first n operations quiet in the class, the others one behind the other, from whatever world of the class. -/
theorem wp_class_tail {id : Nat} {Q : Exit → Act → World → Prop} {a : Act} {w : World} {l : List Oper} (n : Nat) (C : World → Prop) (hm : P.follows .mixedOrders = true) (hB : Region.lexTailB .any l.toArray n = true) (hC : C w.drew)
    (h : wpQuiet P l.toArray C (fun a' => ∀ w', C w' → wpList P l.toArray Q (l.drop n) a' w') (l.take n) a) : (Code.region id l.toArray true).wp P Q a w := by
  simp only [Region.lexTailB, Bool.and_eq_true, decide_eq_true_eq] at hB
  obtain ⟨⟨⟨⟨hsel, hn⟩, hs⟩, hc⟩, hlex⟩ := hB
  have hn' : n < l.length := by simpa using hn
  have htl : (l.take n).length = n := by simp; omega
  have hdl : (l.drop n).length = l.toArray.size - n := by simp
  have inv0 : HeadInv .any l.toArray n (Array.replicate l.toArray.size false) :=
    ⟨by simp, fun j oj _ hl => (by rw [getD_replicate_false] at hl; cases hl), fun t _ ht => getD_in (by simpa using ht) (getD_replicate_false _ _)⟩
  have H := wpT_lex (md := .any) (g := l.toArray.size - n) hsel hs hc hn (l.take n) 0 _ a (fun j hj => by
    have hj' : j < n := by rw [htl] at hj; exact hj
    simp [hj']) (by simpa using htl) inv0 (by rw [htl]; exact hlex) h
  refine wp_region_any hm ?_
  have hA := wpT_any (Q := Q) (g := l.toArray.size - n) (fun seen a' hL w' hw' => by
    have := wpAny_of_seq (md := .any) (Q' := Q) (l.drop n) n seen a' w' (fun j => by simp [List.getElem?_drop]) (by rw [hdl]; exact hL.1) (hL.2 w' hw')
    rwa [hdl] at this) _ _ _ H w.drew hC
  rw [htl, show n + (l.toArray.size - n) = l.toArray.size by omega] at hA
  exact hA
/-- All operations quiet in the class. -/
theorem wp_class {id : Nat} {Q : Exit → Act → World → Prop} {a : Act} {w : World} {l : List Oper} (C : World → Prop) (hm : P.follows .mixedOrders = true) (hB : Region.lexB .any l.toArray = true) (hC : C w.drew)
    (h : wpQuiet P l.toArray C (fun a' => ∀ w', C w' → Q .normal a' w') l a) : (Code.region id l.toArray true).wp P Q a w :=
  wp_region_quiet hm hB hC (by simpa using h)
end
end Go.Proofs.YtmpbfdfjcfanoaaDoor

/-
  THE CLASS OF THE WORLDS THAT KEEP WHAT WAS THERE: a region whose operations only read and whose callees give the same value in every such world is walked once.
-/
namespace Go.Proofs.YtmpbfdfjcfanoaaDoor
open Go.RowKit Go.Deep
theorem RuEl.below {lo : Nat} {w w' : World} {cs : List Value} {r : Ru} (h : RuEl lo w cs r) (hb : Below w.heap.size w w') : RuEl lo w' cs r := by
  have t := RuEl.stays
  unfold Stays at t
  exact t lo w w' cs r h hb
/-- A world of a class. -/
structure WIn (S : World → Prop) where
  val : World
  ok : S val
/-- A struct is read out of the midst of a block, in every world of a class. -/
theorem quiet_ld {P : Program} {o : Oper} {a : Act} {C : World → Prop} {K : Act → Prop} {T : TypeId} {size : Nat} {fs : Array Field} (hu : P.underlying T = some (.struct fs)) (hi : (P.info? T).map (·.size) = some size) (x : Operand) (ho : o.op = .load T x)
    (b off : Nat) (cs : List Value) (hx : a.eval x = .pointer (some ⟨b, off, none⟩)) (hl : cs.length = size) (hc : ∀ w, C w → w.rangeAt b off cs) (h : K (a.put o.dst (.agg cs.toArray))) : o.quiet P a C K :=
  ⟨.agg cs.toArray, fun w hw => by
    unfold Oper.quietAt execOp
    simp only [ho, hx, Instr.loadAt, Instr.sureAddr, Sem.run_bind, Sem.run_pure, Result.andThen_ok, run_loadVar_mid w b off T cs _ (hc w hw) hu rfl (by rw [hl]; exact hi)]
    exact ⟨rfl, rfl⟩, h⟩
instance instWIn (W : World) : Nonempty (WIn (Below W.heap.size W)) := ⟨⟨W.drew, drewBelow W⟩⟩
section
variable {P : Program} {id : Nat} {Q : Exit → Act → World → Prop} {a : Act} {W : World} {l : List Oper}
/-- A region that draws its order. -/
theorem wp_cls (hm : P.follows .mixedOrders = true) (hB : Region.lexB .any l.toArray = true)
    (h : wpQuiet P l.toArray (fun w' => ∃ n : WIn (Below W.heap.size W), w' = n.val) (fun a' => ∀ n : WIn (Below W.heap.size W), Q .normal a' n.val) l a) : (Code.region id l.toArray true).wp P Q a W :=
  wp_region_quiet (C := fun w' => ∃ n : WIn (Below W.heap.size W), w' = n.val) hm hB ⟨⟨W.drew, drewBelow W⟩, rfl⟩ (by
    have : (fun a' => ∀ n : WIn (Below W.heap.size W), Q .normal a' n.val) = (fun a' => ∀ w', (∃ n : WIn (Below W.heap.size W), w' = n.val) → Q .normal a' w') := by
      funext a'; exact propext ⟨fun h w' ⟨n, hn⟩ => hn ▸ h n, fun h n => h n.val ⟨n, rfl⟩⟩
    rw [this] at h
    simpa using h)
/-- The first n operations of a region that draws its order; the others come in one order. -/
theorem wp_cls_tail (n : Nat) (hm : P.follows .mixedOrders = true) (hB : Region.lexTailB .any l.toArray n = true)
    (h : wpQuiet P l.toArray (fun w' => ∃ n : WIn (Below W.heap.size W), w' = n.val) (fun a' => ∀ m : WIn (Below W.heap.size W), wpList P l.toArray Q (l.drop n) a' m.val) (l.take n) a) : (Code.region id l.toArray true).wp P Q a W :=
  wp_class_tail n (fun w' => ∃ n : WIn (Below W.heap.size W), w' = n.val) hm hB ⟨⟨W.drew, drewBelow W⟩, rfl⟩ (by
    have : (fun a' => ∀ m : WIn (Below W.heap.size W), wpList P l.toArray Q (l.drop n) a' m.val) = (fun a' => ∀ w', (∃ n : WIn (Below W.heap.size W), w' = n.val) → wpList P l.toArray Q (l.drop n) a' w') := by
      funext a'; exact propext ⟨fun h w' ⟨n, hn⟩ => hn ▸ h n, fun h n => h n.val ⟨n, rfl⟩⟩
    rw [this] at h
    exact h)
/-- A region in one order. -/
theorem wp_cls_seq (h : wpQuiet P l.toArray (fun w' => ∃ n : WIn (Below W.heap.size W), w' = n.val) (fun a' => ∀ n : WIn (Below W.heap.size W), Q .normal a' n.val) l a) : (Code.region id l.toArray false).wp P Q a W :=
  wp_region_lit (wpList_quiet (C := fun w' => ∃ n : WIn (Below W.heap.size W), w' = n.val) l a W ⟨⟨W, Below.refl _ _⟩, rfl⟩ (by
    have : (fun a' => ∀ n : WIn (Below W.heap.size W), Q .normal a' n.val) = (fun a' => ∀ w', (∃ n : WIn (Below W.heap.size W), w' = n.val) → Q .normal a' w') := by
      funext a'; exact propext ⟨fun h w' ⟨n, hn⟩ => hn ▸ h n, fun h n => h n.val ⟨n, rfl⟩⟩
    rw [this] at h
    exact h))
end
end Go.Proofs.YtmpbfdfjcfanoaaDoor

/-
  othersEmpty OF THE PROGRAM.
-/
namespace Go.Proofs.YtmpbfdfjcfanoaaDoor
open Go.RowKit Go.Deep
theorem plain_el (lo : Nat) (w : World) (kind : Int) (h : I64 kind) : RuEl lo w [.string ⟨#[]⟩, .int .i64 kind, .int .i64 0, .int .i64 0, .int .i64 0, .int .i64 0, .slice none 0 0, .slice none 0 0, .slice none 0 0, .slice none 0 0, .int .i64 (-1), .int .i64 (-1), .slice none 0 0, .int .i64 0, .slice none 0 0, .slice none 0 0, .slice none 0 0, .int .i64 0] (plainR kind) :=
  ⟨_, _, _, _, _, _, _, _, rfl, by show (⟨#[]⟩ : ByteArray).size ≤ maxLen; simp [ByteArray.size, maxLen], h, i64_0, i64_0, i64_0, i64_0, ints_nil _ _, ths_nil _ _, ints_nil _ _, ints_nil _ _, i64_m1, i64_m1, ints_nil _ _, i64_0, ints_nil _ _, ints_nil _ _, ints_nil _ _, i64_0⟩
set_option maxHeartbeats 1600000 in
theorem othersEmpty_any {lo : Nat} {w : World} {cs : List Value} {r : Ru} (top : Int) (hk : r.kind = 1 ∨ r.kind = 2 ∨ r.kind = 3 ∨ r.kind = 4 ∨ r.kind = 5) (h : RuEl lo w cs r) :
    Calls Tryd.prog 96 #[.agg cs.toArray, .int .i64 top] w fun e w' => e = .returned (.bool (othB r top)) ∧ Below w.heap.size w w' := by
  have H := Lib.hid h
  have HK := Lib.hid hk
  obtain ⟨hI, hl, h1⟩ : I64 r.kind ∧ cs.length = 18 ∧ cs[1]? = some (.int .i64 r.kind) := by
    obtain ⟨v6, v7, v8, v9, v12, v14, v15, v16, rfl, h0, h1, h2, h3, h4, h5, h6, h7, h8, h9, h10, h11, h12, h13, h14, h15, h16, h17⟩ := h
    exact ⟨h1, rfl, rfl⟩
  have HI := Lib.hid hI
  have HL := Lib.hid hl
  have H1 := Lib.hid h1
  have E : Hid (othB r top = samP (bare r top) (plainR r.kind)) := (rfl : othB r top = _)
  clear h hk hI h1
  go_enter Tryd.func96, Tryd.ntmps96
  go_upto_region 1 with (fail)
  obtain ⟨W, hW⟩ : ∃ W : World, W = w.alloc (.cells cs.toArray 76) := ⟨_, rfl⟩
  rw [← hW]
  have HB := Lib.hid (show Below w.heap.size w W by rw [hW]; exact allocBelow _ _)
  have HG := Lib.hid (show W.heap[w.heap.size]? = some (.cells cs.toArray 76 (0, 0)) by rw [hW]; exact heap_new _ _ rfl)
  clear hW
  have HGn := Lib.hid (show ∀ n : WIn (Below W.heap.size W), n.val.heap[w.heap.size]? = some (.cells cs.toArray 76 (0, 0)) from fun n => keepB HG.out n.ok)
  have c1 : ∀ n : WIn (Below W.heap.size W), n.val.cell? ⟨w.heap.size, 1, none⟩ = some (.int .i64 r.kind) := fun n => cellB (HGn.out n) 1 (by simpa using H1.out)
  have HBn := Lib.hid (show ∀ n : WIn (Below W.heap.size W), Below w.heap.size w n.val from fun n => thenBelow HB.out n.ok)
  refine wp_cls (by kernel_rfl) (by kernel_rfl) ?_
  refine BigFrame.wpQuiet_want (by rfl) (fun K hK => ?_)
  refine quiet_ld Tryd.underlying76 info_rule (.tmp 2) (by rfl) w.heap.size 0 cs (by rfl) HL.out (by rintro _ ⟨n, rfl⟩; exact rangeBlock (HGn.out n)) (hK _ ?_)
  clear hK K
  simp only [Act.put, List.setIfInBounds_toArray, List.set_cons_succ, List.set_cons_zero]
  go_big_quiet_step (fail)
  go_big_quiet_step (((with_reducible refine (withoutUsed_any top HK.out (H.out.below (HBn.out _))).mono ?_); rintro e w1 ⟨rfl, -, hb⟩; exact ⟨rfl, ⟨w1, thenBelow (WIn.ok _) hb⟩, rfl⟩))
  iterate 3 go_big_quiet_step (fail)
  go_big_quiet_step (((with_reducible refine (sameParts_any (bareC_el top HK.out (H.out.below (HBn.out _))) (plain_el 0 _ _ HI.out)).mono ?_); rintro e w1 ⟨rfl, hb⟩; exact ⟨rfl, ⟨w1, thenBelow (WIn.ok _) hb⟩, rfl⟩))
  go_big_quiet_step (fail)
  refine wpQuiet_nil ?_
  intro n
  go_wp2_with fail
  go_ret
  exact ⟨ret_bool E.out, HBn.out n⟩
end Go.Proofs.YtmpbfdfjcfanoaaDoor

/-
  hasRule OF THE PROGRAM.
-/
namespace Go.Proofs.YtmpbfdfjcfanoaaDoor
open Go.RowKit Go.Deep
theorem hasR_succ {rs : List Ru} {s : ByteArray} {k : Nat} (h : k < rs.length) (hk : hasR (rs.take k) s = false) (e : (rs[k].nm.toList == s.toList) = false) : hasR (rs.take (k + 1)) s = false := by
  unfold hasR at *; rw [List.take_succ_eq_append_getElem h, List.any_append, hk]; simpa using e
theorem hasR_yes {rs : List Ru} {s : ByteArray} {k : Nat} (h : k < rs.length) (e : (rs[k].nm.toList == s.toList) = true) : hasR rs s = true := by
  unfold hasR; rw [List.any_eq_true]; exact ⟨rs[k], List.getElem_mem h, e⟩
theorem hasR_end {rs : List Ru} {s : ByteArray} {k : Nat} (h : k = rs.length) (hk : hasR (rs.take k) s = false) : hasR rs s = false := by
  rwa [List.take_of_length_le (by omega)] at hk
theorem rule_cells {lo : Nat} {w : World} {cs : List Value} {r : Ru} (h : RuEl lo w cs r) : cs.length = 18 ∧ cs[0]? = some (.string r.nm) ∧ r.nm.size ≤ maxLen ∧ cs[1]? = some (.int .i64 r.kind) ∧ I64 r.kind ∧ ∀ v ∈ cs, v.oneCell' = true := by
  obtain ⟨v6, v7, v8, v9, v12, v14, v15, v16, rfl, h0, h1, h2, h3, h4, h5, h6, h7, h8, h9, h10, h11, h12, h13, h14, h15, h16, h17⟩ := h
  obtain ⟨a6, c6, rfl⟩ := h6.shape
  obtain ⟨a7, c7, rfl⟩ := h7.shape
  obtain ⟨a8, c8, rfl⟩ := h8.shape
  obtain ⟨a9, c9, rfl⟩ := h9.shape
  obtain ⟨a12, c12, rfl⟩ := h12.shape
  obtain ⟨a14, c14, rfl⟩ := h14.shape
  obtain ⟨a15, c15, rfl⟩ := h15.shape
  obtain ⟨a16, c16, rfl⟩ := h16.shape
  exact ⟨rfl, rfl, h0, rfl, h1, by simp [Value.oneCell']⟩
set_option maxHeartbeats 1600000 in
theorem hasRule_full (b off n cap : Nat) (w : World) (rs : List Ru) (s : ByteArray) (hx : rs.length = n) (hn : n ≤ 9223372036854775807)
    (hc : ∀ i (hi : i < rs.length), ∃ cs : List Value, cs.length = 18 ∧ (∀ j, j < 18 → w.cell? ⟨b, off + i * 18 + j, none⟩ = cs[j]?) ∧ RuEl 0 w cs rs[i]) :
    Calls Tryd.prog 94 #[.slice (some ⟨b, off, none⟩) n cap, .string s] w fun e w' => e = .returned (.bool (hasR rs s)) ∧ Below w.heap.size w w' := by
  have HC := Lib.hid hc
  have HX := Lib.hid hx
  clear hc hx
  go_enter Tryd.func94, Tryd.ntmps94
  go_wp2_with fail
  go_loopw [9] (fun v wr => ∃ k : Nat, k ≤ n ∧ v = .int .i64 k ∧ hasR (rs.take k) s = false ∧ Below w.heap.size w wr) (fun v _ => n - (intOf v).toNat)
  case atStart => exact ⟨0, Nat.zero_le _, rfl, rfl, Below.refl _ _⟩
  case round =>
    obtain ⟨k, hk, rfl, hs, hB⟩ := hrel
    have HS := Lib.hid hs
    have HB := Lib.hid hB
    clear hs hB
    by_cases h1 : k < n
    · have hkx : k < rs.length := by rw [HX.out]; exact h1
      obtain ⟨cs, hl, r1, hel⟩ := HC.out k hkx
      have HL := Lib.hid hl
      obtain ⟨-, p0, -, -, -, pc⟩ := rule_cells hel
      have P0 := Lib.hid p0
      have PC := Lib.hid pc
      have R1 := Lib.hid (rangeBelow (rangeOf hl r1) HB.out)
      clear r1 hel hl p0 pc
      go_upto_region 3 with (fail)
      refine wp_region_lit ?_
      refine wpList_step fun K hK => ?_
      go_simp
      refine hK _ _ ?_
      clear hK K
      refine ld_mid Tryd.underlying76 info_rule (by rfl) (.tmp 11) (by rfl) b (off + k * 18) cs (by rfl) HL.out R1.out ?_
      refine wpList_step fun K hK => ?_
      go_simp
      refine hK _ _ ?_
      clear hK K
      refine st_whole (T := 76) info_rule (by rfl) (.tmp 6) (.tmp 12) (by rfl) wr.heap.size cs (by rfl) (by rfl) HL.out (heap_new _ _ rfl) (by rfl) PC.out (fun Z hZ hbl hsz _ => ?_)
      have ZB := Lib.hid (show Below w.heap.size w Z from hbl _ _ HB.out.size (HB.out.trans ((allocBelow wr _).mono HB.out.size)))
      have z0 := Lib.hid (cellB hZ 0 (by simpa using P0.out))
      clear hZ hbl hsz
      by_cases he : (rs[k].nm.toList == s.toList) = true
      · have HE := Lib.hid he
        have z := z0.out
        go_wp2_with fail
        go_ret
        exact ⟨ret_bool (hasR_yes hkx HE.out).symm, ZB.out⟩
      · have he' : (rs[k].nm.toList == s.toList) = false := by simpa using he
        have HE := Lib.hid he'
        clear he
        have z := z0.out
        go_wp2_with fail
        go_roundw
        case rel => exact ⟨k + 1, by omega, by go_num, hasR_succ hkx HS.out HE.out, ZB.out⟩
        case measure => simp [intOf]; omega
    · go_wp2_with fail
      go_ret
      exact ⟨ret_bool (hasR_end (by rw [HX.out]; omega) HS.out).symm, HB.out⟩
theorem hasRule_any {lo : Nat} {w : World} {v : Value} {rs : List Ru} (s : ByteArray) (h : IsSl 18 RuEl lo w v rs) :
    Calls Tryd.prog 94 #[v, .string s] w fun e w' => e = .returned (.bool (hasR rs s)) ∧ Below w.heap.size w w' := by
  obtain ⟨a, cap, rfl, hl, hm, _, hc⟩ := h.mono RuEl.mono (Nat.zero_le lo)
  unfold maxLen at hm
  rcases hc with rfl | ⟨b, off, rfl, _, _, hc⟩
  · go_enter Tryd.func94, Tryd.ntmps94
    go_wp2_with fail
    refine wp_loop_rounds 1 ?_
    rw [rounds_succ]
    go_wp2_with fail
    go_ret
    exact ⟨rfl, Below.refl _ _⟩
  · exact hasRule_full _ _ _ _ _ _ _ rfl (by omega) hc
end Go.Proofs.YtmpbfdfjcfanoaaDoor

/-
  THE ORDER OF NUMBERS: cmp.Compare and cmp.Or.
-/
namespace Go.Proofs.YtmpbfdfjcfanoaaDoor
open Go.RowKit Go.Deep

/-- The order of numbers. -/
def cmpN (x y : Int) : Int := if x < y then -1 else if y < x then 1 else 0

/-- The first that is not 0. -/
def orI (x y : Int) : Int := if x ≠ 0 then x else y
end Go.Proofs.YtmpbfdfjcfanoaaDoor

/-
  cmp.Or: the first of some numbers that is not 0.
-/
namespace Go.Proofs.YtmpbfdfjcfanoaaDoor
open Go.RowKit Go.Deep
def orL : List Int → Int
  | [] => 0
  | x :: xs => if x = 0 then orL xs else x
end Go.Proofs.YtmpbfdfjcfanoaaDoor

/-
  cmp.Or of errors: the first one.
-/
namespace Go.Proofs.YtmpbfdfjcfanoaaDoor
open Go.RowKit Go.Deep
set_option maxHeartbeats 800000 in
theorem OrE_full (b off n cap : Nat) (w : World) (xs : List Int) (hx : xs.length = n) (hn : n ≤ 9223372036854775807)
    (hc : ∀ i, i < n → w.cell? ⟨b, off + i, none⟩ = some (.int .i64 (xs.getD i 0))) :
    Calls Tryd.prog 50 #[.slice (some ⟨b, off, none⟩) n cap] w fun e w' => e = .returned (.int .i64 (orL xs)) ∧ w = w' := by
  have HC := Lib.hid hc
  have HX := Lib.hid hx
  clear hc hx
  go_enter Tryd.func50, Tryd.ntmps50
  go_wp2_with fail
  go_loop [8] (fun u => ∃ k : Nat, k ≤ n ∧ u = .int .i64 k ∧ orL (xs.drop k) = orL xs) (fun u => n - (intOf u).toNat)
  case atStart => exact ⟨0, Nat.zero_le _, rfl, rfl⟩
  case round =>
    obtain ⟨k, hk, rfl, hs⟩ := hrel
    have HS := Lib.hid hs
    clear hs
    by_cases hlt : k < n
    · have g1 := HC.out k hlt
      have HD := Lib.hid (show orL (xs.drop k) = if xs.getD k 0 = 0 then orL (xs.drop (k + 1)) else xs.getD k 0 by
        have hd : xs.drop k = xs[k]'(by rw [HX.out]; exact hlt) :: xs.drop (k + 1) := List.drop_eq_getElem_cons _
        rw [hd, orL, show xs.getD k 0 = xs[k]'(by rw [HX.out]; exact hlt) by simp [List.getD, List.getElem?_eq_getElem (show k < xs.length by rw [HX.out]; exact hlt)]])
      generalize hX : xs.getD k 0 = x at g1 HD
      clear hX
      by_cases x0 : x = 0
      · subst x0
        go_wp2_with fail
        go_round
        case rel => exact ⟨k + 1, by omega, by go_num, by rw [← HS.out, HD.out, if_pos rfl]⟩
        case measure => simp [intOf]; omega
      · have x3 : (x != 0) = true := by simpa using x0
        have XX := Lib.hid x0
        clear x0
        go_wp2_with fail
        go_ret
        exact ⟨ret_int (by rw [← HS.out, HD.out, if_neg XX.out]), rfl⟩
    · have HE := Lib.hid (show orL xs = 0 by rw [← HS.out, List.drop_eq_nil_of_le (by rw [HX.out]; omega), orL])
      go_wp2_with fail
      go_ret
      exact ⟨ret_int (by rw [HE.out]), rfl⟩
/-- Of a block that is known whole. -/
theorem OrE_block {w : World} {g n : Nat} {t : TypeId} {cs : Array Value} (xs : List Int) (hg : w.heap[g]? = some (.cells cs t (0, 0))) (hcs : cs = (xs.map (Value.int .i64)).toArray) (hn : n = xs.length) (hb : n ≤ 1000) :
    Calls Tryd.prog 50 #[.slice (some ⟨g, 0, none⟩) n n] w fun e w' => e = .returned (.int .i64 (orL xs)) ∧ w = w' :=
  OrE_full g 0 n n w xs hn.symm (by omega) fun i hi => by
    subst hcs hn
    simp [World.cell?, hg, hi]
theorem orL_or (a : Int) (xs : List Int) : orL (a :: xs) = orE a (orL xs) := rfl
end Go.Proofs.YtmpbfdfjcfanoaaDoor

/-
  partsError OF THE PROGRAM.
-/
namespace Go.Proofs.YtmpbfdfjcfanoaaDoor
open Go.RowKit Go.Deep
/-- A rule's cells, and how they read. -/
theorem rule_open {lo : Nat} {w : World} {cs : List Value} {r : Ru} (h : RuEl lo w cs r) : ∃ v6 v7 v8 v9 v12 v14 v15 v16, cs = [.string r.nm, .int .i64 r.kind, .int .i64 r.frm, .int .i64 r.to, .int .i64 r.pf, .int .i64 r.pt, v6, v7, v8, v9, .int .i64 r.rd, .int .i64 r.wr, v12, .int .i64 r.pos, v14, v15, v16, .int .i64 r.dir] ∧
    IsInts lo w v6 r.resp ∧ IsSl 6 ThEl lo w v7 r.guards ∧ IsInts lo w v8 r.ex ∧ IsInts lo w v9 r.fa ∧ IsInts lo w v12 r.send ∧ IsInts lo w v14 r.left ∧ IsInts lo w v15 r.right ∧ IsInts lo w v16 r.parent := by
  obtain ⟨v6, v7, v8, v9, v12, v14, v15, v16, rfl, h0, h1, h2, h3, h4, h5, h6, h7, h8, h9, h10, h11, h12, h13, h14, h15, h16, h17⟩ := h
  exact ⟨v6, v7, v8, v9, v12, v14, v15, v16, rfl, h6, h7, h8, h9, h12, h14, h15, h16⟩
set_option maxHeartbeats 3200000 in
theorem partsError_any {lo lo' : Nat} {w : World} {v : Value} {cs : List Value} {q : Fm} {r : Ru} (hq : IsFam lo w v q) (h : RuEl lo' w cs r) :
    Calls Tryd.prog 98 #[v, .agg cs.toArray] w fun e w' => e = .returned (.int .i64 (partE q r)) ∧ Below w.heap.size w w' := by
  obtain ⟨v2, v3, v4, v6, v7, v8, v9, rfl, _, _, h2, h3, h4, _, h6, h7, h8, h9⟩ := hq
  have HN := Lib.hid h2.bound
  have HM := Lib.hid h3.bound
  have HV := Lib.hid h4.bound
  obtain ⟨a2, c2, rfl⟩ := h2.shape
  obtain ⟨a3, c3, rfl⟩ := h3.shape
  obtain ⟨a4, c4, rfl⟩ := h4.shape
  clear h2 h3 h4 h6 h7 h8 h9
  obtain ⟨u6, u7, u8, u9, u12, u14, u15, u16, hcs, k6, k7, k8, k9, k12, k14, k15, k16⟩ := rule_open h
  obtain ⟨b6, d6, rfl⟩ := k6.shape
  obtain ⟨b7, d7, rfl⟩ := k7.shape
  obtain ⟨b8, d8, rfl⟩ := k8.shape
  obtain ⟨b9, d9, rfl⟩ := k9.shape
  obtain ⟨b12, d12, rfl⟩ := k12.shape
  obtain ⟨b14, d14, rfl⟩ := k14.shape
  obtain ⟨b15, d15, rfl⟩ := k15.shape
  obtain ⟨b16, d16, rfl⟩ := k16.shape
  have H := Lib.hid h
  have K6 := Lib.hid k6
  have K7 := Lib.hid k7
  have K8 := Lib.hid k8
  have K9 := Lib.hid k9
  have K12 := Lib.hid k12
  have K14 := Lib.hid k14
  have K15 := Lib.hid k15
  have K16 := Lib.hid k16
  have HC := Lib.hid hcs
  clear h k6 k7 k8 k9 k12 k14 k15 k16 hcs
  go_enter Tryd.func98, Tryd.ntmps98
  go_upto_region 1 with (fail)
  obtain ⟨W, hW⟩ : ∃ W : World, W = (w.alloc (.cells #[.string q.nm, .int .i64 q.top, .slice a2 q.states.length c2, .slice a3 q.msgs.length c3, .slice a4 q.vals.length c4, .int .i64 q.fault, v6, v7, v8, v9] 27)).alloc (.cells cs.toArray 76) := ⟨_, rfl⟩
  rw [← hW]
  have HB := Lib.hid (show Below w.heap.size w W by rw [hW]; show Below _ _ _; go_grown)
  have HP := Lib.hid (show W.heap[w.heap.size]? = some (.cells #[.string q.nm, .int .i64 q.top, .slice a2 q.states.length c2, .slice a3 q.msgs.length c3, .slice a4 q.vals.length c4, .int .i64 q.fault, v6, v7, v8, v9] 27 (0, 0)) by rw [hW]; exact (heap_old _ _ (by simp)).trans (heap_new _ _ rfl))
  have HG := Lib.hid (show W.heap[w.heap.size + 1]? = some (.cells cs.toArray 76 (0, 0)) by rw [hW]; exact heap_new _ _ (by simp))
  clear hW
  have HL := Lib.hid (show cs.length = 18 by rw [HC.out]; rfl)
  have HGn := Lib.hid (show ∀ n : WIn (Below W.heap.size W), n.val.heap[w.heap.size + 1]? = some (.cells cs.toArray 76 (0, 0)) from fun n => keepB HG.out n.ok)
  have HPn := Lib.hid (show ∀ n : WIn (Below W.heap.size W), n.val.heap[w.heap.size]? = some (.cells #[.string q.nm, .int .i64 q.top, .slice a2 q.states.length c2, .slice a3 q.msgs.length c3, .slice a4 q.vals.length c4, .int .i64 q.fault, v6, v7, v8, v9] 27 (0, 0)) from fun n => keepB HP.out n.ok)
  have HBn := Lib.hid (show ∀ n : WIn (Below W.heap.size W), Below w.heap.size w n.val from fun n => thenBelow HB.out n.ok)
  have x1 : W.cell? ⟨w.heap.size + 1, 1, none⟩ = some (.int .i64 r.kind) := cellB HG.out 1 (by rw [HC.out]; rfl)
  have x6 : W.cell? ⟨w.heap.size + 1, 6, none⟩ = some (.slice b6 r.resp.length d6) := cellB HG.out 6 (by rw [HC.out]; rfl)
  have x17 : W.cell? ⟨w.heap.size + 1, 17, none⟩ = some (.int .i64 r.dir) := cellB HG.out 17 (by rw [HC.out]; rfl)
  have y7 : ∀ n : WIn (Below W.heap.size W), n.val.cell? ⟨w.heap.size + 1, 7, none⟩ = some (.slice b7 r.guards.length d7) := fun n => cellB (HGn.out n) 7 (by rw [HC.out]; rfl)
  have y8 : ∀ n : WIn (Below W.heap.size W), n.val.cell? ⟨w.heap.size + 1, 8, none⟩ = some (.slice b8 r.ex.length d8) := fun n => cellB (HGn.out n) 8 (by rw [HC.out]; rfl)
  have y9 : ∀ n : WIn (Below W.heap.size W), n.val.cell? ⟨w.heap.size + 1, 9, none⟩ = some (.slice b9 r.fa.length d9) := fun n => cellB (HGn.out n) 9 (by rw [HC.out]; rfl)
  have y12 : ∀ n : WIn (Below W.heap.size W), n.val.cell? ⟨w.heap.size + 1, 12, none⟩ = some (.slice b12 r.send.length d12) := fun n => cellB (HGn.out n) 12 (by rw [HC.out]; rfl)
  have y13 : ∀ n : WIn (Below W.heap.size W), n.val.cell? ⟨w.heap.size + 1, 13, none⟩ = some (.int .i64 r.pos) := fun n => cellB (HGn.out n) 13 (by rw [HC.out]; rfl)
  have y14 : ∀ n : WIn (Below W.heap.size W), n.val.cell? ⟨w.heap.size + 1, 14, none⟩ = some (.slice b14 r.left.length d14) := fun n => cellB (HGn.out n) 14 (by rw [HC.out]; rfl)
  have y15 : ∀ n : WIn (Below W.heap.size W), n.val.cell? ⟨w.heap.size + 1, 15, none⟩ = some (.slice b15 r.right.length d15) := fun n => cellB (HGn.out n) 15 (by rw [HC.out]; rfl)
  have y16 : ∀ n : WIn (Below W.heap.size W), n.val.cell? ⟨w.heap.size + 1, 16, none⟩ = some (.slice b16 r.parent.length d16) := fun n => cellB (HGn.out n) 16 (by rw [HC.out]; rfl)
  have p1 : W.cell? ⟨w.heap.size, 1, none⟩ = some (.int .i64 q.top) := cellB HP.out 1 rfl
  have p2 : W.cell? ⟨w.heap.size, 2, none⟩ = some (.slice a2 q.states.length c2) := cellB HP.out 2 rfl
  have p4 : W.cell? ⟨w.heap.size, 4, none⟩ = some (.slice a4 q.vals.length c4) := cellB HP.out 4 rfl
  have z1 : ∀ n : WIn (Below W.heap.size W), n.val.cell? ⟨w.heap.size, 1, none⟩ = some (.int .i64 q.top) := fun n => cellB (HPn.out n) 1 rfl
  have z3 : ∀ n : WIn (Below W.heap.size W), n.val.cell? ⟨w.heap.size, 3, none⟩ = some (.slice a3 q.msgs.length c3) := fun n => cellB (HPn.out n) 3 rfl
  have z4 : ∀ n : WIn (Below W.heap.size W), n.val.cell? ⟨w.heap.size, 4, none⟩ = some (.slice a4 q.vals.length c4) := fun n => cellB (HPn.out n) 4 rfl
  by_cases t3 : r.kind = 3
  · rw [t3] at x1
    by_cases e0 : reE q.states.length r.resp = 0
    · have E := Lib.hid (show shE q.vals.length r.rd r.wr = partE q r by unfold partE; rw [if_pos t3, e0, orE_zero])
      have E0 := Lib.hid e0
      clear t3 e0
      go_upto_region 10 with ((go_at_call 116; (with_reducible refine (responseError_any q.states.length HN.out (K6.out.below HB.out)).mono ?_); rintro e w1 ⟨rfl, rfl⟩; rw [E0.out]))
      refine wp_cls_seq ?_
      refine BigFrame.wpQuiet_want (by rfl) (fun K hK => ?_)
      refine quiet_ld Tryd.underlying76 info_rule (.tmp 3) (by rfl) (w.heap.size + 1) 0 cs (by rfl) HL.out (by rintro _ ⟨n, rfl⟩; exact rangeBlock (HGn.out n)) (hK _ ?_)
      clear hK K
      simp only [Act.put, List.setIfInBounds_toArray, List.set_cons_succ, List.set_cons_zero]
      iterate 3 go_big_quiet_step (fail)
      go_big_quiet_step (((with_reducible refine (sharedError_any q.vals.length HV.out (H.out.below (HBn.out _))).mono ?_); rintro e w1 ⟨rfl, hb⟩; exact ⟨rfl, ⟨w1, thenBelow (WIn.ok _) hb⟩, rfl⟩))
      go_big_quiet_step (fail)
      refine wpQuiet_nil ?_
      intro n
      go_wp2_with fail
      go_ret
      exact ⟨ret_int E.out, HBn.out n⟩
    · have e1 : (reE q.states.length r.resp != 0) = true := by simpa using e0
      have E := Lib.hid (show reE q.states.length r.resp = partE q r by unfold partE; rw [if_pos t3, orE_ne _ e0])
      clear t3 e0
      go_wp2_with (go_at_call 116; (with_reducible refine (responseError_any q.states.length HN.out (K6.out.below HB.out)).mono ?_); rintro e w1 ⟨rfl, rfl⟩)
      go_ret
      exact ⟨ret_int E.out, HB.out⟩
  · have f3 : (r.kind == 3) = false := by simpa using t3
    by_cases t2 : r.kind = 2
    · rw [t2] at x1
      have E := Lib.hid (show shE q.vals.length r.rd r.wr = partE q r by unfold partE; rw [if_neg t3, if_pos t2])
      clear t2 t3 f3
      go_upto_region 10 with (fail)
      refine wp_cls_seq ?_
      refine BigFrame.wpQuiet_want (by rfl) (fun K hK => ?_)
      refine quiet_ld Tryd.underlying76 info_rule (.tmp 3) (by rfl) (w.heap.size + 1) 0 cs (by rfl) HL.out (by rintro _ ⟨n, rfl⟩; exact rangeBlock (HGn.out n)) (hK _ ?_)
      clear hK K
      simp only [Act.put, List.setIfInBounds_toArray, List.set_cons_succ, List.set_cons_zero]
      iterate 3 go_big_quiet_step (fail)
      go_big_quiet_step (((with_reducible refine (sharedError_any q.vals.length HV.out (H.out.below (HBn.out _))).mono ?_); rintro e w1 ⟨rfl, hb⟩; exact ⟨rfl, ⟨w1, thenBelow (WIn.ok _) hb⟩, rfl⟩))
      go_big_quiet_step (fail)
      refine wpQuiet_nil ?_
      intro n
      go_wp2_with fail
      go_ret
      exact ⟨ret_int E.out, HBn.out n⟩
    · have f2 : (r.kind == 2) = false := by simpa using t2
      by_cases t1 : r.kind = 1
      · rw [t1] at x1
        have E := Lib.hid (show orL [guardE q.msgs.length r.guards, setE q.states.length r.ex, setE q.states.length r.fa, shE q.vals.length r.rd r.wr, setE q.msgs.length r.send] = partE q r by unfold partE; rw [if_neg t3, if_neg t2, if_pos t1]; simp only [orL_or]; rw [show orL [] = 0 from rfl, orE_right])
        clear t1 t2 t3 f2 f3
        go_upto_region 11 with (fail)
        refine wp_cls_tail 25 (by kernel_rfl) (by kernel_rfl) ?_
        simp only [List.take_succ_cons, List.take_zero]
        iterate 5 go_big_quiet_step (fail)
        go_big_quiet_step (((with_reducible refine (guardsError_any q.msgs.length HM.out (K7.out.below ThEl.stays (HBn.out _))).mono ?_); rintro e w1 ⟨rfl, hb⟩; exact ⟨rfl, ⟨w1, thenBelow (WIn.ok _) hb⟩, rfl⟩))
        iterate 3 go_big_quiet_step (fail)
        go_big_quiet_step (((with_reducible refine (setError_any q.states.length HN.out (K8.out.below (HBn.out _))).mono ?_); rintro e w1 ⟨rfl, hb⟩; exact ⟨rfl, ⟨w1, thenBelow (WIn.ok _) hb⟩, rfl⟩))
        iterate 3 go_big_quiet_step (fail)
        go_big_quiet_step (((with_reducible refine (setError_any q.states.length HN.out (K9.out.below (HBn.out _))).mono ?_); rintro e w1 ⟨rfl, hb⟩; exact ⟨rfl, ⟨w1, thenBelow (WIn.ok _) hb⟩, rfl⟩))
        refine BigFrame.wpQuiet_want (by rfl) (fun K hK => ?_)
        refine quiet_ld Tryd.underlying76 info_rule (.tmp 3) (by rfl) (w.heap.size + 1) 0 cs (by rfl) HL.out (by rintro _ ⟨n, rfl⟩; exact rangeBlock (HGn.out n)) (hK _ ?_)
        clear hK K
        simp only [Act.put, List.setIfInBounds_toArray, List.set_cons_succ, List.set_cons_zero]
        iterate 3 go_big_quiet_step (fail)
        go_big_quiet_step (((with_reducible refine (sharedError_any q.vals.length HV.out (H.out.below (HBn.out _))).mono ?_); rintro e w1 ⟨rfl, hb⟩; exact ⟨rfl, ⟨w1, thenBelow (WIn.ok _) hb⟩, rfl⟩))
        iterate 5 go_big_quiet_step (fail)
        go_big_quiet_step (((with_reducible refine (setError_any q.msgs.length HM.out (K12.out.below (HBn.out _))).mono ?_); rintro e w1 ⟨rfl, hb⟩; exact ⟨rfl, ⟨w1, thenBelow (WIn.ok _) hb⟩, rfl⟩))
        refine wpQuiet_nil ?_
        intro m
        simp only [List.drop_succ_cons, List.drop_zero]
        have M := m
        go_wp2_with (go_at_call 50; refine (OrE_block [guardE q.msgs.length r.guards, setE q.states.length r.ex, setE q.states.length r.fa, shE q.vals.length r.rd r.wr, setE q.msgs.length r.send] (by exact heap_new m.val _ rfl) (by rfl) (by rfl) (by simp)).mono ?_; rintro e w1 ⟨rfl, rfl⟩)
        go_ret
        exact ⟨ret_int E.out, thenBelow (HBn.out m) (allocBelow m.val _)⟩
      · have f1 : (r.kind == 1) = false := by simpa using t1
        by_cases t4 : r.kind = 4
        · rw [t4] at x1
          have E := Lib.hid (show orL [setE q.states.length r.left, setE q.states.length r.right, setE q.states.length r.parent, posE r.pos q.top] = partE q r by unfold partE; rw [if_neg t3, if_neg t2, if_neg t1, if_pos t4]; simp only [orL_or]; rw [show orL [] = 0 from rfl, orE_right])
          clear t1 t2 t3 t4 f1 f2 f3
          go_upto_region 12 with (fail)
          refine wp_cls_tail 17 (by kernel_rfl) (by kernel_rfl) ?_
          simp only [List.take_succ_cons, List.take_zero]
          iterate 3 go_big_quiet_step (fail)
          go_big_quiet_step (((with_reducible refine (setError_any q.states.length HN.out (K14.out.below (HBn.out _))).mono ?_); rintro e w1 ⟨rfl, hb⟩; exact ⟨rfl, ⟨w1, thenBelow (WIn.ok _) hb⟩, rfl⟩))
          iterate 3 go_big_quiet_step (fail)
          go_big_quiet_step (((with_reducible refine (setError_any q.states.length HN.out (K15.out.below (HBn.out _))).mono ?_); rintro e w1 ⟨rfl, hb⟩; exact ⟨rfl, ⟨w1, thenBelow (WIn.ok _) hb⟩, rfl⟩))
          iterate 3 go_big_quiet_step (fail)
          go_big_quiet_step (((with_reducible refine (setError_any q.states.length HN.out (K16.out.below (HBn.out _))).mono ?_); rintro e w1 ⟨rfl, hb⟩; exact ⟨rfl, ⟨w1, thenBelow (WIn.ok _) hb⟩, rfl⟩))
          iterate 4 go_big_quiet_step (fail)
          go_big_quiet_step (((with_reducible refine (positionError_any r.pos q.top _).mono ?_); rintro e w1 ⟨rfl, hb⟩; subst hb; exact ⟨rfl, ⟨_, WIn.ok _⟩, rfl⟩))
          refine wpQuiet_nil ?_
          intro m
          simp only [List.drop_succ_cons, List.drop_zero]
          have M := m
          go_wp2_with (go_at_call 50; refine (OrE_block [setE q.states.length r.left, setE q.states.length r.right, setE q.states.length r.parent, posE r.pos q.top] (by exact heap_new m.val _ rfl) (by rfl) (by rfl) (by simp)).mono ?_; rintro e w1 ⟨rfl, rfl⟩)
          go_ret
          exact ⟨ret_int E.out, thenBelow (HBn.out m) (allocBelow m.val _)⟩
        · have f4 : (r.kind == 4) = false := by simpa using t4
          have E := Lib.hid (show dirE r.dir q.top = partE q r by unfold partE; rw [if_neg t3, if_neg t2, if_neg t1, if_neg t4])
          clear t1 t2 t3 t4
          go_wp2_with (go_at_call 120; (with_reducible refine (directionError_any r.dir q.top _).mono ?_); rintro e w1 ⟨rfl, rfl⟩)
          go_ret
          exact ⟨ret_int E.out, HB.out⟩
end Go.Proofs.YtmpbfdfjcfanoaaDoor
