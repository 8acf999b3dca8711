import Derived.ChangeArms
import Derived.ChangeMaps5
import Derived.Test.YtmpbfdfjcfanoaaDoorGrpjfkenafn
set_option linter.all false
namespace Go.Proofs.YtmpbfdfjcfanoaaDoor
open Go.RowKit Go.Deep Go.ChangeShapes Go.WideShapes Go.ChangeAt Go.Joins

theorem fcells_string : Tryd.prog.cellsOf 9 = 1 := by kernel_rfl
theorem fcells_ints : Tryd.prog.cellsOf 24 = 1 := by kernel_rfl
theorem cells_ths : Tryd.prog.cellsOf 49 = 1 := by kernel_rfl
theorem cells_strs : Tryd.prog.cellsOf 22 = 1 := by kernel_rfl
theorem cells_lns : Tryd.prog.cellsOf 23 = 1 := by kernel_rfl
theorem cells_rus : Tryd.prog.cellsOf 25 = 1 := by kernel_rfl
theorem cells_lnE : Tryd.prog.cellsOf 53 = 4 := by kernel_rfl
theorem cells_thE : Tryd.prog.cellsOf 55 = 6 := by kernel_rfl
theorem cells_ruE : Tryd.prog.cellsOf 76 = 18 := by kernel_rfl
theorem cells_famE : Tryd.prog.cellsOf 27 = 10 := by kernel_rfl
section
variable {H : Type} {enc : TypeId × Value → H} {w : World} {base : Nat} {sp : Nat → Bool} {held : Bool}
theorem str_of_trod {n : Nat} {cs : List Value} {x : DataW H × List MemPlace} (h : DataW.trod enc Tryd.prog w base sp held n 9 cs = some x) : ∃ s, StrEl 0 w cs s := by
  obtain ⟨s, hs, _, hn⟩ := DataW.trod_string Tryd.underlying9 h
  exact ⟨s, hs, hn⟩
set_option maxRecDepth 100000 in
theorem th_of_trod {n : Nat} {cs : List Value} {x : DataW H × List MemPlace} (h : DataW.trod enc Tryd.prog w base sp held n 55 cs = some x) : ∃ g, ThEl 0 w cs g := by
  obtain ⟨ys, m, _, _, hlen, _, hf⟩ := DataW.trod_struct Tryd.underlying55 h
  rw [cells_thE] at hlen
  match cs, hlen with
  | [v0, v1, v2, v3, v4, v5], _ =>
    have h0 : DataW.trod enc Tryd.prog w base sp held m 3 (([v0, v1, v2, v3, v4, v5].drop 0).take (Tryd.prog.cellsOf 3)) = ys[0]? := hf 0 _ rfl
    have h1 : DataW.trod enc Tryd.prog w base sp held m 3 (([v0, v1, v2, v3, v4, v5].drop 1).take (Tryd.prog.cellsOf 3)) = ys[1]? := hf 1 _ rfl
    have h2 : DataW.trod enc Tryd.prog w base sp held m 53 (([v0, v1, v2, v3, v4, v5].drop 2).take (Tryd.prog.cellsOf 53)) = ys[2]? := hf 2 _ rfl
    rw [cells_int] at h0 h1
    rw [cells_lin] at h2
    simp only [List.drop_zero, List.take_succ_cons, List.take_zero] at h0
    simp only [List.drop_succ_cons, List.drop_zero, List.take_succ_cons, List.take_zero] at h1 h2
    have hx : ∀ i, i < 3 → ∃ y, ys[i]? = some y := fun i hi => ⟨ys[i]'(by simp at *; omega), List.getElem?_eq_getElem _⟩
    obtain ⟨y0, e0⟩ := hx 0 (by omega)
    rw [e0] at h0
    obtain ⟨y1, e1⟩ := hx 1 (by omega)
    rw [e1] at h1
    obtain ⟨y2, e2⟩ := hx 2 (by omega)
    rw [e2] at h2
    obtain ⟨a, rfl, ha⟩ := int_of_trod h0
    obtain ⟨b, rfl, hb⟩ := int_of_trod h1
    obtain ⟨c0, c1, c2, c3, e, q⟩ := lin_of_trod h2
    simp only [List.cons.injEq, and_true] at e
    obtain ⟨rfl, rfl, rfl, rfl⟩ := e
    exact ⟨⟨a, b, ⟨c0, c1, c2, c3⟩⟩, rfl, ha, hb, q⟩
theorem ln_of_trod {n : Nat} {cs : List Value} {x : DataW H × List MemPlace} (h : DataW.trod enc Tryd.prog w base sp held n 53 cs = some x) : ∃ l, LnEl 0 w cs l := by
  obtain ⟨c0, c1, c2, c3, e, q⟩ := lin_of_trod h
  exact ⟨⟨c0, c1, c2, c3⟩, e, q⟩

set_option maxRecDepth 100000 in
set_option maxHeartbeats 1600000 in
theorem ru_of_trod {n : Nat} {cs : List Value} {x : DataW H × List MemPlace} (h : DataW.trod enc Tryd.prog w base sp held n 76 cs = some x) : ∃ r, RuEl 0 w cs r := by
  obtain ⟨ys, m, _, _, hlen, _, hf⟩ := DataW.trod_struct Tryd.underlying76 h
  rw [cells_ruE] at hlen
  match cs, hlen with
  | [v0, v1, v2, v3, v4, v5, v6, v7, v8, v9, v10, v11, v12, v13, v14, v15, v16, v17], _ =>
    have h0 : DataW.trod enc Tryd.prog w base sp held m 9 (([v0, v1, v2, v3, v4, v5, v6, v7, v8, v9, v10, v11, v12, v13, v14, v15, v16, v17].drop 0).take (Tryd.prog.cellsOf 9)) = ys[0]? := hf 0 _ rfl
    rw [fcells_string] at h0
    have h1 : DataW.trod enc Tryd.prog w base sp held m 3 (([v0, v1, v2, v3, v4, v5, v6, v7, v8, v9, v10, v11, v12, v13, v14, v15, v16, v17].drop 1).take (Tryd.prog.cellsOf 3)) = ys[1]? := hf 1 _ rfl
    rw [cells_int] at h1
    have h2 : DataW.trod enc Tryd.prog w base sp held m 3 (([v0, v1, v2, v3, v4, v5, v6, v7, v8, v9, v10, v11, v12, v13, v14, v15, v16, v17].drop 2).take (Tryd.prog.cellsOf 3)) = ys[2]? := hf 2 _ rfl
    rw [cells_int] at h2
    have h3 : DataW.trod enc Tryd.prog w base sp held m 3 (([v0, v1, v2, v3, v4, v5, v6, v7, v8, v9, v10, v11, v12, v13, v14, v15, v16, v17].drop 3).take (Tryd.prog.cellsOf 3)) = ys[3]? := hf 3 _ rfl
    rw [cells_int] at h3
    have h4 : DataW.trod enc Tryd.prog w base sp held m 3 (([v0, v1, v2, v3, v4, v5, v6, v7, v8, v9, v10, v11, v12, v13, v14, v15, v16, v17].drop 4).take (Tryd.prog.cellsOf 3)) = ys[4]? := hf 4 _ rfl
    rw [cells_int] at h4
    have h5 : DataW.trod enc Tryd.prog w base sp held m 3 (([v0, v1, v2, v3, v4, v5, v6, v7, v8, v9, v10, v11, v12, v13, v14, v15, v16, v17].drop 5).take (Tryd.prog.cellsOf 3)) = ys[5]? := hf 5 _ rfl
    rw [cells_int] at h5
    have h6 : DataW.trod enc Tryd.prog w base sp held m 24 (([v0, v1, v2, v3, v4, v5, v6, v7, v8, v9, v10, v11, v12, v13, v14, v15, v16, v17].drop 6).take (Tryd.prog.cellsOf 24)) = ys[6]? := hf 6 _ rfl
    rw [fcells_ints] at h6
    have h7 : DataW.trod enc Tryd.prog w base sp held m 49 (([v0, v1, v2, v3, v4, v5, v6, v7, v8, v9, v10, v11, v12, v13, v14, v15, v16, v17].drop 7).take (Tryd.prog.cellsOf 49)) = ys[7]? := hf 7 _ rfl
    rw [cells_ths] at h7
    have h8 : DataW.trod enc Tryd.prog w base sp held m 24 (([v0, v1, v2, v3, v4, v5, v6, v7, v8, v9, v10, v11, v12, v13, v14, v15, v16, v17].drop 8).take (Tryd.prog.cellsOf 24)) = ys[8]? := hf 8 _ rfl
    rw [fcells_ints] at h8
    have h9 : DataW.trod enc Tryd.prog w base sp held m 24 (([v0, v1, v2, v3, v4, v5, v6, v7, v8, v9, v10, v11, v12, v13, v14, v15, v16, v17].drop 9).take (Tryd.prog.cellsOf 24)) = ys[9]? := hf 9 _ rfl
    rw [fcells_ints] at h9
    have h10 : DataW.trod enc Tryd.prog w base sp held m 3 (([v0, v1, v2, v3, v4, v5, v6, v7, v8, v9, v10, v11, v12, v13, v14, v15, v16, v17].drop 10).take (Tryd.prog.cellsOf 3)) = ys[10]? := hf 10 _ rfl
    rw [cells_int] at h10
    have h11 : DataW.trod enc Tryd.prog w base sp held m 3 (([v0, v1, v2, v3, v4, v5, v6, v7, v8, v9, v10, v11, v12, v13, v14, v15, v16, v17].drop 11).take (Tryd.prog.cellsOf 3)) = ys[11]? := hf 11 _ rfl
    rw [cells_int] at h11
    have h12 : DataW.trod enc Tryd.prog w base sp held m 24 (([v0, v1, v2, v3, v4, v5, v6, v7, v8, v9, v10, v11, v12, v13, v14, v15, v16, v17].drop 12).take (Tryd.prog.cellsOf 24)) = ys[12]? := hf 12 _ rfl
    rw [fcells_ints] at h12
    have h13 : DataW.trod enc Tryd.prog w base sp held m 3 (([v0, v1, v2, v3, v4, v5, v6, v7, v8, v9, v10, v11, v12, v13, v14, v15, v16, v17].drop 13).take (Tryd.prog.cellsOf 3)) = ys[13]? := hf 13 _ rfl
    rw [cells_int] at h13
    have h14 : DataW.trod enc Tryd.prog w base sp held m 24 (([v0, v1, v2, v3, v4, v5, v6, v7, v8, v9, v10, v11, v12, v13, v14, v15, v16, v17].drop 14).take (Tryd.prog.cellsOf 24)) = ys[14]? := hf 14 _ rfl
    rw [fcells_ints] at h14
    have h15 : DataW.trod enc Tryd.prog w base sp held m 24 (([v0, v1, v2, v3, v4, v5, v6, v7, v8, v9, v10, v11, v12, v13, v14, v15, v16, v17].drop 15).take (Tryd.prog.cellsOf 24)) = ys[15]? := hf 15 _ rfl
    rw [fcells_ints] at h15
    have h16 : DataW.trod enc Tryd.prog w base sp held m 24 (([v0, v1, v2, v3, v4, v5, v6, v7, v8, v9, v10, v11, v12, v13, v14, v15, v16, v17].drop 16).take (Tryd.prog.cellsOf 24)) = ys[16]? := hf 16 _ rfl
    rw [fcells_ints] at h16
    have h17 : DataW.trod enc Tryd.prog w base sp held m 3 (([v0, v1, v2, v3, v4, v5, v6, v7, v8, v9, v10, v11, v12, v13, v14, v15, v16, v17].drop 17).take (Tryd.prog.cellsOf 3)) = ys[17]? := hf 17 _ rfl
    rw [cells_int] at h17
    simp only [List.drop_zero, List.take_succ_cons, List.take_zero] at h0
    simp only [List.drop_succ_cons, List.drop_zero, List.take_succ_cons, List.take_zero] at h1 h2 h3 h4 h5 h6 h7 h8 h9 h10 h11 h12 h13 h14 h15 h16 h17
    have hx : ∀ i, i < 18 → ∃ y, ys[i]? = some y := fun i hi => ⟨ys[i]'(by simp at *; omega), List.getElem?_eq_getElem _⟩
    obtain ⟨y0, e0⟩ := hx 0 (by omega)
    rw [e0] at h0
    obtain ⟨x0, r0, q0⟩ := str_of_trod (w := w) h0
    simp only [List.cons.injEq, and_true] at r0
    subst r0
    obtain ⟨y1, e1⟩ := hx 1 (by omega)
    rw [e1] at h1
    obtain ⟨x1, rfl, q1⟩ := int_of_trod h1
    obtain ⟨y2, e2⟩ := hx 2 (by omega)
    rw [e2] at h2
    obtain ⟨x2, rfl, q2⟩ := int_of_trod h2
    obtain ⟨y3, e3⟩ := hx 3 (by omega)
    rw [e3] at h3
    obtain ⟨x3, rfl, q3⟩ := int_of_trod h3
    obtain ⟨y4, e4⟩ := hx 4 (by omega)
    rw [e4] at h4
    obtain ⟨x4, rfl, q4⟩ := int_of_trod h4
    obtain ⟨y5, e5⟩ := hx 5 (by omega)
    rw [e5] at h5
    obtain ⟨x5, rfl, q5⟩ := int_of_trod h5
    obtain ⟨y6, e6⟩ := hx 6 (by omega)
    rw [e6] at h6
    obtain ⟨x6, q6⟩ := ints_of_trod Tryd.underlying24 Tryd.underlying3 cells_int h6
    obtain ⟨y7, e7⟩ := hx 7 (by omega)
    rw [e7] at h7
    obtain ⟨x7, q7⟩ := sl_of_trod Tryd.underlying49 cells_thE (by omega) (fun _ _ _ hh _ => th_of_trod hh) h7
    obtain ⟨y8, e8⟩ := hx 8 (by omega)
    rw [e8] at h8
    obtain ⟨x8, q8⟩ := ints_of_trod Tryd.underlying24 Tryd.underlying3 cells_int h8
    obtain ⟨y9, e9⟩ := hx 9 (by omega)
    rw [e9] at h9
    obtain ⟨x9, q9⟩ := ints_of_trod Tryd.underlying24 Tryd.underlying3 cells_int h9
    obtain ⟨y10, e10⟩ := hx 10 (by omega)
    rw [e10] at h10
    obtain ⟨x10, rfl, q10⟩ := int_of_trod h10
    obtain ⟨y11, e11⟩ := hx 11 (by omega)
    rw [e11] at h11
    obtain ⟨x11, rfl, q11⟩ := int_of_trod h11
    obtain ⟨y12, e12⟩ := hx 12 (by omega)
    rw [e12] at h12
    obtain ⟨x12, q12⟩ := ints_of_trod Tryd.underlying24 Tryd.underlying3 cells_int h12
    obtain ⟨y13, e13⟩ := hx 13 (by omega)
    rw [e13] at h13
    obtain ⟨x13, rfl, q13⟩ := int_of_trod h13
    obtain ⟨y14, e14⟩ := hx 14 (by omega)
    rw [e14] at h14
    obtain ⟨x14, q14⟩ := ints_of_trod Tryd.underlying24 Tryd.underlying3 cells_int h14
    obtain ⟨y15, e15⟩ := hx 15 (by omega)
    rw [e15] at h15
    obtain ⟨x15, q15⟩ := ints_of_trod Tryd.underlying24 Tryd.underlying3 cells_int h15
    obtain ⟨y16, e16⟩ := hx 16 (by omega)
    rw [e16] at h16
    obtain ⟨x16, q16⟩ := ints_of_trod Tryd.underlying24 Tryd.underlying3 cells_int h16
    obtain ⟨y17, e17⟩ := hx 17 (by omega)
    rw [e17] at h17
    obtain ⟨x17, rfl, q17⟩ := int_of_trod h17
    exact ⟨⟨x0, x1, x2, x3, x4, x5, x6, x7, x8, x9, x10, x11, x12, x13, x14, x15, x16, x17⟩, v6, v7, v8, v9, v12, v14, v15, v16, rfl, q0, q1, q2, q3, q4, q5, q6, q7, q8, q9, q10, q11, q12, q13, q14, q15, q16, q17⟩
set_option maxRecDepth 100000 in
set_option maxHeartbeats 1600000 in
theorem fam_of_trod {n : Nat} {cs : List Value} {x : DataW H × List MemPlace} (h : DataW.trod enc Tryd.prog w base sp held n 27 cs = some x) : ∃ v q, v = .agg cs.toArray ∧ IsFam 0 w v q := by
  obtain ⟨ys, m, _, _, hlen, _, hf⟩ := DataW.trod_struct Tryd.underlying27 h
  rw [cells_famE] at hlen
  match cs, hlen with
  | [v0, v1, v2, v3, v4, v5, v6, v7, v8, v9], _ =>
    have h0 : DataW.trod enc Tryd.prog w base sp held m 9 (([v0, v1, v2, v3, v4, v5, v6, v7, v8, v9].drop 0).take (Tryd.prog.cellsOf 9)) = ys[0]? := hf 0 _ rfl
    rw [fcells_string] at h0
    have h1 : DataW.trod enc Tryd.prog w base sp held m 3 (([v0, v1, v2, v3, v4, v5, v6, v7, v8, v9].drop 1).take (Tryd.prog.cellsOf 3)) = ys[1]? := hf 1 _ rfl
    rw [cells_int] at h1
    have h2 : DataW.trod enc Tryd.prog w base sp held m 22 (([v0, v1, v2, v3, v4, v5, v6, v7, v8, v9].drop 2).take (Tryd.prog.cellsOf 22)) = ys[2]? := hf 2 _ rfl
    rw [cells_strs] at h2
    have h3 : DataW.trod enc Tryd.prog w base sp held m 22 (([v0, v1, v2, v3, v4, v5, v6, v7, v8, v9].drop 3).take (Tryd.prog.cellsOf 22)) = ys[3]? := hf 3 _ rfl
    rw [cells_strs] at h3
    have h4 : DataW.trod enc Tryd.prog w base sp held m 22 (([v0, v1, v2, v3, v4, v5, v6, v7, v8, v9].drop 4).take (Tryd.prog.cellsOf 22)) = ys[4]? := hf 4 _ rfl
    rw [cells_strs] at h4
    have h5 : DataW.trod enc Tryd.prog w base sp held m 3 (([v0, v1, v2, v3, v4, v5, v6, v7, v8, v9].drop 5).take (Tryd.prog.cellsOf 3)) = ys[5]? := hf 5 _ rfl
    rw [cells_int] at h5
    have h6 : DataW.trod enc Tryd.prog w base sp held m 23 (([v0, v1, v2, v3, v4, v5, v6, v7, v8, v9].drop 6).take (Tryd.prog.cellsOf 23)) = ys[6]? := hf 6 _ rfl
    rw [cells_lns] at h6
    have h7 : DataW.trod enc Tryd.prog w base sp held m 24 (([v0, v1, v2, v3, v4, v5, v6, v7, v8, v9].drop 7).take (Tryd.prog.cellsOf 24)) = ys[7]? := hf 7 _ rfl
    rw [fcells_ints] at h7
    have h8 : DataW.trod enc Tryd.prog w base sp held m 24 (([v0, v1, v2, v3, v4, v5, v6, v7, v8, v9].drop 8).take (Tryd.prog.cellsOf 24)) = ys[8]? := hf 8 _ rfl
    rw [fcells_ints] at h8
    have h9 : DataW.trod enc Tryd.prog w base sp held m 25 (([v0, v1, v2, v3, v4, v5, v6, v7, v8, v9].drop 9).take (Tryd.prog.cellsOf 25)) = ys[9]? := hf 9 _ rfl
    rw [cells_rus] at h9
    simp only [List.drop_zero, List.take_succ_cons, List.take_zero] at h0
    simp only [List.drop_succ_cons, List.drop_zero, List.take_succ_cons, List.take_zero] at h1 h2 h3 h4 h5 h6 h7 h8 h9
    have hx : ∀ i, i < 10 → ∃ y, ys[i]? = some y := fun i hi => ⟨ys[i]'(by simp at *; omega), List.getElem?_eq_getElem _⟩
    obtain ⟨y0, e0⟩ := hx 0 (by omega)
    rw [e0] at h0
    obtain ⟨x0, r0, q0⟩ := str_of_trod (w := w) h0
    simp only [List.cons.injEq, and_true] at r0
    subst r0
    obtain ⟨y1, e1⟩ := hx 1 (by omega)
    rw [e1] at h1
    obtain ⟨x1, rfl, q1⟩ := int_of_trod h1
    obtain ⟨y2, e2⟩ := hx 2 (by omega)
    rw [e2] at h2
    obtain ⟨x2, q2⟩ := sl_of_trod Tryd.underlying22 fcells_string (by omega) (fun _ _ _ hh _ => str_of_trod hh) h2
    obtain ⟨y3, e3⟩ := hx 3 (by omega)
    rw [e3] at h3
    obtain ⟨x3, q3⟩ := sl_of_trod Tryd.underlying22 fcells_string (by omega) (fun _ _ _ hh _ => str_of_trod hh) h3
    obtain ⟨y4, e4⟩ := hx 4 (by omega)
    rw [e4] at h4
    obtain ⟨x4, q4⟩ := sl_of_trod Tryd.underlying22 fcells_string (by omega) (fun _ _ _ hh _ => str_of_trod hh) h4
    obtain ⟨y5, e5⟩ := hx 5 (by omega)
    rw [e5] at h5
    obtain ⟨x5, rfl, q5⟩ := int_of_trod h5
    obtain ⟨y6, e6⟩ := hx 6 (by omega)
    rw [e6] at h6
    obtain ⟨x6, q6⟩ := sl_of_trod Tryd.underlying23 cells_lnE (by omega) (fun _ _ _ hh _ => ln_of_trod hh) h6
    obtain ⟨y7, e7⟩ := hx 7 (by omega)
    rw [e7] at h7
    obtain ⟨x7, q7⟩ := ints_of_trod Tryd.underlying24 Tryd.underlying3 cells_int h7
    obtain ⟨y8, e8⟩ := hx 8 (by omega)
    rw [e8] at h8
    obtain ⟨x8, q8⟩ := ints_of_trod Tryd.underlying24 Tryd.underlying3 cells_int h8
    obtain ⟨y9, e9⟩ := hx 9 (by omega)
    rw [e9] at h9
    obtain ⟨x9, q9⟩ := sl_of_trod Tryd.underlying25 cells_ruE (by omega) (fun _ _ _ hh _ => ru_of_trod hh) h9
    exact ⟨_, ⟨x0, x1, x2, x3, x4, x5, x6, x7, x8, x9⟩, rfl, v2, v3, v4, v6, v7, v8, v9, rfl, q0, q1, q2, q3, q4, q5, q6, q7, q8, q9⟩
end
set_option maxRecDepth 100000 in
theorem arg_fam {H : Type} {enc : TypeId × Value → H} {w : World} {r : Reach} {b0 : Nat} {v : Value} {d : DataW H} {p : List MemPlace} (hv : Value.okWide Tryd.prog w r b0 27 v) (h : DataW.Trod enc Tryd.prog w 0 (fun _ => true) true 27 v d p) :
    ∃ q, IsFam 0 w v q := by
  obtain ⟨cs, rfl, _⟩ := okWide_struct Tryd.underlying27 hv
  obtain ⟨fuel, hf⟩ := h
  obtain ⟨v', q, e, hq⟩ := fam_of_trod hf
  have e2 : v' = .agg cs := by rw [e]; simp [Value.cells]
  exact ⟨q, e2 ▸ hq⟩
end Go.Proofs.YtmpbfdfjcfanoaaDoor

namespace Go.Proofs.YtmpbfdfjcfanoaaDoor
open Go.RowKit Go.Deep
end Go.Proofs.YtmpbfdfjcfanoaaDoor

namespace Go.Proofs.YtmpbfdfjcfanoaaDoor
open Go.RowKit Go.Deep
end Go.Proofs.YtmpbfdfjcfanoaaDoor
