import Derived.Deep.DeepCutAuto
import Derived.Outline
import Derived.Test.YtoefmdjgnabgfaaGrpcgofhbdb
import Derived.Test.YtoefmdjgnabgfaaGrpdaleiikp
set_option linter.all false
namespace Go.Proofs.Ytoefmdjgnabgfaa
open Go.RowKit Go.Deep
theorem Yp (lo : Nat) (w : World) : IsInts lo w (.slice none 0 0) [] := ⟨none, 0, rfl, by simp, by simp [maxLen], by simp, .inl rfl⟩
theorem ths_nil (lo : Nat) (w : World) : IsSl 6 ThEl lo w (.slice none 0 0) [] := ⟨none, 0, rfl, by simp, by simp [maxLen], by simp, .inl rfl⟩
theorem bare_end {lo : Nat} {w w' : World} {cs' : List Value} {B : Ru} {e : Ending} (hb : Below w.heap.size w w') (he : e = .returned (.agg cs'.toArray)) (h : ∀ W, Below w.heap.size w W → RuEl lo W cs' B) : e = .returned (.agg cs'.toArray) ∧ RuEl lo w' cs' B ∧ Below w.heap.size w w' :=
  ⟨he, h w' hb, hb⟩
def bareC1 (cs : List Value) : List Value := ((((((((cs).set 2 (.int .i64 0)).set 3 (.int .i64 0)).set 7 (.slice none 0 0)).set 8 (.slice none 0 0)).set 9 (.slice none 0 0)).set 12 (.slice none 0 0)).set 10 (.int .i64 (-1))).set 11 (.int .i64 (-1))
def bareC2 (cs : List Value) : List Value := ((((((cs).set 2 (.int .i64 0)).set 3 (.int .i64 0)).set 4 (.int .i64 0)).set 5 (.int .i64 0)).set 10 (.int .i64 (-1))).set 11 (.int .i64 (-1))
def bareC3 (cs : List Value) : List Value := (((((cs).set 2 (.int .i64 0)).set 3 (.int .i64 0)).set 6 (.slice none 0 0)).set 10 (.int .i64 (-1))).set 11 (.int .i64 (-1))
def bareC4t (cs : List Value) : List Value := ((((((cs).set 2 (.int .i64 0)).set 3 (.int .i64 0)).set 13 (.int .i64 0)).set 14 (.slice none 0 0)).set 15 (.slice none 0 0)).set 16 (.slice none 0 0)
def bareC4n (cs : List Value) : List Value := (((((cs).set 2 (.int .i64 0)).set 3 (.int .i64 0)).set 13 (.int .i64 0)).set 14 (.slice none 0 0)).set 15 (.slice none 0 0)
def bareC5 (cs : List Value) : List Value := (((((cs).set 2 (.int .i64 0)).set 3 (.int .i64 0)).set 4 (.int .i64 0)).set 5 (.int .i64 0)).set 17 (.int .i64 0)
def bareC (kind top : Int) (cs : List Value) : List Value := if kind = 1 then bareC1 cs else if kind = 2 then bareC2 cs else if kind = 3 then bareC3 cs else if kind = 4 then (if top = 4 then bareC4t cs else bareC4n cs) else bareC5 cs
theorem bareC_1 (top : Int) (cs : List Value) : bareC 1 top cs = bareC1 cs := by unfold bareC; rw [if_pos rfl]
theorem bareC_2 (top : Int) (cs : List Value) : bareC 2 top cs = bareC2 cs := by unfold bareC; rw [if_neg (by decide), if_pos rfl]
theorem bareC_3 (top : Int) (cs : List Value) : bareC 3 top cs = bareC3 cs := by unfold bareC; rw [if_neg (by decide), if_neg (by decide), if_pos rfl]
theorem bareC_4t (cs : List Value) : bareC 4 4 cs = bareC4t cs := by unfold bareC; rw [if_neg (by decide), if_neg (by decide), if_neg (by decide), if_pos rfl, if_pos rfl]
theorem bareC_4n (top : Int) (cs : List Value) (h : top ≠ 4) : bareC 4 top cs = bareC4n cs := by unfold bareC; rw [if_neg (by decide), if_neg (by decide), if_neg (by decide), if_pos rfl, if_neg h]
theorem bareC_5 (top : Int) (cs : List Value) : bareC 5 top cs = bareC5 cs := by unfold bareC; rw [if_neg (by decide), if_neg (by decide), if_neg (by decide), if_neg (by decide)]
theorem Z6 : (Try.prog.info? 50).map (·.size) = some 18 := by kernel_rfl
theorem ZY {w : World} {g i : Nat} {cur cur' : Array Value} {t : TypeId} {v : Value} (h : w.heap[g]? = some (.cells cur t (0, 0))) (e : cur.setIfInBounds i v = cur') : (w.setCell ⟨g, i, none⟩ v).heap[g]? = some (.cells cur' t (0, 0)) := by rw [← e]; exact heap_setCell_same w g i cur t v h
theorem YI : I64 0 := by constructor <;> omega
theorem KM : I64 (-1) := by constructor <;> omega
set_option maxHeartbeats 1600000 in
theorem withoutUsed_1 {lo : Nat} {w : World} {cs : List Value} {nm : ByteArray} {frm tw pf pt rd wr pos dir : Int} {resp ex fa send left right parent : List Int} {guards : List Th} (top : Int) (h : RuEl lo w cs ⟨nm, 1, frm, tw, pf, pt, resp, guards, ex, fa, rd, wr, send, pos, left, right, parent, dir⟩) :
    Calls Try.prog 97 #[.agg cs.toArray, .int .i64 top] w fun e w' => e = .returned (.agg (bareC1 cs).toArray) ∧ RuEl lo w' (bareC1 cs) ⟨nm, 1, 0, 0, pf, pt, resp, [], [], [], (-1), (-1), [], pos, left, right, parent, dir⟩ ∧ Below w.heap.size w w' := by
  obtain ⟨v6, v7, v8, v9, v12, v14, v15, v16, rfl, h0, h1, h2, h3, h4, h5, h6, h7, h8, h9, h10, h11, h12, h13, h14, h15, h16, h17⟩ := h
  dsimp only at h0 h1 h2 h3 h4 h5 h6 h7 h8 h9 h10 h11 h12 h13 h14 h15 h16 h17 ⊢
  obtain ⟨a6, c6, rfl⟩ := h6.shape
  obtain ⟨a7, c7, rfl⟩ := h7.shape
  obtain ⟨a8, c8, rfl⟩ := h8.shape
  obtain ⟨a9, c9, rfl⟩ := h9.shape
  obtain ⟨a12, c12, rfl⟩ := h12.shape
  obtain ⟨a14, c14, rfl⟩ := h14.shape
  obtain ⟨a15, c15, rfl⟩ := h15.shape
  obtain ⟨a16, c16, rfl⟩ := h16.shape
  have H0 := Lib.hid h0
  have H1 := Lib.hid h1
  have H2 := Lib.hid h2
  have H3 := Lib.hid h3
  have H4 := Lib.hid h4
  have H5 := Lib.hid h5
  have H6 := Lib.hid h6
  have H7 := Lib.hid h7
  have H8 := Lib.hid h8
  have H9 := Lib.hid h9
  have H10 := Lib.hid h10
  have H11 := Lib.hid h11
  have H12 := Lib.hid h12
  have H13 := Lib.hid h13
  have H14 := Lib.hid h14
  have H15 := Lib.hid h15
  have H16 := Lib.hid h16
  have H17 := Lib.hid h17
  clear h0 h1 h2 h3 h4 h5 h6 h7 h8 h9 h10 h11 h12 h13 h14 h15 h16 h17
  go_enter Try.func97, Try.ntmps97
  go_upto_region 1 with (fail)
  obtain ⟨W, hW⟩ : ∃ W : World, W = (w.alloc (.cells #[.string nm, .int .i64 1, .int .i64 frm, .int .i64 tw, .int .i64 pf, .int .i64 pt, .slice a6 resp.length c6, .slice a7 guards.length c7, .slice a8 ex.length c8, .slice a9 fa.length c9, .int .i64 rd, .int .i64 wr, .slice a12 send.length c12, .int .i64 pos, .slice a14 left.length c14, .slice a15 right.length c15, .slice a16 parent.length c16, .int .i64 dir] 50)).alloc (.cells #[.string ⟨#[]⟩, .int .i64 0, .int .i64 0, .int .i64 0, .int .i64 0, .int .i64 0, .slice none 0 0, .slice none 0 0, .slice none 0 0, .slice none 0 0, .int .i64 0, .int .i64 0, .slice none 0 0, .int .i64 0, .slice none 0 0, .slice none 0 0, .slice none 0 0, .int .i64 0] 50) := ⟨_, rfl⟩
  rw [← hW]
  have HB := Lib.hid (show Below w.heap.size w W by rw [hW]; show Below _ _ _; go_grown)
  have HG := Lib.hid (show W.heap[w.heap.size]? = some (.cells #[.string nm, .int .i64 1, .int .i64 frm, .int .i64 tw, .int .i64 pf, .int .i64 pt, .slice a6 resp.length c6, .slice a7 guards.length c7, .slice a8 ex.length c8, .slice a9 fa.length c9, .int .i64 rd, .int .i64 wr, .slice a12 send.length c12, .int .i64 pos, .slice a14 left.length c14, .slice a15 right.length c15, .slice a16 parent.length c16, .int .i64 dir] 50 (0, 0)) by rw [hW]; exact (KN _ _ (by simp)).trans (Yd _ _ rfl))
  have HZ := Lib.hid (show W.heap[w.heap.size + 1]? = some (.cells #[.string ⟨#[]⟩, .int .i64 0, .int .i64 0, .int .i64 0, .int .i64 0, .int .i64 0, .slice none 0 0, .slice none 0 0, .slice none 0 0, .slice none 0 0, .int .i64 0, .int .i64 0, .slice none 0 0, .int .i64 0, .slice none 0 0, .slice none 0 0, .slice none 0 0, .int .i64 0] 50 (0, 0)) by rw [hW]; exact Yd _ _ (by simp))
  clear hW
  have x1 : W.cell? ⟨w.heap.size, 1, none⟩ = some (.int .i64 1) := ZF HG.out 1 rfl
  have x2 : W.cell? ⟨w.heap.size, 2, none⟩ = some (.int .i64 frm) := ZF HG.out 2 rfl
  have x3 : W.cell? ⟨w.heap.size, 3, none⟩ = some (.int .i64 tw) := ZF HG.out 3 rfl
  have x7 : W.cell? ⟨w.heap.size, 7, none⟩ = some (.slice a7 guards.length c7) := ZF HG.out 7 rfl
  have x8 : W.cell? ⟨w.heap.size, 8, none⟩ = some (.slice a8 ex.length c8) := ZF HG.out 8 rfl
  have x9 : W.cell? ⟨w.heap.size, 9, none⟩ = some (.slice a9 fa.length c9) := ZF HG.out 9 rfl
  have x10 : W.cell? ⟨w.heap.size, 10, none⟩ = some (.int .i64 rd) := ZF HG.out 10 rfl
  have x11 : W.cell? ⟨w.heap.size, 11, none⟩ = some (.int .i64 wr) := ZF HG.out 11 rfl
  have x12 : W.cell? ⟨w.heap.size, 12, none⟩ = some (.slice a12 send.length c12) := ZF HG.out 12 rfl
  have f0 : ∀ o, W.frozen? ⟨w.heap.size, o, none⟩ = false := frozenB HG.out
  go_upto_region 18 with (fail)
  obtain ⟨X, hX⟩ : ∃ X : World, X = ((((((((W).setCell ⟨w.heap.size, 2, none⟩ (.int .i64 0)).setCell ⟨w.heap.size, 3, none⟩ (.int .i64 0)).setCell ⟨w.heap.size, 7, none⟩ (.slice none 0 0)).setCell ⟨w.heap.size, 8, none⟩ (.slice none 0 0)).setCell ⟨w.heap.size, 9, none⟩ (.slice none 0 0)).setCell ⟨w.heap.size, 12, none⟩ (.slice none 0 0)).setCell ⟨w.heap.size, 10, none⟩ (.int .i64 (-1))).setCell ⟨w.heap.size, 11, none⟩ (.int .i64 (-1)) := ⟨_, rfl⟩
  rw [← hX]
  have GX := Lib.hid (show X.heap[w.heap.size]? = some (.cells (#[.string nm, .int .i64 1, .int .i64 0, .int .i64 0, .int .i64 pf, .int .i64 pt, .slice a6 resp.length c6, .slice none 0 0, .slice none 0 0, .slice none 0 0, .int .i64 (-1), .int .i64 (-1), .slice none 0 0, .int .i64 pos, .slice a14 left.length c14, .slice a15 right.length c15, .slice a16 parent.length c16, .int .i64 dir]) 50 (0, 0)) by rw [hX]; exact (ZY (cur' := #[.string nm, .int .i64 1, .int .i64 0, .int .i64 0, .int .i64 pf, .int .i64 pt, .slice a6 resp.length c6, .slice none 0 0, .slice none 0 0, .slice none 0 0, .int .i64 (-1), .int .i64 (-1), .slice none 0 0, .int .i64 pos, .slice a14 left.length c14, .slice a15 right.length c15, .slice a16 parent.length c16, .int .i64 dir]) ((ZY (cur' := #[.string nm, .int .i64 1, .int .i64 0, .int .i64 0, .int .i64 pf, .int .i64 pt, .slice a6 resp.length c6, .slice none 0 0, .slice none 0 0, .slice none 0 0, .int .i64 (-1), .int .i64 wr, .slice none 0 0, .int .i64 pos, .slice a14 left.length c14, .slice a15 right.length c15, .slice a16 parent.length c16, .int .i64 dir]) ((ZY (cur' := #[.string nm, .int .i64 1, .int .i64 0, .int .i64 0, .int .i64 pf, .int .i64 pt, .slice a6 resp.length c6, .slice none 0 0, .slice none 0 0, .slice none 0 0, .int .i64 rd, .int .i64 wr, .slice none 0 0, .int .i64 pos, .slice a14 left.length c14, .slice a15 right.length c15, .slice a16 parent.length c16, .int .i64 dir]) ((ZY (cur' := #[.string nm, .int .i64 1, .int .i64 0, .int .i64 0, .int .i64 pf, .int .i64 pt, .slice a6 resp.length c6, .slice none 0 0, .slice none 0 0, .slice none 0 0, .int .i64 rd, .int .i64 wr, .slice a12 send.length c12, .int .i64 pos, .slice a14 left.length c14, .slice a15 right.length c15, .slice a16 parent.length c16, .int .i64 dir]) ((ZY (cur' := #[.string nm, .int .i64 1, .int .i64 0, .int .i64 0, .int .i64 pf, .int .i64 pt, .slice a6 resp.length c6, .slice none 0 0, .slice none 0 0, .slice a9 fa.length c9, .int .i64 rd, .int .i64 wr, .slice a12 send.length c12, .int .i64 pos, .slice a14 left.length c14, .slice a15 right.length c15, .slice a16 parent.length c16, .int .i64 dir]) ((ZY (cur' := #[.string nm, .int .i64 1, .int .i64 0, .int .i64 0, .int .i64 pf, .int .i64 pt, .slice a6 resp.length c6, .slice none 0 0, .slice a8 ex.length c8, .slice a9 fa.length c9, .int .i64 rd, .int .i64 wr, .slice a12 send.length c12, .int .i64 pos, .slice a14 left.length c14, .slice a15 right.length c15, .slice a16 parent.length c16, .int .i64 dir]) ((ZY (cur' := #[.string nm, .int .i64 1, .int .i64 0, .int .i64 0, .int .i64 pf, .int .i64 pt, .slice a6 resp.length c6, .slice a7 guards.length c7, .slice a8 ex.length c8, .slice a9 fa.length c9, .int .i64 rd, .int .i64 wr, .slice a12 send.length c12, .int .i64 pos, .slice a14 left.length c14, .slice a15 right.length c15, .slice a16 parent.length c16, .int .i64 dir]) ((ZY (cur' := #[.string nm, .int .i64 1, .int .i64 0, .int .i64 tw, .int .i64 pf, .int .i64 pt, .slice a6 resp.length c6, .slice a7 guards.length c7, .slice a8 ex.length c8, .slice a9 fa.length c9, .int .i64 rd, .int .i64 wr, .slice a12 send.length c12, .int .i64 pos, .slice a14 left.length c14, .slice a15 right.length c15, .slice a16 parent.length c16, .int .i64 dir]) (HG.out) (by simp))) (by simp))) (by simp))) (by simp))) (by simp))) (by simp))) (by simp))) (by simp)))
  have ZX := Lib.hid (show X.heap[w.heap.size + 1]? = some (.cells #[.string ⟨#[]⟩, .int .i64 0, .int .i64 0, .int .i64 0, .int .i64 0, .int .i64 0, .slice none 0 0, .slice none 0 0, .slice none 0 0, .slice none 0 0, .int .i64 0, .int .i64 0, .slice none 0 0, .int .i64 0, .slice none 0 0, .slice none 0 0, .slice none 0 0, .int .i64 0] 50 (0, 0)) by rw [hX]; exact ((Below.heap_setCell _ ⟨w.heap.size, 11, none⟩ _ _ (by simp)).trans (((Below.heap_setCell _ ⟨w.heap.size, 10, none⟩ _ _ (by simp)).trans (((Below.heap_setCell _ ⟨w.heap.size, 12, none⟩ _ _ (by simp)).trans (((Below.heap_setCell _ ⟨w.heap.size, 9, none⟩ _ _ (by simp)).trans (((Below.heap_setCell _ ⟨w.heap.size, 8, none⟩ _ _ (by simp)).trans (((Below.heap_setCell _ ⟨w.heap.size, 7, none⟩ _ _ (by simp)).trans (((Below.heap_setCell _ ⟨w.heap.size, 3, none⟩ _ _ (by simp)).trans (((Below.heap_setCell _ ⟨w.heap.size, 2, none⟩ _ _ (by simp)).trans (HZ.out)))))))))))))))))
  have HX := Lib.hid (show Below w.heap.size w X by rw [hX]; exact ((((((((HB.out).setCell (by simp) _).setCell (by simp) _).setCell (by simp) _).setCell (by simp) _).setCell (by simp) _).setCell (by simp) _).setCell (by simp) _).setCell (by simp) _)
  clear hX x1 x2 x3 x7 x8 x9 x10 x11 x12 f0
  refine wp_region_lit ?_
  refine ld_mid Try.underlying50 Z6 (by rfl) (.tmp 2) (by rfl) w.heap.size 0 [.string nm, .int .i64 1, .int .i64 0, .int .i64 0, .int .i64 pf, .int .i64 pt, .slice a6 resp.length c6, .slice none 0 0, .slice none 0 0, .slice none 0 0, .int .i64 (-1), .int .i64 (-1), .slice none 0 0, .int .i64 pos, .slice a14 left.length c14, .slice a15 right.length c15, .slice a16 parent.length c16, .int .i64 dir] (by rfl) (by rfl) (Yc GX.out) ?_
  refine Y8 (T := 50) Z6 (by rfl) (.tmp 4) (.tmp 41) (by rfl) (w.heap.size + 1) [.string nm, .int .i64 1, .int .i64 0, .int .i64 0, .int .i64 pf, .int .i64 pt, .slice a6 resp.length c6, .slice none 0 0, .slice none 0 0, .slice none 0 0, .int .i64 (-1), .int .i64 (-1), .slice none 0 0, .int .i64 pos, .slice a14 left.length c14, .slice a15 right.length c15, .slice a16 parent.length c16, .int .i64 dir] (by rfl) (by rfl) (by rfl) ZX.out (by rfl) (by simp [Value.oneCell']) (fun Z hZ hbl _ _ => ?_)
  have ZZ := Lib.hid hZ
  have ZB := Lib.hid (hbl _ _ (by omega) HX.out)
  clear hZ hbl
  go_wp2_with fail
  refine bodyPost_ret (v := .agg #[.string nm, .int .i64 1, .int .i64 0, .int .i64 0, .int .i64 pf, .int .i64 pt, .slice a6 resp.length c6, .slice none 0 0, .slice none 0 0, .slice none 0 0, .int .i64 (-1), .int .i64 (-1), .slice none 0 0, .int .i64 pos, .slice a14 left.length c14, .slice a15 right.length c15, .slice a16 parent.length c16, .int .i64 dir]) (results_cell_row (by rfl) _ _ (w.heap.size + 1) 50 _ (0, 0) _ (by rfl) ZZ.out Try.underlying50 rfl (by exact Z6)) rfl (bare_end (cs' := [.string nm, .int .i64 1, .int .i64 0, .int .i64 0, .int .i64 pf, .int .i64 pt, .slice a6 resp.length c6, .slice none 0 0, .slice none 0 0, .slice none 0 0, .int .i64 (-1), .int .i64 (-1), .slice none 0 0, .int .i64 pos, .slice a14 left.length c14, .slice a15 right.length c15, .slice a16 parent.length c16, .int .i64 dir]) ZB.out rfl (fun W hB => ?_))
  have HB := Lib.hid hB
  exact ⟨_, _, _, _, _, _, _, _, rfl, H0.out, H1.out, YI, YI, H4.out, H5.out, H6.out.below HB.out, ths_nil _ _, Yp _ _, Yp _ _, KM, KM, Yp _ _, H13.out, H14.out.below HB.out, H15.out.below HB.out, H16.out.below HB.out, H17.out⟩
set_option maxHeartbeats 1600000 in
theorem withoutUsed_2 {lo : Nat} {w : World} {cs : List Value} {nm : ByteArray} {frm tw pf pt rd wr pos dir : Int} {resp ex fa send left right parent : List Int} {guards : List Th} (top : Int) (h : RuEl lo w cs ⟨nm, 2, frm, tw, pf, pt, resp, guards, ex, fa, rd, wr, send, pos, left, right, parent, dir⟩) :
    Calls Try.prog 97 #[.agg cs.toArray, .int .i64 top] w fun e w' => e = .returned (.agg (bareC2 cs).toArray) ∧ RuEl lo w' (bareC2 cs) ⟨nm, 2, 0, 0, 0, 0, resp, guards, ex, fa, (-1), (-1), send, pos, left, right, parent, dir⟩ ∧ Below w.heap.size w w' := by
  obtain ⟨v6, v7, v8, v9, v12, v14, v15, v16, rfl, h0, h1, h2, h3, h4, h5, h6, h7, h8, h9, h10, h11, h12, h13, h14, h15, h16, h17⟩ := h
  dsimp only at h0 h1 h2 h3 h4 h5 h6 h7 h8 h9 h10 h11 h12 h13 h14 h15 h16 h17 ⊢
  obtain ⟨a6, c6, rfl⟩ := h6.shape
  obtain ⟨a7, c7, rfl⟩ := h7.shape
  obtain ⟨a8, c8, rfl⟩ := h8.shape
  obtain ⟨a9, c9, rfl⟩ := h9.shape
  obtain ⟨a12, c12, rfl⟩ := h12.shape
  obtain ⟨a14, c14, rfl⟩ := h14.shape
  obtain ⟨a15, c15, rfl⟩ := h15.shape
  obtain ⟨a16, c16, rfl⟩ := h16.shape
  have H0 := Lib.hid h0
  have H1 := Lib.hid h1
  have H2 := Lib.hid h2
  have H3 := Lib.hid h3
  have H4 := Lib.hid h4
  have H5 := Lib.hid h5
  have H6 := Lib.hid h6
  have H7 := Lib.hid h7
  have H8 := Lib.hid h8
  have H9 := Lib.hid h9
  have H10 := Lib.hid h10
  have H11 := Lib.hid h11
  have H12 := Lib.hid h12
  have H13 := Lib.hid h13
  have H14 := Lib.hid h14
  have H15 := Lib.hid h15
  have H16 := Lib.hid h16
  have H17 := Lib.hid h17
  clear h0 h1 h2 h3 h4 h5 h6 h7 h8 h9 h10 h11 h12 h13 h14 h15 h16 h17
  go_enter Try.func97, Try.ntmps97
  go_upto_region 1 with (fail)
  obtain ⟨W, hW⟩ : ∃ W : World, W = (w.alloc (.cells #[.string nm, .int .i64 2, .int .i64 frm, .int .i64 tw, .int .i64 pf, .int .i64 pt, .slice a6 resp.length c6, .slice a7 guards.length c7, .slice a8 ex.length c8, .slice a9 fa.length c9, .int .i64 rd, .int .i64 wr, .slice a12 send.length c12, .int .i64 pos, .slice a14 left.length c14, .slice a15 right.length c15, .slice a16 parent.length c16, .int .i64 dir] 50)).alloc (.cells #[.string ⟨#[]⟩, .int .i64 0, .int .i64 0, .int .i64 0, .int .i64 0, .int .i64 0, .slice none 0 0, .slice none 0 0, .slice none 0 0, .slice none 0 0, .int .i64 0, .int .i64 0, .slice none 0 0, .int .i64 0, .slice none 0 0, .slice none 0 0, .slice none 0 0, .int .i64 0] 50) := ⟨_, rfl⟩
  rw [← hW]
  have HB := Lib.hid (show Below w.heap.size w W by rw [hW]; show Below _ _ _; go_grown)
  have HG := Lib.hid (show W.heap[w.heap.size]? = some (.cells #[.string nm, .int .i64 2, .int .i64 frm, .int .i64 tw, .int .i64 pf, .int .i64 pt, .slice a6 resp.length c6, .slice a7 guards.length c7, .slice a8 ex.length c8, .slice a9 fa.length c9, .int .i64 rd, .int .i64 wr, .slice a12 send.length c12, .int .i64 pos, .slice a14 left.length c14, .slice a15 right.length c15, .slice a16 parent.length c16, .int .i64 dir] 50 (0, 0)) by rw [hW]; exact (KN _ _ (by simp)).trans (Yd _ _ rfl))
  have HZ := Lib.hid (show W.heap[w.heap.size + 1]? = some (.cells #[.string ⟨#[]⟩, .int .i64 0, .int .i64 0, .int .i64 0, .int .i64 0, .int .i64 0, .slice none 0 0, .slice none 0 0, .slice none 0 0, .slice none 0 0, .int .i64 0, .int .i64 0, .slice none 0 0, .int .i64 0, .slice none 0 0, .slice none 0 0, .slice none 0 0, .int .i64 0] 50 (0, 0)) by rw [hW]; exact Yd _ _ (by simp))
  clear hW
  have x1 : W.cell? ⟨w.heap.size, 1, none⟩ = some (.int .i64 2) := ZF HG.out 1 rfl
  have x2 : W.cell? ⟨w.heap.size, 2, none⟩ = some (.int .i64 frm) := ZF HG.out 2 rfl
  have x3 : W.cell? ⟨w.heap.size, 3, none⟩ = some (.int .i64 tw) := ZF HG.out 3 rfl
  have x4 : W.cell? ⟨w.heap.size, 4, none⟩ = some (.int .i64 pf) := ZF HG.out 4 rfl
  have x5 : W.cell? ⟨w.heap.size, 5, none⟩ = some (.int .i64 pt) := ZF HG.out 5 rfl
  have x10 : W.cell? ⟨w.heap.size, 10, none⟩ = some (.int .i64 rd) := ZF HG.out 10 rfl
  have x11 : W.cell? ⟨w.heap.size, 11, none⟩ = some (.int .i64 wr) := ZF HG.out 11 rfl
  have f0 : ∀ o, W.frozen? ⟨w.heap.size, o, none⟩ = false := frozenB HG.out
  go_upto_region 18 with (fail)
  obtain ⟨X, hX⟩ : ∃ X : World, X = ((((((W).setCell ⟨w.heap.size, 2, none⟩ (.int .i64 0)).setCell ⟨w.heap.size, 3, none⟩ (.int .i64 0)).setCell ⟨w.heap.size, 4, none⟩ (.int .i64 0)).setCell ⟨w.heap.size, 5, none⟩ (.int .i64 0)).setCell ⟨w.heap.size, 10, none⟩ (.int .i64 (-1))).setCell ⟨w.heap.size, 11, none⟩ (.int .i64 (-1)) := ⟨_, rfl⟩
  rw [← hX]
  have GX := Lib.hid (show X.heap[w.heap.size]? = some (.cells (#[.string nm, .int .i64 2, .int .i64 0, .int .i64 0, .int .i64 0, .int .i64 0, .slice a6 resp.length c6, .slice a7 guards.length c7, .slice a8 ex.length c8, .slice a9 fa.length c9, .int .i64 (-1), .int .i64 (-1), .slice a12 send.length c12, .int .i64 pos, .slice a14 left.length c14, .slice a15 right.length c15, .slice a16 parent.length c16, .int .i64 dir]) 50 (0, 0)) by rw [hX]; exact (ZY (cur' := #[.string nm, .int .i64 2, .int .i64 0, .int .i64 0, .int .i64 0, .int .i64 0, .slice a6 resp.length c6, .slice a7 guards.length c7, .slice a8 ex.length c8, .slice a9 fa.length c9, .int .i64 (-1), .int .i64 (-1), .slice a12 send.length c12, .int .i64 pos, .slice a14 left.length c14, .slice a15 right.length c15, .slice a16 parent.length c16, .int .i64 dir]) ((ZY (cur' := #[.string nm, .int .i64 2, .int .i64 0, .int .i64 0, .int .i64 0, .int .i64 0, .slice a6 resp.length c6, .slice a7 guards.length c7, .slice a8 ex.length c8, .slice a9 fa.length c9, .int .i64 (-1), .int .i64 wr, .slice a12 send.length c12, .int .i64 pos, .slice a14 left.length c14, .slice a15 right.length c15, .slice a16 parent.length c16, .int .i64 dir]) ((ZY (cur' := #[.string nm, .int .i64 2, .int .i64 0, .int .i64 0, .int .i64 0, .int .i64 0, .slice a6 resp.length c6, .slice a7 guards.length c7, .slice a8 ex.length c8, .slice a9 fa.length c9, .int .i64 rd, .int .i64 wr, .slice a12 send.length c12, .int .i64 pos, .slice a14 left.length c14, .slice a15 right.length c15, .slice a16 parent.length c16, .int .i64 dir]) ((ZY (cur' := #[.string nm, .int .i64 2, .int .i64 0, .int .i64 0, .int .i64 0, .int .i64 pt, .slice a6 resp.length c6, .slice a7 guards.length c7, .slice a8 ex.length c8, .slice a9 fa.length c9, .int .i64 rd, .int .i64 wr, .slice a12 send.length c12, .int .i64 pos, .slice a14 left.length c14, .slice a15 right.length c15, .slice a16 parent.length c16, .int .i64 dir]) ((ZY (cur' := #[.string nm, .int .i64 2, .int .i64 0, .int .i64 0, .int .i64 pf, .int .i64 pt, .slice a6 resp.length c6, .slice a7 guards.length c7, .slice a8 ex.length c8, .slice a9 fa.length c9, .int .i64 rd, .int .i64 wr, .slice a12 send.length c12, .int .i64 pos, .slice a14 left.length c14, .slice a15 right.length c15, .slice a16 parent.length c16, .int .i64 dir]) ((ZY (cur' := #[.string nm, .int .i64 2, .int .i64 0, .int .i64 tw, .int .i64 pf, .int .i64 pt, .slice a6 resp.length c6, .slice a7 guards.length c7, .slice a8 ex.length c8, .slice a9 fa.length c9, .int .i64 rd, .int .i64 wr, .slice a12 send.length c12, .int .i64 pos, .slice a14 left.length c14, .slice a15 right.length c15, .slice a16 parent.length c16, .int .i64 dir]) (HG.out) (by simp))) (by simp))) (by simp))) (by simp))) (by simp))) (by simp)))
  have ZX := Lib.hid (show X.heap[w.heap.size + 1]? = some (.cells #[.string ⟨#[]⟩, .int .i64 0, .int .i64 0, .int .i64 0, .int .i64 0, .int .i64 0, .slice none 0 0, .slice none 0 0, .slice none 0 0, .slice none 0 0, .int .i64 0, .int .i64 0, .slice none 0 0, .int .i64 0, .slice none 0 0, .slice none 0 0, .slice none 0 0, .int .i64 0] 50 (0, 0)) by rw [hX]; exact ((Below.heap_setCell _ ⟨w.heap.size, 11, none⟩ _ _ (by simp)).trans (((Below.heap_setCell _ ⟨w.heap.size, 10, none⟩ _ _ (by simp)).trans (((Below.heap_setCell _ ⟨w.heap.size, 5, none⟩ _ _ (by simp)).trans (((Below.heap_setCell _ ⟨w.heap.size, 4, none⟩ _ _ (by simp)).trans (((Below.heap_setCell _ ⟨w.heap.size, 3, none⟩ _ _ (by simp)).trans (((Below.heap_setCell _ ⟨w.heap.size, 2, none⟩ _ _ (by simp)).trans (HZ.out)))))))))))))
  have HX := Lib.hid (show Below w.heap.size w X by rw [hX]; exact ((((((HB.out).setCell (by simp) _).setCell (by simp) _).setCell (by simp) _).setCell (by simp) _).setCell (by simp) _).setCell (by simp) _)
  clear hX x1 x2 x3 x4 x5 x10 x11 f0
  refine wp_region_lit ?_
  refine ld_mid Try.underlying50 Z6 (by rfl) (.tmp 2) (by rfl) w.heap.size 0 [.string nm, .int .i64 2, .int .i64 0, .int .i64 0, .int .i64 0, .int .i64 0, .slice a6 resp.length c6, .slice a7 guards.length c7, .slice a8 ex.length c8, .slice a9 fa.length c9, .int .i64 (-1), .int .i64 (-1), .slice a12 send.length c12, .int .i64 pos, .slice a14 left.length c14, .slice a15 right.length c15, .slice a16 parent.length c16, .int .i64 dir] (by rfl) (by rfl) (Yc GX.out) ?_
  refine Y8 (T := 50) Z6 (by rfl) (.tmp 4) (.tmp 41) (by rfl) (w.heap.size + 1) [.string nm, .int .i64 2, .int .i64 0, .int .i64 0, .int .i64 0, .int .i64 0, .slice a6 resp.length c6, .slice a7 guards.length c7, .slice a8 ex.length c8, .slice a9 fa.length c9, .int .i64 (-1), .int .i64 (-1), .slice a12 send.length c12, .int .i64 pos, .slice a14 left.length c14, .slice a15 right.length c15, .slice a16 parent.length c16, .int .i64 dir] (by rfl) (by rfl) (by rfl) ZX.out (by rfl) (by simp [Value.oneCell']) (fun Z hZ hbl _ _ => ?_)
  have ZZ := Lib.hid hZ
  have ZB := Lib.hid (hbl _ _ (by omega) HX.out)
  clear hZ hbl
  go_wp2_with fail
  refine bodyPost_ret (v := .agg #[.string nm, .int .i64 2, .int .i64 0, .int .i64 0, .int .i64 0, .int .i64 0, .slice a6 resp.length c6, .slice a7 guards.length c7, .slice a8 ex.length c8, .slice a9 fa.length c9, .int .i64 (-1), .int .i64 (-1), .slice a12 send.length c12, .int .i64 pos, .slice a14 left.length c14, .slice a15 right.length c15, .slice a16 parent.length c16, .int .i64 dir]) (results_cell_row (by rfl) _ _ (w.heap.size + 1) 50 _ (0, 0) _ (by rfl) ZZ.out Try.underlying50 rfl (by exact Z6)) rfl (bare_end (cs' := [.string nm, .int .i64 2, .int .i64 0, .int .i64 0, .int .i64 0, .int .i64 0, .slice a6 resp.length c6, .slice a7 guards.length c7, .slice a8 ex.length c8, .slice a9 fa.length c9, .int .i64 (-1), .int .i64 (-1), .slice a12 send.length c12, .int .i64 pos, .slice a14 left.length c14, .slice a15 right.length c15, .slice a16 parent.length c16, .int .i64 dir]) ZB.out rfl (fun W hB => ?_))
  have HB := Lib.hid hB
  exact ⟨_, _, _, _, _, _, _, _, rfl, H0.out, H1.out, YI, YI, YI, YI, H6.out.below HB.out, H7.out.below ThEl.stays HB.out, H8.out.below HB.out, H9.out.below HB.out, KM, KM, H12.out.below HB.out, H13.out, H14.out.below HB.out, H15.out.below HB.out, H16.out.below HB.out, H17.out⟩
set_option maxHeartbeats 1600000 in
theorem withoutUsed_3 {lo : Nat} {w : World} {cs : List Value} {nm : ByteArray} {frm tw pf pt rd wr pos dir : Int} {resp ex fa send left right parent : List Int} {guards : List Th} (top : Int) (h : RuEl lo w cs ⟨nm, 3, frm, tw, pf, pt, resp, guards, ex, fa, rd, wr, send, pos, left, right, parent, dir⟩) :
    Calls Try.prog 97 #[.agg cs.toArray, .int .i64 top] w fun e w' => e = .returned (.agg (bareC3 cs).toArray) ∧ RuEl lo w' (bareC3 cs) ⟨nm, 3, 0, 0, pf, pt, [], guards, ex, fa, (-1), (-1), send, pos, left, right, parent, dir⟩ ∧ Below w.heap.size w w' := by
  obtain ⟨v6, v7, v8, v9, v12, v14, v15, v16, rfl, h0, h1, h2, h3, h4, h5, h6, h7, h8, h9, h10, h11, h12, h13, h14, h15, h16, h17⟩ := h
  dsimp only at h0 h1 h2 h3 h4 h5 h6 h7 h8 h9 h10 h11 h12 h13 h14 h15 h16 h17 ⊢
  obtain ⟨a6, c6, rfl⟩ := h6.shape
  obtain ⟨a7, c7, rfl⟩ := h7.shape
  obtain ⟨a8, c8, rfl⟩ := h8.shape
  obtain ⟨a9, c9, rfl⟩ := h9.shape
  obtain ⟨a12, c12, rfl⟩ := h12.shape
  obtain ⟨a14, c14, rfl⟩ := h14.shape
  obtain ⟨a15, c15, rfl⟩ := h15.shape
  obtain ⟨a16, c16, rfl⟩ := h16.shape
  have H0 := Lib.hid h0
  have H1 := Lib.hid h1
  have H2 := Lib.hid h2
  have H3 := Lib.hid h3
  have H4 := Lib.hid h4
  have H5 := Lib.hid h5
  have H6 := Lib.hid h6
  have H7 := Lib.hid h7
  have H8 := Lib.hid h8
  have H9 := Lib.hid h9
  have H10 := Lib.hid h10
  have H11 := Lib.hid h11
  have H12 := Lib.hid h12
  have H13 := Lib.hid h13
  have H14 := Lib.hid h14
  have H15 := Lib.hid h15
  have H16 := Lib.hid h16
  have H17 := Lib.hid h17
  clear h0 h1 h2 h3 h4 h5 h6 h7 h8 h9 h10 h11 h12 h13 h14 h15 h16 h17
  go_enter Try.func97, Try.ntmps97
  go_upto_region 1 with (fail)
  obtain ⟨W, hW⟩ : ∃ W : World, W = (w.alloc (.cells #[.string nm, .int .i64 3, .int .i64 frm, .int .i64 tw, .int .i64 pf, .int .i64 pt, .slice a6 resp.length c6, .slice a7 guards.length c7, .slice a8 ex.length c8, .slice a9 fa.length c9, .int .i64 rd, .int .i64 wr, .slice a12 send.length c12, .int .i64 pos, .slice a14 left.length c14, .slice a15 right.length c15, .slice a16 parent.length c16, .int .i64 dir] 50)).alloc (.cells #[.string ⟨#[]⟩, .int .i64 0, .int .i64 0, .int .i64 0, .int .i64 0, .int .i64 0, .slice none 0 0, .slice none 0 0, .slice none 0 0, .slice none 0 0, .int .i64 0, .int .i64 0, .slice none 0 0, .int .i64 0, .slice none 0 0, .slice none 0 0, .slice none 0 0, .int .i64 0] 50) := ⟨_, rfl⟩
  rw [← hW]
  have HB := Lib.hid (show Below w.heap.size w W by rw [hW]; show Below _ _ _; go_grown)
  have HG := Lib.hid (show W.heap[w.heap.size]? = some (.cells #[.string nm, .int .i64 3, .int .i64 frm, .int .i64 tw, .int .i64 pf, .int .i64 pt, .slice a6 resp.length c6, .slice a7 guards.length c7, .slice a8 ex.length c8, .slice a9 fa.length c9, .int .i64 rd, .int .i64 wr, .slice a12 send.length c12, .int .i64 pos, .slice a14 left.length c14, .slice a15 right.length c15, .slice a16 parent.length c16, .int .i64 dir] 50 (0, 0)) by rw [hW]; exact (KN _ _ (by simp)).trans (Yd _ _ rfl))
  have HZ := Lib.hid (show W.heap[w.heap.size + 1]? = some (.cells #[.string ⟨#[]⟩, .int .i64 0, .int .i64 0, .int .i64 0, .int .i64 0, .int .i64 0, .slice none 0 0, .slice none 0 0, .slice none 0 0, .slice none 0 0, .int .i64 0, .int .i64 0, .slice none 0 0, .int .i64 0, .slice none 0 0, .slice none 0 0, .slice none 0 0, .int .i64 0] 50 (0, 0)) by rw [hW]; exact Yd _ _ (by simp))
  clear hW
  have x1 : W.cell? ⟨w.heap.size, 1, none⟩ = some (.int .i64 3) := ZF HG.out 1 rfl
  have x2 : W.cell? ⟨w.heap.size, 2, none⟩ = some (.int .i64 frm) := ZF HG.out 2 rfl
  have x3 : W.cell? ⟨w.heap.size, 3, none⟩ = some (.int .i64 tw) := ZF HG.out 3 rfl
  have x6 : W.cell? ⟨w.heap.size, 6, none⟩ = some (.slice a6 resp.length c6) := ZF HG.out 6 rfl
  have x10 : W.cell? ⟨w.heap.size, 10, none⟩ = some (.int .i64 rd) := ZF HG.out 10 rfl
  have x11 : W.cell? ⟨w.heap.size, 11, none⟩ = some (.int .i64 wr) := ZF HG.out 11 rfl
  have f0 : ∀ o, W.frozen? ⟨w.heap.size, o, none⟩ = false := frozenB HG.out
  go_upto_region 18 with (fail)
  obtain ⟨X, hX⟩ : ∃ X : World, X = (((((W).setCell ⟨w.heap.size, 2, none⟩ (.int .i64 0)).setCell ⟨w.heap.size, 3, none⟩ (.int .i64 0)).setCell ⟨w.heap.size, 6, none⟩ (.slice none 0 0)).setCell ⟨w.heap.size, 10, none⟩ (.int .i64 (-1))).setCell ⟨w.heap.size, 11, none⟩ (.int .i64 (-1)) := ⟨_, rfl⟩
  rw [← hX]
  have GX := Lib.hid (show X.heap[w.heap.size]? = some (.cells (#[.string nm, .int .i64 3, .int .i64 0, .int .i64 0, .int .i64 pf, .int .i64 pt, .slice none 0 0, .slice a7 guards.length c7, .slice a8 ex.length c8, .slice a9 fa.length c9, .int .i64 (-1), .int .i64 (-1), .slice a12 send.length c12, .int .i64 pos, .slice a14 left.length c14, .slice a15 right.length c15, .slice a16 parent.length c16, .int .i64 dir]) 50 (0, 0)) by rw [hX]; exact (ZY (cur' := #[.string nm, .int .i64 3, .int .i64 0, .int .i64 0, .int .i64 pf, .int .i64 pt, .slice none 0 0, .slice a7 guards.length c7, .slice a8 ex.length c8, .slice a9 fa.length c9, .int .i64 (-1), .int .i64 (-1), .slice a12 send.length c12, .int .i64 pos, .slice a14 left.length c14, .slice a15 right.length c15, .slice a16 parent.length c16, .int .i64 dir]) ((ZY (cur' := #[.string nm, .int .i64 3, .int .i64 0, .int .i64 0, .int .i64 pf, .int .i64 pt, .slice none 0 0, .slice a7 guards.length c7, .slice a8 ex.length c8, .slice a9 fa.length c9, .int .i64 (-1), .int .i64 wr, .slice a12 send.length c12, .int .i64 pos, .slice a14 left.length c14, .slice a15 right.length c15, .slice a16 parent.length c16, .int .i64 dir]) ((ZY (cur' := #[.string nm, .int .i64 3, .int .i64 0, .int .i64 0, .int .i64 pf, .int .i64 pt, .slice none 0 0, .slice a7 guards.length c7, .slice a8 ex.length c8, .slice a9 fa.length c9, .int .i64 rd, .int .i64 wr, .slice a12 send.length c12, .int .i64 pos, .slice a14 left.length c14, .slice a15 right.length c15, .slice a16 parent.length c16, .int .i64 dir]) ((ZY (cur' := #[.string nm, .int .i64 3, .int .i64 0, .int .i64 0, .int .i64 pf, .int .i64 pt, .slice a6 resp.length c6, .slice a7 guards.length c7, .slice a8 ex.length c8, .slice a9 fa.length c9, .int .i64 rd, .int .i64 wr, .slice a12 send.length c12, .int .i64 pos, .slice a14 left.length c14, .slice a15 right.length c15, .slice a16 parent.length c16, .int .i64 dir]) ((ZY (cur' := #[.string nm, .int .i64 3, .int .i64 0, .int .i64 tw, .int .i64 pf, .int .i64 pt, .slice a6 resp.length c6, .slice a7 guards.length c7, .slice a8 ex.length c8, .slice a9 fa.length c9, .int .i64 rd, .int .i64 wr, .slice a12 send.length c12, .int .i64 pos, .slice a14 left.length c14, .slice a15 right.length c15, .slice a16 parent.length c16, .int .i64 dir]) (HG.out) (by simp))) (by simp))) (by simp))) (by simp))) (by simp)))
  have ZX := Lib.hid (show X.heap[w.heap.size + 1]? = some (.cells #[.string ⟨#[]⟩, .int .i64 0, .int .i64 0, .int .i64 0, .int .i64 0, .int .i64 0, .slice none 0 0, .slice none 0 0, .slice none 0 0, .slice none 0 0, .int .i64 0, .int .i64 0, .slice none 0 0, .int .i64 0, .slice none 0 0, .slice none 0 0, .slice none 0 0, .int .i64 0] 50 (0, 0)) by rw [hX]; exact ((Below.heap_setCell _ ⟨w.heap.size, 11, none⟩ _ _ (by simp)).trans (((Below.heap_setCell _ ⟨w.heap.size, 10, none⟩ _ _ (by simp)).trans (((Below.heap_setCell _ ⟨w.heap.size, 6, none⟩ _ _ (by simp)).trans (((Below.heap_setCell _ ⟨w.heap.size, 3, none⟩ _ _ (by simp)).trans (((Below.heap_setCell _ ⟨w.heap.size, 2, none⟩ _ _ (by simp)).trans (HZ.out)))))))))))
  have HX := Lib.hid (show Below w.heap.size w X by rw [hX]; exact (((((HB.out).setCell (by simp) _).setCell (by simp) _).setCell (by simp) _).setCell (by simp) _).setCell (by simp) _)
  clear hX x1 x2 x3 x6 x10 x11 f0
  refine wp_region_lit ?_
  refine ld_mid Try.underlying50 Z6 (by rfl) (.tmp 2) (by rfl) w.heap.size 0 [.string nm, .int .i64 3, .int .i64 0, .int .i64 0, .int .i64 pf, .int .i64 pt, .slice none 0 0, .slice a7 guards.length c7, .slice a8 ex.length c8, .slice a9 fa.length c9, .int .i64 (-1), .int .i64 (-1), .slice a12 send.length c12, .int .i64 pos, .slice a14 left.length c14, .slice a15 right.length c15, .slice a16 parent.length c16, .int .i64 dir] (by rfl) (by rfl) (Yc GX.out) ?_
  refine Y8 (T := 50) Z6 (by rfl) (.tmp 4) (.tmp 41) (by rfl) (w.heap.size + 1) [.string nm, .int .i64 3, .int .i64 0, .int .i64 0, .int .i64 pf, .int .i64 pt, .slice none 0 0, .slice a7 guards.length c7, .slice a8 ex.length c8, .slice a9 fa.length c9, .int .i64 (-1), .int .i64 (-1), .slice a12 send.length c12, .int .i64 pos, .slice a14 left.length c14, .slice a15 right.length c15, .slice a16 parent.length c16, .int .i64 dir] (by rfl) (by rfl) (by rfl) ZX.out (by rfl) (by simp [Value.oneCell']) (fun Z hZ hbl _ _ => ?_)
  have ZZ := Lib.hid hZ
  have ZB := Lib.hid (hbl _ _ (by omega) HX.out)
  clear hZ hbl
  go_wp2_with fail
  refine bodyPost_ret (v := .agg #[.string nm, .int .i64 3, .int .i64 0, .int .i64 0, .int .i64 pf, .int .i64 pt, .slice none 0 0, .slice a7 guards.length c7, .slice a8 ex.length c8, .slice a9 fa.length c9, .int .i64 (-1), .int .i64 (-1), .slice a12 send.length c12, .int .i64 pos, .slice a14 left.length c14, .slice a15 right.length c15, .slice a16 parent.length c16, .int .i64 dir]) (results_cell_row (by rfl) _ _ (w.heap.size + 1) 50 _ (0, 0) _ (by rfl) ZZ.out Try.underlying50 rfl (by exact Z6)) rfl (bare_end (cs' := [.string nm, .int .i64 3, .int .i64 0, .int .i64 0, .int .i64 pf, .int .i64 pt, .slice none 0 0, .slice a7 guards.length c7, .slice a8 ex.length c8, .slice a9 fa.length c9, .int .i64 (-1), .int .i64 (-1), .slice a12 send.length c12, .int .i64 pos, .slice a14 left.length c14, .slice a15 right.length c15, .slice a16 parent.length c16, .int .i64 dir]) ZB.out rfl (fun W hB => ?_))
  have HB := Lib.hid hB
  exact ⟨_, _, _, _, _, _, _, _, rfl, H0.out, H1.out, YI, YI, H4.out, H5.out, Yp _ _, H7.out.below ThEl.stays HB.out, H8.out.below HB.out, H9.out.below HB.out, KM, KM, H12.out.below HB.out, H13.out, H14.out.below HB.out, H15.out.below HB.out, H16.out.below HB.out, H17.out⟩
set_option maxHeartbeats 1600000 in
theorem withoutUsed_4t {lo : Nat} {w : World} {cs : List Value} {nm : ByteArray} {frm tw pf pt rd wr pos dir : Int} {resp ex fa send left right parent : List Int} {guards : List Th} (h : RuEl lo w cs ⟨nm, 4, frm, tw, pf, pt, resp, guards, ex, fa, rd, wr, send, pos, left, right, parent, dir⟩) :
    Calls Try.prog 97 #[.agg cs.toArray, .int .i64 4] w fun e w' => e = .returned (.agg (bareC4t cs).toArray) ∧ RuEl lo w' (bareC4t cs) ⟨nm, 4, 0, 0, pf, pt, resp, guards, ex, fa, rd, wr, send, 0, [], [], [], dir⟩ ∧ Below w.heap.size w w' := by
  obtain ⟨v6, v7, v8, v9, v12, v14, v15, v16, rfl, h0, h1, h2, h3, h4, h5, h6, h7, h8, h9, h10, h11, h12, h13, h14, h15, h16, h17⟩ := h
  dsimp only at h0 h1 h2 h3 h4 h5 h6 h7 h8 h9 h10 h11 h12 h13 h14 h15 h16 h17 ⊢
  obtain ⟨a6, c6, rfl⟩ := h6.shape
  obtain ⟨a7, c7, rfl⟩ := h7.shape
  obtain ⟨a8, c8, rfl⟩ := h8.shape
  obtain ⟨a9, c9, rfl⟩ := h9.shape
  obtain ⟨a12, c12, rfl⟩ := h12.shape
  obtain ⟨a14, c14, rfl⟩ := h14.shape
  obtain ⟨a15, c15, rfl⟩ := h15.shape
  obtain ⟨a16, c16, rfl⟩ := h16.shape
  have H0 := Lib.hid h0
  have H1 := Lib.hid h1
  have H2 := Lib.hid h2
  have H3 := Lib.hid h3
  have H4 := Lib.hid h4
  have H5 := Lib.hid h5
  have H6 := Lib.hid h6
  have H7 := Lib.hid h7
  have H8 := Lib.hid h8
  have H9 := Lib.hid h9
  have H10 := Lib.hid h10
  have H11 := Lib.hid h11
  have H12 := Lib.hid h12
  have H13 := Lib.hid h13
  have H14 := Lib.hid h14
  have H15 := Lib.hid h15
  have H16 := Lib.hid h16
  have H17 := Lib.hid h17
  clear h0 h1 h2 h3 h4 h5 h6 h7 h8 h9 h10 h11 h12 h13 h14 h15 h16 h17
  go_enter Try.func97, Try.ntmps97
  go_upto_region 1 with (fail)
  obtain ⟨W, hW⟩ : ∃ W : World, W = (w.alloc (.cells #[.string nm, .int .i64 4, .int .i64 frm, .int .i64 tw, .int .i64 pf, .int .i64 pt, .slice a6 resp.length c6, .slice a7 guards.length c7, .slice a8 ex.length c8, .slice a9 fa.length c9, .int .i64 rd, .int .i64 wr, .slice a12 send.length c12, .int .i64 pos, .slice a14 left.length c14, .slice a15 right.length c15, .slice a16 parent.length c16, .int .i64 dir] 50)).alloc (.cells #[.string ⟨#[]⟩, .int .i64 0, .int .i64 0, .int .i64 0, .int .i64 0, .int .i64 0, .slice none 0 0, .slice none 0 0, .slice none 0 0, .slice none 0 0, .int .i64 0, .int .i64 0, .slice none 0 0, .int .i64 0, .slice none 0 0, .slice none 0 0, .slice none 0 0, .int .i64 0] 50) := ⟨_, rfl⟩
  rw [← hW]
  have HB := Lib.hid (show Below w.heap.size w W by rw [hW]; show Below _ _ _; go_grown)
  have HG := Lib.hid (show W.heap[w.heap.size]? = some (.cells #[.string nm, .int .i64 4, .int .i64 frm, .int .i64 tw, .int .i64 pf, .int .i64 pt, .slice a6 resp.length c6, .slice a7 guards.length c7, .slice a8 ex.length c8, .slice a9 fa.length c9, .int .i64 rd, .int .i64 wr, .slice a12 send.length c12, .int .i64 pos, .slice a14 left.length c14, .slice a15 right.length c15, .slice a16 parent.length c16, .int .i64 dir] 50 (0, 0)) by rw [hW]; exact (KN _ _ (by simp)).trans (Yd _ _ rfl))
  have HZ := Lib.hid (show W.heap[w.heap.size + 1]? = some (.cells #[.string ⟨#[]⟩, .int .i64 0, .int .i64 0, .int .i64 0, .int .i64 0, .int .i64 0, .slice none 0 0, .slice none 0 0, .slice none 0 0, .slice none 0 0, .int .i64 0, .int .i64 0, .slice none 0 0, .int .i64 0, .slice none 0 0, .slice none 0 0, .slice none 0 0, .int .i64 0] 50 (0, 0)) by rw [hW]; exact Yd _ _ (by simp))
  clear hW
  have x1 : W.cell? ⟨w.heap.size, 1, none⟩ = some (.int .i64 4) := ZF HG.out 1 rfl
  have x2 : W.cell? ⟨w.heap.size, 2, none⟩ = some (.int .i64 frm) := ZF HG.out 2 rfl
  have x3 : W.cell? ⟨w.heap.size, 3, none⟩ = some (.int .i64 tw) := ZF HG.out 3 rfl
  have x13 : W.cell? ⟨w.heap.size, 13, none⟩ = some (.int .i64 pos) := ZF HG.out 13 rfl
  have x14 : W.cell? ⟨w.heap.size, 14, none⟩ = some (.slice a14 left.length c14) := ZF HG.out 14 rfl
  have x15 : W.cell? ⟨w.heap.size, 15, none⟩ = some (.slice a15 right.length c15) := ZF HG.out 15 rfl
  have x16 : W.cell? ⟨w.heap.size, 16, none⟩ = some (.slice a16 parent.length c16) := ZF HG.out 16 rfl
  have f0 : ∀ o, W.frozen? ⟨w.heap.size, o, none⟩ = false := frozenB HG.out
  go_upto_region 18 with (fail)
  obtain ⟨X, hX⟩ : ∃ X : World, X = ((((((W).setCell ⟨w.heap.size, 2, none⟩ (.int .i64 0)).setCell ⟨w.heap.size, 3, none⟩ (.int .i64 0)).setCell ⟨w.heap.size, 13, none⟩ (.int .i64 0)).setCell ⟨w.heap.size, 14, none⟩ (.slice none 0 0)).setCell ⟨w.heap.size, 15, none⟩ (.slice none 0 0)).setCell ⟨w.heap.size, 16, none⟩ (.slice none 0 0) := ⟨_, rfl⟩
  rw [← hX]
  have GX := Lib.hid (show X.heap[w.heap.size]? = some (.cells (#[.string nm, .int .i64 4, .int .i64 0, .int .i64 0, .int .i64 pf, .int .i64 pt, .slice a6 resp.length c6, .slice a7 guards.length c7, .slice a8 ex.length c8, .slice a9 fa.length c9, .int .i64 rd, .int .i64 wr, .slice a12 send.length c12, .int .i64 0, .slice none 0 0, .slice none 0 0, .slice none 0 0, .int .i64 dir]) 50 (0, 0)) by rw [hX]; exact (ZY (cur' := #[.string nm, .int .i64 4, .int .i64 0, .int .i64 0, .int .i64 pf, .int .i64 pt, .slice a6 resp.length c6, .slice a7 guards.length c7, .slice a8 ex.length c8, .slice a9 fa.length c9, .int .i64 rd, .int .i64 wr, .slice a12 send.length c12, .int .i64 0, .slice none 0 0, .slice none 0 0, .slice none 0 0, .int .i64 dir]) ((ZY (cur' := #[.string nm, .int .i64 4, .int .i64 0, .int .i64 0, .int .i64 pf, .int .i64 pt, .slice a6 resp.length c6, .slice a7 guards.length c7, .slice a8 ex.length c8, .slice a9 fa.length c9, .int .i64 rd, .int .i64 wr, .slice a12 send.length c12, .int .i64 0, .slice none 0 0, .slice none 0 0, .slice a16 parent.length c16, .int .i64 dir]) ((ZY (cur' := #[.string nm, .int .i64 4, .int .i64 0, .int .i64 0, .int .i64 pf, .int .i64 pt, .slice a6 resp.length c6, .slice a7 guards.length c7, .slice a8 ex.length c8, .slice a9 fa.length c9, .int .i64 rd, .int .i64 wr, .slice a12 send.length c12, .int .i64 0, .slice none 0 0, .slice a15 right.length c15, .slice a16 parent.length c16, .int .i64 dir]) ((ZY (cur' := #[.string nm, .int .i64 4, .int .i64 0, .int .i64 0, .int .i64 pf, .int .i64 pt, .slice a6 resp.length c6, .slice a7 guards.length c7, .slice a8 ex.length c8, .slice a9 fa.length c9, .int .i64 rd, .int .i64 wr, .slice a12 send.length c12, .int .i64 0, .slice a14 left.length c14, .slice a15 right.length c15, .slice a16 parent.length c16, .int .i64 dir]) ((ZY (cur' := #[.string nm, .int .i64 4, .int .i64 0, .int .i64 0, .int .i64 pf, .int .i64 pt, .slice a6 resp.length c6, .slice a7 guards.length c7, .slice a8 ex.length c8, .slice a9 fa.length c9, .int .i64 rd, .int .i64 wr, .slice a12 send.length c12, .int .i64 pos, .slice a14 left.length c14, .slice a15 right.length c15, .slice a16 parent.length c16, .int .i64 dir]) ((ZY (cur' := #[.string nm, .int .i64 4, .int .i64 0, .int .i64 tw, .int .i64 pf, .int .i64 pt, .slice a6 resp.length c6, .slice a7 guards.length c7, .slice a8 ex.length c8, .slice a9 fa.length c9, .int .i64 rd, .int .i64 wr, .slice a12 send.length c12, .int .i64 pos, .slice a14 left.length c14, .slice a15 right.length c15, .slice a16 parent.length c16, .int .i64 dir]) (HG.out) (by simp))) (by simp))) (by simp))) (by simp))) (by simp))) (by simp)))
  have ZX := Lib.hid (show X.heap[w.heap.size + 1]? = some (.cells #[.string ⟨#[]⟩, .int .i64 0, .int .i64 0, .int .i64 0, .int .i64 0, .int .i64 0, .slice none 0 0, .slice none 0 0, .slice none 0 0, .slice none 0 0, .int .i64 0, .int .i64 0, .slice none 0 0, .int .i64 0, .slice none 0 0, .slice none 0 0, .slice none 0 0, .int .i64 0] 50 (0, 0)) by rw [hX]; exact ((Below.heap_setCell _ ⟨w.heap.size, 16, none⟩ _ _ (by simp)).trans (((Below.heap_setCell _ ⟨w.heap.size, 15, none⟩ _ _ (by simp)).trans (((Below.heap_setCell _ ⟨w.heap.size, 14, none⟩ _ _ (by simp)).trans (((Below.heap_setCell _ ⟨w.heap.size, 13, none⟩ _ _ (by simp)).trans (((Below.heap_setCell _ ⟨w.heap.size, 3, none⟩ _ _ (by simp)).trans (((Below.heap_setCell _ ⟨w.heap.size, 2, none⟩ _ _ (by simp)).trans (HZ.out)))))))))))))
  have HX := Lib.hid (show Below w.heap.size w X by rw [hX]; exact ((((((HB.out).setCell (by simp) _).setCell (by simp) _).setCell (by simp) _).setCell (by simp) _).setCell (by simp) _).setCell (by simp) _)
  clear hX x1 x2 x3 x13 x14 x15 x16 f0
  refine wp_region_lit ?_
  refine ld_mid Try.underlying50 Z6 (by rfl) (.tmp 2) (by rfl) w.heap.size 0 [.string nm, .int .i64 4, .int .i64 0, .int .i64 0, .int .i64 pf, .int .i64 pt, .slice a6 resp.length c6, .slice a7 guards.length c7, .slice a8 ex.length c8, .slice a9 fa.length c9, .int .i64 rd, .int .i64 wr, .slice a12 send.length c12, .int .i64 0, .slice none 0 0, .slice none 0 0, .slice none 0 0, .int .i64 dir] (by rfl) (by rfl) (Yc GX.out) ?_
  refine Y8 (T := 50) Z6 (by rfl) (.tmp 4) (.tmp 41) (by rfl) (w.heap.size + 1) [.string nm, .int .i64 4, .int .i64 0, .int .i64 0, .int .i64 pf, .int .i64 pt, .slice a6 resp.length c6, .slice a7 guards.length c7, .slice a8 ex.length c8, .slice a9 fa.length c9, .int .i64 rd, .int .i64 wr, .slice a12 send.length c12, .int .i64 0, .slice none 0 0, .slice none 0 0, .slice none 0 0, .int .i64 dir] (by rfl) (by rfl) (by rfl) ZX.out (by rfl) (by simp [Value.oneCell']) (fun Z hZ hbl _ _ => ?_)
  have ZZ := Lib.hid hZ
  have ZB := Lib.hid (hbl _ _ (by omega) HX.out)
  clear hZ hbl
  go_wp2_with fail
  refine bodyPost_ret (v := .agg #[.string nm, .int .i64 4, .int .i64 0, .int .i64 0, .int .i64 pf, .int .i64 pt, .slice a6 resp.length c6, .slice a7 guards.length c7, .slice a8 ex.length c8, .slice a9 fa.length c9, .int .i64 rd, .int .i64 wr, .slice a12 send.length c12, .int .i64 0, .slice none 0 0, .slice none 0 0, .slice none 0 0, .int .i64 dir]) (results_cell_row (by rfl) _ _ (w.heap.size + 1) 50 _ (0, 0) _ (by rfl) ZZ.out Try.underlying50 rfl (by exact Z6)) rfl (bare_end (cs' := [.string nm, .int .i64 4, .int .i64 0, .int .i64 0, .int .i64 pf, .int .i64 pt, .slice a6 resp.length c6, .slice a7 guards.length c7, .slice a8 ex.length c8, .slice a9 fa.length c9, .int .i64 rd, .int .i64 wr, .slice a12 send.length c12, .int .i64 0, .slice none 0 0, .slice none 0 0, .slice none 0 0, .int .i64 dir]) ZB.out rfl (fun W hB => ?_))
  have HB := Lib.hid hB
  exact ⟨_, _, _, _, _, _, _, _, rfl, H0.out, H1.out, YI, YI, H4.out, H5.out, H6.out.below HB.out, H7.out.below ThEl.stays HB.out, H8.out.below HB.out, H9.out.below HB.out, H10.out, H11.out, H12.out.below HB.out, YI, Yp _ _, Yp _ _, Yp _ _, H17.out⟩
set_option maxHeartbeats 1600000 in
theorem withoutUsed_4n {lo : Nat} {w : World} {cs : List Value} {nm : ByteArray} {frm tw pf pt rd wr pos dir : Int} {resp ex fa send left right parent : List Int} {guards : List Th} (top : Int) (bt : (top == 4) = false) (h : RuEl lo w cs ⟨nm, 4, frm, tw, pf, pt, resp, guards, ex, fa, rd, wr, send, pos, left, right, parent, dir⟩) :
    Calls Try.prog 97 #[.agg cs.toArray, .int .i64 top] w fun e w' => e = .returned (.agg (bareC4n cs).toArray) ∧ RuEl lo w' (bareC4n cs) ⟨nm, 4, 0, 0, pf, pt, resp, guards, ex, fa, rd, wr, send, 0, [], [], parent, dir⟩ ∧ Below w.heap.size w w' := by
  obtain ⟨v6, v7, v8, v9, v12, v14, v15, v16, rfl, h0, h1, h2, h3, h4, h5, h6, h7, h8, h9, h10, h11, h12, h13, h14, h15, h16, h17⟩ := h
  dsimp only at h0 h1 h2 h3 h4 h5 h6 h7 h8 h9 h10 h11 h12 h13 h14 h15 h16 h17 ⊢
  obtain ⟨a6, c6, rfl⟩ := h6.shape
  obtain ⟨a7, c7, rfl⟩ := h7.shape
  obtain ⟨a8, c8, rfl⟩ := h8.shape
  obtain ⟨a9, c9, rfl⟩ := h9.shape
  obtain ⟨a12, c12, rfl⟩ := h12.shape
  obtain ⟨a14, c14, rfl⟩ := h14.shape
  obtain ⟨a15, c15, rfl⟩ := h15.shape
  obtain ⟨a16, c16, rfl⟩ := h16.shape
  have H0 := Lib.hid h0
  have H1 := Lib.hid h1
  have H2 := Lib.hid h2
  have H3 := Lib.hid h3
  have H4 := Lib.hid h4
  have H5 := Lib.hid h5
  have H6 := Lib.hid h6
  have H7 := Lib.hid h7
  have H8 := Lib.hid h8
  have H9 := Lib.hid h9
  have H10 := Lib.hid h10
  have H11 := Lib.hid h11
  have H12 := Lib.hid h12
  have H13 := Lib.hid h13
  have H14 := Lib.hid h14
  have H15 := Lib.hid h15
  have H16 := Lib.hid h16
  have H17 := Lib.hid h17
  clear h0 h1 h2 h3 h4 h5 h6 h7 h8 h9 h10 h11 h12 h13 h14 h15 h16 h17
  go_enter Try.func97, Try.ntmps97
  go_upto_region 1 with (fail)
  obtain ⟨W, hW⟩ : ∃ W : World, W = (w.alloc (.cells #[.string nm, .int .i64 4, .int .i64 frm, .int .i64 tw, .int .i64 pf, .int .i64 pt, .slice a6 resp.length c6, .slice a7 guards.length c7, .slice a8 ex.length c8, .slice a9 fa.length c9, .int .i64 rd, .int .i64 wr, .slice a12 send.length c12, .int .i64 pos, .slice a14 left.length c14, .slice a15 right.length c15, .slice a16 parent.length c16, .int .i64 dir] 50)).alloc (.cells #[.string ⟨#[]⟩, .int .i64 0, .int .i64 0, .int .i64 0, .int .i64 0, .int .i64 0, .slice none 0 0, .slice none 0 0, .slice none 0 0, .slice none 0 0, .int .i64 0, .int .i64 0, .slice none 0 0, .int .i64 0, .slice none 0 0, .slice none 0 0, .slice none 0 0, .int .i64 0] 50) := ⟨_, rfl⟩
  rw [← hW]
  have HB := Lib.hid (show Below w.heap.size w W by rw [hW]; show Below _ _ _; go_grown)
  have HG := Lib.hid (show W.heap[w.heap.size]? = some (.cells #[.string nm, .int .i64 4, .int .i64 frm, .int .i64 tw, .int .i64 pf, .int .i64 pt, .slice a6 resp.length c6, .slice a7 guards.length c7, .slice a8 ex.length c8, .slice a9 fa.length c9, .int .i64 rd, .int .i64 wr, .slice a12 send.length c12, .int .i64 pos, .slice a14 left.length c14, .slice a15 right.length c15, .slice a16 parent.length c16, .int .i64 dir] 50 (0, 0)) by rw [hW]; exact (KN _ _ (by simp)).trans (Yd _ _ rfl))
  have HZ := Lib.hid (show W.heap[w.heap.size + 1]? = some (.cells #[.string ⟨#[]⟩, .int .i64 0, .int .i64 0, .int .i64 0, .int .i64 0, .int .i64 0, .slice none 0 0, .slice none 0 0, .slice none 0 0, .slice none 0 0, .int .i64 0, .int .i64 0, .slice none 0 0, .int .i64 0, .slice none 0 0, .slice none 0 0, .slice none 0 0, .int .i64 0] 50 (0, 0)) by rw [hW]; exact Yd _ _ (by simp))
  clear hW
  have x1 : W.cell? ⟨w.heap.size, 1, none⟩ = some (.int .i64 4) := ZF HG.out 1 rfl
  have x2 : W.cell? ⟨w.heap.size, 2, none⟩ = some (.int .i64 frm) := ZF HG.out 2 rfl
  have x3 : W.cell? ⟨w.heap.size, 3, none⟩ = some (.int .i64 tw) := ZF HG.out 3 rfl
  have x13 : W.cell? ⟨w.heap.size, 13, none⟩ = some (.int .i64 pos) := ZF HG.out 13 rfl
  have x14 : W.cell? ⟨w.heap.size, 14, none⟩ = some (.slice a14 left.length c14) := ZF HG.out 14 rfl
  have x15 : W.cell? ⟨w.heap.size, 15, none⟩ = some (.slice a15 right.length c15) := ZF HG.out 15 rfl
  have f0 : ∀ o, W.frozen? ⟨w.heap.size, o, none⟩ = false := frozenB HG.out
  go_upto_region 18 with (fail)
  obtain ⟨X, hX⟩ : ∃ X : World, X = (((((W).setCell ⟨w.heap.size, 2, none⟩ (.int .i64 0)).setCell ⟨w.heap.size, 3, none⟩ (.int .i64 0)).setCell ⟨w.heap.size, 13, none⟩ (.int .i64 0)).setCell ⟨w.heap.size, 14, none⟩ (.slice none 0 0)).setCell ⟨w.heap.size, 15, none⟩ (.slice none 0 0) := ⟨_, rfl⟩
  rw [← hX]
  have GX := Lib.hid (show X.heap[w.heap.size]? = some (.cells (#[.string nm, .int .i64 4, .int .i64 0, .int .i64 0, .int .i64 pf, .int .i64 pt, .slice a6 resp.length c6, .slice a7 guards.length c7, .slice a8 ex.length c8, .slice a9 fa.length c9, .int .i64 rd, .int .i64 wr, .slice a12 send.length c12, .int .i64 0, .slice none 0 0, .slice none 0 0, .slice a16 parent.length c16, .int .i64 dir]) 50 (0, 0)) by rw [hX]; exact (ZY (cur' := #[.string nm, .int .i64 4, .int .i64 0, .int .i64 0, .int .i64 pf, .int .i64 pt, .slice a6 resp.length c6, .slice a7 guards.length c7, .slice a8 ex.length c8, .slice a9 fa.length c9, .int .i64 rd, .int .i64 wr, .slice a12 send.length c12, .int .i64 0, .slice none 0 0, .slice none 0 0, .slice a16 parent.length c16, .int .i64 dir]) ((ZY (cur' := #[.string nm, .int .i64 4, .int .i64 0, .int .i64 0, .int .i64 pf, .int .i64 pt, .slice a6 resp.length c6, .slice a7 guards.length c7, .slice a8 ex.length c8, .slice a9 fa.length c9, .int .i64 rd, .int .i64 wr, .slice a12 send.length c12, .int .i64 0, .slice none 0 0, .slice a15 right.length c15, .slice a16 parent.length c16, .int .i64 dir]) ((ZY (cur' := #[.string nm, .int .i64 4, .int .i64 0, .int .i64 0, .int .i64 pf, .int .i64 pt, .slice a6 resp.length c6, .slice a7 guards.length c7, .slice a8 ex.length c8, .slice a9 fa.length c9, .int .i64 rd, .int .i64 wr, .slice a12 send.length c12, .int .i64 0, .slice a14 left.length c14, .slice a15 right.length c15, .slice a16 parent.length c16, .int .i64 dir]) ((ZY (cur' := #[.string nm, .int .i64 4, .int .i64 0, .int .i64 0, .int .i64 pf, .int .i64 pt, .slice a6 resp.length c6, .slice a7 guards.length c7, .slice a8 ex.length c8, .slice a9 fa.length c9, .int .i64 rd, .int .i64 wr, .slice a12 send.length c12, .int .i64 pos, .slice a14 left.length c14, .slice a15 right.length c15, .slice a16 parent.length c16, .int .i64 dir]) ((ZY (cur' := #[.string nm, .int .i64 4, .int .i64 0, .int .i64 tw, .int .i64 pf, .int .i64 pt, .slice a6 resp.length c6, .slice a7 guards.length c7, .slice a8 ex.length c8, .slice a9 fa.length c9, .int .i64 rd, .int .i64 wr, .slice a12 send.length c12, .int .i64 pos, .slice a14 left.length c14, .slice a15 right.length c15, .slice a16 parent.length c16, .int .i64 dir]) (HG.out) (by simp))) (by simp))) (by simp))) (by simp))) (by simp)))
  have ZX := Lib.hid (show X.heap[w.heap.size + 1]? = some (.cells #[.string ⟨#[]⟩, .int .i64 0, .int .i64 0, .int .i64 0, .int .i64 0, .int .i64 0, .slice none 0 0, .slice none 0 0, .slice none 0 0, .slice none 0 0, .int .i64 0, .int .i64 0, .slice none 0 0, .int .i64 0, .slice none 0 0, .slice none 0 0, .slice none 0 0, .int .i64 0] 50 (0, 0)) by rw [hX]; exact ((Below.heap_setCell _ ⟨w.heap.size, 15, none⟩ _ _ (by simp)).trans (((Below.heap_setCell _ ⟨w.heap.size, 14, none⟩ _ _ (by simp)).trans (((Below.heap_setCell _ ⟨w.heap.size, 13, none⟩ _ _ (by simp)).trans (((Below.heap_setCell _ ⟨w.heap.size, 3, none⟩ _ _ (by simp)).trans (((Below.heap_setCell _ ⟨w.heap.size, 2, none⟩ _ _ (by simp)).trans (HZ.out)))))))))))
  have HX := Lib.hid (show Below w.heap.size w X by rw [hX]; exact (((((HB.out).setCell (by simp) _).setCell (by simp) _).setCell (by simp) _).setCell (by simp) _).setCell (by simp) _)
  clear hX x1 x2 x3 x13 x14 x15 f0
  refine wp_region_lit ?_
  refine ld_mid Try.underlying50 Z6 (by rfl) (.tmp 2) (by rfl) w.heap.size 0 [.string nm, .int .i64 4, .int .i64 0, .int .i64 0, .int .i64 pf, .int .i64 pt, .slice a6 resp.length c6, .slice a7 guards.length c7, .slice a8 ex.length c8, .slice a9 fa.length c9, .int .i64 rd, .int .i64 wr, .slice a12 send.length c12, .int .i64 0, .slice none 0 0, .slice none 0 0, .slice a16 parent.length c16, .int .i64 dir] (by rfl) (by rfl) (Yc GX.out) ?_
  refine Y8 (T := 50) Z6 (by rfl) (.tmp 4) (.tmp 41) (by rfl) (w.heap.size + 1) [.string nm, .int .i64 4, .int .i64 0, .int .i64 0, .int .i64 pf, .int .i64 pt, .slice a6 resp.length c6, .slice a7 guards.length c7, .slice a8 ex.length c8, .slice a9 fa.length c9, .int .i64 rd, .int .i64 wr, .slice a12 send.length c12, .int .i64 0, .slice none 0 0, .slice none 0 0, .slice a16 parent.length c16, .int .i64 dir] (by rfl) (by rfl) (by rfl) ZX.out (by rfl) (by simp [Value.oneCell']) (fun Z hZ hbl _ _ => ?_)
  have ZZ := Lib.hid hZ
  have ZB := Lib.hid (hbl _ _ (by omega) HX.out)
  clear hZ hbl
  go_wp2_with fail
  refine bodyPost_ret (v := .agg #[.string nm, .int .i64 4, .int .i64 0, .int .i64 0, .int .i64 pf, .int .i64 pt, .slice a6 resp.length c6, .slice a7 guards.length c7, .slice a8 ex.length c8, .slice a9 fa.length c9, .int .i64 rd, .int .i64 wr, .slice a12 send.length c12, .int .i64 0, .slice none 0 0, .slice none 0 0, .slice a16 parent.length c16, .int .i64 dir]) (results_cell_row (by rfl) _ _ (w.heap.size + 1) 50 _ (0, 0) _ (by rfl) ZZ.out Try.underlying50 rfl (by exact Z6)) rfl (bare_end (cs' := [.string nm, .int .i64 4, .int .i64 0, .int .i64 0, .int .i64 pf, .int .i64 pt, .slice a6 resp.length c6, .slice a7 guards.length c7, .slice a8 ex.length c8, .slice a9 fa.length c9, .int .i64 rd, .int .i64 wr, .slice a12 send.length c12, .int .i64 0, .slice none 0 0, .slice none 0 0, .slice a16 parent.length c16, .int .i64 dir]) ZB.out rfl (fun W hB => ?_))
  have HB := Lib.hid hB
  exact ⟨_, _, _, _, _, _, _, _, rfl, H0.out, H1.out, YI, YI, H4.out, H5.out, H6.out.below HB.out, H7.out.below ThEl.stays HB.out, H8.out.below HB.out, H9.out.below HB.out, H10.out, H11.out, H12.out.below HB.out, YI, Yp _ _, Yp _ _, H16.out.below HB.out, H17.out⟩
set_option maxHeartbeats 1600000 in
theorem withoutUsed_5 {lo : Nat} {w : World} {cs : List Value} {nm : ByteArray} {frm tw pf pt rd wr pos dir : Int} {resp ex fa send left right parent : List Int} {guards : List Th} (top : Int) (h : RuEl lo w cs ⟨nm, 5, frm, tw, pf, pt, resp, guards, ex, fa, rd, wr, send, pos, left, right, parent, dir⟩) :
    Calls Try.prog 97 #[.agg cs.toArray, .int .i64 top] w fun e w' => e = .returned (.agg (bareC5 cs).toArray) ∧ RuEl lo w' (bareC5 cs) ⟨nm, 5, 0, 0, 0, 0, resp, guards, ex, fa, rd, wr, send, pos, left, right, parent, 0⟩ ∧ Below w.heap.size w w' := by
  obtain ⟨v6, v7, v8, v9, v12, v14, v15, v16, rfl, h0, h1, h2, h3, h4, h5, h6, h7, h8, h9, h10, h11, h12, h13, h14, h15, h16, h17⟩ := h
  dsimp only at h0 h1 h2 h3 h4 h5 h6 h7 h8 h9 h10 h11 h12 h13 h14 h15 h16 h17 ⊢
  obtain ⟨a6, c6, rfl⟩ := h6.shape
  obtain ⟨a7, c7, rfl⟩ := h7.shape
  obtain ⟨a8, c8, rfl⟩ := h8.shape
  obtain ⟨a9, c9, rfl⟩ := h9.shape
  obtain ⟨a12, c12, rfl⟩ := h12.shape
  obtain ⟨a14, c14, rfl⟩ := h14.shape
  obtain ⟨a15, c15, rfl⟩ := h15.shape
  obtain ⟨a16, c16, rfl⟩ := h16.shape
  have H0 := Lib.hid h0
  have H1 := Lib.hid h1
  have H2 := Lib.hid h2
  have H3 := Lib.hid h3
  have H4 := Lib.hid h4
  have H5 := Lib.hid h5
  have H6 := Lib.hid h6
  have H7 := Lib.hid h7
  have H8 := Lib.hid h8
  have H9 := Lib.hid h9
  have H10 := Lib.hid h10
  have H11 := Lib.hid h11
  have H12 := Lib.hid h12
  have H13 := Lib.hid h13
  have H14 := Lib.hid h14
  have H15 := Lib.hid h15
  have H16 := Lib.hid h16
  have H17 := Lib.hid h17
  clear h0 h1 h2 h3 h4 h5 h6 h7 h8 h9 h10 h11 h12 h13 h14 h15 h16 h17
  go_enter Try.func97, Try.ntmps97
  go_upto_region 1 with (fail)
  obtain ⟨W, hW⟩ : ∃ W : World, W = (w.alloc (.cells #[.string nm, .int .i64 5, .int .i64 frm, .int .i64 tw, .int .i64 pf, .int .i64 pt, .slice a6 resp.length c6, .slice a7 guards.length c7, .slice a8 ex.length c8, .slice a9 fa.length c9, .int .i64 rd, .int .i64 wr, .slice a12 send.length c12, .int .i64 pos, .slice a14 left.length c14, .slice a15 right.length c15, .slice a16 parent.length c16, .int .i64 dir] 50)).alloc (.cells #[.string ⟨#[]⟩, .int .i64 0, .int .i64 0, .int .i64 0, .int .i64 0, .int .i64 0, .slice none 0 0, .slice none 0 0, .slice none 0 0, .slice none 0 0, .int .i64 0, .int .i64 0, .slice none 0 0, .int .i64 0, .slice none 0 0, .slice none 0 0, .slice none 0 0, .int .i64 0] 50) := ⟨_, rfl⟩
  rw [← hW]
  have HB := Lib.hid (show Below w.heap.size w W by rw [hW]; show Below _ _ _; go_grown)
  have HG := Lib.hid (show W.heap[w.heap.size]? = some (.cells #[.string nm, .int .i64 5, .int .i64 frm, .int .i64 tw, .int .i64 pf, .int .i64 pt, .slice a6 resp.length c6, .slice a7 guards.length c7, .slice a8 ex.length c8, .slice a9 fa.length c9, .int .i64 rd, .int .i64 wr, .slice a12 send.length c12, .int .i64 pos, .slice a14 left.length c14, .slice a15 right.length c15, .slice a16 parent.length c16, .int .i64 dir] 50 (0, 0)) by rw [hW]; exact (KN _ _ (by simp)).trans (Yd _ _ rfl))
  have HZ := Lib.hid (show W.heap[w.heap.size + 1]? = some (.cells #[.string ⟨#[]⟩, .int .i64 0, .int .i64 0, .int .i64 0, .int .i64 0, .int .i64 0, .slice none 0 0, .slice none 0 0, .slice none 0 0, .slice none 0 0, .int .i64 0, .int .i64 0, .slice none 0 0, .int .i64 0, .slice none 0 0, .slice none 0 0, .slice none 0 0, .int .i64 0] 50 (0, 0)) by rw [hW]; exact Yd _ _ (by simp))
  clear hW
  have x1 : W.cell? ⟨w.heap.size, 1, none⟩ = some (.int .i64 5) := ZF HG.out 1 rfl
  have x2 : W.cell? ⟨w.heap.size, 2, none⟩ = some (.int .i64 frm) := ZF HG.out 2 rfl
  have x3 : W.cell? ⟨w.heap.size, 3, none⟩ = some (.int .i64 tw) := ZF HG.out 3 rfl
  have x4 : W.cell? ⟨w.heap.size, 4, none⟩ = some (.int .i64 pf) := ZF HG.out 4 rfl
  have x5 : W.cell? ⟨w.heap.size, 5, none⟩ = some (.int .i64 pt) := ZF HG.out 5 rfl
  have x17 : W.cell? ⟨w.heap.size, 17, none⟩ = some (.int .i64 dir) := ZF HG.out 17 rfl
  have f0 : ∀ o, W.frozen? ⟨w.heap.size, o, none⟩ = false := frozenB HG.out
  go_upto_region 18 with (fail)
  obtain ⟨X, hX⟩ : ∃ X : World, X = (((((W).setCell ⟨w.heap.size, 2, none⟩ (.int .i64 0)).setCell ⟨w.heap.size, 3, none⟩ (.int .i64 0)).setCell ⟨w.heap.size, 4, none⟩ (.int .i64 0)).setCell ⟨w.heap.size, 5, none⟩ (.int .i64 0)).setCell ⟨w.heap.size, 17, none⟩ (.int .i64 0) := ⟨_, rfl⟩
  rw [← hX]
  have GX := Lib.hid (show X.heap[w.heap.size]? = some (.cells (#[.string nm, .int .i64 5, .int .i64 0, .int .i64 0, .int .i64 0, .int .i64 0, .slice a6 resp.length c6, .slice a7 guards.length c7, .slice a8 ex.length c8, .slice a9 fa.length c9, .int .i64 rd, .int .i64 wr, .slice a12 send.length c12, .int .i64 pos, .slice a14 left.length c14, .slice a15 right.length c15, .slice a16 parent.length c16, .int .i64 0]) 50 (0, 0)) by rw [hX]; exact (ZY (cur' := #[.string nm, .int .i64 5, .int .i64 0, .int .i64 0, .int .i64 0, .int .i64 0, .slice a6 resp.length c6, .slice a7 guards.length c7, .slice a8 ex.length c8, .slice a9 fa.length c9, .int .i64 rd, .int .i64 wr, .slice a12 send.length c12, .int .i64 pos, .slice a14 left.length c14, .slice a15 right.length c15, .slice a16 parent.length c16, .int .i64 0]) ((ZY (cur' := #[.string nm, .int .i64 5, .int .i64 0, .int .i64 0, .int .i64 0, .int .i64 0, .slice a6 resp.length c6, .slice a7 guards.length c7, .slice a8 ex.length c8, .slice a9 fa.length c9, .int .i64 rd, .int .i64 wr, .slice a12 send.length c12, .int .i64 pos, .slice a14 left.length c14, .slice a15 right.length c15, .slice a16 parent.length c16, .int .i64 dir]) ((ZY (cur' := #[.string nm, .int .i64 5, .int .i64 0, .int .i64 0, .int .i64 0, .int .i64 pt, .slice a6 resp.length c6, .slice a7 guards.length c7, .slice a8 ex.length c8, .slice a9 fa.length c9, .int .i64 rd, .int .i64 wr, .slice a12 send.length c12, .int .i64 pos, .slice a14 left.length c14, .slice a15 right.length c15, .slice a16 parent.length c16, .int .i64 dir]) ((ZY (cur' := #[.string nm, .int .i64 5, .int .i64 0, .int .i64 0, .int .i64 pf, .int .i64 pt, .slice a6 resp.length c6, .slice a7 guards.length c7, .slice a8 ex.length c8, .slice a9 fa.length c9, .int .i64 rd, .int .i64 wr, .slice a12 send.length c12, .int .i64 pos, .slice a14 left.length c14, .slice a15 right.length c15, .slice a16 parent.length c16, .int .i64 dir]) ((ZY (cur' := #[.string nm, .int .i64 5, .int .i64 0, .int .i64 tw, .int .i64 pf, .int .i64 pt, .slice a6 resp.length c6, .slice a7 guards.length c7, .slice a8 ex.length c8, .slice a9 fa.length c9, .int .i64 rd, .int .i64 wr, .slice a12 send.length c12, .int .i64 pos, .slice a14 left.length c14, .slice a15 right.length c15, .slice a16 parent.length c16, .int .i64 dir]) (HG.out) (by simp))) (by simp))) (by simp))) (by simp))) (by simp)))
  have ZX := Lib.hid (show X.heap[w.heap.size + 1]? = some (.cells #[.string ⟨#[]⟩, .int .i64 0, .int .i64 0, .int .i64 0, .int .i64 0, .int .i64 0, .slice none 0 0, .slice none 0 0, .slice none 0 0, .slice none 0 0, .int .i64 0, .int .i64 0, .slice none 0 0, .int .i64 0, .slice none 0 0, .slice none 0 0, .slice none 0 0, .int .i64 0] 50 (0, 0)) by rw [hX]; exact ((Below.heap_setCell _ ⟨w.heap.size, 17, none⟩ _ _ (by simp)).trans (((Below.heap_setCell _ ⟨w.heap.size, 5, none⟩ _ _ (by simp)).trans (((Below.heap_setCell _ ⟨w.heap.size, 4, none⟩ _ _ (by simp)).trans (((Below.heap_setCell _ ⟨w.heap.size, 3, none⟩ _ _ (by simp)).trans (((Below.heap_setCell _ ⟨w.heap.size, 2, none⟩ _ _ (by simp)).trans (HZ.out)))))))))))
  have HX := Lib.hid (show Below w.heap.size w X by rw [hX]; exact (((((HB.out).setCell (by simp) _).setCell (by simp) _).setCell (by simp) _).setCell (by simp) _).setCell (by simp) _)
  clear hX x1 x2 x3 x4 x5 x17 f0
  refine wp_region_lit ?_
  refine ld_mid Try.underlying50 Z6 (by rfl) (.tmp 2) (by rfl) w.heap.size 0 [.string nm, .int .i64 5, .int .i64 0, .int .i64 0, .int .i64 0, .int .i64 0, .slice a6 resp.length c6, .slice a7 guards.length c7, .slice a8 ex.length c8, .slice a9 fa.length c9, .int .i64 rd, .int .i64 wr, .slice a12 send.length c12, .int .i64 pos, .slice a14 left.length c14, .slice a15 right.length c15, .slice a16 parent.length c16, .int .i64 0] (by rfl) (by rfl) (Yc GX.out) ?_
  refine Y8 (T := 50) Z6 (by rfl) (.tmp 4) (.tmp 41) (by rfl) (w.heap.size + 1) [.string nm, .int .i64 5, .int .i64 0, .int .i64 0, .int .i64 0, .int .i64 0, .slice a6 resp.length c6, .slice a7 guards.length c7, .slice a8 ex.length c8, .slice a9 fa.length c9, .int .i64 rd, .int .i64 wr, .slice a12 send.length c12, .int .i64 pos, .slice a14 left.length c14, .slice a15 right.length c15, .slice a16 parent.length c16, .int .i64 0] (by rfl) (by rfl) (by rfl) ZX.out (by rfl) (by simp [Value.oneCell']) (fun Z hZ hbl _ _ => ?_)
  have ZZ := Lib.hid hZ
  have ZB := Lib.hid (hbl _ _ (by omega) HX.out)
  clear hZ hbl
  go_wp2_with fail
  refine bodyPost_ret (v := .agg #[.string nm, .int .i64 5, .int .i64 0, .int .i64 0, .int .i64 0, .int .i64 0, .slice a6 resp.length c6, .slice a7 guards.length c7, .slice a8 ex.length c8, .slice a9 fa.length c9, .int .i64 rd, .int .i64 wr, .slice a12 send.length c12, .int .i64 pos, .slice a14 left.length c14, .slice a15 right.length c15, .slice a16 parent.length c16, .int .i64 0]) (results_cell_row (by rfl) _ _ (w.heap.size + 1) 50 _ (0, 0) _ (by rfl) ZZ.out Try.underlying50 rfl (by exact Z6)) rfl (bare_end (cs' := [.string nm, .int .i64 5, .int .i64 0, .int .i64 0, .int .i64 0, .int .i64 0, .slice a6 resp.length c6, .slice a7 guards.length c7, .slice a8 ex.length c8, .slice a9 fa.length c9, .int .i64 rd, .int .i64 wr, .slice a12 send.length c12, .int .i64 pos, .slice a14 left.length c14, .slice a15 right.length c15, .slice a16 parent.length c16, .int .i64 0]) ZB.out rfl (fun W hB => ?_))
  have HB := Lib.hid hB
  exact ⟨_, _, _, _, _, _, _, _, rfl, H0.out, H1.out, YI, YI, YI, YI, H6.out.below HB.out, H7.out.below ThEl.stays HB.out, H8.out.below HB.out, H9.out.below HB.out, H10.out, H11.out, H12.out.below HB.out, H13.out, H14.out.below HB.out, H15.out.below HB.out, H16.out.below HB.out, YI⟩
theorem withoutUsed_any {lo : Nat} {w : World} {cs : List Value} {r : Ru} (top : Int) (hk : r.kind = 1 ∨ r.kind = 2 ∨ r.kind = 3 ∨ r.kind = 4 ∨ r.kind = 5) (h : RuEl lo w cs r) :
    Calls Try.prog 97 #[.agg cs.toArray, .int .i64 top] w fun e w' => e = .returned (.agg (bareC r.kind top cs).toArray) ∧ RuEl lo w' (bareC r.kind top cs) (bare r top) ∧ Below w.heap.size w w' := by
  obtain ⟨nm, kind, frm, tw, pf, pt, resp, guards, ex, fa, rd, wr, send, pos, left, right, parent, dir⟩ := r
  dsimp only at hk ⊢
  rcases hk with rfl | rfl | rfl | rfl | rfl
  · rw [show bare ⟨nm, 1, frm, tw, pf, pt, resp, guards, ex, fa, rd, wr, send, pos, left, right, parent, dir⟩ top = ⟨nm, 1, 0, 0, pf, pt, resp, [], [], [], (-1), (-1), [], pos, left, right, parent, dir⟩ by unfold bare; simp, show bareC 1 top cs = bareC1 cs by unfold bareC; simp]; exact withoutUsed_1 top h
  · rw [show bare ⟨nm, 2, frm, tw, pf, pt, resp, guards, ex, fa, rd, wr, send, pos, left, right, parent, dir⟩ top = ⟨nm, 2, 0, 0, 0, 0, resp, guards, ex, fa, (-1), (-1), send, pos, left, right, parent, dir⟩ by unfold bare; simp, show bareC 2 top cs = bareC2 cs by unfold bareC; simp]; exact withoutUsed_2 top h
  · rw [show bare ⟨nm, 3, frm, tw, pf, pt, resp, guards, ex, fa, rd, wr, send, pos, left, right, parent, dir⟩ top = ⟨nm, 3, 0, 0, pf, pt, [], guards, ex, fa, (-1), (-1), send, pos, left, right, parent, dir⟩ by unfold bare; simp, show bareC 3 top cs = bareC3 cs by unfold bareC; simp]; exact withoutUsed_3 top h
  · by_cases ht : top = 4
    · subst ht
      rw [show bare ⟨nm, 4, frm, tw, pf, pt, resp, guards, ex, fa, rd, wr, send, pos, left, right, parent, dir⟩ 4 = ⟨nm, 4, 0, 0, pf, pt, resp, guards, ex, fa, rd, wr, send, 0, [], [], [], dir⟩ by unfold bare; simp, show bareC 4 4 cs = bareC4t cs by unfold bareC; simp]; exact withoutUsed_4t h
    rw [show bare ⟨nm, 4, frm, tw, pf, pt, resp, guards, ex, fa, rd, wr, send, pos, left, right, parent, dir⟩ top = ⟨nm, 4, 0, 0, pf, pt, resp, guards, ex, fa, rd, wr, send, 0, [], [], parent, dir⟩ by unfold bare; simp [ht], show bareC 4 top cs = bareC4n cs by unfold bareC; simp [ht]]; exact withoutUsed_4n top (by simpa using ht) h
  rw [show bare ⟨nm, 5, frm, tw, pf, pt, resp, guards, ex, fa, rd, wr, send, pos, left, right, parent, dir⟩ top = ⟨nm, 5, 0, 0, 0, 0, resp, guards, ex, fa, rd, wr, send, pos, left, right, parent, 0⟩ by unfold bare; simp, show bareC 5 top cs = bareC5 cs by unfold bareC; simp]; exact withoutUsed_5 top h
theorem bareC_el {lo : Nat} {w : World} {cs : List Value} {r : Ru} (top : Int) (hk : r.kind = 1 ∨ r.kind = 2 ∨ r.kind = 3 ∨ r.kind = 4 ∨ r.kind = 5) (h : RuEl lo w cs r) : RuEl lo w (bareC r.kind top cs) (bare r top) := by
  obtain ⟨v6, v7, v8, v9, v12, v14, v15, v16, rfl, h0, h1, h2, h3, h4, h5, h6, h7, h8, h9, h10, h11, h12, h13, h14, h15, h16, h17⟩ := h
  obtain ⟨nm, kind, frm, tw, pf, pt, resp, guards, ex, fa, rd, wr, send, pos, left, right, parent, dir⟩ := r
  dsimp only at hk h0 h1 h2 h3 h4 h5 h6 h7 h8 h9 h10 h11 h12 h13 h14 h15 h16 h17 ⊢
  rcases hk with rfl | rfl | rfl | rfl | rfl
  · rw [show bare ⟨nm, 1, frm, tw, pf, pt, resp, guards, ex, fa, rd, wr, send, pos, left, right, parent, dir⟩ top = ⟨nm, 1, 0, 0, pf, pt, resp, [], [], [], (-1), (-1), [], pos, left, right, parent, dir⟩ by unfold bare; simp]; rw [bareC_1]; exact ⟨_, _, _, _, _, _, _, _, rfl, h0, h1, YI, YI, h4, h5, h6, ths_nil _ _, Yp _ _, Yp _ _, KM, KM, Yp _ _, h13, h14, h15, h16, h17⟩
  · rw [show bare ⟨nm, 2, frm, tw, pf, pt, resp, guards, ex, fa, rd, wr, send, pos, left, right, parent, dir⟩ top = ⟨nm, 2, 0, 0, 0, 0, resp, guards, ex, fa, (-1), (-1), send, pos, left, right, parent, dir⟩ by unfold bare; simp]; rw [bareC_2]; exact ⟨_, _, _, _, _, _, _, _, rfl, h0, h1, YI, YI, YI, YI, h6, h7, h8, h9, KM, KM, h12, h13, h14, h15, h16, h17⟩
  · rw [show bare ⟨nm, 3, frm, tw, pf, pt, resp, guards, ex, fa, rd, wr, send, pos, left, right, parent, dir⟩ top = ⟨nm, 3, 0, 0, pf, pt, [], guards, ex, fa, (-1), (-1), send, pos, left, right, parent, dir⟩ by unfold bare; simp]; rw [bareC_3]; exact ⟨_, _, _, _, _, _, _, _, rfl, h0, h1, YI, YI, h4, h5, Yp _ _, h7, h8, h9, KM, KM, h12, h13, h14, h15, h16, h17⟩
  · by_cases ht : top = 4
    · subst ht
      rw [show bare ⟨nm, 4, frm, tw, pf, pt, resp, guards, ex, fa, rd, wr, send, pos, left, right, parent, dir⟩ 4 = ⟨nm, 4, 0, 0, pf, pt, resp, guards, ex, fa, rd, wr, send, 0, [], [], [], dir⟩ by unfold bare; simp]; rw [bareC_4t]; exact ⟨_, _, _, _, _, _, _, _, rfl, h0, h1, YI, YI, h4, h5, h6, h7, h8, h9, h10, h11, h12, YI, Yp _ _, Yp _ _, Yp _ _, h17⟩
    rw [show bare ⟨nm, 4, frm, tw, pf, pt, resp, guards, ex, fa, rd, wr, send, pos, left, right, parent, dir⟩ top = ⟨nm, 4, 0, 0, pf, pt, resp, guards, ex, fa, rd, wr, send, 0, [], [], parent, dir⟩ by unfold bare; simp [ht]]; rw [bareC_4n _ _ ht]; exact ⟨_, _, _, _, _, _, _, _, rfl, h0, h1, YI, YI, h4, h5, h6, h7, h8, h9, h10, h11, h12, YI, Yp _ _, Yp _ _, h16, h17⟩
  rw [show bare ⟨nm, 5, frm, tw, pf, pt, resp, guards, ex, fa, rd, wr, send, pos, left, right, parent, dir⟩ top = ⟨nm, 5, 0, 0, 0, 0, resp, guards, ex, fa, rd, wr, send, pos, left, right, parent, 0⟩ by unfold bare; simp]; rw [bareC_5]; exact ⟨_, _, _, _, _, _, _, _, rfl, h0, h1, YI, YI, YI, YI, h6, h7, h8, h9, h10, h11, h12, h13, h14, h15, h16, YI⟩
set_option maxHeartbeats 1600000 in
theorem KO {lo : Nat} {w : World} {v : Value} {q : Fm} (h : IsFam lo w v q) :
    Calls Try.prog 45 #[v] w fun e w' => e = .returned (.bool (cliB q)) ∧ Below w.heap.size w w' := by
  obtain ⟨v2, v3, v4, v6, v7, v8, v9, rfl, _, _, h2, h3, h4, _, h6, h7, h8, h9⟩ := h
  have E : Hid (cliB q = (decide (0 < q.msgs.length) || decide (0 < q.vals.length) || decide (0 < q.res.length) || decide (q.fault ≠ 0))) := (rfl : cliB q = _)
  have b3 : q.msgs.length ≤ 9223372036854775807 := h3.bound
  have b4 : q.vals.length ≤ 9223372036854775807 := h4.bound
  have b6 : q.res.length ≤ 9223372036854775807 := h6.bound
  obtain ⟨a3, c3, rfl⟩ := h3.shape
  obtain ⟨a4, c4, rfl⟩ := h4.shape
  obtain ⟨a6, c6, rfl⟩ := h6.shape
  clear h2 h3 h4 h6 h7 h8 h9
  by_cases t0 : 0 < q.msgs.length
  · have it0 : (0 : Int) < ((q.msgs.length : Nat) : Int) := by omega
    go_enter Try.func45, Try.ntmps45
    go_wp2_with fail
    go_ret
    exact ⟨Zl (by rw [E.out, decide_eq_true t0]; simp), Zg _ _⟩
  have it0 : ¬ (0 : Int) < ((q.msgs.length : Nat) : Int) := by omega
  by_cases t1 : 0 < q.vals.length
  · have it1 : (0 : Int) < ((q.vals.length : Nat) : Int) := by omega
    go_enter Try.func45, Try.ntmps45
    go_wp2_with fail
    go_ret
    exact ⟨Zl (by rw [E.out, decide_eq_true t1]; simp), Zg _ _⟩
  have it1 : ¬ (0 : Int) < ((q.vals.length : Nat) : Int) := by omega
  by_cases t2 : 0 < q.res.length
  · have it2 : (0 : Int) < ((q.res.length : Nat) : Int) := by omega
    go_enter Try.func45, Try.ntmps45
    go_wp2_with fail
    go_ret
    exact ⟨Zl (by rw [E.out, decide_eq_true t2]; simp), Zg _ _⟩
  have it2 : ¬ (0 : Int) < ((q.res.length : Nat) : Int) := by omega
  by_cases t3 : q.fault = 0
  · have i3 : (q.fault != 0) = false := by simpa using t3
    have T := Lib.hid (And.intro t0 (And.intro t1 (And.intro t2 t3)))
    clear t3
    go_enter Try.func45, Try.ntmps45
    go_wp2_with fail
    go_ret
    exact ⟨Zl (by rw [E.out, decide_eq_false T.out.1, decide_eq_false T.out.2.1, decide_eq_false T.out.2.2.1, decide_eq_false (fun h => h T.out.2.2.2)]; simp), Zg _ _⟩
  have i3 : (q.fault != 0) = true := by simpa using t3
  have T := Lib.hid t3
  clear t3
  go_enter Try.func45, Try.ntmps45
  go_wp2_with fail
  go_ret
  exact ⟨Zl (by rw [E.out, decide_eq_true T.out]; simp), Zg _ _⟩
end Go.Proofs.Ytoefmdjgnabgfaa
