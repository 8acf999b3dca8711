/-
  rowLink AND Neighbors OF THE PROGRAM.
-/
import Derived.Test.YtbeadfagacndeaaLinks
import Derived.Test.YtbeadfagacndeaaShp
import Derived.Deep.QuietTactic
import Derived.BigQuiet
namespace Go.Proofs.Ytbeadfagacndeaa
open Go.RowKit Go.Deep

theorem ret_three {a b c a' b' c' : Int} (h : (a, b, c) = (a', b', c')) : Ending.returned (.tuple #[.int .i64 a, .int .i64 b, .int .i64 c]) = .returned (.tuple #[.int .i64 a', .int .i64 b', .int .i64 c']) := by cases h; rfl
theorem ret_agg3 {a b c a' b' c' : Int} (h : (a, b, c) = (a', b', c')) : Ending.returned (.agg #[.int .i64 a, .int .i64 b, .int .i64 c]) = .returned (.agg #[.int .i64 a', .int .i64 b', .int .i64 c']) := by cases h; rfl
set_option maxHeartbeats 800000 in
theorem rowLink_any (top count i : Int) (w : World) (h0 : 0 ≤ i) (h1 : i < count) (hc : count ≤ 9223372036854775807) :
    Calls Try.prog 17 #[.int .i64 top, .int .i64 count, .int .i64 i] w fun e w' => e = .returned (.agg #[.int .i64 (rowL top count i).1, .int .i64 (rowL top count i).2.1, .int .i64 (rowL top count i).2.2]) ∧ Below w.heap.size w w' := by
  have E : Hid (rowL top count i = (if top = 3 ∧ i = 0 then count - 1 else i - 1, if i = count - 1 then (if top = 3 then 0 else -1) else i + 1, -1)) := (rfl : rowL top count i = _)
  by_cases hl : i = count - 1
  · have b1 : (i == count - 1) = true := by simpa using hl
    have HL := Lib.hid hl
    clear hl
    by_cases ht : top = 3
    · subst ht
      by_cases hz : i = 0
      · subst hz
        go_enter Try.func17, Try.ntmps17
        go_wp2_with fail
        refine bodyPost_ret (v := .agg #[.int .i64 (count - 1), .int .i64 (0), .int .i64 (-1)]) (by simp [results, Try.results17, go_sem]) rfl ⟨ret_agg3 ?_, by go_grown⟩
        have h := HL.out; rw [E.out]; simp [← h]
      · have b2 : (i == 0) = false := by simpa using hz
        have HZ := Lib.hid hz
        clear hz
        go_enter Try.func17, Try.ntmps17
        go_wp2_with fail
        refine bodyPost_ret (v := .agg #[.int .i64 (i - 1), .int .i64 (0), .int .i64 (-1)]) (by simp [results, Try.results17, go_sem]) rfl ⟨ret_agg3 ?_, by go_grown⟩
        have h := HL.out; have h2 := HZ.out; rw [E.out]; simp [← h, h2]
    · have b2 : (top == 3) = false := by simpa using ht
      have HT := Lib.hid ht
      clear ht
      go_enter Try.func17, Try.ntmps17
      go_wp2_with fail
      refine bodyPost_ret (v := .agg #[.int .i64 (i - 1), .int .i64 (-1), .int .i64 (-1)]) (by simp [results, Try.results17, go_sem]) rfl ⟨ret_agg3 ?_, by go_grown⟩
      have h := HL.out; have h2 := HT.out; rw [E.out]; simp [← h, h2]
  · have b1 : (i == count - 1) = false := by simpa using hl
    have HL := Lib.hid hl
    clear hl
    by_cases ht : top = 3
    · subst ht
      by_cases hz : i = 0
      · subst hz
        go_enter Try.func17, Try.ntmps17
        go_wp2_with fail
        refine bodyPost_ret (v := .agg #[.int .i64 (count - 1), .int .i64 (0 + 1), .int .i64 (-1)]) (by simp [results, Try.results17, go_sem]) rfl ⟨ret_agg3 ?_, by go_grown⟩
        have h := HL.out; rw [E.out]; simp [h]
      · have b2 : (i == 0) = false := by simpa using hz
        have HZ := Lib.hid hz
        clear hz
        go_enter Try.func17, Try.ntmps17
        go_wp2_with fail
        refine bodyPost_ret (v := .agg #[.int .i64 (i - 1), .int .i64 (i + 1), .int .i64 (-1)]) (by simp [results, Try.results17, go_sem]) rfl ⟨ret_agg3 ?_, by go_grown⟩
        have h := HL.out; have h2 := HZ.out; rw [E.out]; simp [h, h2]
    · have b2 : (top == 3) = false := by simpa using ht
      have HT := Lib.hid ht
      clear ht
      go_enter Try.func17, Try.ntmps17
      go_wp2_with fail
      refine bodyPost_ret (v := .agg #[.int .i64 (i - 1), .int .i64 (i + 1), .int .i64 (-1)]) (by simp [results, Try.results17, go_sem]) rfl ⟨ret_agg3 ?_, by go_grown⟩
      have h := HL.out; have h2 := HT.out; rw [E.out]; simp [h, h2]

def nbrV (t : Int × Int × Int) : Value := .tuple #[.int .i64 t.1, .int .i64 t.2.1, .int .i64 t.2.2]
theorem ret_nbr {a b c : Int} {t : Int × Int × Int} (h : t = (a, b, c)) : Ending.returned (.tuple #[.int .i64 a, .int .i64 b, .int .i64 c]) = .returned (nbrV t) := by subst h; rfl
set_option maxHeartbeats 1600000 in
theorem Neighbors_any {lo : Nat} {w : World} {v : Value} {xs : List Int} (top count i : Int) (h : IsInts lo w v xs) (hn : xs.length ≤ 100) (hc : count ≤ 9223372036854775807) :
    Calls Try.prog 8 #[.int .i64 top, v, .int .i64 count, .int .i64 i] w fun e w' => e = .returned (nbrV (nbr top xs count i)) ∧ Below w.heap.size w w' := by
  have H := Lib.hid h
  obtain ⟨a, cap, rfl⟩ := h.shape
  clear h
  by_cases hi : 0 ≤ i
  · by_cases hl : i < count
    · have HI := Lib.hid (And.intro hi hl)
      by_cases t2 : top = 2
      · subst t2
        have E := Lib.hid (show nbr 2 xs count i = rowL 2 count i by unfold nbr; rw [if_pos HI.out, if_pos (by simp)])
        go_enter Try.func8, Try.ntmps8
        go_wp2_with (go_at_call 17; refine (rowLink_any _ _ _ _ HI.out.1 HI.out.2 hc).mono ?_; rintro e w1 ⟨rfl, hb1⟩; obtain ⟨pa, pb⟩ := blk hb1 (n := w.heap.size) (by go_size); have hz1 : w.heap.size < w1.heap.size := (by have := hb1.size; simp at this; omega); have HB1 := Lib.hid (Below.trans (by go_grown) (hb1.mono (by go_size)) : Below w.heap.size w w1); clear hb1)
        go_quiet (fail)
        go_wp2_with fail
        go_ret3
        exact ⟨ret_nbr (by rw [E.out]), quietBelow (((HB1.out.setCell (by simp) _).setCell (by simp) _).setCell (by simp) _) _⟩
      · have b2 : (top == 2) = false := by simpa using t2
        by_cases t3 : top = 3
        · subst t3
          have E := Lib.hid (show nbr 3 xs count i = rowL 3 count i by unfold nbr; rw [if_pos HI.out, if_pos (by simp)])
          go_enter Try.func8, Try.ntmps8
          go_wp2_with (go_at_call 17; refine (rowLink_any _ _ _ _ HI.out.1 HI.out.2 hc).mono ?_; rintro e w1 ⟨rfl, hb1⟩; obtain ⟨pa, pb⟩ := blk hb1 (n := w.heap.size) (by go_size); have hz1 : w.heap.size < w1.heap.size := (by have := hb1.size; simp at this; omega); have HB1 := Lib.hid (Below.trans (by go_grown) (hb1.mono (by go_size)) : Below w.heap.size w w1); clear hb1)
          go_quiet (fail)
          go_wp2_with fail
          go_ret3
          exact ⟨ret_nbr (by rw [E.out]), quietBelow (((HB1.out.setCell (by simp) _).setCell (by simp) _).setCell (by simp) _) _⟩
        · have b3 : (top == 3) = false := by simpa using t3
          have HT := Lib.hid (And.intro t2 t3)
          clear t2 t3
          by_cases t4 : top = 4
          · subst t4
            cases hs : isShp xs count with
            | true =>
              have HS := Lib.hid hs
              have hp : (xs.length : Int) = count ∧ shp xs = true := by unfold isShp at hs; simpa using hs
              have E := Lib.hid (show nbr 4 xs count i = treeL xs i.toNat by unfold nbr; rw [if_pos HI.out, if_neg (by simp), if_pos ⟨rfl, hp⟩])
              obtain ⟨j, rfl⟩ := Int.eq_ofNat_of_zero_le hi
              have hj : j < xs.length := by omega
              have hcl := hp.1
              have HP := Lib.hid hp
              clear hp
              obtain ⟨b, off, rfl, hbw, hcell⟩ : ∃ b off, a = some ⟨b, off, none⟩ ∧ b < w.heap.size ∧ ∀ i, i < xs.length → w.cell? ⟨b, off + i, none⟩ = some (.int .i64 (xs.getD i 0)) := by
                obtain ⟨a', cap', hv, _, _, _, hc⟩ := H.out
                simp only [Value.slice.injEq] at hv
                rcases hc with h0 | ⟨b, off, ha, _, hb, hc⟩
                · rw [h0] at hj; simp at hj
                · exact ⟨b, off, hv.1.trans ha, hb, hc⟩
              have HCell := Lib.hid hcell
              clear hcell hcl
              go_enter Try.func8, Try.ntmps8
              go_wp2_with (first | (go_at_call 18; refine (isShape_any count (H.out.below (by go_grown)) (by omega)).mono ?_; rintro e w1 ⟨rfl, rfl⟩) | (go_at_call 19; refine (treeLinks_full b off xs.length cap _ xs rfl hn (by omega) (fun i hi => keep1 (HCell.out i hi) (by go_grown))).mono ?_; rintro e w1 ⟨g, rfl, hO, hb1⟩; obtain ⟨pa, pb⟩ := blk hb1 (n := w.heap.size) (by go_size); have hz1 : w.heap.size < w1.heap.size := (by have := hb1.size; simp at this; omega); have HB1 := Lib.hid (Below.trans (by go_grown) (hb1.mono (by go_size)) : Below w.heap.size w w1); have c0 := hO.cell (j * 3) (by omega); have c1 := hO.cell (j * 3 + 1) (by omega); have c2 := hO.cell (j * 3 + 2) (by omega); rw [cf_fi] at c0; rw [cf_se] at c1; rw [cf_pa] at c2; clear hb1 hO))
              go_quiet (fail)
              go_wp2_with fail
              go_ret3
              exact ⟨ret_nbr (by rw [E.out]; rfl), quietBelow (((HB1.out.setCell (by simp) _).setCell (by simp) _).setCell (by simp) _) _⟩
            | false =>
              have E := Lib.hid (show nbr 4 xs count i = (-1, -1, -1) by
                unfold nbr; rw [if_pos HI.out, if_neg (by simp), if_neg (by rintro ⟨_, h1, h2⟩; unfold isShp at hs; rw [decide_eq_true h1, h2] at hs; cases hs)])
              have HS := Lib.hid hs
              go_enter Try.func8, Try.ntmps8
              go_wp2_with (go_at_call 18; refine (isShape_any count (H.out.below (by go_grown)) (by omega)).mono ?_; rintro e w1 ⟨rfl, rfl⟩)
              go_quiet (fail)
              go_wp2_with fail
              go_ret3
              exact ⟨ret_nbr (by rw [E.out]), quietBelow (allocBelow _ _) _⟩
          · have b4 : (top == 4) = false := by simpa using t4
            have E := Lib.hid (show nbr top xs count i = (-1, -1, -1) by unfold nbr; rw [if_pos HI.out, if_neg (by have := HT.out; omega), if_neg (by rintro ⟨h, _⟩; exact t4 h)])
            clear t4
            go_enter Try.func8, Try.ntmps8
            go_wp2_with (fail)
            go_quiet (fail)
            go_wp2_with fail
            go_ret3
            exact ⟨ret_nbr (by rw [E.out]), quietBelow (allocBelow _ _) _⟩
    · have E := Lib.hid (show nbr top xs count i = (-1, -1, -1) by unfold nbr; rw [if_neg (by omega)])
      go_enter Try.func8, Try.ntmps8
      go_wp2_with (fail)
      go_quiet (fail)
      go_wp2_with fail
      go_ret3
      exact ⟨ret_nbr (by rw [E.out]), quietBelow (allocBelow _ _) _⟩
  · have E := Lib.hid (show nbr top xs count i = (-1, -1, -1) by unfold nbr; rw [if_neg (by omega)])
    go_enter Try.func8, Try.ntmps8
    go_wp2_with (fail)
    go_quiet (fail)
    go_wp2_with fail
    go_ret3
    exact ⟨ret_nbr (by rw [E.out]), quietBelow (allocBelow _ _) _⟩
end Go.Proofs.Ytbeadfagacndeaa
