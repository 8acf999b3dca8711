import Derived.Test.YtgbgfkhkjlakbaaProg
import Derived.WalkSpells
import Derived.WalkLawsBesides
import Derived.LoopTactic
import Derived.Lib.Hide
import Derived.Outline
import Derived.Deep.QuietTactic
import Derived.BigQuiet
import Derived.Laws.MakeOwn
import Derived.Test.YtgbgfkhkjlakbaaGrphfknidma
import Derived.Test.YtgbgfkhkjlakbaaGrpgpbpdhfe
import Derived.Test.YtgbgfkhkjlakbaaGrpkklinmii
import Derived.Test.YtgbgfkhkjlakbaaGrpjeknidcc
import Derived.Test.YtgbgfkhkjlakbaaGrpcpinbnde
import Derived.Test.YtgbgfkhkjlakbaaGrpjohmkmbe
import Derived.Test.YtgbgfkhkjlakbaaGrppofaljim
import Derived.Test.YtgbgfkhkjlakbaaGrpobaggjan
import Derived.Test.YtgbgfkhkjlakbaaGrpandbhcap
import Derived.Test.YtgbgfkhkjlakbaaGrpoeoglgdb
import Derived.Test.YtgbgfkhkjlakbaaGrpelfcmdhj
set_option linter.all false
namespace Go.Proofs.Ytgbgfkhkjlakbaa
open Go.RowKit Go.Deep
def isShp (xs : List Int) (count : Int) : Bool := decide ((xs.length : Int) = count) && shp xs
set_option maxHeartbeats 800000 in
theorem isShape_full (b off n cap : Nat) (count : Int) (w : World) (xs : List Int) (hx : xs.length = n) (hn : n ≤ 1000000)
    (hc : ∀ i, i < n → w.cell? ⟨b, off + i, none⟩ = some (.int .i64 (xs.getD i 0))) :
    Calls Try.prog 31 #[.slice (some ⟨b, off, none⟩) n cap, .int .i64 count] w fun e w' => e = .returned (.bool (isShp xs count)) ∧ w = w' := by
  have HC := Lib.hid hc
  have HX := Lib.hid hx
  clear hc hx
  by_cases hn' : (n : Int) = count
  · subst hn'
    go_enter Try.func31, Try.ntmps31
    go_wp2_with fail
    go_loop [5, 14] (fun v u => ∃ (k : Nat) (m : Int), k ≤ n ∧ u = .int .i64 k ∧ v = .int .i64 m ∧ 0 ≤ m ∧ m ≤ k + 1 ∧ shpF (xs.drop k) m = shp xs) (fun _ u => n - (intOf u).toNat)
    case atStart => exact ⟨0, 1, Nat.zero_le _, rfl, rfl, by omega, by omega, rfl⟩
    case round =>
      obtain ⟨k, m, hk, rfl, rfl, h0, h1, hs⟩ := hrel
      have HS := Lib.hid hs
      clear hs
      by_cases hlt : k < n
      · have g1 := HC.out k hlt
        have HD := Lib.hid (show shpF (xs.drop k) m = if m = 0 then false else if xs.getD k 0 ≠ 0 ∧ xs.getD k 0 ≠ 2 then false else shpF (xs.drop (k + 1)) (m + xs.getD k 0 - 1) by
          have hd : xs.drop k = xs[k]'(by rw [HX.out]; exact hlt) :: xs.drop (k + 1) := List.drop_eq_getElem_cons _
          rw [hd, shpF, show xs.getD k 0 = xs[k]'(by rw [HX.out]; exact hlt) by simp [List.getD, List.getElem?_eq_getElem (show k < xs.length by rw [HX.out]; exact hlt)]])
        generalize hX : xs.getD k 0 = x at g1 HD
        clear hX
        by_cases m0 : m = 0
        · subst m0
          go_wp2_with fail
          go_ret
          exact ⟨Ze (by unfold isShp; rw [← HS.out, HD.out]; simp), rfl⟩
        have m1 : (m == 0) = false := by simpa using m0
        have M0 := Lib.hid m0
        have m2 : 1 ≤ m := by omega
        clear m0
        by_cases x0 : x = 0
        · subst x0
          go_wp2_with fail
          go_round
          case rel => exact ⟨k + 1, m - 1, by omega, by go_num, by go_num, by omega, by omega, by rw [← HS.out, HD.out, if_neg M0.out, if_neg (by omega)]; congr 1; omega⟩
          case measure => simp [intOf]; omega
        by_cases x2 : x = 2
        · subst x2
          go_wp2_with fail
          go_round
          case rel => exact ⟨k + 1, m + 1, by omega, by go_num, by go_num, by omega, by omega, by rw [← HS.out, HD.out, if_neg M0.out, if_neg (by omega)]; congr 1; omega⟩
          case measure => simp [intOf]; omega
        have x3 : (x != 0) = true := by simpa using x0
        have x4 : (x != 2) = true := by simpa using x2
        have XX := Lib.hid (And.intro x0 x2)
        clear x0 x2
        go_wp2_with fail
        go_ret
        exact ⟨Ze (by unfold isShp; rw [← HS.out, HD.out, if_neg M0.out, if_pos XX.out, Bool.and_false]), rfl⟩
      have HE := Lib.hid (show shp xs = (m == 0) by
        rw [← HS.out, List.drop_eq_nil_of_le (by rw [HX.out]; omega), shpF]; rfl)
      go_wp2_with fail
      go_ret
      exact ⟨Ze (by unfold isShp; rw [HX.out, decide_eq_true rfl, HE.out, Bool.true_and]), rfl⟩
  have e1 : ((n : Int) == count) = false := by simpa using hn'
  have e2 : ((n : Int) != count) = true := by simpa using hn'
  have HN := Lib.hid hn'
  clear hn'
  go_enter Try.func31, Try.ntmps31
  go_wp2_with fail
  go_ret
  exact ⟨Ze (by unfold isShp; rw [HX.out, decide_eq_false HN.out]; rfl), rfl⟩
set_option maxHeartbeats 800000 in
theorem isShape_empty (a : Option Addr) (cap : Nat) (count : Int) (w : World) :
    Calls Try.prog 31 #[.slice a 0 cap, .int .i64 count] w fun e w' => e = .returned (.bool (isShp [] count)) ∧ w = w' := by
  by_cases hn : count = 0
  · subst hn
    go_enter Try.func31, Try.ntmps31
    go_wp2_with fail
    refine wp_loop_rounds 1 ?_
    rw [rounds_succ]
    go_wp2_with fail
    go_ret
    exact ⟨rfl, rfl⟩
  have e1 : ((0 : Int) == count) = false := by simp; omega
  have e2 : ((0 : Int) != count) = true := by simp; omega
  have HN := Lib.hid hn
  clear hn
  go_enter Try.func31, Try.ntmps31
  go_wp2_with fail
  go_ret
  exact ⟨Ze (by unfold isShp; rw [decide_eq_false (by have := HN.out; simp; omega)]; rfl), rfl⟩
theorem isShape_any {lo : Nat} {w : World} {v : Value} {xs : List Int} (count : Int) (h : IsInts lo w v xs) (hn : xs.length ≤ 1000000) :
    Calls Try.prog 31 #[v, .int .i64 count] w fun e w' => e = .returned (.bool (isShp xs count)) ∧ w = w' := by
  obtain ⟨a, cap, rfl, hl, hm, hi, hc⟩ := h
  rcases hc with rfl | ⟨b, off, rfl, _, _, hc⟩
  · exact isShape_empty _ _ _ _
  exact isShape_full _ _ _ _ _ _ _ rfl hn hc
end Go.Proofs.Ytgbgfkhkjlakbaa

namespace Go.Proofs.Ytgbgfkhkjlakbaa
open Go.RowKit Go.Deep
theorem ret_agg3 {a b c a' b' c' : Int} (h : (a, b, c) = (a', b', c')) : Ending.returned (.agg #[.int .i64 a, .int .i64 b, .int .i64 c]) = .returned (.agg #[.int .i64 a', .int .i64 b', .int .i64 c']) := by cases h; rfl
set_option maxHeartbeats 800000 in
theorem rowLink_any (top count i : Int) (w : World) (h0 : 0 ≤ i) (h1 : i < count) (hc : count ≤ 9223372036854775807) :
    Calls Try.prog 50 #[.int .i64 top, .int .i64 count, .int .i64 i] w fun e w' => e = .returned (.agg #[.int .i64 (rowL top count i).1, .int .i64 (rowL top count i).2.1, .int .i64 (rowL top count i).2.2]) ∧ Below w.heap.size w w' := by
  have E : Hid (rowL top count i = (if top = 3 ∧ i = 0 then count - 1 else i - 1, if i = count - 1 then (if top = 3 then 0 else -1) else i + 1, -1)) := (rfl : rowL top count i = _)
  by_cases hl : i = count - 1
  · have b1 : (i == count - 1) = true := by simpa using hl
    have HL := Lib.hid hl
    clear hl
    by_cases ht : top = 3
    · subst ht
      by_cases hz : i = 0
      · subst hz
        go_enter Try.func50, Try.ntmps50
        go_wp2_with fail
        refine bodyPost_ret (v := .agg #[.int .i64 (count - 1), .int .i64 (0), .int .i64 (-1)]) (by simp [results, Try.results50, go_sem]) rfl ⟨ret_agg3 ?_, by go_grown⟩
        have h := HL.out; rw [E.out]; simp [← h]
      have b2 : (i == 0) = false := by simpa using hz
      have HZ := Lib.hid hz
      clear hz
      go_enter Try.func50, Try.ntmps50
      go_wp2_with fail
      refine bodyPost_ret (v := .agg #[.int .i64 (i - 1), .int .i64 (0), .int .i64 (-1)]) (by simp [results, Try.results50, go_sem]) rfl ⟨ret_agg3 ?_, by go_grown⟩
      have h := HL.out; have h2 := HZ.out; rw [E.out]; simp [← h, h2]
    have b2 : (top == 3) = false := by simpa using ht
    have HT := Lib.hid ht
    clear ht
    go_enter Try.func50, Try.ntmps50
    go_wp2_with fail
    refine bodyPost_ret (v := .agg #[.int .i64 (i - 1), .int .i64 (-1), .int .i64 (-1)]) (by simp [results, Try.results50, go_sem]) rfl ⟨ret_agg3 ?_, by go_grown⟩
    have h := HL.out; have h2 := HT.out; rw [E.out]; simp [← h, h2]
  have b1 : (i == count - 1) = false := by simpa using hl
  have HL := Lib.hid hl
  clear hl
  by_cases ht : top = 3
  · subst ht
    by_cases hz : i = 0
    · subst hz
      go_enter Try.func50, Try.ntmps50
      go_wp2_with fail
      refine bodyPost_ret (v := .agg #[.int .i64 (count - 1), .int .i64 (0 + 1), .int .i64 (-1)]) (by simp [results, Try.results50, go_sem]) rfl ⟨ret_agg3 ?_, by go_grown⟩
      have h := HL.out; rw [E.out]; simp [h]
    have b2 : (i == 0) = false := by simpa using hz
    have HZ := Lib.hid hz
    clear hz
    go_enter Try.func50, Try.ntmps50
    go_wp2_with fail
    refine bodyPost_ret (v := .agg #[.int .i64 (i - 1), .int .i64 (i + 1), .int .i64 (-1)]) (by simp [results, Try.results50, go_sem]) rfl ⟨ret_agg3 ?_, by go_grown⟩
    have h := HL.out; have h2 := HZ.out; rw [E.out]; simp [h, h2]
  have b2 : (top == 3) = false := by simpa using ht
  have HT := Lib.hid ht
  clear ht
  go_enter Try.func50, Try.ntmps50
  go_wp2_with fail
  refine bodyPost_ret (v := .agg #[.int .i64 (i - 1), .int .i64 (i + 1), .int .i64 (-1)]) (by simp [results, Try.results50, go_sem]) rfl ⟨ret_agg3 ?_, by go_grown⟩
  have h := HL.out; have h2 := HT.out; rw [E.out]; simp [h, h2]
def nbrV (t : Int × Int × Int) : Value := .tuple #[.int .i64 t.1, .int .i64 t.2.1, .int .i64 t.2.2]
theorem ret_nbr {a b c : Int} {t : Int × Int × Int} (h : t = (a, b, c)) : Ending.returned (.tuple #[.int .i64 a, .int .i64 b, .int .i64 c]) = .returned (nbrV t) := by subst h; rfl
set_option maxHeartbeats 1600000 in
theorem Neighbors_any {lo : Nat} {w : World} {v : Value} {xs : List Int} (top count i : Int) (h : IsInts lo w v xs) (hn : xs.length ≤ 100) (hc : count ≤ 9223372036854775807) :
    Calls Try.prog 26 #[.int .i64 top, v, .int .i64 count, .int .i64 i] w fun e w' => e = .returned (nbrV (nbr top xs count i)) ∧ Below w.heap.size w w' := by
  have H := Lib.hid h
  obtain ⟨a, cap, rfl⟩ := h.shape
  clear h
  by_cases hi : 0 ≤ i
  · by_cases hl : i < count
    · have HI := Lib.hid (And.intro hi hl)
      by_cases t2 : top = 2
      · subst t2
        have E := Lib.hid (show nbr 2 xs count i = rowL 2 count i by unfold nbr; rw [if_pos HI.out, if_pos (by simp)])
        go_enter Try.func26, Try.ntmps26
        go_wp2_with (go_at_call 50; refine (rowLink_any _ _ _ _ HI.out.1 HI.out.2 hc).mono ?_; rintro e w1 ⟨rfl, hb1⟩; obtain ⟨pa, pb⟩ := blk hb1 (n := w.heap.size) (by go_size); have hz1 : w.heap.size < w1.heap.size := (by have := hb1.size; simp at this; omega); have HB1 := Lib.hid (Below.trans (by go_grown) (hb1.mono (by go_size)) : Below w.heap.size w w1); clear hb1)
        go_quiet (fail)
        go_wp2_with fail
        go_ret3
        exact ⟨ret_nbr (by rw [E.out]), quietBelow (((HB1.out.setCell (by simp) _).setCell (by simp) _).setCell (by simp) _) _⟩
      have b2 : (top == 2) = false := by simpa using t2
      by_cases t3 : top = 3
      · subst t3
        have E := Lib.hid (show nbr 3 xs count i = rowL 3 count i by unfold nbr; rw [if_pos HI.out, if_pos (by simp)])
        go_enter Try.func26, Try.ntmps26
        go_wp2_with (go_at_call 50; refine (rowLink_any _ _ _ _ HI.out.1 HI.out.2 hc).mono ?_; rintro e w1 ⟨rfl, hb1⟩; obtain ⟨pa, pb⟩ := blk hb1 (n := w.heap.size) (by go_size); have hz1 : w.heap.size < w1.heap.size := (by have := hb1.size; simp at this; omega); have HB1 := Lib.hid (Below.trans (by go_grown) (hb1.mono (by go_size)) : Below w.heap.size w w1); clear hb1)
        go_quiet (fail)
        go_wp2_with fail
        go_ret3
        exact ⟨ret_nbr (by rw [E.out]), quietBelow (((HB1.out.setCell (by simp) _).setCell (by simp) _).setCell (by simp) _) _⟩
      have b3 : (top == 3) = false := by simpa using t3
      have HT := Lib.hid (And.intro t2 t3)
      clear t2 t3
      by_cases t4 : top = 4
      · subst t4
        cases hs : isShp xs count with
        | true =>
          have HS := Lib.hid hs
          have hp : (xs.length : Int) = count ∧ shp xs = true := by unfold isShp at hs; simpa using hs
          have E := Lib.hid (show nbr 4 xs count i = treeL xs i.toNat by unfold nbr; rw [if_pos HI.out, if_neg (by simp), if_pos ⟨rfl, hp⟩])
          obtain ⟨j, rfl⟩ := Int.eq_ofNat_of_zero_le hi
          have hj : j < xs.length := by omega
          have hcl := hp.1
          have HP := Lib.hid hp
          clear hp
          obtain ⟨b, off, rfl, hbw, hcell⟩ : ∃ b off, a = some ⟨b, off, none⟩ ∧ b < w.heap.size ∧ ∀ i, i < xs.length → w.cell? ⟨b, off + i, none⟩ = some (.int .i64 (xs.getD i 0)) := by
            obtain ⟨a', cap', hv, _, _, _, hc⟩ := H.out
            simp only [Value.slice.injEq] at hv
            rcases hc with h0 | ⟨b, off, ha, _, hb, hc⟩
            · rw [h0] at hj; simp at hj
            exact ⟨b, off, hv.1.trans ha, hb, hc⟩
          have HCell := Lib.hid hcell
          clear hcell hcl
          go_enter Try.func26, Try.ntmps26
          go_wp2_with (first | (go_at_call 31; refine (isShape_any count (H.out.below (by go_grown)) (by omega)).mono ?_; rintro e w1 ⟨rfl, rfl⟩) | (go_at_call 51; refine (treeLinks_full b off xs.length cap _ xs rfl hn (by omega) (fun i hi => keep1 (HCell.out i hi) (by go_grown))).mono ?_; rintro e w1 ⟨g, rfl, hO, hb1⟩; obtain ⟨pa, pb⟩ := blk hb1 (n := w.heap.size) (by go_size); have hz1 : w.heap.size < w1.heap.size := (by have := hb1.size; simp at this; omega); have HB1 := Lib.hid (Below.trans (by go_grown) (hb1.mono (by go_size)) : Below w.heap.size w w1); have c0 := hO.cell (j * 3) (by omega); have c1 := hO.cell (j * 3 + 1) (by omega); have c2 := hO.cell (j * 3 + 2) (by omega); rw [cf_fi] at c0; rw [cf_se] at c1; rw [cf_pa] at c2; clear hb1 hO))
          go_quiet (fail)
          go_wp2_with fail
          go_ret3
          exact ⟨ret_nbr (by rw [E.out]; rfl), quietBelow (((HB1.out.setCell (by simp) _).setCell (by simp) _).setCell (by simp) _) _⟩
        | false =>
          have E := Lib.hid (show nbr 4 xs count i = (-1, -1, -1) by
            unfold nbr; rw [if_pos HI.out, if_neg (by simp), if_neg (by rintro ⟨_, h1, h2⟩; unfold isShp at hs; rw [decide_eq_true h1, h2] at hs; cases hs)])
          have HS := Lib.hid hs
          go_enter Try.func26, Try.ntmps26
          go_wp2_with (go_at_call 31; refine (isShape_any count (H.out.below (by go_grown)) (by omega)).mono ?_; rintro e w1 ⟨rfl, rfl⟩)
          go_quiet (fail)
          go_wp2_with fail
          go_ret3
          exact ⟨ret_nbr (by rw [E.out]), quietBelow (Zd _ _) _⟩
      have b4 : (top == 4) = false := by simpa using t4
      have E := Lib.hid (show nbr top xs count i = (-1, -1, -1) by unfold nbr; rw [if_pos HI.out, if_neg (by have := HT.out; omega), if_neg (by rintro ⟨h, _⟩; exact t4 h)])
      clear t4
      go_enter Try.func26, Try.ntmps26
      go_wp2_with (fail)
      go_quiet (fail)
      go_wp2_with fail
      go_ret3
      exact ⟨ret_nbr (by rw [E.out]), quietBelow (Zd _ _) _⟩
    have E := Lib.hid (show nbr top xs count i = (-1, -1, -1) by unfold nbr; rw [if_neg (by omega)])
    go_enter Try.func26, Try.ntmps26
    go_wp2_with (fail)
    go_quiet (fail)
    go_wp2_with fail
    go_ret3
    exact ⟨ret_nbr (by rw [E.out]), quietBelow (Zd _ _) _⟩
  have E := Lib.hid (show nbr top xs count i = (-1, -1, -1) by unfold nbr; rw [if_neg (by omega)])
  go_enter Try.func26, Try.ntmps26
  go_wp2_with (fail)
  go_quiet (fail)
  go_wp2_with fail
  go_ret3
  exact ⟨ret_nbr (by rw [E.out]), quietBelow (Zd _ _) _⟩
end Go.Proofs.Ytgbgfkhkjlakbaa

namespace Go.Proofs.Ytgbgfkhkjlakbaa
def digF (n k j : Nat) : Int := (((k / 2 ^ (n - 1 - j)) % 2 : Nat) : Int) * 2
def dig (n k : Nat) : List Int := (List.range n).map (digF n k)
theorem Kq (n k : Nat) : (dig n k).length = n := by simp [dig]
theorem dig_get (n k j : Nat) (h : j < n) : (dig n k).getD j 0 = digF n k j := by simp [dig, List.getD, h]
theorem digF_small (n k j : Nat) : 0 ≤ digF n k j ∧ digF n k j ≤ 2 := by unfold digF; omega
def shK (n k : Nat) : List (List Int) := ((List.range k).map (dig n)).filter shp
def shL (n : Nat) : List (List Int) := shK n (2 ^ n)
theorem shK_succ (n k : Nat) : shK n (k + 1) = if shp (dig n k) then shK n k ++ [dig n k] else shK n k := by
  unfold shK
  rw [List.range_succ, List.map_append, List.filter_append]
  by_cases h : shp (dig n k) = true
  · simp [h]
  simp [h]
theorem shK_len (n k : Nat) : (shK n k).length ≤ k := by
  have := List.length_filter_le shp ((List.range k).map (dig n))
  simpa [shK] using this
theorem shK_mem {n k : Nat} {xs : List Int} (h : xs ∈ shK n k) : xs.length = n ∧ shp xs = true := by
  unfold shK at h
  rw [List.mem_filter] at h
  obtain ⟨h1, h2⟩ := h
  obtain ⟨j, _, rfl⟩ := List.mem_map.1 h1
  exact ⟨Kq _ _, h2⟩
def allL : Nat → List (List Int)
  | 0 => [[]]
  | n + 1 => (allL n).map (0 :: ·) ++ (allL n).map (2 :: ·)
theorem KU (a b : Int) (ys : List Int) : ∀ L : List (List Int), (L.map (a :: ·)).count (b :: ys) = if a = b then L.count ys else 0
  | [] => by simp
  | x :: L => by
    rw [List.map_cons, List.count_cons, List.count_cons, KU a b ys L]
    by_cases h : a = b
    · subst h; simp
    simp [h]
theorem count_all : ∀ xs : List Int, (∀ x ∈ xs, x = 0 ∨ x = 2) → (allL xs.length).count xs = 1
  | [], _ => rfl
  | x :: xs, h => by
    have ih := count_all xs (fun y hy => h y (by simp [hy]))
    show ((allL xs.length).map (0 :: ·) ++ (allL xs.length).map (2 :: ·)).count (x :: xs) = 1
    rw [List.count_append, KU, KU, ih]
    rcases h x (by simp) with rfl | rfl <;> simp
theorem shp_digits : ∀ (xs : List Int) (m : Int), shpF xs m = true → ∀ x ∈ xs, x = 0 ∨ x = 2
  | [], _, _, x, hx => by simp at hx
  | c :: cs, m, h, x, hx => by
    rw [shpF] at h
    by_cases h0 : m = 0
    · rw [if_pos h0] at h; cases h
    rw [if_neg h0] at h
    by_cases h1 : c ≠ 0 ∧ c ≠ 2
    · rw [if_pos h1] at h; cases h
    rw [if_neg h1] at h
    rcases List.mem_cons.1 hx with rfl | hx
    · omega
    exact shp_digits cs _ h x hx
set_option maxRecDepth 100000 in
theorem dig_all : ∀ n, n ≤ 8 → (List.range (2 ^ n)).map (dig n) = allL n
  | 0, _ => by decide +kernel
  | 1, _ => by decide +kernel
  | 2, _ => by decide +kernel
  | 3, _ => by decide +kernel
  | 4, _ => by decide +kernel
  | 5, _ => by decide +kernel
  | 6, _ => by decide +kernel
  | 7, _ => by decide +kernel
  | 8, _ => by decide +kernel
theorem shL_count (xs : List Int) (h : xs.length ≤ 8) : (shL xs.length).count xs = if shp xs = true then 1 else 0 := by
  unfold shL shK
  by_cases hs : shp xs = true
  · rw [if_pos hs, List.count_filter hs, dig_all _ h]
    exact count_all xs (shp_digits xs 1 hs)
  rw [if_neg hs, List.count_eq_zero]
  intro hm
  exact hs (List.mem_filter.1 hm).2
end Go.Proofs.Ytgbgfkhkjlakbaa

namespace Go.Proofs.Ytgbgfkhkjlakbaa
open Go.RowKit Go.Deep
theorem OwnV.blk {lo : Nat} {w : World} {v : Value} {xs : List Int} (h : OwnV lo w v xs) {g : Nat} (hg : v.ownBlock = some g) : lo ≤ g ∧ g < w.heap.size := by
  rcases h with ⟨rfl, _⟩ | ⟨g', cap, rfl, _, _, h⟩
  · cases hg
  have : g' = g := by simpa [Value.ownBlock] using hg
  subst this
  exact ⟨h.1, h.lt⟩
theorem OwnV.grw {lo : Nat} {w w' : World} {v : Value} {xs : List Int} {r : Option Nat} (h : OwnV lo w v xs) (hg : w.grownBy w' r) (hr : ∀ g, r = some g → v.ownBlock ≠ some g) : OwnV lo w' v xs := by
  rcases h with h | ⟨g', cap, rfl, h1, h2, h⟩
  · exact .inl h
  exact .inr ⟨g', cap, rfl, h1, h2, h.but (hg.block g' h.lt (fun e => hr g' e.symm rfl))⟩
theorem OwnV.setOut {lo : Nat} {w : World} {v : Value} {xs : List Int} (h : OwnV lo w v xs) (a : Addr) (ha : a.block < lo) (u : Value) : OwnV lo (w.setCell a u) v xs := by
  rcases h with h | ⟨g', cap, rfl, h1, h2, h⟩
  · exact .inl h
  exact .inr ⟨g', cap, rfl, h1, h2, h.setOther _ _ (by have := h.1; omega)⟩
theorem row_under {w w' : World} {B e size n : Nat} {v : Value} {xs : List Value} (h : w.ownsRow B e size v n xs) (hb : Below w.heap.size w w') : w'.ownsRow B e size v n xs := by
  obtain ⟨h1, h2⟩ := h
  refine ⟨h1, ?_⟩
  rcases h2 with h2 | ⟨g, cap, cur, hv, hg, hh, r⟩
  · exact .inl h2
  exact .inr ⟨g, cap, cur, hv, hg, by rw [hb.block g (Array.getElem?_eq_some_iff.1 hh).1]; exact hh, r⟩
def OwnLL (lo : Nat) (w : World) (u : Value) (ps : List (Value × List Int)) : Prop :=
  w.ownsRow lo 24 1 u ps.length (ps.map (·.1)) ∧ ∀ p ∈ ps, OwnV lo w p.1 p.2 ∧ ∀ g, u.ownBlock = some g → p.1.ownBlock ≠ some g
theorem OwnLL.nil (lo : Nat) (w : World) : OwnLL lo w (.slice none 0 0) [] := ⟨World.ownsRow_nil _ _ _ _, by simp⟩
theorem OwnLL.setOut {lo : Nat} {w : World} {u : Value} {ps : List (Value × List Int)} (h : OwnLL lo w u ps) (a : Addr) (ha : a.block < lo) (x : Value) : OwnLL lo (w.setCell a x) u ps :=
  ⟨ownsRow_setCell_below h.1 ha _, fun p hp => ⟨(h.2 p hp).1.setOut a ha _, (h.2 p hp).2⟩⟩
theorem OwnLL.below {lo : Nat} {w w' : World} {u : Value} {ps : List (Value × List Int)} (h : OwnLL lo w u ps) (hb : Below w.heap.size w w') : OwnLL lo w' u ps :=
  ⟨row_under h.1 hb, fun p hp => ⟨(h.2 p hp).1.below hb, (h.2 p hp).2⟩⟩
theorem OwnLL.shape {lo : Nat} {w : World} {u : Value} {ps : List (Value × List Int)} (h : OwnLL lo w u ps) : ∃ a c, u = .slice a ps.length c := KX h.1
theorem OwnLL.snoc {lo : Nat} {wr W w3 : World} {u v' : Value} {ps : List (Value × List Int)} {xs : List Int} {g cap : Nat} (h : OwnLL lo wr u ps) (hb : Below wr.heap.size wr W) (hv : OwnV wr.heap.size W v' xs) (hlo : lo ≤ wr.heap.size)
    (hown : w3.ownsRow lo 24 1 (.slice (some ⟨g, 0, none⟩) (ps.length + 1) cap) (ps.length + 1) (ps.map (·.1) ++ [v'])) (hgrow : W.grownBy w3 u.ownBlock) (hat : u.ownBlock = some g ∨ W.heap.size < g) :
    OwnLL lo w3 (.slice (some ⟨g, 0, none⟩) (ps.length + 1) cap) (ps ++ [(v', xs)]) := by
  refine ⟨by simpa using hown, fun p hp => ?_⟩
  have hu : ∀ g, u.ownBlock = some g → g < wr.heap.size := fun g hg => (h.1.lt _ hg).2
  have hO : OwnV lo W p.1 p.2 ∧ ∀ g, u.ownBlock = some g → p.1.ownBlock ≠ some g := by
    rcases List.mem_append.1 hp with hp | hp
    · exact ⟨(h.2 p hp).1.below hb, (h.2 p hp).2⟩
    obtain rfl : p = (v', xs) := by simpa using hp
    exact ⟨hv.mono hlo, fun g hg e => by have := hu g hg; have := hv.blk e; omega⟩
  refine ⟨hO.1.grw hgrow hO.2, fun g' hg' e => ?_⟩
  have : g = g' := by simpa [Value.ownBlock] using hg'
  subst this
  rcases hat with hat | hat
  · exact hO.2 _ hat e
  have := (hO.1.blk e).2; omega
def IntsEl (lo : Nat) (w : World) (cs : List Value) (xs : List Int) : Prop := ∃ v, cs = [v] ∧ IsInts lo w v xs
theorem IntsEl.stays : Stays IntsEl := fun _ _ _ _ _ ⟨v, e, h⟩ hb => ⟨v, e, h.below hb⟩
theorem IntsEl.mono : Mono IntsEl := fun _ _ _ _ _ ⟨v, e, h⟩ hl => ⟨v, e, h.mono hl⟩
theorem OwnLL.reads {lo : Nat} {w : World} {u : Value} {ps : List (Value × List Int)} (h : OwnLL lo w u ps) : IsSl 1 IntsEl lo w u (ps.map (·.2)) := by
  obtain ⟨⟨hl, h1⟩, h2⟩ := h
  rcases h1 with ⟨rfl, h0⟩ | ⟨g, cap, cur, rfl, hb, hg, hnc, hcm, hcs, htake⟩
  · have : ps = [] := List.eq_nil_of_length_eq_zero h0
    subst this
    exact ⟨none, 0, rfl, by simp, by simp [maxLen], by simp, .inl rfl⟩
  refine ⟨some ⟨g, 0, none⟩, cap, by simp, by simpa using hnc, hcm, (fun e => by cases e), .inr ⟨g, 0, rfl, hb, (Array.getElem?_eq_some_iff.1 hg).1, fun i hi => ?_⟩⟩
  have hi' : i < ps.length := by simpa using hi
  refine ⟨[(ps[i]'hi').1], rfl, fun j hj => ?_, (ps[i]'hi').1, rfl, by simpa using (h2 _ (List.getElem_mem hi')).1.ints⟩
  obtain rfl : j = 0 := by omega
  have : (ps.map (·.1))[i]? = some (ps[i]'hi').1 := by simp [hi']
  rw [← htake, List.getElem?_take_of_lt (by omega)] at this
  simp only [World.cell?, hg]
  simpa using this
end Go.Proofs.Ytgbgfkhkjlakbaa

namespace Go.Proofs.Ytgbgfkhkjlakbaa
open Go.RowKit Go.Deep
set_option maxHeartbeats 800000 in
theorem Clone_any {lo : Nat} {w : World} {v : Value} {xs : List Int} (h : IsInts lo w v xs) (hn : xs.length ≤ 1000) :
    Calls Try.prog 32 #[v] w fun e w' => ∃ v', e = .returned v' ∧ OwnV w.heap.size w' v' xs ∧ Below w.heap.size w w' := by
  have H := h
  obtain ⟨a, cap, rfl, hl, hm, hi, hc⟩ := h
  obtain ⟨i0, hi0, hz0, hz1, hz2⟩ := info_int4
  have HI := hid0 hi.1
  cases a with
  | none =>
    obtain rfl : cap = 0 := hi.2 rfl
    have h0 : xs.length = 0 := by omega
    obtain rfl : xs = [] := List.eq_nil_of_length_eq_zero h0
    clear hc hi hl hm h0 H
    have q22 : ∀ (w : World) (a : Option Addr) (n c n' c' : Nat), (binOp .eql 24 (.slice a n c) (.slice none n' c')).run Try.prog w = .ok (.bool a.isNone) w := fun w a n c n' c' => Lib.run_eql_slice_nil w _ _ a n c n' c' Try.underlying24
    go_enter Try.func32, Try.ntmps32
    go_wp2_with fail
    go_ret
    exact ⟨_, rfl, .inl ⟨rfl, rfl⟩, Below.refl _ _⟩
  | some ad =>
    have HS : Hid (∀ w', Below w.heap.size w w' → ∀ j u, (xs.map (Value.int .i64))[j]? = some u → w'.cell? (ad.add j) = some u) := hid0 fun w' hb j u hj => by
      have h0 : 0 < xs.length := by have := (List.getElem?_eq_some_iff.1 hj).1; simp at this; omega
      obtain ⟨ad', e, hS⟩ := H.src h0
      cases e
      exact hS w' hb j u hj
    have hown := World.ownsRow_lit (base := w.heap.size) (e := 3) (size := 1) w #[] 0 (Nat.le_refl _) (by simp) (by simp)
    have HO := hid0 hown
    clear hown hc hi
    have q22 : ∀ (w : World) (a : Option Addr) (n c n' c' : Nat), (binOp .eql 24 (.slice a n c) (.slice none n' c')).run Try.prog w = .ok (.bool a.isNone) w := fun w a n c n' c' => Lib.run_eql_slice_nil w _ _ a n c n' c' Try.underlying24
    go_enter Try.func32, Try.ntmps32
    go_wp2_with (refine wpList_append_own _ rfl (.tmp 5) (.tmp 6) 24 rfl w.heap.size 3 i0 (.int .i64 0) 1 8 Try.underlying24 hi0 hz0 hz1 hz2 rfl (by decide) _ _ _ rfl HO.out ad xs.length cap (xs.map (Value.int .i64)) rfl (by simp) (HS.out _ (by go_grown)) (by simp [Value.oneCell']) (by unfold maxLen; omega) (by omega) (by simp) ?_; intro v' w1 hown1 hgrow1 _)
    go_ret
    have hown2 : w1.ownsRow w.heap.size 3 1 v' xs.length (xs.map (Value.int .i64)) := by simpa using hown1
    refine ⟨v', rfl, own_of_row hown2 HI.out, (Zd w _).grown hgrow1 (by simp) fun k hk => ?_⟩
    have hk' : some w.heap.size = some k := hk
    injection hk' with hk'
    omega
end Go.Proofs.Ytgbgfkhkjlakbaa

namespace Go.Proofs.Ytgbgfkhkjlakbaa
open Go.RowKit Go.Deep
theorem info_int : (Try.prog.info? 3).map (fun i => (i.zero, i.size, i.bytes)) = some (some (.int .i64 0), 1, 8) := by kernel_rfl
theorem elInts : ElT Try.prog 34 24 (.slice none 0 0) 1 24 := ⟨Try.underlying34, by kernel_rfl, rfl, by decide⟩
theorem and_one : ∀ m, m < 256 → bits BinOp.and IntKind.i64 (m : Nat) 1 = ((m % 2 : Nat) : Int) := by decide +kernel
theorem own_ints {lo : Nat} {w : World} {g n : Nat} {f : Nat → Int} {xs : List Int} (h : OwnF lo w g n f) (hl : xs.length = n) (hn : n ≤ 1000) (hx : ∀ x ∈ xs, I64 x) (hf : ∀ j, j < n → f j = xs.getD j 0) : IsInts lo w (.slice (some ⟨g, 0, none⟩) n n) xs := by
  obtain ⟨h1, cur, t, hg, hc⟩ := h
  exact Kj hg h1 hl (Nat.le_refl _) (by unfold maxLen; omega) hx (fun i hi => by rw [hc i hi, hf i hi])
theorem dig_small (n k : Nat) : ∀ x ∈ dig n k, I64 x := by
  intro x hx
  obtain ⟨j, _, rfl⟩ := List.mem_map.1 hx
  have := digF_small n k j
  constructor <;> omega
set_option maxHeartbeats 1600000 in
theorem Shapes_own (n : Nat) (h0 : 1 ≤ n) (h1 : n ≤ 8) (w : World) :
    Calls Try.prog 11 #[.int .i64 n] w fun e w' => ∃ u, e = .returned (.tuple #[u, .int .i64 0]) ∧ (∃ ps, OwnLL (w.heap.size + 1) w' u ps ∧ ps.map (·.2) = shL n) ∧ Below w.heap.size w w' := by
  have hmk := make_n (P := Try.prog) 24 3 _ 1 8 Try.underlying24 info_int n (by omega) (by omega)
  obtain ⟨M, hM⟩ : ∃ M : Nat, M = 2 ^ n := ⟨_, rfl⟩
  have hM2 : M ≤ 256 := by rw [hM]; exact Nat.pow_le_pow_right (by omega) h1
  have hw : wrap64 ((2 : Int) ^ n) = (M : Int) := by
    have e : ((2 : Int) ^ n) = (M : Int) := by rw [hM]; simp
    rw [e]; unfold wrap64; omega
  have HM := Lib.hid hM
  clear hM
  go_enter Try.func11, Try.ntmps11
  go_wp2_with fail
  rw [hw]
  clear hw hmk
  obtain ⟨W, hW⟩ : ∃ W : World, W = w.alloc (.cells (madeCells #[Value.int IntKind.i64 0] n) 3) := ⟨_, rfl⟩
  rw [← hW]
  have HO0 := Lib.hid (show OwnF w.heap.size W w.heap.size n (fun _ => 0) by
    rw [hW]; exact ⟨Nat.le_refl _, _, _, heap_alloc_new _ _, fun j hj => made_get _ _ _ _ hj (by simp [Nat.mod_one])⟩)
  have HB0 := Lib.hid (show Below w.heap.size w W by rw [hW]; exact Zd _ _)
  clear hW
  go_loopw [4, 18] (fun v u wr => ∃ (k : Nat) (a : Option Addr) (c : Nat) (ps : List (Value × List Int)) (f : Nat → Int), k ≤ M ∧ u = .int .i64 k ∧ v = .slice a ps.length c ∧ ps.map (·.2) = shK n k ∧ OwnLL (w.heap.size + 1) wr (.slice a ps.length c) ps ∧ OwnF w.heap.size wr w.heap.size n f ∧ Below w.heap.size w wr) (fun _ u _ => M - (intOf u).toNat)
  case atStart => exact ⟨0, none, 0, [], fun _ => 0, Nat.zero_le _, rfl, rfl, rfl, OwnLL.nil _ _, HO0.out, HB0.out⟩
  case round =>
    obtain ⟨k, a, c, ps, f, hk, rfl, rfl, hps, hL, hF, hB⟩ := hrel
    have HPS := Lib.hid hps
    have HL := Lib.hid hL
    have HF := Lib.hid hF
    have HB := Lib.hid hB
    have hpl : ps.length ≤ k := by have := congrArg List.length hps; simp at this; have := shK_len n k; omega
    clear hps hL hF hB
    by_cases hlt : k < M
    · go_wp2_with fail
      go_loopw [23] (fun u w2 => ∃ (i : Nat) (f : Nat → Int), i ≤ n ∧ u = .int .i64 i ∧ (∀ j, j < i → f j = digF n k j) ∧ OwnLL (w.heap.size + 1) w2 (.slice a ps.length c) ps ∧ OwnF w.heap.size w2 w.heap.size n f ∧ Below w.heap.size w w2) (fun u _ => n - (intOf u).toNat)
      case atStart => exact ⟨0, f, Nat.zero_le _, rfl, fun _ h => by omega, HL.out, HF.out, HB.out⟩
      case round =>
        obtain ⟨i, f', hi, rfl, hd, hL2, hF2, hB2⟩ := hrel
        have HD := Lib.hid hd
        have HL2 := Lib.hid hL2
        have HF2 := Lib.hid hF2
        have HB2 := Lib.hid hB2
        have hgw := hF2.lt
        clear hd hL2 hB2
        by_cases hlt2 : i < n
        · have c1 := hF2.cell i hlt2
          have c2 := hF2.frozen i
          have HE := Lib.hid (show wrap64 (bits BinOp.and IntKind.i64 ((k : Int) / 2 ^ (n - 1 - i)) 1 * 2) = digF n k i by
            have e1 : ((k : Int) / 2 ^ (n - 1 - i)) = ((k / 2 ^ (n - 1 - i) : Nat) : Int) := by simp
            have e2 : k / 2 ^ (n - 1 - i) < 256 := by have := Nat.div_le_self k (2 ^ (n - 1 - i)); omega
            rw [e1, and_one _ e2]
            unfold digF wrap64; omega)
          clear hF2
          go_wp2_with fail
          go_roundw
          case rel =>
            refine ⟨i + 1, up f' i (digF n k i), by omega, by go_num, fun j hj => ?_, HL2.out.setOut _ (by simp) _, ?_, HB2.out.setCell (by simp) _⟩
            · by_cases e : j = i
              · subst e; exact up_same _ _ _
              rw [up_ne _ _ e]; exact HD.out j (by omega)
            rw [← HE.out]; exact HF2.out.set i _
          case measure => simp [intOf]; omega
        obtain rfl : i = n := by omega
        have HI := Lib.hid (own_ints HF2.out (Kq i k) (by omega) (dig_small i k) (fun j hj => by rw [HD.out j hj, dig_get _ _ _ hj]))
        clear hF2 hlt2
        have HS0 := Lib.hid (shK_succ i k)
        cases hs : isShp (dig i k) i with
        | false =>
          have HS : Hid (shK i (k + 1) = shK i k) := by
            show _ = _
            have h : shp (dig i k) = false := by unfold isShp at hs; simpa [Kq] using hs
            rw [HS0.out, h]; rfl
          go_wp2_with (go_at_call 31; refine (isShape_any (i : Int) HI.out (by rw [Kq]; omega)).mono ?_; rintro e w1 ⟨rfl, rfl⟩)
          go_roundw
          case rel => exact ⟨k + 1, a, c, ps, f', by omega, by go_num, rfl, by rw [HS.out]; exact HPS.out, HL2.out, HF2.out, HB2.out⟩
          case measure => simp [intOf]; omega
        | true =>
          have HS : Hid (shK i (k + 1) = shK i k ++ [dig i k]) := by
            show _ = _
            have h : shp (dig i k) = true := by unfold isShp at hs; simpa [Kq] using hs
            rw [HS0.out, h]; rfl
          go_wp2_with (first | (go_at_call 31; refine (isShape_any (i : Int) HI.out (by rw [Kq]; omega)).mono ?_; rintro e w1 ⟨rfl, rfl⟩) | (go_at_call 32; refine (Clone_any HI.out (by rw [Kq]; omega)).mono ?_; rintro e w3 ⟨v', rfl, hv, hb⟩; have HV := Lib.hid hv; have HB3 := Lib.hid hb; have hs3 := hb.size; obtain ⟨av, cv, rfl⟩ := hv.shape; clear hv hb) | (at_builtin; refine KH elInts (by rfl) (.tmp 41) (.tmp 44) (by rfl) (w.heap.size + 1) _ ps.length _ [.slice av (dig i k).length cv] w3.heap.size (by rfl) (by rfl) (by rfl) (HL2.out.below HB3.out).1 (by rfl) (by intro u hu; simp at hu; subst hu; rfl) (by omega) (by unfold maxLen; omega) (by omega) (by rfl) ?_; intro g cap w4 hown hgrow hat hlo hlt hsz))
          go_roundw
          case rel =>
            refine ⟨k + 1, some ⟨g, 0, none⟩, cap, ps ++ [(.slice av (dig i k).length cv, dig i k)], f', by omega, by go_num, by simp, ?_, ?_, ?_, ?_⟩
            · rw [HS.out, List.map_append, HPS.out]; rfl
            · rw [List.length_append]; exact OwnLL.snoc HL2.out HB3.out HV.out (by omega) hown hgrow hat
            · exact (HF2.out.below HB3.out).grown hgrow (fun e => by have := ((HL2.out.below HB3.out).1.lt _ e).1; omega)
            exact (Zg HB2.out HB3.out).grown hgrow (by omega) (fun j hj => by have := ((HL2.out.below HB3.out).1.lt _ hj).1; omega)
          case measure => simp [intOf]; omega
    obtain rfl : k = M := by omega
    go_wp2_with fail
    go_ret2
    refine ⟨_, rfl, ⟨ps, HL.out, ?_⟩, HB.out⟩
    rw [HPS.out, HM.out]
    rfl
theorem Shapes_ok (n : Nat) (h0 : 1 ≤ n) (h1 : n ≤ 8) (w : World) :
    Calls Try.prog 11 #[.int .i64 n] w fun e w' => ∃ u, e = .returned (.tuple #[u, .int .i64 0]) ∧ IsSl 1 IntsEl w.heap.size w' u (shL n) ∧ Below w.heap.size w w' :=
  (Shapes_own n h0 h1 w).mono fun e w' ⟨u, he, ⟨ps, hL, hp⟩, hb⟩ => ⟨u, he, by have := hL.reads; rw [hp] at this; exact this.mono IntsEl.mono (by omega), hb⟩
end Go.Proofs.Ytgbgfkhkjlakbaa

namespace Go.Proofs.Ytgbgfkhkjlakbaa
open Go.RowKit Go.Deep
set_option maxHeartbeats 800000 in
theorem rIsShape_full (b off n cap : Nat) (w : World) (xs : List Int) (hx : xs.length = n) (hn : n ≤ 1000000)
    (hc : ∀ i, i < n → w.cell? ⟨b, off + i, none⟩ = some (.int .i64 (xs.getD i 0))) :
    Calls Try.prog 46 #[.slice (some ⟨b, off, none⟩) n cap] w fun e w' => e = .returned (.bool (shp xs)) ∧ w = w' := by
  have HC := Lib.hid hc
  have HX := Lib.hid hx
  clear hc hx
  go_enter Try.func46, Try.ntmps46
  go_wp2_with fail
  go_loop [3, 4] (fun v u => ∃ (k : Nat) (m : Int), k ≤ n ∧ u = .int .i64 k ∧ v = .int .i64 m ∧ 0 ≤ m ∧ m ≤ k + 1 ∧ shpF (xs.drop k) m = shp xs) (fun _ u => n - (intOf u).toNat)
  case atStart => exact ⟨0, 1, Nat.zero_le _, rfl, rfl, by omega, by omega, rfl⟩
  case round =>
    obtain ⟨k, m, hk, rfl, rfl, h0, h1, hs⟩ := hrel
    have HS := Lib.hid hs
    clear hs
    by_cases hlt : k < n
    · have g1 := HC.out k hlt
      have HD := Lib.hid (show shpF (xs.drop k) m = if m = 0 then false else if xs.getD k 0 ≠ 0 ∧ xs.getD k 0 ≠ 2 then false else shpF (xs.drop (k + 1)) (m + xs.getD k 0 - 1) by
        have hd : xs.drop k = xs[k]'(by rw [HX.out]; exact hlt) :: xs.drop (k + 1) := List.drop_eq_getElem_cons _
        rw [hd, shpF, show xs.getD k 0 = xs[k]'(by rw [HX.out]; exact hlt) by simp [List.getD, List.getElem?_eq_getElem (show k < xs.length by rw [HX.out]; exact hlt)]])
      generalize hX : xs.getD k 0 = x at g1 HD
      clear hX
      by_cases m0 : m = 0
      · subst m0
        go_wp2_with fail
        go_ret
        exact ⟨Ze (by rw [← HS.out, HD.out]; simp), rfl⟩
      have m1 : (m == 0) = false := by simpa using m0
      have M0 := Lib.hid m0
      have m2 : 1 ≤ m := by omega
      clear m0
      by_cases x0 : x = 0
      · subst x0
        go_wp2_with fail
        go_round
        case rel => exact ⟨k + 1, m - 1, by omega, by go_num, by go_num, by omega, by omega, by rw [← HS.out, HD.out, if_neg M0.out, if_neg (by omega)]; congr 1; omega⟩
        case measure => simp [intOf]; omega
      by_cases x2 : x = 2
      · subst x2
        go_wp2_with fail
        go_round
        case rel => exact ⟨k + 1, m + 1, by omega, by go_num, by go_num, by omega, by omega, by rw [← HS.out, HD.out, if_neg M0.out, if_neg (by omega)]; congr 1; omega⟩
        case measure => simp [intOf]; omega
      have x3 : (x != 0) = true := by simpa using x0
      have x4 : (x != 2) = true := by simpa using x2
      have XX := Lib.hid (And.intro x0 x2)
      clear x0 x2
      go_wp2_with fail
      go_ret
      exact ⟨Ze (by rw [← HS.out, HD.out, if_neg M0.out, if_pos XX.out]), rfl⟩
    have HE := Lib.hid (show shp xs = (m == 0) by
      rw [← HS.out, List.drop_eq_nil_of_le (by rw [HX.out]; omega), shpF]; rfl)
    go_wp2_with fail
    go_ret
    exact ⟨Ze (by rw [HE.out]), rfl⟩
set_option maxHeartbeats 800000 in
theorem rIsShape_empty (a : Option Addr) (cap : Nat) (w : World) :
    Calls Try.prog 46 #[.slice a 0 cap] w fun e w' => e = .returned (.bool (shp [])) ∧ w = w' := by
  go_enter Try.func46, Try.ntmps46
  go_wp2_with fail
  refine wp_loop_rounds 1 ?_
  rw [rounds_succ]
  go_wp2_with fail
  go_ret
  exact ⟨rfl, rfl⟩
theorem rIsShape_any {lo : Nat} {w : World} {v : Value} {xs : List Int} (h : IsInts lo w v xs) (hn : xs.length ≤ 1000000) :
    Calls Try.prog 46 #[v] w fun e w' => e = .returned (.bool (shp xs)) ∧ w = w' := by
  obtain ⟨a, cap, rfl, hl, hm, hi, hc⟩ := h
  rcases hc with rfl | ⟨b, off, rfl, _, _, hc⟩
  · exact rIsShape_empty _ _ _
  exact rIsShape_full _ _ _ _ _ _ rfl hn hc
end Go.Proofs.Ytgbgfkhkjlakbaa

namespace Go.Proofs.Ytgbgfkhkjlakbaa
open Go.RowKit Go.Deep
set_option maxHeartbeats 800000 in
theorem Shapes_bad (n : Int) (h : n < 1 ∨ 8 < n) (w : World) :
    Calls Try.prog 11 #[.int .i64 n] w fun e w' => e = .returned (.tuple #[.slice none 0 0, .int .i64 1]) ∧ w = w' := by
  by_cases h1 : n < 1
  · go_enter Try.func11, Try.ntmps11
    go_wp2_with fail
    go_ret2
    exact ⟨rfl, rfl⟩
  have h2 : 8 < n := by omega
  go_enter Try.func11, Try.ntmps11
  go_wp2_with fail
  go_ret2
  exact ⟨rfl, rfl⟩
theorem shL_five : shL 5 = [[2, 0, 2, 0, 0], [2, 2, 0, 0, 0]] := by decide +kernel
theorem nbr_known (w : World) : Calls Try.prog 26 #[.int .i64 3, .slice none 0 0, .int .i64 2, .int .i64 0] w fun e w' => e = .returned (.tuple #[.int .i64 1, .int .i64 1, .int .i64 (-1)]) ∧ Below w.heap.size w w' := by
  have h := Neighbors_any (lo := 0) (w := w) (v := .slice none 0 0) (xs := []) 3 2 0 ⟨none, 0, rfl, by simp, by simp [maxLen], by simp, .inl rfl⟩ (by simp) (by omega)
  have e : nbr 3 [] 2 0 = (1, 1, -1) := by decide
  rw [e] at h
  exact h
theorem shapes_known (w : World) : Calls Try.prog 11 #[.int .i64 5] w fun e w' => ∃ u, e = .returned (.tuple #[u, .int .i64 0]) ∧ IsSl 1 IntsEl w.heap.size w' u [[2, 0, 2, 0, 0], [2, 2, 0, 0, 0]] ∧ Below w.heap.size w w' := by
  have h := Shapes_ok 5 (by omega) (by omega) w
  rw [shL_five] at h
  exact h
theorem lit5 {w : World} {g : Nat} {t : TypeId} (h : w.heap[g]? = some (.cells #[.int .i64 2, .int .i64 0, .int .i64 2, .int .i64 0, .int .i64 0] t (0, 0))) : IsInts 0 w (.slice (some ⟨g, 0, none⟩) 5 5) [2, 0, 2, 0, 0] :=
  Kj (xs := [2, 0, 2, 0, 0]) h (Nat.zero_le _) rfl (Nat.le_refl _) (by simp [maxLen]) (fun x hx => by have : x = 0 ∨ x = 2 := (by simp at hx; omega); constructor <;> omega)
    fun i hi => match i, hi with
      | 0, _ => rfl
      | 1, _ => rfl
      | 2, _ => rfl
      | 3, _ => rfl
      | 4, _ => rfl
set_option maxHeartbeats 1600000 in
theorem zknown_any (w : World) : Calls Try.prog 8 #[] w fun e w' => e = .returned (.bool true) ∧ Below w.heap.size w w' := by
  go_enter Try.func8, Try.ntmps8
  go_wp2_with (first | (go_at_call 26; refine (nbr_known _).mono ?_; rintro e w1 ⟨rfl, hb1⟩; have HB1 := Lib.hid hb1; clear hb1) | (go_at_call 11; refine (shapes_known _).mono ?_; rintro e w2 ⟨u, rfl, hu, hb2⟩; obtain ⟨au, cu, rfl⟩ := hu.shape; obtain ⟨b, off, cs, rfl, hlb, hbw, _, hcell, v0, rfl, hv0⟩ := hu.at 0 (by simp); obtain ⟨a0, c0, rfl⟩ := hv0.shape; have g0 := hcell 0 (by omega); have HB2 := Lib.hid (Zg HB1.out hb2); have HV := Lib.hid hv0; simp only [Nat.zero_mul, Nat.add_zero, List.getElem?_cons_zero] at g0; clear hcell hv0 hu hb2) | (go_at_call 27; refine (SameInts_any (HV.out.below (by go_grown)) (lit5 (ZN _ _ (by go_size)))).mono ?_; rintro e w3 ⟨rfl, hb3⟩))
  go_ret
  exact ⟨rfl, Zg HB2.out (Below.trans (by go_grown) (hb3.mono (by go_size)))⟩
end Go.Proofs.Ytgbgfkhkjlakbaa

namespace Go.Proofs.Ytgbgfkhkjlakbaa
open Go.RowKit Go.Deep
variable {J : World → Prop}
def cLi (xs : List Int) : List AV := [Zi xs]
theorem lenLi (xs : List Int) : (cLi xs).length = 1 := rfl
theorem plain_li (xs : List Int) : ∀ X ∈ cLi xs, Plain X := by
  intro X hX
  simp only [cLi, List.mem_cons, List.not_mem_nil, or_false] at hX
  rw [hX]; exact Yo _
namespace Sh
abbrev InOk (xs : List Int) : Prop := ∀ x ∈ xs, I64 x
section
variable {P : Program} {f : FuncId}
theorem ctr2 {A B u : AV} (H : ∀ (w : World) (v v' : Value), (∀ w', Below w.heap.size w w' → J w') → Pu (fun _ => True) w (fun b => b < w.heap.size) A v → Pu (fun _ => True) w (fun b => b < w.heap.size) B v' → Calls P f #[v, v'] w fun e w' => ∃ v, e = .returned v ∧ Pu (w.heap.size ≤ ·) w' (nw w' w.heap.size) u v ∧ Below w.heap.size w w') : Ctr P J f [A, B] u := fun w vs hJ hl hv => by
  obtain ⟨v, v', rfl⟩ : ∃ v v', vs = #[v, v'] := by
    match vs, hl with
    | ⟨[v, v']⟩, _ => exact ⟨v, v', rfl⟩
  exact H w v v' hJ (hv 0 (by simp)) (hv 1 (by simp))
theorem ret_sc {w : World} {r : Value} {e : Ending} {w' : World} (h : e = .returned r ∧ Below w.heap.size w w') : ∃ v, e = .returned v ∧ Pu (w.heap.size ≤ ·) w' (nw w' w.heap.size) (.v r) v ∧ Below w.heap.size w w' := ⟨r, h.1, .v r, h.2⟩
end
def sR : Nat → List (List Int)
  | 1 => [[0]]
  | 3 => [[2, 0, 0]]
  | 5 => [[2, 0, 2, 0, 0], [2, 2, 0, 0, 0]]
  | 7 => [[2, 0, 2, 0, 2, 0, 0], [2, 0, 2, 2, 0, 0, 0], [2, 2, 0, 0, 2, 0, 0], [2, 2, 0, 2, 0, 0, 0], [2, 2, 2, 0, 0, 0, 0]]
  | _ => []
theorem odd4 {n : Nat} (h : n ≤ 7) (ho : n % 2 = 1) : n = 1 ∨ n = 3 ∨ n = 5 ∨ n = 7 := by omega
theorem sR_len {n : Nat} (h : n ≤ 7) (ho : n % 2 = 1) : (sR n).length ≤ 5 := by
  rcases odd4 h ho with rfl | rfl | rfl | rfl <;> decide
theorem sR_mem {n : Nat} (h : n ≤ 7) (ho : n % 2 = 1) : ∀ xs ∈ sR n, xs.length ≤ 7 ∧ InOk xs := by
  rcases odd4 h ho with rfl | rfl | rfl | rfl <;> (intro xs hx; simp only [sR, List.mem_cons, List.not_mem_nil, or_false] at hx)
  all_goals
    have key : ∀ ys : List Int, (∀ y ∈ ys, y = 0 ∨ y = 2) → InOk ys := fun ys hy y hm => by
      rcases hy y hm with rfl | rfl <;> (unfold I64; omega)
  · subst hx; exact ⟨by decide, key _ (by decide)⟩
  · subst hx; exact ⟨by decide, key _ (by decide)⟩
  · rcases hx with rfl | rfl <;> exact ⟨by decide, key _ (by decide)⟩
  rcases hx with rfl | rfl | rfl | rfl | rfl <;> exact ⟨by decide, key _ (by decide)⟩
def shX (n : Int) : List (List Int) := if n < 1 ∨ 8 < n then [] else if n % 2 = 0 then [] else sR n.toNat
def shZ (n : Int) : Int := if n < 1 ∨ 8 < n then 1 else 0
theorem shL_eq : ∀ n, 1 ≤ n → n ≤ 8 → shL n = shX (n : Nat) := by
  intro n h1 h8
  obtain rfl | rfl | rfl | rfl | rfl | rfl | rfl | rfl : n = 1 ∨ n = 2 ∨ n = 3 ∨ n = 4 ∨ n = 5 ∨ n = 6 ∨ n = 7 ∨ n = 8 := by omega
  all_goals decide +kernel
theorem shX_mem (n : Int) : ∀ xs ∈ shX n, xs.length ≤ 7 ∧ InOk xs := by
  unfold shX
  split
  · intro xs h; cases h
  split
  · intro xs h; cases h
  exact sR_mem (by omega) (by omega)
theorem shX_len (n : Int) : (shX n).length ≤ 5 := by
  unfold shX
  split
  · simp
  split
  · simp
  exact sR_len (by omega) (by omega)
theorem owni_pu {n0 lo : Nat} {w : World} {v : Value} {xs : List Int} (hlo : n0 ≤ lo) (h : OwnV lo w v xs) : Pu (n0 ≤ ·) w (nw w n0) (Zi xs) v := by
  rcases h with ⟨rfl, rfl⟩ | ⟨g, cap, rfl, hl, hm, h1, h2, h3, cur, t, hg, hc⟩
  · exact .sl0 (by simp [maxLen]) (by simp)
  refine .sl (f := fun i => .int .i64 (xs.getD i 0)) (by simp) hl hm ⟨Nat.le_trans hlo h1, _, _, hg⟩ (Array.getElem?_eq_some_iff.1 hg).1 (fun j hj => ?_) fun j hj => ?_
  · have := hc j (by simpa using hj)
    simp only [World.cell?, hg]
    simpa using this
  have : j < xs.length := by simpa using hj
  simp only [List.getElem_map]
  have e : xs.getD j 0 = xs[j] := by simp [this]
  rw [e]; exact .v _
theorem ownll_pu {n0 lo : Nat} {w : World} {u : Value} {ps : List (Value × List Int)} (hlo : n0 ≤ lo) (h : OwnLL lo w u ps) : Pu (n0 ≤ ·) w (nw w n0) (slA 1 cLi (ps.map (·.2))) u := by
  obtain ⟨⟨hl, h1⟩, h2⟩ := h
  rcases h1 with ⟨rfl, h0⟩ | ⟨g, cap, cur, rfl, hb, hg, hnc, hcm, hcs, htake⟩
  · have : ps = [] := List.eq_nil_of_length_eq_zero h0
    subst this
    exact .sl0 (by simp [maxLen]) (by simp)
  have e0 : ∀ L : List (Value × List Int), (L.map (·.2)).flatMap cLi = L.map fun p => Zi p.2 := fun L => by
    induction L with
    | nil => rfl
    | cons p L ih => simp only [List.map_cons, List.flatMap_cons, ih]; rfl
  have : slA 1 cLi (ps.map (·.2)) = .sl 1 ps.length (ps.map fun p => Zi p.2) := by
    unfold slA
    rw [e0, List.length_map]
  rw [this]
  refine .sl (f := fun j => ((ps.map (·.1))[j]?).getD undef) (by simp) (by simpa using hnc) hcm ⟨Nat.le_trans hlo hb, _, _, hg⟩ (Array.getElem?_eq_some_iff.1 hg).1 (fun j hj => ?_) fun j hj => ?_
  · have hj' : j < ps.length := by simpa using hj
    have : (ps.map (·.1))[j]? = some (ps[j]'hj').1 := by simp [hj']
    rw [this]
    rw [← htake, List.getElem?_take_of_lt (by simpa using hj')] at this
    simp only [World.cell?, hg]
    simpa using this
  have hj' : j < ps.length := by simpa using hj
  have : (ps.map (·.1))[j]? = some (ps[j]'hj').1 := by simp [hj']
  rw [this]
  simp only [List.getElem_map, Option.getD_some]
  exact owni_pu hlo (h2 _ (List.getElem_mem hj')).1
theorem Shapes_n (n : Int) : Ctr Try.prog J 11 [iv n] (.tup [slA 1 cLi (shX n), iv (shZ n)]) := fun w vs _ hl hv => by
  match vs, hl, hv with
  | ⟨[v0]⟩, _, hv =>
    obtain rfl := (hv 0 (by simp)).v_inv
    by_cases h : n < 1 ∨ 8 < n
    · have e1 : shX n = [] := by unfold shX; rw [if_pos h]
      have e2 : shZ n = 1 := by unfold shZ; rw [if_pos h]
      rw [e1, e2]
      refine (Shapes_bad n h w).mono fun e w' ⟨he, hw⟩ => ⟨_, he, ?_, by rw [← hw]; exact Below.refl _ _⟩
      exact .tup rfl fun j hj => (match j, hj with
        | 0, _ => .sl0 (by simp [maxLen]) (by simp)
        | 1, _ => .v _)
    obtain ⟨m, rfl⟩ := Int.eq_ofNat_of_zero_le (show 0 ≤ n by omega)
    have e2 : shZ ((m : Nat) : Int) = 0 := by unfold shZ; rw [if_neg h]
    rw [e2, ← shL_eq m (by omega) (by omega)]
    refine (Shapes_own m (by omega) (by omega) w).mono fun e w' ⟨u, he, ⟨ps, hL, hp⟩, hb⟩ => ⟨_, he, ?_, hb⟩
    rw [← hp]
    exact .tup rfl fun j hj => (match j, hj with
      | 0, _ => ownll_pu (Nat.le_succ _) hL
      | 1, _ => .v _)
theorem zknown_c : Ctr Try.prog J 8 [] (bv true) := fun w vs _ hl _ => by
  have : vs = #[] := Array.eq_empty_of_size_eq_zero (by simpa using hl)
  subst this
  exact (zknown_any w).mono fun _ _ => ret_sc
end Sh
end Go.Proofs.Ytgbgfkhkjlakbaa

namespace Go.Proofs.Ytgbgfkhkjlakbaa
open Go.RowKit Go.Deep
variable {J : World → Prop}
end Go.Proofs.Ytgbgfkhkjlakbaa

namespace Go.Proofs.Ytgbgfkhkjlakbaa
open Go.RowKit Go.Deep
end Go.Proofs.Ytgbgfkhkjlakbaa

namespace Go.Proofs.Ytgbgfkhkjlakbaa
open Go.RowKit Go.Deep
variable {J : World → Prop}
end Go.Proofs.Ytgbgfkhkjlakbaa

namespace Go.Proofs.Ytgbgfkhkjlakbaa
open Go.RowKit Go.Deep
def sameK (xs ys : List Int) (k : Nat) : Prop := xs.take k = ys.take k
theorem sameK_succ {xs ys : List Int} {k : Nat} (h : k < xs.length) (h' : k < ys.length) (hk : sameK xs ys k) (e : xs[k] = ys[k]) : sameK xs ys (k + 1) := by
  unfold sameK at *; rw [List.take_succ_eq_append_getElem h, List.take_succ_eq_append_getElem h', hk, e]
theorem eqI_differ {xs ys : List Int} {k : Nat} (h : k < xs.length) (h' : k < ys.length) (e : xs[k] ≠ ys[k]) : eqI xs ys = false := by
  unfold eqI; rw [decide_eq_false_iff_not]; rintro rfl; exact e rfl
theorem eqI_len {xs ys : List Int} (h : xs.length ≠ ys.length) : eqI xs ys = false := by
  unfold eqI; rw [decide_eq_false_iff_not]; rintro rfl; exact h rfl
theorem eqI_end {xs ys : List Int} {k : Nat} (h : k = xs.length) (h' : k = ys.length) (hk : sameK xs ys k) : eqI xs ys = true := by
  unfold sameK at hk; rw [List.take_of_length_le (by omega), List.take_of_length_le (by omega)] at hk
  unfold eqI; rw [decide_eq_true_iff]; exact hk
set_option maxHeartbeats 800000 in
theorem Equal_full (b off n cap b' off' n' cap' : Nat) (w : World) (xs ys : List Int) (hx : xs.length = n) (hy : ys.length = n') (hn : n ≤ 9223372036854775807) (hb : b < w.heap.size) (hb' : b' < w.heap.size)
    (hc : ∀ i, i < n → w.cell? ⟨b, off + i, none⟩ = some (.int .i64 (xs.getD i 0))) (hc' : ∀ i, i < n' → w.cell? ⟨b', off' + i, none⟩ = some (.int .i64 (ys.getD i 0))) :
    Calls Try.prog 117 #[.slice (some ⟨b, off, none⟩) n cap, .slice (some ⟨b', off', none⟩) n' cap'] w fun e w' => e = .returned (.bool (eqI xs ys)) ∧ Below w.heap.size w w' := by
  by_cases hnn : n = n'
  · subst hnn
    go_enter Try.func117, Try.ntmps117
    go_wp2_with fail
    go_loopw [13] (fun v wr => ∃ k : Nat, k ≤ n ∧ v = .int .i64 k ∧ sameK xs ys k ∧ Below w.heap.size w wr) (fun v _ => n - (intOf v).toNat)
    case atStart => exact ⟨0, Nat.zero_le _, rfl, rfl, Below.refl _ _⟩
    case round =>
      obtain ⟨k, hk, rfl, hs, hB⟩ := hrel
      have HS := Lib.hid hs
      have HB := Lib.hid hB
      clear hs
      by_cases h1 : k < n
      · have g1 : wr.cell? ⟨b, off + k, none⟩ = some (.int .i64 (xs.getD k 0)) := (hB.cell (p := ⟨b, off + k, none⟩) hb).trans (hc k h1)
        have g2 : wr.cell? ⟨b', off' + k, none⟩ = some (.int .i64 (ys.getD k 0)) := (hB.cell (p := ⟨b', off' + k, none⟩) hb').trans (hc' k h1)
        have ex : xs.getD k 0 = xs[k]'(by omega) := by simp [List.getD, List.getElem?_eq_getElem (show k < xs.length by omega)]
        have ey : ys.getD k 0 = ys[k]'(by omega) := by simp [List.getD, List.getElem?_eq_getElem (show k < ys.length by omega)]
        rw [ex] at g1
        rw [ey] at g2
        generalize hX : xs[k]'(by omega) = x at g1
        generalize hY : ys[k]'(by omega) = y at g2
        have HX := Lib.hid hX
        have HY := Lib.hid hY
        clear hB ex ey hX hY
        by_cases he : x = y
        · have HE := Lib.hid he
          have e1 : (x == y) = true := by simp [he]
          have e2 : (x != y) = false := by rw [bne, e1]; rfl
          clear he
          go_wp2_with fail
          go_quiet (fail)
          go_wp2_with fail
          go_roundw
          case rel => exact ⟨k + 1, by omega, by go_num, sameK_succ (by omega) (by omega) HS.out (by rw [HX.out, HY.out]; exact HE.out), quietBelow HB.out _⟩
          case measure => simp [intOf]; omega
        have HE := Lib.hid he
        have e1 : (x == y) = false := by simp [he]
        have e2 : (x != y) = true := by rw [bne, e1]; rfl
        clear he
        go_wp2_with fail
        go_quiet (fail)
        go_wp2_with fail
        go_ret
        exact ⟨Ze (by rw [eqI_differ (k := k) (by omega) (by omega) (by rw [HX.out, HY.out]; exact HE.out)]), quietBelow HB.out _⟩
      clear hB
      go_wp2_with fail
      go_ret
      exact ⟨Ze (by rw [eqI_end (k := k) (by omega) (by omega) HS.out]), HB.out⟩
  have h1 : (((n : Nat) : Int) == ((n' : Nat) : Int)) = false := by simp; omega
  have h2 : (((n : Nat) : Int) != ((n' : Nat) : Int)) = true := by rw [bne, h1]; rfl
  have E := Lib.hid (eqI_len (xs := xs) (ys := ys) (by rw [hx, hy]; exact hnn))
  clear hnn
  go_enter Try.func117, Try.ntmps117
  go_wp2_with fail
  go_ret
  exact ⟨Ze (by rw [E.out]), Below.refl _ _⟩
theorem Equal_left (a a' : Option Addr) (cap n' cap' : Nat) (w : World) (ys : List Int) (hy : ys.length = n') (hn : n' ≤ 9223372036854775807) :
    Calls Try.prog 117 #[.slice a 0 cap, .slice a' n' cap'] w fun e w' => e = .returned (.bool (eqI [] ys)) ∧ Below w.heap.size w w' := by
  by_cases h0 : n' = 0
  · subst h0
    obtain rfl := List.eq_nil_of_length_eq_zero hy
    go_enter Try.func117, Try.ntmps117
    go_wp2_with fail
    refine wp_loop_rounds 1 ?_
    rw [rounds_succ]
    go_wp2_with fail
    go_ret
    exact ⟨rfl, Below.refl _ _⟩
  have h1 : (((0 : Nat) : Int) == ((n' : Nat) : Int)) = false := by simp; omega
  have h1' : ((0 : Int) == ((n' : Nat) : Int)) = false := by simp; omega
  have h2 : ((0 : Int) != ((n' : Nat) : Int)) = true := by rw [bne, h1']; rfl
  have E := Lib.hid (eqI_len (xs := []) (ys := ys) (by simp; omega))
  clear h0
  go_enter Try.func117, Try.ntmps117
  go_wp2_with fail
  go_ret
  exact ⟨Ze (by rw [E.out]), Below.refl _ _⟩
theorem Equal_right (a a' : Option Addr) (n cap cap' : Nat) (w : World) (x : Int) (xs : List Int) (hx : (x :: xs).length = n) (hn : n ≤ 9223372036854775807) :
    Calls Try.prog 117 #[.slice a n cap, .slice a' 0 cap'] w fun e w' => e = .returned (.bool (eqI (x :: xs) [])) ∧ Below w.heap.size w w' := by
  have h0 : 0 < n := by simp at hx; omega
  have h1 : (((n : Nat) : Int) == (0 : Int)) = false := by simp; omega
  have h2 : (((n : Nat) : Int) != (0 : Int)) = true := by rw [bne, h1]; rfl
  have E := Lib.hid (eqI_len (xs := x :: xs) (ys := []) (by simp))
  clear hx
  go_enter Try.func117, Try.ntmps117
  go_wp2_with fail
  go_ret
  exact ⟨Ze (by rw [E.out]), Below.refl _ _⟩
theorem Equal_any {lo lo' : Nat} {w : World} {v v' : Value} {xs ys : List Int} (h : IsInts lo w v xs) (h' : IsInts lo' w v' ys) :
    Calls Try.prog 117 #[v, v'] w fun e w' => e = .returned (.bool (eqI xs ys)) ∧ Below w.heap.size w w' := by
  obtain ⟨a, cap, rfl, hl, hm, hi, hc⟩ := h
  obtain ⟨a', cap', rfl, hl', hm', hi', hc'⟩ := h'
  unfold maxLen at hm hm'
  rcases hc with rfl | ⟨b, off, rfl, _, hb, hc⟩
  · exact Equal_left _ _ _ _ _ _ _ rfl (by omega)
  rcases hc' with rfl | ⟨b', off', rfl, _, hb', hc'⟩
  · cases xs with
    | nil => exact Equal_left _ _ _ _ _ _ _ rfl (by simp)
    | cons x xs => exact Equal_right _ _ _ _ _ _ _ _ rfl (by omega)
  exact Equal_full _ _ _ _ _ _ _ _ _ _ _ rfl rfl (by omega) hb hb' hc hc'
end Go.Proofs.Ytgbgfkhkjlakbaa

namespace Go.Proofs.Ytgbgfkhkjlakbaa
open Go.RowKit Go.Deep
deriving instance DecidableEq for Ru
deriving instance DecidableEq for Fm
section
variable {α : Type} {xs ys : List α} {k : Nat}
variable [DecidableEq α]
end
section
variable {P : Program} {J : World → Prop} {o : Oper}
end
variable {J : World → Prop}
theorem eqIntsG (xs ys : List Int) (hx : InOk xs) (hy : InOk ys) : Ctr Try.prog J 117 [Zi xs, Zi ys] (bv (decide (xs = ys))) := ctr2 fun w v v' _ h h' =>
  (Equal_any (YW hx lo0 h) (YW hy lo0 h')).mono fun _ _ => ret_sc
structure SP (r s : Ru) : Prop where
  n9 : [r.kind, r.frm, r.to, r.pf, r.pt, r.rd, r.wr, r.pos, r.dir] = [s.kind, s.frm, s.to, s.pf, s.pt, s.rd, s.wr, s.pos, s.dir]
  resp : r.resp = s.resp
  guards : r.guards = s.guards
  ex : r.ex = s.ex
  fa : r.fa = s.fa
  send : r.send = s.send
  left : r.left = s.left
  right : r.right = s.right
  parent : r.parent = s.parent
end Go.Proofs.Ytgbgfkhkjlakbaa

namespace Go.Proofs.Ytgbgfkhkjlakbaa
open Go.RowKit Go.Deep
variable {J : World → Prop}
section
variable {P : Program} {o : Oper}
theorem sp_makeZ {t e k bytes z : Nat} {zv : Value} (fr : Bool) {kl kc : IntKind} {n : Nat} {x y : Operand} (ho : o.op = .makeSlice t x y) (hu : P.underlying t = some (.slice e)) (hi : (P.info? e).map (fun i => (i.size, i.bytes, i.zero)) = some (z, bytes, some zv)) (hz : zv.cells.size = z) (h0 : 0 < z)
    (hb : bytes * n ≤ 281474976710656) (h63 : n ≤ maxLen) {cs : List AV} (hcs : (List.range (n * z)).map (fun j => AV.v (zv.cells.getD (j % z) undef)) = cs) :
    ASpec P J o [(x, .v (.int kl (n : Int))), (y, .v (.int kc (n : Int)))] [] (.own k) (.new k (.row fr e z n cs)) :=
  aspec_new fun ρ B a w _ hB ha _ hk => by
    subst hcs
    obtain ⟨i, hi1, hi2⟩ := Option.map_eq_some_iff.1 hi
    simp only [Prod.mk.injEq] at hi2
    obtain ⟨e1, e2, e3⟩ := hi2
    have hx := (ha (x, .v (.int kl (n : Int))) (by simp)).v_inv
    have hy := (ha (y, .v (.int kc (n : Int))) (by simp)).v_inv
    have hsz : (madeCells zv.cells (n * z)).size = n * z := size_madeCells _ _
    have hget : ∀ j, j < n * z → (madeCells zv.cells (n * z))[j]? = some (zv.cells.getD (j % z) undef) := fun j hj => by
      have hlt : j % zv.cells.size < zv.cells.size := Nat.mod_lt _ (by omega)
      have hlt' : j % z < zv.cells.size := by rw [← hz]; exact hlt
      subst hz
      simp [madeCells, hj, Array.getD, hlt]
    have hrun := run_make (P := P) w t e i zv hu hi1 e3 kl kc n n (by omega) (by omega) (by rw [e2]; have := hb; omega) (by have := h63; simp only [maxLen] at this; omega)
    simp only [Int.toNat_natCast, e1] at hrun
    refine ⟨_, n, n, madeCells zv.cells (n * z), e, ?_, .own (nm := .at w.heap.size n n) (YX _ _ _), (madeCells zv.cells (n * z)).toList, ⟨by simp [hsz], .inr ⟨w.heap.size, n, madeCells zv.cells (n * z), rfl, rowB_le hB, heap_alloc_new w _, Nat.le_refl _, h63, hsz, by rw [List.take_of_length_le]; simp [hsz]⟩⟩, by simp [hsz], fun j hj => ?_⟩
    · simp only [execOp, ho, hx, hy]
      exact Yw hrun
    have hj' : j < n * z := by simpa using hj
    have : (madeCells zv.cells (n * z)).toList.getD j undef = zv.cells.getD (j % z) undef := by
      rw [List.getD_eq_getElem?_getD, Array.getElem?_toList, hget j hj']; rfl
    rw [this]
    simp only [List.getElem_map, List.getElem_range]
    exact .v _
end
theorem setAll_mid (ds : List AV) : ∀ (A C D : List AV), C.length = ds.length → setAll (A ++ C ++ D) A.length ds = A ++ ds ++ D := by
  induction ds with
  | nil => intro A C D h; rw [List.eq_nil_of_length_eq_zero h]; rfl
  | cons d ds ih =>
    intro A C D h
    cases C with
    | nil => cases h
    | cons c C =>
      rw [setAll]
      have e : (A ++ c :: C ++ D).set A.length d = (A ++ [d]) ++ C ++ D := by
        rw [List.append_assoc, List.set_append_right _ _ (Nat.le_refl _)]
        simp
      rw [e]
      have := ih (A ++ [d]) C D (by simpa using h)
      simp only [List.length_append, List.length_cons, List.length_nil, Nat.zero_add] at this
      rw [this]
      simp
end Go.Proofs.Ytgbgfkhkjlakbaa

namespace Go.Proofs.Ytgbgfkhkjlakbaa
open Go.RowKit Go.Deep
variable {J : World → Prop}
theorem YH (n t f : Int) : ∀ X ∈ cSz n t f, Plain X := by
  intro X hX; simp only [cSz, List.mem_cons, List.not_mem_nil, or_false] at hX
  rcases hX with rfl | rfl | rfl <;> exact .v _
set_option maxRecDepth 100000 in
set_option maxHeartbeats 6400000 in
theorem radmissible_c {q : Fm} (HQ : FmOk q) (n t f : Int) : Ctr Try.prog J 57 [.agg (cFm q), .agg (cSz n t f)] (bv (admB q n t f)) := by
 have l5 := HQ.lres
 refine ZL Try.func57 rfl (by intro X hX; simp only [List.mem_cons, List.not_mem_nil, or_false] at hX; rcases hX with rfl | rfl; exact ZC (Yq q); exact ZC (YH n t f)) (n := 63) rfl (by simp) (fun w0 => ?_)
 refine kW 63 [] [(0, .agg (cFm q)), (1, .agg (cSz n t f))] (Zb (Za (Z8 rfl (Z9 (X := .agg (cFm q)) (k := 1) (.tmp 0) rfl rfl) ⟨I0, T0⟩ T0 rfl (Z8 rfl (Z9 (X := .agg (cSz n t f)) (k := 2) (.tmp 1) rfl rfl) ⟨I0, T0⟩ T0 rfl (pM (aC (.bool false)) (kN 63 [(1, .box 27 (cFm q)), (2, .box 29 (cSz n t f))] [(2, .box 1 0), (3, .box 2 0), (4, bv false)] (Zc (Zb (Zb ?_)))))))))
 refine KO (True) (ofL [(1, .box 27 (cFm q)), (2, .box 29 (cSz n t f))]) (ofT 63 [(2, .box 1 0), (3, .box 2 0), (4, bv false), (25, bv (radA n t f))]) ?_ (fun _ => ?_)
 by_cases hs1 : (inB 1 1048576 n) = true
 by_cases hs2 : (inB 0 n t) = true
 by_cases hs3 : (inB 0 n f) = true
 refine Za (oA (fb 0 3 U29 1) I0 (oB (lb (iv n) 6 U3) I0 rfl (Z8 rfl (Zl (c := .func 69) (xs := #[.tmp 7, .const (.int .i64 1), .const (.int .i64 1048576)]) [] (ZJ (ZA n 1 1048576) hs1) rfl (by kernel_rfl) rfl (Xs := [iv n, iv 1, iv 1048576]) rfl rfl rfl) ⟨I0, I0, I0, I0, T0⟩ T0 T0 (oA (Zy rfl rfl) I0 (pM (mT 9 (bv false)) (gA (fb 1 3 U29 1) I0 (gB (lb (iv t) 11 U3) I0 rfl (gA (fb 0 3 U29 1) I0 (gB (lb (iv n) 13 U3) I0 rfl (YV rfl (Zl (c := .func 69) (xs := #[.tmp 12, .const (.int .i64 0), .tmp 14]) [] (ZJ (ZA t 0 n) hs2) rfl (by kernel_rfl) rfl (Xs := [iv t, iv 0, iv n]) rfl rfl rfl) ⟨I0, I0, I0, I0, T0⟩ T0 T0 (gA (Zy rfl rfl) I0 ?_)))))))))))
 refine pP (Zh (.tmp 10) (.const (.bool true)) (.tmp 16) false (bv true) (bv false) rfl) (pM (mT 17 (bv false)) (gA (fb 2 3 U29 1) I0 (gB (lb (iv f) 19 U3) I0 rfl (gA (fb 0 3 U29 1) I0 (gB (lb (iv n) 21 U3) I0 rfl (YV rfl (Zl (c := .func 69) (xs := #[.tmp 20, .const (.int .i64 0), .tmp 22]) [] (ZJ (ZA f 0 n) hs3) rfl (by kernel_rfl) rfl (Xs := [iv f, iv 0, iv n]) rfl rfl rfl) ⟨I0, I0, I0, I0, T0⟩ T0 T0 (gA (Zy rfl rfl) I0 (pP (Zh (.tmp 18) (.const (.bool true)) (.tmp 24) false (bv true) (bv false) rfl) (kN 63 [(1, .box 27 (cFm q)), (2, .box 29 (cSz n t f))] [(2, .box 1 0), (3, .box 2 0), (4, bv false), (25, bv false)] ?_)))))))))
 rw [show (radA n t f) = false by simp only [radA, Bool.or_true, Bool.true_or, Bool.or_false, Bool.false_or, Bool.and_true, Bool.true_and, Bool.and_false, Bool.false_and, Bool.not_true, Bool.not_false, hs1, hs2, hs3]]
 exact ZT T0 (Zq _ _ rfl (by kernel_rfl) (by kernel_rfl))
 have hs3f : (inB 0 n f) = false := by simpa using hs3
 refine Za (oA (fb 0 3 U29 1) I0 (oB (lb (iv n) 6 U3) I0 rfl (Z8 rfl (Zl (c := .func 69) (xs := #[.tmp 7, .const (.int .i64 1), .const (.int .i64 1048576)]) [] (ZJ (ZA n 1 1048576) hs1) rfl (by kernel_rfl) rfl (Xs := [iv n, iv 1, iv 1048576]) rfl rfl rfl) ⟨I0, I0, I0, I0, T0⟩ T0 T0 (oA (Zy rfl rfl) I0 (pM (mT 9 (bv false)) (gA (fb 1 3 U29 1) I0 (gB (lb (iv t) 11 U3) I0 rfl (gA (fb 0 3 U29 1) I0 (gB (lb (iv n) 13 U3) I0 rfl (YV rfl (Zl (c := .func 69) (xs := #[.tmp 12, .const (.int .i64 0), .tmp 14]) [] (ZJ (ZA t 0 n) hs2) rfl (by kernel_rfl) rfl (Xs := [iv t, iv 0, iv n]) rfl rfl rfl) ⟨I0, I0, I0, I0, T0⟩ T0 T0 (gA (Zy rfl rfl) I0 ?_)))))))))))
 refine pP (Zh (.tmp 10) (.const (.bool true)) (.tmp 16) false (bv true) (bv false) rfl) (pM (mT 17 (bv false)) (gA (fb 2 3 U29 1) I0 (gB (lb (iv f) 19 U3) I0 rfl (gA (fb 0 3 U29 1) I0 (gB (lb (iv n) 21 U3) I0 rfl (YV rfl (Zl (c := .func 69) (xs := #[.tmp 20, .const (.int .i64 0), .tmp 22]) [] (ZJ (ZA f 0 n) hs3f) rfl (by kernel_rfl) rfl (Xs := [iv f, iv 0, iv n]) rfl rfl rfl) ⟨I0, I0, I0, I0, T0⟩ T0 T0 (gA (Zy rfl rfl) I0 (pP (Zh (.tmp 18) (.const (.bool true)) (.tmp 24) false (bv true) (bv true) rfl) (kN 63 [(1, .box 27 (cFm q)), (2, .box 29 (cSz n t f))] [(2, .box 1 0), (3, .box 2 0), (4, bv false), (25, bv true)] ?_)))))))))
 rw [show (radA n t f) = true by simp only [radA, Bool.or_true, Bool.true_or, Bool.or_false, Bool.false_or, Bool.and_true, Bool.true_and, Bool.and_false, Bool.false_and, Bool.not_true, Bool.not_false, hs1, hs2, hs3f]]
 exact ZT T0 (Zq _ _ rfl (by kernel_rfl) (by kernel_rfl))
 have hs2f : (inB 0 n t) = false := by simpa using hs2
 refine Za (oA (fb 0 3 U29 1) I0 (oB (lb (iv n) 6 U3) I0 rfl (Z8 rfl (Zl (c := .func 69) (xs := #[.tmp 7, .const (.int .i64 1), .const (.int .i64 1048576)]) [] (ZJ (ZA n 1 1048576) hs1) rfl (by kernel_rfl) rfl (Xs := [iv n, iv 1, iv 1048576]) rfl rfl rfl) ⟨I0, I0, I0, I0, T0⟩ T0 T0 (oA (Zy rfl rfl) I0 (pM (mT 9 (bv false)) (gA (fb 1 3 U29 1) I0 (gB (lb (iv t) 11 U3) I0 rfl (gA (fb 0 3 U29 1) I0 (gB (lb (iv n) 13 U3) I0 rfl (YV rfl (Zl (c := .func 69) (xs := #[.tmp 12, .const (.int .i64 0), .tmp 14]) [] (ZJ (ZA t 0 n) hs2f) rfl (by kernel_rfl) rfl (Xs := [iv t, iv 0, iv n]) rfl rfl rfl) ⟨I0, I0, I0, I0, T0⟩ T0 T0 (gA (Zy rfl rfl) I0 ?_)))))))))))
 refine pP (Zh (.tmp 10) (.const (.bool true)) (.tmp 16) false (bv true) (bv true) rfl) (pM (mT 17 (bv true)) (qK (qK (qK (qK (qK (qK (pP (Zh (.tmp 18) (.const (.bool true)) (.tmp 24) true (bv true) (.v (.tuple #[])) rfl) (kN 63 [(1, .box 27 (cFm q)), (2, .box 29 (cSz n t f))] [(2, .box 1 0), (3, .box 2 0), (4, bv false), (25, bv true)] ?_)))))))))
 rw [show (radA n t f) = true by simp only [radA, Bool.or_true, Bool.true_or, Bool.or_false, Bool.false_or, Bool.and_true, Bool.true_and, Bool.and_false, Bool.false_and, Bool.not_true, Bool.not_false, hs1, hs2f]]
 exact ZT T0 (Zq _ _ rfl (by kernel_rfl) (by kernel_rfl))
 have hs1f : (inB 1 1048576 n) = false := by simpa using hs1
 refine Za (oA (fb 0 3 U29 1) I0 (oB (lb (iv n) 6 U3) I0 rfl (Z8 rfl (Zl (c := .func 69) (xs := #[.tmp 7, .const (.int .i64 1), .const (.int .i64 1048576)]) [] (ZJ (ZA n 1 1048576) hs1f) rfl (by kernel_rfl) rfl (Xs := [iv n, iv 1, iv 1048576]) rfl rfl rfl) ⟨I0, I0, I0, I0, T0⟩ T0 T0 (oA (Zy rfl rfl) I0 (pM (mT 9 (bv true)) (qK (qK (qK (qK (qK (qK ?_)))))))))))
 refine pP (Zh (.tmp 10) (.const (.bool true)) (.tmp 16) true (bv true) (.v (.tuple #[])) rfl) (pM (mT 17 (bv true)) (qK (qK (qK (qK (qK (qK (pP (Zh (.tmp 18) (.const (.bool true)) (.tmp 24) true (bv true) (.v (.tuple #[])) rfl) (kN 63 [(1, .box 27 (cFm q)), (2, .box 29 (cSz n t f))] [(2, .box 1 0), (3, .box 2 0), (4, bv false), (25, bv true)] ?_)))))))))
 rw [show (radA n t f) = true by simp only [radA, Bool.or_true, Bool.true_or, Bool.or_false, Bool.false_or, Bool.and_true, Bool.true_and, Bool.and_false, Bool.false_and, Bool.not_true, Bool.not_false, hs1f]]
 exact ZT T0 (Zq _ _ rfl (by kernel_rfl) (by kernel_rfl))
 refine Zc ?_
 by_cases hs4 : (radA n t f) = true
 rw [hs4]
 refine kW 63 [(1, .box 27 (cFm q)), (2, .box 29 (cSz n t f))] [(2, .box 1 0), (3, .box 2 0), (4, bv false), (25, bv true)] (Zw rfl (Zb (Za (pM (aC (.bool false)) (Zv (Zc (Zt (Zj ?_))))))))
 refine Zs Try.results57 (.tmp rfl) ?_
 exact congrArg (fun x : Bool => AV.v (.bool x)) ((adm_a hs4).symm)
 have hs4f : (radA n t f) = false := by simpa using hs4
 rw [hs4f]
 refine kW 63 [(1, .box 27 (cFm q)), (2, .box 29 (cSz n t f))] [(2, .box 1 0), (3, .box 2 0), (4, bv false), (25, bv false)] (Zx rfl (Zr (Zc (Zb (Zb (Za (pM (aC (.int .i64 0)) (kN 63 [(1, .box 27 (cFm q)), (2, .box 29 (cSz n t f))] [(2, .box 1 0), (3, .box 2 0), (4, bv false), (5, iv 0)] (Zc ?_)))))))))
 refine KO (resvK q n t f q.res.length = true) (ofL [(1, .box 27 (cFm q)), (2, .box 29 (cSz n t f))]) (ofT 63 [(2, .box 1 0), (3, .box 2 0)]) ?_ (fun RES => ?_)
 refine ZQ ?_
 refine Yy (σ := {k : Nat // k ≤ q.res.length ∧ resvK q n t f k = true}) (fun s => (ofL [(1, .box 27 (cFm q)), (2, .box 29 (cSz n t f))], ofT 63 [(2, .box 1 0), (3, .box 2 0), (5, iv s.1)])) (fun s => q.res.length - s.1) ⟨0, Nat.zero_le _, rfl⟩ (Zq _ _ rfl (by kernel_rfl) (by kernel_rfl)) (fun s => ?_)
 obtain ⟨k, hk0, hs0⟩ := s
 show ETri J w0 (ofL [(1, .box 27 (cFm q)), (2, .box 29 (cSz n t f))]) (ofT 63 [(2, .box 1 0), (3, .box 2 0), (5, iv k)]) _
 refine Zb (Zb ?_)
 by_cases hs5 : ((k : Nat) : Int) < ((q.res.length : Nat) : Int)
 refine Za (pM (mT 5 (iv k)) (oA (fb 6 2 U27 1) I0 (oB (lb (slA 4 cLn q.res) 27 U23) I0 rfl (oA (Zm (.tmp 28) rfl U23) I0 (oC (Yg rfl (dT hs5)) I0 I0 (kN 63 [(1, .box 27 (cFm q)), (2, .box 29 (cSz n t f))] [(2, .box 1 0), (3, .box 2 0), (5, iv k), (30, bv true)] (Zc (Zw rfl (Zr (Zc (Zb ?_)))))))))))
 refine ZQ (Zb ?_)
 by_cases hs6 : linV q.res[k].c q.res[k].n q.res[k].t q.res[k].f n t f < 0
 refine Z0 (dA (fb 6 2 U27 1) I0 (dB (lb (slA 4 cLn q.res) 33 U23) I0 rfl (dM (mT 5 (iv k)) (dC (ZW (off := k * 4) (.tmp 34) (.tmp 35) rfl U23 (by kernel_rfl) (by omega) (by omega) rfl) I0 I0 (dA (Y5 (z := 4) (.tmp 36) rfl U104 rfl (by kernel_rfl) (Ky lenLn q.res k (by omega)) rfl) I0 (dB (Zk (Y := .box 29 (cSz n t f)) (ds := cSz n t f) (z := 3) (.tmp 3) rfl U29 rfl (by kernel_rfl) (by decide) (by kernel_rfl) (by kernel_rfl)) I0 rfl (dD (Zl (c := .func 92) (xs := #[.tmp 37, .tmp 38]) [] (value_c q.res[k] n t f) rfl (by kernel_rfl) rfl (Xs := [.agg (cLn q.res[k]), .agg (cSz n t f)]) rfl rfl rfl) I0 I0 I0 (dC (Yg rfl (dT hs6)) I0 I0 (dE ?_))))))))) (by kernel_rfl)
 show ETri J w0 _ _ _
 refine kW 63 [(1, .box 27 (cFm q)), (2, .box 29 (cSz n t f))] [(2, .box 1 0), (3, .box 2 0), (5, iv k), (30, bv true), (40, bv true)] (Zc (Zw rfl (Zb (Za (pM (aC (.bool false)) (Zv (Zc (Zt (ZF (Zj (Zj ?_)))))))))))
 refine ZF (YZ (Zj ?_))
 refine Zs Try.results57 (.tmp rfl) ?_
 exact congrArg (fun x : Bool => AV.v (.bool x)) ((adm_r (k := k) (by omega) hs6).symm)
 refine Z0 (dA (fb 6 2 U27 1) I0 (dB (lb (slA 4 cLn q.res) 33 U23) I0 rfl (dM (mT 5 (iv k)) (dC (ZW (off := k * 4) (.tmp 34) (.tmp 35) rfl U23 (by kernel_rfl) (by omega) (by omega) rfl) I0 I0 (dA (Y5 (z := 4) (.tmp 36) rfl U104 rfl (by kernel_rfl) (Ky lenLn q.res k (by omega)) rfl) I0 (dB (Zk (Y := .box 29 (cSz n t f)) (ds := cSz n t f) (z := 3) (.tmp 3) rfl U29 rfl (by kernel_rfl) (by decide) (by kernel_rfl) (by kernel_rfl)) I0 rfl (dD (Zl (c := .func 92) (xs := #[.tmp 37, .tmp 38]) [] (value_c q.res[k] n t f) rfl (by kernel_rfl) rfl (Xs := [.agg (cLn q.res[k]), .agg (cSz n t f)]) rfl rfl rfl) I0 I0 I0 (dC (Yg rfl (dF hs6)) I0 I0 (dE ?_))))))))) (by kernel_rfl)
 show ETri J w0 _ _ _
 refine kW 63 [(1, .box 27 (cFm q)), (2, .box 29 (cSz n t f))] [(2, .box 1 0), (3, .box 2 0), (5, iv k), (30, bv true), (40, bv false)] (Zc (Zx rfl (Zr (Yx (Zc (Za (pM (mT 5 (iv k)) (oC (Ke (c := ((k + 1 : Nat) : Int)) rfl (w64 (by omega) (by omega) (by omega))) I0 I0 (pM (aT 32 (iv (k + 1 : Nat))) (kN 63 [(1, .box 27 (cFm q)), (2, .box 29 (cSz n t f))] [(2, .box 1 0), (3, .box 2 0), (5, iv (k + 1 : Nat)), (30, bv true), (40, bv false)] (Zc ?_)))))))))))
 refine Yk ⟨k + 1, by omega, resvK_succ (by omega) hs0 hs6⟩ (show q.res.length - (k + 1) < q.res.length - k by omega) ?_
 exact Zq _ _ rfl (by kernel_rfl) (by kernel_rfl)
 refine Za (pM (mT 5 (iv k)) (oA (fb 6 2 U27 1) I0 (oB (lb (slA 4 cLn q.res) 27 U23) I0 rfl (oA (Zm (.tmp 28) rfl U23) I0 (oC (Yg rfl (dF hs5)) I0 I0 (kN 63 [(1, .box 27 (cFm q)), (2, .box 29 (cSz n t f))] [(2, .box 1 0), (3, .box 2 0), (5, iv k), (30, bv false)] (Zc (Zx rfl (Yz (ZE (ZE ?_)))))))))))
 refine t_hit ?_
 exact ZT (by have : k = q.res.length := (by omega); subst this; exact hs0) (Zq _ _ rfl (by kernel_rfl) (by kernel_rfl))
 refine Zc (Zb (Zb ?_))
 refine KO (True) (ofL [(1, .box 27 (cFm q)), (2, .box 29 (cSz n t f))]) (ofT 63 [(2, .box 1 0), (3, .box 2 0), (53, bv (nofB q t f))]) ?_ (fun _ => ?_)
 by_cases hs7 : q.fault = 0
 by_cases hs8 : t = 0
 by_cases hs9 : f = 0
 refine Za (oA (fb 5 2 U27 1) I0 (oB (lb (iv q.fault) 41 U3) I0 rfl (oC (ZY rfl (dT hs7)) I0 I0 (pM (mT 43 (bv true)) (gA (fb 1 3 U29 1) I0 (gB (lb (iv t) 45 U3) I0 rfl (gC (ZD rfl (dT' hs8)) I0 I0 (qM (mT 47 (bv false)) (gA (fb 2 3 U29 1) I0 (gB (lb (iv f) 49 U3) I0 rfl (gC (ZD rfl (dT' hs9)) I0 I0 ?_)))))))))))
 refine qP (Zh (.tmp 48) (.const (.bool true)) (.tmp 51) false (bv true) (bv false) rfl) (pP (Zh (.tmp 44) (.tmp 52) (.const (.bool false)) true (bv false) (bv false) rfl) (kN 63 [(1, .box 27 (cFm q)), (2, .box 29 (cSz n t f))] [(2, .box 1 0), (3, .box 2 0), (53, bv false)] ?_))
 rw [show (nofB q t f) = false by simp only [nofB, Bool.or_true, Bool.true_or, Bool.or_false, Bool.false_or, Bool.and_true, Bool.true_and, Bool.and_false, Bool.false_and, Bool.not_true, Bool.not_false, hs4f, decide_eq_true hs7, decide_eq_true hs8, decide_eq_true hs9]]
 exact ZT T0 (Zq _ _ rfl (by kernel_rfl) (by kernel_rfl))
 refine Za (oA (fb 5 2 U27 1) I0 (oB (lb (iv q.fault) 41 U3) I0 rfl (oC (ZY rfl (dT hs7)) I0 I0 (pM (mT 43 (bv true)) (gA (fb 1 3 U29 1) I0 (gB (lb (iv t) 45 U3) I0 rfl (gC (ZD rfl (dT' hs8)) I0 I0 (qM (mT 47 (bv false)) (gA (fb 2 3 U29 1) I0 (gB (lb (iv f) 49 U3) I0 rfl (gC (ZD rfl (dF' hs9)) I0 I0 ?_)))))))))))
 refine qP (Zh (.tmp 48) (.const (.bool true)) (.tmp 51) false (bv true) (bv true) rfl) (pP (Zh (.tmp 44) (.tmp 52) (.const (.bool false)) true (bv true) (bv false) rfl) (kN 63 [(1, .box 27 (cFm q)), (2, .box 29 (cSz n t f))] [(2, .box 1 0), (3, .box 2 0), (53, bv true)] ?_))
 rw [show (nofB q t f) = true by simp only [nofB, Bool.or_true, Bool.true_or, Bool.or_false, Bool.false_or, Bool.and_true, Bool.true_and, Bool.and_false, Bool.false_and, Bool.not_true, Bool.not_false, hs4f, decide_eq_true hs7, decide_eq_true hs8, decide_eq_false hs9]]
 exact ZT T0 (Zq _ _ rfl (by kernel_rfl) (by kernel_rfl))
 refine Za (oA (fb 5 2 U27 1) I0 (oB (lb (iv q.fault) 41 U3) I0 rfl (oC (ZY rfl (dT hs7)) I0 I0 (pM (mT 43 (bv true)) (gA (fb 1 3 U29 1) I0 (gB (lb (iv t) 45 U3) I0 rfl (gC (ZD rfl (dF' hs8)) I0 I0 (qM (mT 47 (bv true)) (qK (qK (qK ?_)))))))))))
 refine qP (Zh (.tmp 48) (.const (.bool true)) (.tmp 51) true (bv true) (.v (.tuple #[])) rfl) (pP (Zh (.tmp 44) (.tmp 52) (.const (.bool false)) true (bv true) (bv false) rfl) (kN 63 [(1, .box 27 (cFm q)), (2, .box 29 (cSz n t f))] [(2, .box 1 0), (3, .box 2 0), (53, bv true)] ?_))
 rw [show (nofB q t f) = true by simp only [nofB, Bool.or_true, Bool.true_or, Bool.or_false, Bool.false_or, Bool.and_true, Bool.true_and, Bool.and_false, Bool.false_and, Bool.not_true, Bool.not_false, hs4f, decide_eq_true hs7, decide_eq_false hs8]]
 exact ZT T0 (Zq _ _ rfl (by kernel_rfl) (by kernel_rfl))
 refine Za (oA (fb 5 2 U27 1) I0 (oB (lb (iv q.fault) 41 U3) I0 rfl (oC (ZY rfl (dF hs7)) I0 I0 (pM (mT 43 (bv false)) (qK (qK (qK (qK (qK (qK (qK ?_)))))))))))
 refine qK (pP (Zh (.tmp 44) (.tmp 52) (.const (.bool false)) false (.v (.tuple #[])) (bv false) rfl) (kN 63 [(1, .box 27 (cFm q)), (2, .box 29 (cSz n t f))] [(2, .box 1 0), (3, .box 2 0), (53, bv false)] ?_))
 rw [show (nofB q t f) = false by simp only [nofB, Bool.or_true, Bool.true_or, Bool.or_false, Bool.false_or, Bool.and_true, Bool.true_and, Bool.and_false, Bool.false_and, Bool.not_true, Bool.not_false, hs4f, decide_eq_false hs7]]
 exact ZT T0 (Zq _ _ rfl (by kernel_rfl) (by kernel_rfl))
 refine Zc ?_
 by_cases hs10 : (nofB q t f) = true
 rw [hs10]
 refine kW 63 [(1, .box 27 (cFm q)), (2, .box 29 (cSz n t f))] [(2, .box 1 0), (3, .box 2 0), (53, bv true)] (Zw rfl (Zb (Za (pM (aC (.bool false)) (Zv (Zc (Zt (Zj ?_))))))))
 refine Zs Try.results57 (.tmp rfl) ?_
 exact congrArg (fun x : Bool => AV.v (.bool x)) ((adm_f hs10).symm)
 have hs10f : (nofB q t f) = false := by simpa using hs10
 rw [hs10f]
 refine kW 63 [(1, .box 27 (cFm q)), (2, .box 29 (cSz n t f))] [(2, .box 1 0), (3, .box 2 0), (53, bv false)] (Zx rfl (Zr (Zc (Zb ?_))))
 by_cases hs11 : q.top = 4
 refine Za (oA (fb 1 2 U27 1) I0 (oB (lb (iv q.top) 54 U3) I0 rfl (oC (ZD rfl (dT' hs11)) I0 I0 (pM (mT 56 (bv false)) (gA (fb 0 3 U29 1) I0 (gB (lb (iv n) 58 U3) I0 rfl (gC (sp_rem rfl (by omega) (c := n.tmod 2) rfl) I0 I0 (gC (ZY rfl rfl) I0 I0 (pP (Zh (.tmp 57) (.const (.bool true)) (.tmp 61) false (bv true) (bv (decide (n.tmod 2 = 1))) rfl) (pM (aT 62 (bv (decide (n.tmod 2 = 1)))) (Zv ?_)))))))))))
 refine Zc (Zt ?_)
 refine Zs Try.results57 (.tmp rfl) ?_
 exact congrArg (fun x : Bool => AV.v (.bool x)) ((adm_1 hs4f RES hs10f hs11).symm)
 refine Za (oA (fb 1 2 U27 1) I0 (oB (lb (iv q.top) 54 U3) I0 rfl (oC (ZD rfl (dF' hs11)) I0 I0 (pM (mT 56 (bv true)) (qK (qK (qK (qK (pP (Zh (.tmp 57) (.const (.bool true)) (.tmp 61) true (bv true) (.v (.tuple #[])) rfl) (pM (aT 62 (bv true)) (Zv ?_)))))))))))
 refine Zc (Zt ?_)
 refine Zs Try.results57 (.tmp rfl) ?_
 exact congrArg (fun x : Bool => AV.v (.bool x)) ((adm_0 hs4f RES hs10f hs11).symm)
end Go.Proofs.Ytgbgfkhkjlakbaa

namespace Go.Proofs.Ytgbgfkhkjlakbaa
open Go.RowKit Go.Deep
variable {J : World → Prop}
namespace Ns
def lk3 (top c i : Int) : List AV := [iv (rowL top c i).1, iv (rowL top c i).2.1, iv (rowL top c i).2.2]
def lkZ (top : Int) (n k : Nat) : List AV := (List.range k).flatMap (fun i : Nat => lk3 top n i) ++ (List.replicate (n - k) [iv 0, iv 0, iv 0]).flatten
theorem lkZ_zero (top : Int) (n : Nat) : (List.range (n * 3)).map (fun j => AV.v ((#[Value.int .i64 0, Value.int .i64 0, Value.int .i64 0] : Array Value).getD (j % 3) undef)) = lkZ top n 0 := by
  unfold lkZ
  rw [List.range_zero, List.flatMap_nil, List.nil_append, Nat.sub_zero]
  induction n with
  | zero => rfl
  | succ m ih =>
    rw [show (m + 1) * 3 = m * 3 + 1 + 1 + 1 by omega, List.range_succ, List.range_succ, List.range_succ, List.map_append, List.map_append, List.map_append, ih, List.replicate_succ', List.flatten_append]
    have e1 : (m * 3) % 3 = 0 := by omega
    have e2 : (m * 3 + 1) % 3 = 1 := by omega
    have e3 : (m * 3 + 1 + 1) % 3 = 2 := by omega
    simp [e2, e3]
theorem lkZ_pre (top : Int) (n : Nat) : ∀ k, ((List.range k).flatMap (fun i : Nat => lk3 top n i)).length = k * 3
  | 0 => rfl
  | k + 1 => by rw [List.range_succ, List.flatMap_append, List.length_append, lkZ_pre top n k]; simp [lk3]; omega
theorem lkZ_len {top : Int} {n k : Nat} (h : k ≤ n) : (lkZ top n k).length = n * 3 := by
  unfold lkZ
  rw [List.length_append, lkZ_pre, List.length_flatten]
  simp
  omega
theorem lkZ_step {top : Int} {n k : Nat} (h : k < n) : setAll (lkZ top n k) (k * 3) (Yi true (lk3 top n k)) = lkZ top n (k + 1) := by
  unfold lkZ
  have e : n - k = (n - (k + 1)) + 1 := by omega
  rw [e, List.replicate_succ, List.flatten_cons]
  have := setAll_mid (Yi true (lk3 top n k)) ((List.range k).flatMap (fun i : Nat => lk3 top n i)) [iv 0, iv 0, iv 0] (List.replicate (n - (k + 1)) [iv 0, iv 0, iv 0]).flatten rfl
  rw [lkZ_pre, List.append_assoc] at this
  rw [this, List.range_succ, List.flatMap_append]
  simp [Yi, AV.unfr, lk3]
theorem rowLink_c {top c i : Int} (h0 : 0 ≤ i) (h1 : i < c) (hc : c ≤ 8) : Ctr Try.prog J 50 [iv top, iv c, iv i] (.agg (lk3 top c i)) := ctr3 fun w v v' v'' _ h h' h'' => by
  rw [h.v_inv, h'.v_inv, h''.v_inv]
  exact (rowLink_any top c i w h0 h1 (by omega)).mono fun _ _ hh => ⟨_, hh.1, .agg rfl fun j hj => (match j, hj with
    | 0, _ => .v _
    | 1, _ => .v _
    | 2, _ => .v _), hh.2⟩
def lkT (xs : List Int) : AV := .sl 3 xs.length ((List.range (xs.length * 3)).map fun j => iv (cf (trun xs xs.length) j))
def cLk (xs : List Int) : List AV := [lkT xs]
theorem newLk (xs : List Int) : ∀ d ∈ [AV.fr (lkT xs)], d.isNew = true := fun d hd => by
  simp only [List.mem_cons, List.not_mem_nil, or_false] at hd; subst hd; rfl
theorem cellLk (xs : List Int) : ∀ d ∈ [AV.fr (lkT xs)], d.cell = true := fun d hd => by
  simp only [List.mem_cons, List.not_mem_nil, or_false] at hd; subst hd; rfl
theorem snocLk {L : List (List Int)} {k : Nat} (h : k < L.length) : (L.take k).flatMap cLk ++ Yi true [.fr (lkT L[k])] = (L.take (k + 1)).flatMap cLk := by
  rw [List.take_succ_eq_append_getElem h, List.flatMap_append]; simp [Yi, AV.unfr, cLk]
theorem treeLinks_c {xs : List Int} (hI : InOk xs) (h0 : 0 < xs.length) (h1 : xs.length ≤ 100) : Ctr Try.prog J 51 [Zi xs] (lkT xs) := ctr1 fun w v _ h => by
  have hi := YW hI (fun _ _ => Nat.zero_le _) h
  obtain ⟨a, cap, rfl, _, _, _, hc⟩ := hi
  rcases hc with rfl | ⟨b, off, rfl, _, hb, hc⟩
  · simp at h0
  refine (treeLinks_full b off xs.length cap w xs rfl h1 h0 hc).mono fun _ w' ⟨g, he, ho, hb⟩ => ⟨_, he, ?_, hb⟩
  obtain ⟨h2, cur, t, hg, hcur⟩ := ho
  refine .sl (b := g) (off := 0) (f := fun j => .int .i64 (cf (trun xs xs.length) j)) (by simp) (Nat.le_refl _) (by unfold maxLen; omega) ⟨h2, _, _, hg⟩ (Array.getElem?_eq_some_iff.1 hg).1 (fun j hj => ?_) fun j hj => ?_
  · have hj' : j < xs.length * 3 := by simpa using hj
    rw [Nat.zero_add, Zu hg j (v := .int .i64 (cf (trun xs xs.length) j)) (hcur j hj')]
  simp only [List.getElem_map, List.getElem_range]
  exact .v _
theorem Evaluate_c {l : Ln} {n t f : Int} : Ctr Try.prog J 54 [.agg (cLn l), .agg (cSz n t f)] (.tup [iv (evN l.c l.n l.t l.f n t f), iv (evE l.c l.n l.t l.f n t f)]) := ctr2 fun w v v' _ h h' => by
  obtain ⟨vs, rfl, hl, hv⟩ := Kn h
  have e : vs = [.int .i64 l.c, .int .i64 l.n, .int .i64 l.t, .int .i64 l.f] := by
    rw [cells4 hl, (hv 0 (by simp [cLn])).v_inv, (hv 1 (by simp [cLn])).v_inv, (hv 2 (by simp [cLn])).v_inv, (hv 3 (by simp [cLn])).v_inv]
  subst e
  rw [sz_of h']
  exact (Evaluate_any l.c l.n l.t l.f n t f w).mono fun _ _ hh => ⟨_, hh.1, .tup rfl fun j hj => (match j, hj with
    | 0, _ => .v _
    | 1, _ => .v _), by first | exact hh.2 | (rw [← hh.2]; exact Below.refl _ _) | (rw [hh.2]; exact Below.refl _ _)⟩
def sysE (p : Fm) (n t f : Int) : Int := if valE p = 0 then (if admB p n t f = true then (if 8 < n then 4 else 0) else 8) else valE p
def cntE (p : Fm) (n f : Int) : Int := if p.fault = 3 then n - f else n
theorem adm_in {p : Fm} {n t f : Int} (h : admB p n t f = true) : 1 ≤ n ∧ n ≤ 1048576 ∧ 0 ≤ f ∧ f ≤ n := by
  unfold admB inB at h
  simp only [Bool.and_eq_true, decide_eq_true_eq] at h
  omega
theorem rulesE_all {q : Fm} : ∀ (f i : Nat), rulesE q i f = 0 → ∀ k, i ≤ k → k < i + f → ruleE q k (q.rules.getD k default) = 0
  | 0, i, _, k, a, b => absurd b (by omega)
  | f + 1, i, e, k, a, b => by
    unfold rulesE at e
    split at e
    · rename_i e1
      by_cases x : i = k
      · subst x; exact e1
      exact rulesE_all f (i + 1) e k (by omega) (by omega)
    exact absurd e (by assumption)
theorem val_lims {p : Fm} (h : valE p = 0) : p.rules.length ≤ 8 ∧ ∀ r ∈ p.rules, r.guards.length ≤ 2 := by
  unfold valE at h
  split at h
  · cases h
  split at h
  · cases h
  split at h
  · cases h
  split at h
  · cases h
  rename_i g
  split at h
  · cases h
  split at h
  · cases h
  split at h
  · cases h
  refine ⟨(too_rules (by simpa using g)).1, fun r hr => ?_⟩
  have a1 := Kh h
  have a2 := Kh a1.2
  have a3 := Kh a2.2
  obtain ⟨j, hj, rfl⟩ := List.getElem_of_mem hr
  have := rulesE_all _ _ a3.1 j (Nat.zero_le _) (by omega)
  rw [List.getD_eq_getElem?_getD, List.getElem?_eq_getElem hj, Option.getD_some] at this
  exact rule_guards this
theorem adm_c {p : Fm} {n t f : Int} (HP : FmOk p) (hv : valE p = 0) : Ctr Try.prog J 53 [.agg (cFm p), .agg (cSz n t f)] (bv (admB p n t f)) := by
  have := qAdmissible_c (J := J) HP n t f
  rw [decide_eq_true hv, Bool.true_and] at this
  exact this
def shT (top n : Int) : List (List Int) := if top = 4 then Sh.shX n else []
theorem shT_tree {top n : Int} (h : top = 4) : shT top n = Sh.shX n := if_pos h
theorem shT_no {top n : Int} (h : ¬ top = 4) : shT top n = [] := if_neg h
def sysC (p : Fm) (n t f : Int) : List AV := cFm p ++ [iv n, iv t, iv f, iv (cntE p n f), iv (n - f), .any, .any, .any, .any, .any, .any, .any, .any, .any, .any, .any, .any, .any, .any, .any, .any, slA 1 cLi (shT p.top (cntE p n f)), .any]
theorem sys_big {p : Fm} {n t f : Int} (hv : valE p = 0) (ha : admB p n t f = true) (h : ¬ sysE p n t f = 0) : 8 < n := by
  unfold sysE at h
  rw [if_pos hv, if_pos ha] at h
  by_cases h8 : 8 < n
  · exact h8
  rw [if_neg h8] at h; exact absurd rfl h
theorem sys_ok {p : Fm} {n t f : Int} (h : sysE p n t f = 0) : valE p = 0 ∧ admB p n t f = true ∧ ¬ 8 < n := by
  unfold sysE at h
  split at h
  · split at h
    · split at h
      · cases h
      exact ⟨by assumption, by assumption, by assumption⟩
    cases h
  exact absurd h (by assumption)
theorem sys_e1 {p : Fm} {n t f : Int} (h : ¬ valE p = 0) : sysE p n t f = valE p := by unfold sysE; rw [if_neg h]
theorem sys_e2 {p : Fm} {n t f : Int} (h : valE p = 0) (h2 : admB p n t f = false) : sysE p n t f = 8 := by unfold sysE; rw [if_pos h, if_neg (by rw [h2]; simp)]
theorem sys_e3 {p : Fm} {n t f : Int} (h : valE p = 0) (h2 : admB p n t f = true) (h3 : 8 < n) : sysE p n t f = 4 := by unfold sysE; rw [if_pos h, if_pos h2, if_pos h3]
theorem sys_e4 {p : Fm} {n t f : Int} (h : valE p = 0) (h2 : admB p n t f = true) (h3 : ¬ 8 < n) : sysE p n t f = 0 := by unfold sysE; rw [if_pos h, if_pos h2, if_neg h3]
end Ns
end Go.Proofs.Ytgbgfkhkjlakbaa

namespace Go.Proofs.Ytgbgfkhkjlakbaa
open Go.RowKit Go.Deep
variable {J : World → Prop}
namespace Rd
def ixP {α : Type} (l : List α) (p : α → Bool) : Int := match l.findIdx? p with | some i => (i : Int) | none => -1
def noP {α : Type} (l : List α) (p : α → Bool) (k : Nat) : Prop := ∀ i (h : i < l.length), i < k → p l[i] = false
theorem noP_zero {α : Type} (l : List α) (p : α → Bool) : noP l p 0 := fun _ _ h => absurd h (by omega)
theorem noP_succ {α : Type} {l : List α} {p : α → Bool} {k : Nat} (hk : k < l.length) (h : noP l p k) (e : p l[k] = false) : noP l p (k + 1) := fun i a b => by
  by_cases hi : i < k
  · exact h i a hi
  obtain rfl : i = k := by omega
  exact e
theorem ixP_at {α : Type} {l : List α} {p : α → Bool} {k : Nat} (hk : k < l.length) (h : noP l p k) (e : p l[k] = true) : ixP l p = ((k : Nat) : Int) := by
  unfold ixP
  rw [List.findIdx?_eq_some_iff_getElem.2 ⟨hk, e, fun j hj => by simp [h j (by omega) hj]⟩]
theorem ixP_none {α : Type} {l : List α} {p : α → Bool} {k : Nat} (hk : ¬ k < l.length) (h : noP l p k) : ixP l p = -1 := by
  unfold ixP
  rw [List.findIdx?_eq_none_iff.2 fun x hx => by
    obtain ⟨i, hi, rfl⟩ := List.mem_iff_getElem.1 hx
    exact h i hi (by omega)]
theorem anyP_ix {α : Type} (l : List α) (p : α → Bool) : decide (0 ≤ ixP l p) = l.any p := by
  unfold ixP
  cases hf : l.findIdx? p with
  | none =>
    rw [List.findIdx?_eq_none_iff] at hf
    have : l.any p = false := by simpa using hf
    simp [this]
  | some i =>
    obtain ⟨hi, h1, _⟩ := List.findIdx?_eq_some_iff_getElem.1 hf
    have : l.any p = true := List.any_eq_true.2 ⟨_, List.getElem_mem hi, h1⟩
    simp [this]
def outB (m x : Int) : Bool := decide (x < 0) || decide (m ≤ x)
theorem outB_lo {m x : Int} (h : x < 0) : outB m x = true := by unfold outB; simp [h]
theorem outB_hi {m x : Int} (h : ¬ x < 0) : outB m x = decide (m ≤ x) := by unfold outB; simp [h]
def belB (l : List Int) (m : Int) : Bool := !l.any (outB m)
def shI (top : Int) (S : List (List Int)) (sh : List Int) : Int := if top = 4 then max (ixP S fun x => decide (sh = x)) 0 else 0
def shB (top : Int) (S : List (List Int)) (sh : List Int) : Bool := if top = 4 then S.any (fun x => decide (sh = x)) else decide (sh = [])
theorem shI_tree {top : Int} {S : List (List Int)} {sh : List Int} (h : top = 4) : shI top S sh = max (ixP S fun x => decide (sh = x)) 0 := if_pos h
theorem shI_no {top : Int} {S : List (List Int)} {sh : List Int} (h : ¬ top = 4) : shI top S sh = 0 := if_neg h
theorem shB_tree {top : Int} {S : List (List Int)} {sh : List Int} (h : top = 4) : shB top S sh = decide (0 ≤ ixP S fun x => decide (sh = x)) := by
  unfold shB; rw [if_pos h]; exact (anyP_ix S _).symm
theorem shB_no {top : Int} {S : List (List Int)} {sh : List Int} (h : ¬ top = 4) : shB top S sh = decide (((sh.length : Nat) : Int) = 0) := by
  unfold shB; rw [if_neg h]
  cases sh with
  | nil => rfl
  | cons a l => simp; omega
def cCg (c : Cf) : List AV := [Zi c.sh, Zi c.st, iv c.cor, Zi c.se, Zi c.fa, iv c.val]
structure CgOk (c : Cf) : Prop where
  sh : InOk c.sh
  st : InOk c.st
  se : InOk c.se
  fa : InOk c.fa
  lsh : c.sh.length ≤ 100
  lst : c.st.length ≤ 100
  lse : c.se.length ≤ 100
  lfa : c.fa.length ≤ 100
theorem plain_cg (c : Cf) : ∀ X ∈ cCg c, Plain X := by
  intro X hX
  simp only [cCg, List.mem_cons, List.not_mem_nil, or_false] at hX
  rcases hX with rfl | rfl | rfl | rfl | rfl | rfl <;> first | exact .v _ | exact Yo _
def mfE (p : Fm) : Int := if p.fault = 1 ∨ p.fault = 2 then 1048577 else 1
def rdB (p : Fm) (cnt cor : Int) (c : Cf) (b : Bool) : Bool :=
  b && decide (((c.st.length : Nat) : Int) = cnt) && belB c.st ((p.states.length : Nat) : Int) && decide (c.cor = cor) && decide (((c.se.length : Nat) : Int) = ((p.msgs.length : Nat) : Int)) && belB c.se 1048577 &&
  decide (((c.fa.length : Nat) : Int) = ((p.msgs.length : Nat) : Int)) && belB c.fa (mfE p) && !decide (c.val < 0) && !decide (max ((p.vals.length : Nat) : Int) 1 ≤ c.val)
def zz (b : Bool) (x : Int) : Int := if b = true then x else 0
def cfZ (b : Bool) (i : Int) (c : Cf) : List AV :=
  [iv (zz b i), iv (zz b (c.st.getD 0 0)), iv (zz b (c.st.getD 1 0)), iv (zz b (c.st.getD 2 0)), iv (zz b (c.st.getD 3 0)), iv (zz b (c.st.getD 4 0)), iv (zz b (c.st.getD 5 0)), iv (zz b (c.st.getD 6 0)), iv (zz b (c.st.getD 7 0)),
   iv (zz b (c.se.getD 0 0)), iv (zz b (c.se.getD 1 0)), iv (zz b (c.se.getD 2 0)), iv (zz b (c.fa.getD 0 0)), iv (zz b (c.fa.getD 1 0)), iv (zz b (c.fa.getD 2 0)), iv (zz b c.val)]
def rdX (p : Fm) (n f : Int) (c : Cf) : Bool := rdB p (Ns.cntE p n f) (n - f) c (shB p.top (Ns.shT p.top (Ns.cntE p n f)) c.sh)
def rdY (p : Fm) (n f : Int) (c : Cf) : Bool := rdX p n f c
def vcE (p : Fm) (n t f : Int) (c : Cf) : Int := if Ns.sysE p n t f = 0 then (if rdX p n f c = true then 0 else 1) else Ns.sysE p n t f
end Rd
end Go.Proofs.Ytgbgfkhkjlakbaa

namespace Go.Proofs.Ytgbgfkhkjlakbaa
open Go.RowKit Go.Deep
def wideCf (q : Cf) : Bool := decide (100 < q.sh.length) || decide (100 < q.st.length) || decide (100 < q.se.length) || decide (100 < q.fa.length)
set_option maxHeartbeats 800000 in
theorem Wide_any {lo : Nat} {w : World} {v : Value} {q : Cf} (h : IsCf lo w v q) :
    Calls Try.prog 14 #[v] w fun e w' => e = .returned (.bool (wideCf q)) ∧ Below w.heap.size w w' := by
  obtain ⟨u0, u1, u3, u4, rfl, h0, h1, _, h3, h4, _⟩ := h
  have E : Hid (wideCf q = (decide (100 < q.sh.length) || decide (100 < q.st.length) || decide (100 < q.se.length) || decide (100 < q.fa.length))) := (rfl : wideCf q = _)
  have l0 : q.sh.length ≤ 9223372036854775807 := by obtain ⟨_, _, _, hh, hm, _⟩ := h0; unfold maxLen at hm; omega
  obtain ⟨a0, c0, rfl⟩ := h0.shape
  have l1 : q.st.length ≤ 9223372036854775807 := by obtain ⟨_, _, _, hh, hm, _⟩ := h1; unfold maxLen at hm; omega
  obtain ⟨a1, c1, rfl⟩ := h1.shape
  have l3 : q.se.length ≤ 9223372036854775807 := by obtain ⟨_, _, _, hh, hm, _⟩ := h3; unfold maxLen at hm; omega
  obtain ⟨a3, c3, rfl⟩ := h3.shape
  have l4 : q.fa.length ≤ 9223372036854775807 := by obtain ⟨_, _, _, hh, hm, _⟩ := h4; unfold maxLen at hm; omega
  obtain ⟨a4, c4, rfl⟩ := h4.shape
  clear h0 h1 h3 h4
  by_cases t0 : 100 < q.sh.length
  · have i0 : (100 : Int) < ((q.sh.length : Nat) : Int) := by omega
    go_enter Try.func14, Try.ntmps14
    go_wp2_with fail
    go_ret
    exact ⟨Ze (by rw [E.out, decide_eq_true t0]; simp), Zd _ _⟩
  have i0 : ¬ (100 : Int) < ((q.sh.length : Nat) : Int) := by omega
  by_cases t1 : 100 < q.st.length
  · have i1 : (100 : Int) < ((q.st.length : Nat) : Int) := by omega
    go_enter Try.func14, Try.ntmps14
    go_wp2_with fail
    go_ret
    exact ⟨Ze (by rw [E.out, decide_eq_true t1]; simp), Zd _ _⟩
  have i1 : ¬ (100 : Int) < ((q.st.length : Nat) : Int) := by omega
  by_cases t3 : 100 < q.se.length
  · have i3 : (100 : Int) < ((q.se.length : Nat) : Int) := by omega
    go_enter Try.func14, Try.ntmps14
    go_wp2_with fail
    go_ret
    exact ⟨Ze (by rw [E.out, decide_eq_true t3]; simp), Zd _ _⟩
  have i3 : ¬ (100 : Int) < ((q.se.length : Nat) : Int) := by omega
  by_cases t4 : 100 < q.fa.length
  · have i4 : (100 : Int) < ((q.fa.length : Nat) : Int) := by omega
    go_enter Try.func14, Try.ntmps14
    go_wp2_with fail
    go_ret
    exact ⟨Ze (by rw [E.out, decide_eq_true t4]; simp), Zd _ _⟩
  have i4 : ¬ (100 : Int) < ((q.fa.length : Nat) : Int) := by omega
  go_enter Try.func14, Try.ntmps14
  go_wp2_with fail
  go_ret
  exact ⟨Ze (by rw [E.out, decide_eq_false t0, decide_eq_false t1, decide_eq_false t3, decide_eq_false t4]; simp), Zd _ _⟩
end Go.Proofs.Ytgbgfkhkjlakbaa
