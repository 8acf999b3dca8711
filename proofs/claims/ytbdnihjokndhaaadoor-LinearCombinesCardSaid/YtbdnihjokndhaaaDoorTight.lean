/-
  WHAT gcd, contentOf, floorDiv, cloneRow AND Tighten RETURN.
-/
import Derived.Test.YtbdnihjokndhaaaDoorSmall
import Derived.BigRegion
import Derived.Deep.OwnRows
import Derived.Laws.CopyOwn
namespace Go.Proofs.YtbdnihjokndhaaaDoor
open Go.RowKit Go.Deep

set_option maxHeartbeats 400000 in
theorem gcd_any (x y : Int) (w : World) (hx : smB x = true) (hy : smB y = true) :
    Calls Tryd.prog 86 #[.int .i64 x, .int .i64 y] w fun e w' => e = .returned (.int .i64 (Int.gcd x y)) ∧ Below w.heap.size w w' := by
  go_enter Tryd.func86, Tryd.ntmps86
  go_wp2_with fail
  go_loopw [0, 1] (fun u v wr => ∃ a b : Int, u = .int .i64 a ∧ v = .int .i64 b ∧ smB a = true ∧ smB b = true ∧ Int.gcd a b = Int.gcd x y ∧ Below w.heap.size w wr) (fun _ v _ => (intOf v).natAbs)
  case atStart => exact ⟨x, y, rfl, rfl, hx, hy, rfl, Below.refl _ _⟩
  case round =>
    obtain ⟨a, b, rfl, rfl, ha, hb, hg, hB⟩ := hrel
    have HG : Hid (Int.gcd a b = Int.gcd x y) := hg
    have HB : Hid (Below w.heap.size w wr) := hB
    have HA : Hid (smB a = true) := ha
    have HA' : Hid (smB b = true) := hb
    rw [smB_true] at ha hb
    obtain ⟨ha1, ha2⟩ := ha
    obtain ⟨hb1, hb2⟩ := hb
    clear hg hB hx hy
    by_cases h0 : b = 0
    · subst h0
      have e : Hid ((x.gcd y : Int) = a.natAbs) := by show _ = _; rw [← HG.out]; simp
      go_wp2
      all_goals (go_ret; exact ⟨ret_int (by rw [e.out]; omega), HB.out⟩)
    · have hm1 : (a.tmod b).natAbs < b.natAbs := by rw [Int.natAbs_tmod]; exact Nat.mod_lt _ (by omega)
      have hm2 : Hid (smB (a.tmod b) = true) := by show _ = _; rw [smB_true]; omega
      have hm3 : Hid (Int.gcd b (a.tmod b) = x.gcd y) := by
        show _ = _
        rw [← HG.out]
        simp only [Int.gcd, Int.natAbs_tmod]
        rw [Nat.gcd_comm, ← Nat.gcd_rec, Nat.gcd_comm]
      go_wp2
      go_region
      go_wp2
      go_roundw
      case rel => exact ⟨b, a.tmod b, rfl, rfl, HA'.out, hm2.out, hm3.out, HB.out.drew⟩
      case measure => simpa [intOf] using hm1

theorem tdiv_small {x y : Int} (hx : smB x = true) : -68719476736 ≤ x.tdiv y ∧ x.tdiv y ≤ 68719476736 := by
  rw [smB_true] at hx
  have h1 : (x.tdiv y).natAbs ≤ x.natAbs := by rw [Int.natAbs_tdiv]; exact Nat.div_le_self _ _
  omega
theorem div_of_neg {x y : Int} (hy : 1 ≤ y) (h : x.tmod y < 0) : x / y = x.tdiv y - 1 := by
  have e1 := Int.mul_tdiv_add_tmod x y
  have h2 : (x.tmod y).natAbs < y.natAbs := by rw [Int.natAbs_tmod]; exact Nat.mod_lt _ (by omega)
  have e2 : x = (x.tmod y + y) + y * (x.tdiv y - 1) := by rw [Int.mul_sub]; omega
  rw [e2, Int.add_mul_ediv_left _ _ (by omega), Int.ediv_eq_zero_of_lt (by omega) (by omega)]
  rw [← e2]; omega
theorem div_of_nonneg {x y : Int} (hy : 1 ≤ y) (h : ¬ x.tmod y < 0) : x / y = x.tdiv y := by
  have e1 := Int.mul_tdiv_add_tmod x y
  have h2 : (x.tmod y).natAbs < y.natAbs := by rw [Int.natAbs_tmod]; exact Nat.mod_lt _ (by omega)
  have e2 : x = x.tmod y + y * x.tdiv y := by omega
  rw [e2, Int.add_mul_ediv_left _ _ (by omega), Int.ediv_eq_zero_of_lt (by omega) (by omega)]
  rw [← e2]; omega

theorem floorDiv_any (x y : Int) (w : World) (hx : smB x = true) (hy : 1 ≤ y) (hy' : y ≤ 68719476736) :
    Calls Tryd.prog 72 #[.int .i64 x, .int .i64 y] w fun e w' => e = .returned (.int .i64 (x / y)) ∧ w = w' := by
  have D := hid0 (tdiv_small (y := y) hx)
  have e1 : x.tmod y < 0 → Hid (x / y = x.tdiv y - 1) := fun h => div_of_neg hy h
  have e2 : ¬ x.tmod y < 0 → Hid (x / y = x.tdiv y) := fun h => div_of_nonneg hy h
  have hx0 := hx
  rw [smB_true] at hx
  obtain ⟨h1, h2⟩ := hx
  by_cases h : x.tmod y < 0
  · have E := e1 h
    clear e1 e2
    go_enter Tryd.func72, Tryd.ntmps72
    go_wp2
    go_ret
    have d := D.out
    exact ⟨ret_int (by rw [E.out]; try exact IntWalk.wrap64_in _ (by omega)), rfl⟩
  · have E := e2 h
    clear e1 e2
    go_enter Tryd.func72, Tryd.ntmps72
    go_wp2
    go_ret
    have d := D.out
    exact ⟨ret_int (by rw [E.out]; try exact IntWalk.wrap64_in _ (by omega)), rfl⟩

theorem info_int : (Tryd.prog.info? 3).map (fun i => (i.zero, i.size, i.bytes)) = some (some (.int .i64 0), 1, 8) := by kernel_rfl

/-- copy into a row of the call's own, whatever the source: all other blocks stay. -/
theorem copy_but {P : Program} {w : World} {ops : Array Oper} {rest : List Oper} {o : Oper} {a : Act} {Q : Exit → Act → World → Prop} (hgd : o.guard = none) (d s : Operand) (dT sT : TypeId)
    (ho : o.op = .call { callee := .builtin .copy, args := #[d, s], argTypes := #[dT, sT] }) (elem : TypeId) (hu : P.underlying dT = some (.slice elem)) (hsz : (P.info? elem).map (·.size) = some 1)
    (dp sp : Option Addr) (dLen dCap sLen sCap : Nat) (hd : a.eval d = .slice dp dLen dCap) (hs : a.eval s = .slice sp sLen sCap)
    (g : Nat) (cur : Array Value) (t : TypeId) (hg : w.heap[g]? = some (.cells cur t (0, 0))) (cs : List Value) (hn : cs.length = Nat.min sLen dLen)
    (hpos : 0 < cs.length → dp = some ⟨g, 0, none⟩ ∧ ∃ ad, sp = some ad ∧ ∀ j v, cs[j]? = some v → w.cell? (ad.add j) = some v)
    (hfit : cs.length ≤ cur.size) (h1 : ∀ v ∈ cs, v.oneCell' = true)
    (h : ∀ w', Hid (∃ cur', w'.heap[g]? = some (.cells cur' t (0, 0)) ∧ ∀ i, i < cs.length → cur'[i]? = cs[i]?) → Hid (∀ k, k ≠ g → w'.heap[k]? = w.heap[k]?) → Below g w w' → wpList P ops Q rest (a.put o.dst (goInt cs.length)) w') :
    wpList P ops Q (o :: rest) a w := by
  by_cases h0 : cs.length = 0
  · obtain rfl : cs = [] := List.eq_nil_of_length_eq_zero h0
    refine wpList_copy_nothing hgd d s dT sT ho elem hu hsz dp sp dLen dCap sLen sCap hd hs (by simpa using hn.symm) ?_
    exact h w ⟨cur, hg, by simp⟩ (hid0 fun _ _ => rfl) (Below.refl _ _)
  · obtain ⟨rfl, ad, rfl, hsrc⟩ := hpos (by omega)
    refine wpList_copy_own hgd d s dT sT ho elem hu hsz g 0 dLen dCap ad sLen sCap hd hs cur t hg cs hn hsrc (by omega) h1 ?_
    refine h _ ⟨_, setRow_heap w g cur _ t (0, 0) hg, fun i hi => ?_⟩ (hid0 fun k hk => setRow_other w g k _ hk) (below_setRow (Below.refl _ _) (Nat.le_refl _) _)
    simp only [List.take_zero, List.nil_append, Nat.zero_add, List.getElem?_toArray]
    rw [List.getElem?_append_left hi]

theorem size_int : (Tryd.prog.info? 3).map (·.size) = some 1 := by kernel_rfl

set_option maxRecDepth 100000 in
theorem cloneRow_any {lo : Nat} {w : World} {v : Value} {xs : List Int} (c : Int) (h : IsInts lo w v xs) (hn : xs.length ≤ 1000) :
    Calls Tryd.prog 52 #[.agg #[v, .int .i64 c]] w fun e w' => ∃ g, e = .returned (.agg #[.slice (some ⟨g, 0, none⟩) xs.length xs.length, .int .i64 c]) ∧ OwnInts w.heap.size w' g xs ∧ Below w.heap.size w w' := by
  obtain ⟨a, cap, rfl, hl, hm, hi, hc⟩ := h
  have HS : Hid (∀ w', Below w.heap.size w w' → 0 < xs.length → ∃ ad, a = some ad ∧ ∀ j v, (xs.map (Value.int .i64))[j]? = some v → w'.cell? (ad.add j) = some v) := hid0 fun w' hb h0 => by
    obtain ⟨ad, h1, h2⟩ := IsInts.src (lo := lo) (xs := xs) ⟨a, cap, rfl, hl, hm, hi, hc⟩ h0
    exact ⟨ad, h1, h2 w' hb⟩
  have HI := hid0 hi.1
  unfold maxLen at hm
  clear hc hi
  have hmk := run_make_row' (P := Tryd.prog) 22 3 (.int .i64 0) 8 Tryd.underlying22 info_int rfl .i64 .i64 xs.length (by omega) (by omega)
  go_enter Tryd.func52, Tryd.ntmps52
  go_wp2_with fail
  go_region
  · go_wp2_with (refine copy_but rfl (.tmp 12) (.tmp 14) 22 22 rfl 3 Tryd.underlying22 size_int _ _ _ _ _ _ rfl rfl (w.heap.size + 1 + 1) (madeCells #[.int .i64 0] xs.length) 3 ((heap_old _ _ (by simp)).trans (heap_new _ _ (by simp))) (xs.map (Value.int .i64)) (by simp) (fun h0 => ⟨rfl, HS.out _ (by go_grown) (by simpa using h0)⟩) (by simp [madeCells]) (by simp [Value.oneCell']) ?_; intro w1 hG hBut hb1; have hs1 : w.heap.size + 4 ≤ w1.heap.size := (by have := hb1.size; simpa using this); have HB1 : Hid (Below w.heap.size w w1) := (Below.trans (by go_grown) (hb1.mono (by omega))); clear hb1; obtain ⟨c1, c2⟩ := but_cell hBut.out)
    obtain ⟨c1, c2⟩ := but_cell hBut.out
    have d1 := c1 (w.heap.size + 1) 0 (by omega)
    have d2 := c1 (w.heap.size + 1) 1 (by omega)
    obtain ⟨cur, hg, hcur⟩ := hG.out
    refine bodyPost_ret (v := .agg #[.slice (some ⟨w.heap.size + 1 + 1, 0, none⟩) xs.length xs.length, .int .i64 c]) (by simp [results, Tryd.results52, go_sem, d1, d2]) rfl ⟨_, rfl, ?_, (HB1.out.setCell (by simp) _).setCell (by simp) _⟩
    refine ⟨by omega, by unfold maxLen; omega, HI.out, cur, 3, ?_, fun i hi => ?_⟩
    · rw [Below.heap_setCell _ _ _ _ (by simp <;> omega), Below.heap_setCell _ _ _ _ (by simp <;> omega)]; exact hg
    · rw [hcur i (by simpa using hi)]; simp [hi]
  · go_wp2_with (refine copy_but rfl (.tmp 12) (.tmp 14) 22 22 rfl 3 Tryd.underlying22 size_int _ _ _ _ _ _ rfl rfl (w.heap.size + 1 + 1 + 1) (madeCells #[.int .i64 0] xs.length) 3 (heap_new _ _ (by simp)) (xs.map (Value.int .i64)) (by simp) (fun h0 => ⟨rfl, HS.out _ (by go_grown) (by simpa using h0)⟩) (by simp [madeCells]) (by simp [Value.oneCell']) ?_; intro w1 hG hBut hb1; have hs1 : w.heap.size + 4 ≤ w1.heap.size := (by have := hb1.size; simpa using this); have HB1 : Hid (Below w.heap.size w w1) := (Below.trans (by go_grown) (hb1.mono (by omega))); clear hb1; obtain ⟨c1, c2⟩ := but_cell hBut.out)
    obtain ⟨c1, c2⟩ := but_cell hBut.out
    have d1 := c1 (w.heap.size + 1) 0 (by omega)
    have d2 := c1 (w.heap.size + 1) 1 (by omega)
    obtain ⟨cur, hg, hcur⟩ := hG.out
    refine bodyPost_ret (v := .agg #[.slice (some ⟨w.heap.size + 1 + 1 + 1, 0, none⟩) xs.length xs.length, .int .i64 c]) (by simp [results, Tryd.results52, go_sem, d1, d2]) rfl ⟨_, rfl, ?_, (HB1.out.setCell (by simp) _).setCell (by simp) _⟩
    refine ⟨by omega, by unfold maxLen; omega, HI.out, cur, 3, ?_, fun i hi => ?_⟩
    · rw [Below.heap_setCell _ _ _ _ (by simp <;> omega), Below.heap_setCell _ _ _ _ (by simp <;> omega)]; exact hg
    · rw [hcur i (by simpa using hi)]; simp [hi]

/-- The content of a list of numbers. -/
def gcdL : List Int → Nat → Nat
  | [], g => g
  | x :: xs, g => gcdL xs (Int.gcd g x)
theorem gcdL_snoc : ∀ (xs : List Int) (g k : Nat) (h : k < xs.length), gcdL (xs.take (k + 1)) g = Int.gcd (gcdL (xs.take k) g) xs[k]
  | x :: xs, g, 0, _ => by simp [gcdL]
  | x :: xs, g, k + 1, h => by
    have := gcdL_snoc xs (Int.gcd g x) k (by simpa using h)
    simpa [gcdL] using this
theorem gcd_small {g : Nat} {x : Int} (hg : g ≤ 68719476736) (hx : smB x = true) : Int.gcd g x ≤ 68719476736 := by
  rw [smB_true] at hx
  by_cases h : g = 0
  · subst h; simp; omega
  · have : Int.gcd g x ≤ g := by
      have := Nat.le_of_dvd (by omega) (Nat.gcd_dvd_left g x.natAbs)
      simpa [Int.gcd] using this
    omega
theorem gcdL_small : ∀ (xs : List Int) (g : Nat), g ≤ 68719476736 → xs.all smB = true → gcdL xs g ≤ 68719476736
  | [], g, hg, _ => hg
  | x :: xs, g, hg, h => by
    simp only [List.all_cons, Bool.and_eq_true] at h
    exact gcdL_small xs _ (gcd_small hg h.1) h.2
theorem all_take_of {p : Int → Bool} {xs : List Int} (k : Nat) (h : xs.all p = true) : (xs.take k).all p = true := by
  rw [List.all_eq_true] at h ⊢
  exact fun x hx => h x (List.mem_of_mem_take hx)
theorem smB_nat {g : Nat} (h : g ≤ 68719476736) : smB g = true := by rw [smB_true]; omega

set_option maxHeartbeats 400000 in
theorem contentOf_full (b off n cap : Nat) (c : Int) (w : World) (xs : List Int) (hx : xs.length = n) (hn : n ≤ 9223372036854775807) (hb : b < w.heap.size) (hs : xs.all smB = true)
    (hc : ∀ i, i < n → w.cell? ⟨b, off + i, none⟩ = some (.int .i64 (xs.getD i 0))) :
    Calls Tryd.prog 71 #[.agg #[.slice (some ⟨b, off, none⟩) n cap, .int .i64 c]] w fun e w' => e = .returned (.int .i64 (gcdL xs 0)) ∧ Below w.heap.size w w' := by
  go_enter Tryd.func71, Tryd.ntmps71
  go_wp2_with fail
  go_loopw [3, 9] (fun u v wr => ∃ k : Nat, k ≤ n ∧ v = .int .i64 k ∧ u = .int .i64 (gcdL (xs.take k) 0) ∧ Below w.heap.size w wr) (fun _ v _ => n - (intOf v).toNat)
  case atStart => exact ⟨0, Nat.zero_le _, rfl, rfl, allocBelow _ _⟩
  case round =>
    obtain ⟨k, hk, rfl, rfl, hB⟩ := hrel
    have HB : Hid (Below w.heap.size w wr) := hB
    by_cases h1 : k < n
    · have g1 : wr.cell? ⟨b, off + k, none⟩ = some (.int .i64 (xs.getD k 0)) := (hB.cell (p := ⟨b, off + k, none⟩) hb).trans (hc k h1)
      have s1 : Hid (smB (gcdL (xs.take k) 0) = true) := smB_nat (gcdL_small _ _ (by omega) (all_take_of k hs))
      have s2 : Hid (smB (xs[k]'(by omega)) = true) := List.all_eq_true.1 hs _ (List.getElem_mem _)
      have s3 : Hid (gcdL (xs.take (k + 1)) 0 = Int.gcd (gcdL (xs.take k) 0) (xs[k]'(by omega))) := gcdL_snoc xs 0 k (by omega)
      clear hB hs
      go_wp2_with (go_at_call 86; refine (gcd_any _ _ _ s1.out s2.out).mono ?_; rintro e w1 ⟨rfl, hb1⟩)
      go_roundw
      case rel => exact ⟨k + 1, by omega, by go_num, by rw [s3.out], HB.out.trans (hb1.mono HB.out.size)⟩
      case measure => simp [intOf]; omega
    · have e1 : Hid (xs.take k = xs) := List.take_of_length_le (by omega)
      clear hB hs
      go_wp2_with fail
      go_ret
      exact ⟨ret_int (by rw [e1.out]), HB.out⟩

theorem contentOf_empty (a : Option Addr) (cap : Nat) (c : Int) (w : World) :
    Calls Tryd.prog 71 #[.agg #[.slice a 0 cap, .int .i64 c]] w fun e w' => e = .returned (.int .i64 (gcdL [] 0)) ∧ Below w.heap.size w w' := by
  go_enter Tryd.func71, Tryd.ntmps71
  go_wp2_with fail
  refine wp_loop_rounds 1 ?_
  rw [rounds_succ]
  go_wp2_with fail
  go_ret
  exact ⟨ret_int rfl, allocBelow _ _⟩

theorem contentOf_any {lo : Nat} {w : World} {v : Value} {xs : List Int} (c : Int) (h : IsInts lo w v xs) (hs : xs.all smB = true) :
    Calls Tryd.prog 71 #[.agg #[v, .int .i64 c]] w fun e w' => e = .returned (.int .i64 (gcdL xs 0)) ∧ Below w.heap.size w w' := by
  obtain ⟨a, cap, rfl, hl, hm, hi, hc⟩ := h
  unfold maxLen at hm
  rcases hc with rfl | ⟨b, off, rfl, _, hb, hc⟩
  · exact contentOf_empty _ _ _ _
  · exact contentOf_full _ _ _ _ _ _ _ rfl (by omega) hb hs hc

/-- The row after k rounds of a division in place. -/
def midL (f : Int → Int) (xs : List Int) (k : Nat) : List Int := (xs.take k).map f ++ xs.drop k
theorem midL_length (f : Int → Int) (xs : List Int) (k : Nat) : (midL f xs k).length = xs.length := by simp [midL]; omega
theorem midL_get (f : Int → Int) (xs : List Int) (k : Nat) (h : k < xs.length) : (midL f xs k).getD k 0 = xs[k] := by
  have h1 : k ≤ xs.length := by omega
  simp [midL, List.getD, h1, h]
theorem midL_set (f : Int → Int) (xs : List Int) (k : Nat) (h : k < xs.length) : (midL f xs k).set k (f xs[k]) = midL f xs (k + 1) := by
  have h1 : min k xs.length = k := by omega
  simp only [midL]
  rw [List.set_append_right _ _ (by simp; omega), List.drop_eq_getElem_cons h, List.take_succ_eq_append_getElem h, List.map_append, List.append_assoc]
  have e : k - ((xs.take k).map f).length = 0 := by simp; omega
  rw [e]; rfl
theorem midL_end (f : Int → Int) (xs : List Int) (k : Nat) (h : xs.length ≤ k) : midL f xs k = xs.map f := by
  simp [midL, List.take_of_length_le h, List.drop_eq_nil_of_le h]

set_option maxHeartbeats 400000 in
theorem Tighten_any {lo : Nat} {w : World} {v : Value} {xs : List Int} (c : Int) (h : IsInts lo w v xs) (hn : xs.length ≤ 1000) (hs : smR (xs, c) = true) (g0 : gcdL xs 0 ≠ 0) :
    Calls Tryd.prog 40 #[.agg #[v, .int .i64 c]] w fun e w' => ∃ g, e = .returned (.agg #[.slice (some ⟨g, 0, none⟩) xs.length xs.length, .int .i64 (c / gcdL xs 0)]) ∧ OwnInts w.heap.size w' g (xs.map fun x => x.tdiv (gcdL xs 0)) ∧ Below w.heap.size w w' := by
  have H := h
  obtain ⟨a, cap, rfl, _, hm, _, _⟩ := h
  unfold maxLen at hm
  go_enter Tryd.func40, Tryd.ntmps40
  have HS := hid0 hs
  have HS1 := hid0 (smR_true.1 hs).1
  have hs3 : smR (xs, c) = true := HS.out
  have hg0 : ((gcdL xs 0 : Int) == 0) = false := by simp; omega
  clear hs
  go_wp2_with (first | (go_at_call 52; refine (cloneRow_any c (H.below (by go_grown)) hn).mono ?_; rintro e w1 ⟨g, rfl, hO, hb1⟩; have hB1 : Below w.heap.size w w1 := (Below.trans (by go_grown) (hb1.mono (by go_size))); have hs1 := hb1.size; simp only [World.size_alloc] at hs1; have hz0 : w.heap.size < w1.heap.size := (by omega); have hz1 : w.heap.size + 1 < w1.heap.size := (by omega); have hzg := hO.lt; obtain ⟨p1, p2⟩ := blk hb1 (n := w.heap.size) (by go_size); obtain ⟨p3, p4⟩ := blk hb1 (n := w.heap.size + 1) (by go_size)) | (go_at_call 42; refine (small_any c (H.below (by go_grown))).mono ?_; rintro e w2 ⟨rfl, hb2⟩; have hB2 : Below w.heap.size w w2 := (Below.trans (by go_grown) (hb2.mono (by go_size))); have hs2 := hb2.size; simp only [World.size_alloc] at hs2; obtain ⟨q1, q2⟩ := blk hb2 (n := w.heap.size) (by go_size); obtain ⟨q3, q4⟩ := blk hb2 (n := w.heap.size + 1) (by go_size); obtain ⟨q5, q6⟩ := blk hb2 (n := w1.heap.size) (by go_size)) | (go_at_call 71; refine (contentOf_any c (H.below (by go_grown)) HS1.out).mono ?_; rintro e w3 ⟨rfl, hb3⟩; have hB3 : Below w.heap.size w w3 := (hB2.trans (hb3.mono (by go_size))); have hs3' := hb3.size; obtain ⟨q7, q8⟩ := blk hb3 (n := w.heap.size) (by go_size); obtain ⟨q9, q10⟩ := blk hb3 (n := w.heap.size + 1) (by go_size); obtain ⟨q11, q12⟩ := blk hb3 (n := w1.heap.size) (by go_size)))
  have HO3 := hid0 (((hO.below ((allocBelow _ _).trans (hb2.mono (by go_size)))).below hb3).mono (lo' := w.heap.size) (by go_size))
  have HB := hid0 hB3
  have x1 : w3.cell? ⟨w1.heap.size, 0, none⟩ = some (.slice (some ⟨g, 0, none⟩) xs.length xs.length) := by
    rw [(blk hb3 (n := w1.heap.size) (by go_size)).1, (blk hb2 (n := w1.heap.size) (by go_size)).1]; simp
  have x2 : w3.cell? ⟨w1.heap.size, 1, none⟩ = some (.int .i64 c) := by
    rw [(blk hb3 (n := w1.heap.size) (by go_size)).1, (blk hb2 (n := w1.heap.size) (by go_size)).1]; simp
  have x3 : ∀ o, w3.frozen? ⟨w1.heap.size, o, none⟩ = false := fun o => by
    rw [(blk hb3 (n := w1.heap.size) (by go_size)).2, (blk hb2 (n := w1.heap.size) (by go_size)).2]; simp
  have hB13 := (allocBelow w1 _).trans ((hb2.mono (by go_size)).trans (hb3.mono (by go_size)))
  have hB03 := hb1.trans (hB13.mono hb1.size)
  have x4' : Hid (∃ u, w3.cell? ⟨w.heap.size + 1, 0, none⟩ = some u) := ⟨.slice none 0 0, by rw [(blk hB03 (n := w.heap.size + 1) (by go_size)).1]; simp⟩
  have x4'' : Hid (∃ u, w3.cell? ⟨w.heap.size + 1, 1, none⟩ = some u) := ⟨.int .i64 0, by rw [(blk hB03 (n := w.heap.size + 1) (by go_size)).1]; simp⟩
  have x5 : ∀ o, w3.frozen? ⟨w.heap.size + 1, o, none⟩ = false := fun o => by
    rw [(blk hB03 (n := w.heap.size + 1) (by go_size)).2]; simp
  have hzg3 : g ≠ w1.heap.size := by omega
  have hz3 : w.heap.size + 1 ≠ w1.heap.size := by omega
  have hgs : w.heap.size ≤ g ∧ g ≠ w.heap.size + 1 := by have := hO.1; simp only [World.size_alloc] at this; omega
  have hL1 : w1.heap.size < w3.heap.size := by omega
  clear p1 p2 p3 p4 q1 q2 q3 q4 q5 q6 q7 q8 q9 q10 q11 q12 hO hb1 hb2 hb3 hB1 hB2 hB3 hB13 hB03 hs1 hs2 hs3 hs3'
  go_loopw [20] (fun v wr => ∃ k : Nat, k ≤ xs.length ∧ v = .int .i64 k ∧ OwnInts w.heap.size wr g (midL (fun x => x.tdiv (gcdL xs 0)) xs k) ∧ (∀ b, b ≠ g → wr.heap[b]? = w3.heap[b]?) ∧ Below w.heap.size w wr) (fun v _ => xs.length - (intOf v).toNat)
  case atStart => exact ⟨0, Nat.zero_le _, rfl, by simpa [midL] using HO3.out, fun _ _ => rfl, HB.out⟩
  case round =>
    obtain ⟨k, hk, rfl, hO, hBut, hB⟩ := hrel
    have HOr := hid0 hO
    have HBut := hid0 hBut
    have HBr := hid0 hB
    obtain ⟨c1, c2⟩ := but_cell hBut
    have y1 : wr.cell? ⟨w1.heap.size, 0, none⟩ = some (.slice (some ⟨g, 0, none⟩) xs.length xs.length) := (c1 _ _ (by omega)).trans x1
    have y2 : wr.cell? ⟨w1.heap.size, 1, none⟩ = some (.int .i64 c) := (c1 _ _ (by omega)).trans x2
    by_cases h1 : k < xs.length
    · have g1 : wr.cell? ⟨g, k, none⟩ = some (.int .i64 (xs[k]'h1)) := by
        rw [hO.cell k (by rw [midL_length]; exact h1), midL_get _ _ _ h1]
      have g2 : wr.frozen? ⟨g, k, none⟩ = false := hO.frozen k
      have b0 := List.all_eq_true.1 HS1.out _ (List.getElem_mem h1)
      rw [smB_true] at b0
      obtain ⟨b1, b2⟩ := b0
      have b3 : (1 : Int) ≤ gcdL xs 0 := by omega
      have b4 : ¬ ((gcdL xs 0 : Int) = 0) := by omega
      clear hO hBut hB c1 c2 x1 x2 x3 x5
      go_wp2
      go_roundw
      case rel =>
        refine ⟨k + 1, by omega, by go_num, ?_, fun b hb => (Below.heap_setCell _ _ _ _ hb).trans (HBut.out b hb), HBr.out.setCell hgs.1 _⟩
        rw [← midL_set _ _ _ h1]
        refine HOr.out.set k _ ?_
        have e := tdiv_small (y := gcdL xs 0) (List.all_eq_true.1 HS1.out _ (List.getElem_mem h1))
        constructor <;> omega
      case measure => simp [intOf]; omega
    · obtain rfl : k = xs.length := by omega
      have s2 : Hid (smB c = true) := by
        exact (smR_true.1 HS.out).2
      have b3 : (1 : Int) ≤ gcdL xs 0 := by omega
      have b5 : (gcdL xs 0 : Int) ≤ 68719476736 := by
        have := gcdL_small xs 0 (by omega) HS1.out
        omega
      obtain ⟨u4, hu4⟩ := x4'.out
      obtain ⟨u5, hu5⟩ := x4''.out
      have y3 : ∀ o, wr.frozen? ⟨w1.heap.size, o, none⟩ = false := fun o => (c2 _ _ (by omega)).trans (x3 o)
      have y4 : wr.cell? ⟨w.heap.size + 1, 0, none⟩ = some u4 := (c1 _ _ (by omega)).trans hu4
      have y5 : wr.cell? ⟨w.heap.size + 1, 1, none⟩ = some u5 := (c1 _ _ (by omega)).trans hu5
      have y6 : ∀ o, wr.frozen? ⟨w.heap.size + 1, o, none⟩ = false := fun o => (c2 _ _ (by omega)).trans (x5 o)
      clear hO hBut hB c1 c2 x1 x2 x3 x5 hu4 hu5 h1 hk
      go_wp2_with (go_at_call 72; refine (floorDiv_any _ _ _ s2.out b3 b5).mono ?_; rintro e w' ⟨rfl, rfl⟩)
      have z1 : w.heap.size ≤ w1.heap.size := by omega
      refine bodyPost_ret (v := .agg #[.slice (some ⟨g, 0, none⟩) xs.length xs.length, .int .i64 (c / gcdL xs 0)]) (by simp [results, Tryd.results40, go_sem, y4, y5]) rfl ⟨g, rfl, ?_, ((HBr.out.setCell z1 _).setCell (by simp) _).setCell (by simp) _⟩
      have hO := HOr.out
      rw [midL_end _ _ _ (Nat.le_refl _)] at hO
      exact ((hO.setOther _ _ (by simp; omega)).setOther _ _ (by simp; omega)).setOther _ _ (by simp; omega)

set_option maxHeartbeats 400000 in
theorem Tighten_large {lo : Nat} {w : World} {v : Value} {xs : List Int} (c : Int) (h : IsInts lo w v xs) (hn : xs.length ≤ 1000) (hs : smR (xs, c) = false) :
    Calls Tryd.prog 40 #[.agg #[v, .int .i64 c]] w fun e w' => ∃ g, e = .returned (.agg #[.slice (some ⟨g, 0, none⟩) xs.length xs.length, .int .i64 c]) ∧ OwnInts w.heap.size w' g xs ∧ Below w.heap.size w w' := by
  have H := h
  obtain ⟨a, cap, rfl, _, hm, _, _⟩ := h
  unfold maxLen at hm
  go_enter Tryd.func40, Tryd.ntmps40
  go_wp2_with (first | (go_at_call 52; refine (cloneRow_any c (H.below (by go_grown)) hn).mono ?_; rintro e w1 ⟨g, rfl, hO, hb1⟩; have hB1 : Below w.heap.size w w1 := (Below.trans (by go_grown) (hb1.mono (by go_size))); have hs1 := hb1.size; simp only [World.size_alloc] at hs1; have hz0 : w.heap.size < w1.heap.size := (by omega); have hz1 : w.heap.size + 1 < w1.heap.size := (by omega); have hzg := hO.lt; obtain ⟨p1, p2⟩ := blk hb1 (n := w.heap.size) (by go_size); obtain ⟨p3, p4⟩ := blk hb1 (n := w.heap.size + 1) (by go_size)) | (go_at_call 42; refine (small_any c (H.below (by go_grown))).mono ?_; rintro e w2 ⟨rfl, hb2⟩; have hB2 : Below w.heap.size w w2 := (Below.trans (by go_grown) (hb2.mono (by go_size))); have hs2 := hb2.size; simp only [World.size_alloc] at hs2; obtain ⟨q1, q2⟩ := blk hb2 (n := w.heap.size) (by go_size); obtain ⟨q3, q4⟩ := blk hb2 (n := w.heap.size + 1) (by go_size); obtain ⟨q5, q6⟩ := blk hb2 (n := w1.heap.size) (by go_size)))
  have hB02 := hb1.trans (((allocBelow w1 _).trans (hb2.mono (by go_size))).mono hb1.size)
  have d1 : w2.cell? ⟨w.heap.size + 1, 0, none⟩ = some (.slice none 0 0) := by rw [(blk hB02 (n := w.heap.size + 1) (by go_size)).1]; simp
  have d2 : w2.cell? ⟨w.heap.size + 1, 1, none⟩ = some (.int .i64 0) := by rw [(blk hB02 (n := w.heap.size + 1) (by go_size)).1]; simp
  have hgs : g ≠ w.heap.size + 1 := by have := hO.1; simp only [World.size_alloc] at this; omega
  refine bodyPost_ret (v := .agg #[.slice (some ⟨g, 0, none⟩) xs.length xs.length, .int .i64 c]) (by simp [results, Tryd.results40, go_sem, d1, d2]) rfl ⟨g, rfl, ?_, (hB2.setCell (by simp) _).setCell (by simp) _⟩
  have hO2 := ((hO.below (allocBelow _ _)).below hb2).mono (lo' := w.heap.size) (by go_size)
  exact (hO2.setOther _ _ (by simp; omega)).setOther _ _ (by simp; omega)

set_option maxHeartbeats 400000 in
theorem Tighten_zero {lo : Nat} {w : World} {v : Value} {xs : List Int} (c : Int) (h : IsInts lo w v xs) (hn : xs.length ≤ 1000) (hs : smR (xs, c) = true) (g0 : gcdL xs 0 = 0) :
    Calls Tryd.prog 40 #[.agg #[v, .int .i64 c]] w fun e w' => ∃ g, e = .returned (.agg #[.slice (some ⟨g, 0, none⟩) xs.length xs.length, .int .i64 c]) ∧ OwnInts w.heap.size w' g xs ∧ Below w.heap.size w w' := by
  have H := h
  obtain ⟨a, cap, rfl, _, hm, _, _⟩ := h
  unfold maxLen at hm
  have HS := hid0 hs
  have HS1 := hid0 (smR_true.1 hs).1
  have hs3 : smR (xs, c) = true := HS.out
  have hg0 : ((gcdL xs 0 : Int) == 0) = true := by simp [g0]
  clear hs g0
  go_enter Tryd.func40, Tryd.ntmps40
  go_wp2_with (first | (go_at_call 52; refine (cloneRow_any c (H.below (by go_grown)) hn).mono ?_; rintro e w1 ⟨g, rfl, hO, hb1⟩; have hB1 : Below w.heap.size w w1 := (Below.trans (by go_grown) (hb1.mono (by go_size))); have hs1 := hb1.size; simp only [World.size_alloc] at hs1; have hz0 : w.heap.size < w1.heap.size := (by omega); have hz1 : w.heap.size + 1 < w1.heap.size := (by omega); have hzg := hO.lt; obtain ⟨p1, p2⟩ := blk hb1 (n := w.heap.size) (by go_size); obtain ⟨p3, p4⟩ := blk hb1 (n := w.heap.size + 1) (by go_size)) | (go_at_call 42; refine (small_any c (H.below (by go_grown))).mono ?_; rintro e w2 ⟨rfl, hb2⟩; have hB2 : Below w.heap.size w w2 := (Below.trans (by go_grown) (hb2.mono (by go_size))); have hs2 := hb2.size; simp only [World.size_alloc] at hs2; obtain ⟨q1, q2⟩ := blk hb2 (n := w.heap.size) (by go_size); obtain ⟨q3, q4⟩ := blk hb2 (n := w.heap.size + 1) (by go_size); obtain ⟨q5, q6⟩ := blk hb2 (n := w1.heap.size) (by go_size)) | (go_at_call 71; refine (contentOf_any c (H.below (by go_grown)) HS1.out).mono ?_; rintro e w3 ⟨rfl, hb3⟩; have hB3 : Below w.heap.size w w3 := (hB2.trans (hb3.mono (by go_size))); have hs3' := hb3.size; obtain ⟨q7, q8⟩ := blk hb3 (n := w.heap.size) (by go_size); obtain ⟨q9, q10⟩ := blk hb3 (n := w.heap.size + 1) (by go_size); obtain ⟨q11, q12⟩ := blk hb3 (n := w1.heap.size) (by go_size)))
  have hB02 := hb1.trans (((allocBelow w1 _).trans ((hb2.mono (by go_size)).trans (hb3.mono (by go_size)))).mono hb1.size)
  have d1 : w3.cell? ⟨w.heap.size + 1, 0, none⟩ = some (.slice none 0 0) := by rw [(blk hB02 (n := w.heap.size + 1) (by go_size)).1]; simp
  have d2 : w3.cell? ⟨w.heap.size + 1, 1, none⟩ = some (.int .i64 0) := by rw [(blk hB02 (n := w.heap.size + 1) (by go_size)).1]; simp
  have hgs : g ≠ w.heap.size + 1 := by have := hO.1; simp only [World.size_alloc] at this; omega
  refine bodyPost_ret (v := .agg #[.slice (some ⟨g, 0, none⟩) xs.length xs.length, .int .i64 c]) (by simp [results, Tryd.results40, go_sem, d1, d2]) rfl ⟨g, rfl, ?_, (hB3.setCell (by simp) _).setCell (by simp) _⟩
  have hO2 := (((hO.below (allocBelow _ _)).below hb2).below hb3).mono (lo' := w.heap.size) (by go_size)
  exact (hO2.setOther _ _ (by simp; omega)).setOther _ _ (by simp; omega)

/-- What Tighten returns. -/
def tX (xs : List Int) (c : Int) : List Int := if smR (xs, c) = true ∧ gcdL xs 0 ≠ 0 then xs.map fun x => x.tdiv (gcdL xs 0) else xs
def tC (xs : List Int) (c : Int) : Int := if smR (xs, c) = true ∧ gcdL xs 0 ≠ 0 then c / gcdL xs 0 else c
theorem tX_length (xs : List Int) (c : Int) : (tX xs c).length = xs.length := by unfold tX; split <;> simp
theorem Tighten_every {lo : Nat} {w : World} {v : Value} {xs : List Int} (c : Int) (h : IsInts lo w v xs) (hn : xs.length ≤ 1000) :
    Calls Tryd.prog 40 #[.agg #[v, .int .i64 c]] w fun e w' => ∃ g, e = .returned (.agg #[.slice (some ⟨g, 0, none⟩) xs.length xs.length, .int .i64 (tC xs c)]) ∧ OwnInts w.heap.size w' g (tX xs c) ∧ Below w.heap.size w w' := by
  cases hs : smR (xs, c) with
  | false =>
    rw [show tC xs c = c by simp [tC, hs], show tX xs c = xs by simp [tX, hs]]
    exact Tighten_large c h hn hs
  | true =>
    by_cases g0 : gcdL xs 0 = 0
    · rw [show tC xs c = c by simp [tC, g0], show tX xs c = xs by simp [tX, g0]]
      exact Tighten_zero c h hn hs g0
    · rw [show tC xs c = c / gcdL xs 0 by simp [tC, g0, hs], show tX xs c = xs.map fun x => x.tdiv (gcdL xs 0) by simp [tX, g0, hs]]
      exact Tighten_any c h hn hs g0
end Go.Proofs.YtbdnihjokndhaaaDoor
