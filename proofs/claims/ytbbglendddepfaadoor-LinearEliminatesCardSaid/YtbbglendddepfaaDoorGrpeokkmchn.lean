import Derived.BigRegion
import Derived.Deep.OwnRows
import Derived.Laws.CopyOwn
import Derived.Test.YtbbglendddepfaaDoorProg
import Derived.WalkSpells
import Derived.WalkLawsBesides
import Derived.Deep.QuietTactic
import Derived.BigQuiet
import Derived.Laws.AppendOwnNone
import Derived.Deep.RegionWith
import Derived.StillTailTactics
import Derived.Deep.RegionHeld3
import Derived.LoopN
import Derived.Lib.QuietBelow
import Derived.Sort.Grow
import Derived.Sort.LotA
import Derived.Test.YtbbglendddepfaaDoorGrpaehdjipo
import Derived.Test.YtbbglendddepfaaDoorGrpomkalice
set_option linter.all false
namespace Go.Proofs.YtbbglendddepfaaDoor
open Go.RowKit Go.Deep

set_option maxHeartbeats 400000 in
theorem gcd_any (x y : Int) (w : World) (hx : smB x = true) (hy : smB y = true) :
    Calls Tryd.prog 70 #[.int .i64 x, .int .i64 y] w fun e w' => e = .returned (.int .i64 (Int.gcd x y)) ∧ Below w.heap.size w w' := by
  go_enter Tryd.func70, Tryd.ntmps70
  go_wp2_with fail
  go_loopw [0, 1] (fun u v wr => ∃ a b : Int, u = .int .i64 a ∧ v = .int .i64 b ∧ smB a = true ∧ smB b = true ∧ Int.gcd a b = Int.gcd x y ∧ Below w.heap.size w wr) (fun _ v _ => (intOf v).natAbs)
  case atStart => exact ⟨x, y, rfl, rfl, hx, hy, rfl, Below.refl _ _⟩
  case round =>
    obtain ⟨a, b, rfl, rfl, ha, hb, hg, hB⟩ := hrel
    have HG : Hid (Int.gcd a b = Int.gcd x y) := hg
    have HB : Hid (Below w.heap.size w wr) := hB
    have HA : Hid (smB a = true) := ha
    have HA' : Hid (smB b = true) := hb
    rw [smB_true] at ha hb
    obtain ⟨ha1, ha2⟩ := ha
    obtain ⟨hb1, hb2⟩ := hb
    clear hg hB hx hy
    by_cases h0 : b = 0
    · subst h0
      have e : Hid ((x.gcd y : Int) = a.natAbs) := by show _ = _; rw [← HG.out]; simp
      go_wp2
      all_goals (go_ret; exact ⟨ret_int (by rw [e.out]; omega), HB.out⟩)
    · have hm1 : (a.tmod b).natAbs < b.natAbs := by rw [Int.natAbs_tmod]; exact Nat.mod_lt _ (by omega)
      have hm2 : Hid (smB (a.tmod b) = true) := by show _ = _; rw [smB_true]; omega
      have hm3 : Hid (Int.gcd b (a.tmod b) = x.gcd y) := by
        show _ = _
        rw [← HG.out]
        simp only [Int.gcd, Int.natAbs_tmod]
        rw [Nat.gcd_comm, ← Nat.gcd_rec, Nat.gcd_comm]
      go_wp2
      go_region
      go_wp2
      go_roundw
      case rel => exact ⟨b, a.tmod b, rfl, rfl, HA'.out, hm2.out, hm3.out, HB.out.drew⟩
      case measure => simpa [intOf] using hm1

theorem tdiv_small {x y : Int} (hx : smB x = true) : -68719476736 ≤ x.tdiv y ∧ x.tdiv y ≤ 68719476736 := by
  rw [smB_true] at hx
  have h1 : (x.tdiv y).natAbs ≤ x.natAbs := by rw [Int.natAbs_tdiv]; exact Nat.div_le_self _ _
  omega
theorem div_of_neg {x y : Int} (hy : 1 ≤ y) (h : x.tmod y < 0) : x / y = x.tdiv y - 1 := by
  have e1 := Int.mul_tdiv_add_tmod x y
  have h2 : (x.tmod y).natAbs < y.natAbs := by rw [Int.natAbs_tmod]; exact Nat.mod_lt _ (by omega)
  have e2 : x = (x.tmod y + y) + y * (x.tdiv y - 1) := by rw [Int.mul_sub]; omega
  rw [e2, Int.add_mul_ediv_left _ _ (by omega), Int.ediv_eq_zero_of_lt (by omega) (by omega)]
  rw [← e2]; omega
theorem div_of_nonneg {x y : Int} (hy : 1 ≤ y) (h : ¬ x.tmod y < 0) : x / y = x.tdiv y := by
  have e1 := Int.mul_tdiv_add_tmod x y
  have h2 : (x.tmod y).natAbs < y.natAbs := by rw [Int.natAbs_tmod]; exact Nat.mod_lt _ (by omega)
  have e2 : x = x.tmod y + y * x.tdiv y := by omega
  rw [e2, Int.add_mul_ediv_left _ _ (by omega), Int.ediv_eq_zero_of_lt (by omega) (by omega)]
  rw [← e2]; omega

theorem floorDiv_any (x y : Int) (w : World) (hx : smB x = true) (hy : 1 ≤ y) (hy' : y ≤ 68719476736) :
    Calls Tryd.prog 62 #[.int .i64 x, .int .i64 y] w fun e w' => e = .returned (.int .i64 (x / y)) ∧ w = w' := by
  have D := hid0 (tdiv_small (y := y) hx)
  have e1 : x.tmod y < 0 → Hid (x / y = x.tdiv y - 1) := fun h => div_of_neg hy h
  have e2 : ¬ x.tmod y < 0 → Hid (x / y = x.tdiv y) := fun h => div_of_nonneg hy h
  have hx0 := hx
  rw [smB_true] at hx
  obtain ⟨h1, h2⟩ := hx
  by_cases h : x.tmod y < 0
  · have E := e1 h
    clear e1 e2
    go_enter Tryd.func62, Tryd.ntmps62
    go_wp2
    go_ret
    have d := D.out
    exact ⟨ret_int (by rw [E.out]; try exact IntWalk.wrap64_in _ (by omega)), rfl⟩
  · have E := e2 h
    clear e1 e2
    go_enter Tryd.func62, Tryd.ntmps62
    go_wp2
    go_ret
    have d := D.out
    exact ⟨ret_int (by rw [E.out]; try exact IntWalk.wrap64_in _ (by omega)), rfl⟩

theorem info_int : (Tryd.prog.info? 3).map (fun i => (i.zero, i.size, i.bytes)) = some (some (.int .i64 0), 1, 8) := by kernel_rfl

/-- copy into a row of the call's own, whatever the source: all other blocks stay. -/
theorem copy_but {P : Program} {w : World} {ops : Array Oper} {rest : List Oper} {o : Oper} {a : Act} {Q : Exit → Act → World → Prop} (hgd : o.guard = none) (d s : Operand) (dT sT : TypeId)
    (ho : o.op = .call { callee := .builtin .copy, args := #[d, s], argTypes := #[dT, sT] }) (elem : TypeId) (hu : P.underlying dT = some (.slice elem)) (hsz : (P.info? elem).map (·.size) = some 1)
    (dp sp : Option Addr) (dLen dCap sLen sCap : Nat) (hd : a.eval d = .slice dp dLen dCap) (hs : a.eval s = .slice sp sLen sCap)
    (g : Nat) (cur : Array Value) (t : TypeId) (hg : w.heap[g]? = some (.cells cur t (0, 0))) (cs : List Value) (hn : cs.length = Nat.min sLen dLen)
    (hpos : 0 < cs.length → dp = some ⟨g, 0, none⟩ ∧ ∃ ad, sp = some ad ∧ ∀ j v, cs[j]? = some v → w.cell? (ad.add j) = some v)
    (hfit : cs.length ≤ cur.size) (h1 : ∀ v ∈ cs, v.oneCell' = true)
    (h : ∀ w', Hid (∃ cur', w'.heap[g]? = some (.cells cur' t (0, 0)) ∧ ∀ i, i < cs.length → cur'[i]? = cs[i]?) → Hid (∀ k, k ≠ g → w'.heap[k]? = w.heap[k]?) → Below g w w' → wpList P ops Q rest (a.put o.dst (goInt cs.length)) w') :
    wpList P ops Q (o :: rest) a w := by
  by_cases h0 : cs.length = 0
  · obtain rfl : cs = [] := List.eq_nil_of_length_eq_zero h0
    refine wpList_copy_nothing hgd d s dT sT ho elem hu hsz dp sp dLen dCap sLen sCap hd hs (by simpa using hn.symm) ?_
    exact h w ⟨cur, hg, by simp⟩ (hid0 fun _ _ => rfl) (Below.refl _ _)
  · obtain ⟨rfl, ad, rfl, hsrc⟩ := hpos (by omega)
    refine wpList_copy_own hgd d s dT sT ho elem hu hsz g 0 dLen dCap ad sLen sCap hd hs cur t hg cs hn hsrc (by omega) h1 ?_
    refine h _ ⟨_, setRow_heap w g cur _ t (0, 0) hg, fun i hi => ?_⟩ (hid0 fun k hk => setRow_other w g k _ hk) (below_setRow (Below.refl _ _) (Nat.le_refl _) _)
    simp only [List.take_zero, List.nil_append, Nat.zero_add, List.getElem?_toArray]
    rw [List.getElem?_append_left hi]

theorem size_int : (Tryd.prog.info? 3).map (·.size) = some 1 := by kernel_rfl

set_option maxRecDepth 100000 in
theorem cloneRow_any {lo : Nat} {w : World} {v : Value} {xs : List Int} (c : Int) (h : IsInts lo w v xs) (hn : xs.length ≤ 1000) :
    Calls Tryd.prog 60 #[.agg #[v, .int .i64 c]] w fun e w' => ∃ g, e = .returned (.agg #[.slice (some ⟨g, 0, none⟩) xs.length xs.length, .int .i64 c]) ∧ OwnInts w.heap.size w' g xs ∧ Below w.heap.size w w' := by
  obtain ⟨a, cap, rfl, hl, hm, hi, hc⟩ := h
  have HS : Hid (∀ w', Below w.heap.size w w' → 0 < xs.length → ∃ ad, a = some ad ∧ ∀ j v, (xs.map (Value.int .i64))[j]? = some v → w'.cell? (ad.add j) = some v) := hid0 fun w' hb h0 => by
    obtain ⟨ad, h1, h2⟩ := IsInts.src (lo := lo) (xs := xs) ⟨a, cap, rfl, hl, hm, hi, hc⟩ h0
    exact ⟨ad, h1, h2 w' hb⟩
  have HI := hid0 hi.1
  unfold maxLen at hm
  clear hc hi
  have hmk := run_make_row' (P := Tryd.prog) 25 3 (.int .i64 0) 8 Tryd.underlying25 info_int rfl .i64 .i64 xs.length (by omega) (by omega)
  go_enter Tryd.func60, Tryd.ntmps60
  go_wp2_with fail
  go_region
  · go_wp2_with (refine copy_but rfl (.tmp 12) (.tmp 14) 25 25 rfl 3 Tryd.underlying25 size_int _ _ _ _ _ _ rfl rfl (w.heap.size + 1 + 1) (madeCells #[.int .i64 0] xs.length) 3 ((heap_old _ _ (by simp)).trans (heap_new _ _ (by simp))) (xs.map (Value.int .i64)) (by simp) (fun h0 => ⟨rfl, HS.out _ (by go_grown) (by simpa using h0)⟩) (by simp [madeCells]) (by simp [Value.oneCell']) ?_; intro w1 hG hBut hb1; have hs1 : w.heap.size + 4 ≤ w1.heap.size := (by have := hb1.size; simpa using this); have HB1 : Hid (Below w.heap.size w w1) := (Below.trans (by go_grown) (hb1.mono (by omega))); clear hb1; obtain ⟨c1, c2⟩ := but_cell hBut.out)
    obtain ⟨c1, c2⟩ := but_cell hBut.out
    have d1 := c1 (w.heap.size + 1) 0 (by omega)
    have d2 := c1 (w.heap.size + 1) 1 (by omega)
    obtain ⟨cur, hg, hcur⟩ := hG.out
    refine bodyPost_ret (v := .agg #[.slice (some ⟨w.heap.size + 1 + 1, 0, none⟩) xs.length xs.length, .int .i64 c]) (by simp [results, Tryd.results60, go_sem, d1, d2]) rfl ⟨_, rfl, ?_, (HB1.out.setCell (by simp) _).setCell (by simp) _⟩
    refine ⟨by omega, by unfold maxLen; omega, HI.out, cur, 3, ?_, fun i hi => ?_⟩
    · rw [Below.heap_setCell _ _ _ _ (by simp <;> omega), Below.heap_setCell _ _ _ _ (by simp <;> omega)]; exact hg
    · rw [hcur i (by simpa using hi)]; simp [hi]
  · go_wp2_with (refine copy_but rfl (.tmp 12) (.tmp 14) 25 25 rfl 3 Tryd.underlying25 size_int _ _ _ _ _ _ rfl rfl (w.heap.size + 1 + 1 + 1) (madeCells #[.int .i64 0] xs.length) 3 (heap_new _ _ (by simp)) (xs.map (Value.int .i64)) (by simp) (fun h0 => ⟨rfl, HS.out _ (by go_grown) (by simpa using h0)⟩) (by simp [madeCells]) (by simp [Value.oneCell']) ?_; intro w1 hG hBut hb1; have hs1 : w.heap.size + 4 ≤ w1.heap.size := (by have := hb1.size; simpa using this); have HB1 : Hid (Below w.heap.size w w1) := (Below.trans (by go_grown) (hb1.mono (by omega))); clear hb1; obtain ⟨c1, c2⟩ := but_cell hBut.out)
    obtain ⟨c1, c2⟩ := but_cell hBut.out
    have d1 := c1 (w.heap.size + 1) 0 (by omega)
    have d2 := c1 (w.heap.size + 1) 1 (by omega)
    obtain ⟨cur, hg, hcur⟩ := hG.out
    refine bodyPost_ret (v := .agg #[.slice (some ⟨w.heap.size + 1 + 1 + 1, 0, none⟩) xs.length xs.length, .int .i64 c]) (by simp [results, Tryd.results60, go_sem, d1, d2]) rfl ⟨_, rfl, ?_, (HB1.out.setCell (by simp) _).setCell (by simp) _⟩
    refine ⟨by omega, by unfold maxLen; omega, HI.out, cur, 3, ?_, fun i hi => ?_⟩
    · rw [Below.heap_setCell _ _ _ _ (by simp <;> omega), Below.heap_setCell _ _ _ _ (by simp <;> omega)]; exact hg
    · rw [hcur i (by simpa using hi)]; simp [hi]

/-- The content of a list of numbers. -/
def gcdL : List Int → Nat → Nat
  | [], g => g
  | x :: xs, g => gcdL xs (Int.gcd g x)
theorem gcdL_snoc : ∀ (xs : List Int) (g k : Nat) (h : k < xs.length), gcdL (xs.take (k + 1)) g = Int.gcd (gcdL (xs.take k) g) xs[k]
  | x :: xs, g, 0, _ => by simp [gcdL]
  | x :: xs, g, k + 1, h => by
    have := gcdL_snoc xs (Int.gcd g x) k (by simpa using h)
    simpa [gcdL] using this
theorem gcd_small {g : Nat} {x : Int} (hg : g ≤ 68719476736) (hx : smB x = true) : Int.gcd g x ≤ 68719476736 := by
  rw [smB_true] at hx
  by_cases h : g = 0
  · subst h; simp; omega
  · have : Int.gcd g x ≤ g := by
      have := Nat.le_of_dvd (by omega) (Nat.gcd_dvd_left g x.natAbs)
      simpa [Int.gcd] using this
    omega
theorem gcdL_small : ∀ (xs : List Int) (g : Nat), g ≤ 68719476736 → xs.all smB = true → gcdL xs g ≤ 68719476736
  | [], g, hg, _ => hg
  | x :: xs, g, hg, h => by
    simp only [List.all_cons, Bool.and_eq_true] at h
    exact gcdL_small xs _ (gcd_small hg h.1) h.2
theorem all_take_of {p : Int → Bool} {xs : List Int} (k : Nat) (h : xs.all p = true) : (xs.take k).all p = true := by
  rw [List.all_eq_true] at h ⊢
  exact fun x hx => h x (List.mem_of_mem_take hx)
theorem smB_nat {g : Nat} (h : g ≤ 68719476736) : smB g = true := by rw [smB_true]; omega

set_option maxHeartbeats 400000 in
theorem contentOf_full (b off n cap : Nat) (c : Int) (w : World) (xs : List Int) (hx : xs.length = n) (hn : n ≤ 9223372036854775807) (hb : b < w.heap.size) (hs : xs.all smB = true)
    (hc : ∀ i, i < n → w.cell? ⟨b, off + i, none⟩ = some (.int .i64 (xs.getD i 0))) :
    Calls Tryd.prog 61 #[.agg #[.slice (some ⟨b, off, none⟩) n cap, .int .i64 c]] w fun e w' => e = .returned (.int .i64 (gcdL xs 0)) ∧ Below w.heap.size w w' := by
  go_enter Tryd.func61, Tryd.ntmps61
  go_wp2_with fail
  go_loopw [3, 9] (fun u v wr => ∃ k : Nat, k ≤ n ∧ v = .int .i64 k ∧ u = .int .i64 (gcdL (xs.take k) 0) ∧ Below w.heap.size w wr) (fun _ v _ => n - (intOf v).toNat)
  case atStart => exact ⟨0, Nat.zero_le _, rfl, rfl, allocBelow _ _⟩
  case round =>
    obtain ⟨k, hk, rfl, rfl, hB⟩ := hrel
    have HB : Hid (Below w.heap.size w wr) := hB
    by_cases h1 : k < n
    · have g1 : wr.cell? ⟨b, off + k, none⟩ = some (.int .i64 (xs.getD k 0)) := (hB.cell (p := ⟨b, off + k, none⟩) hb).trans (hc k h1)
      have s1 : Hid (smB (gcdL (xs.take k) 0) = true) := smB_nat (gcdL_small _ _ (by omega) (all_take_of k hs))
      have s2 : Hid (smB (xs[k]'(by omega)) = true) := List.all_eq_true.1 hs _ (List.getElem_mem _)
      have s3 : Hid (gcdL (xs.take (k + 1)) 0 = Int.gcd (gcdL (xs.take k) 0) (xs[k]'(by omega))) := gcdL_snoc xs 0 k (by omega)
      clear hB hs
      go_wp2_with (go_at_call 70; refine (gcd_any _ _ _ s1.out s2.out).mono ?_; rintro e w1 ⟨rfl, hb1⟩)
      go_roundw
      case rel => exact ⟨k + 1, by omega, by go_num, by rw [s3.out], HB.out.trans (hb1.mono HB.out.size)⟩
      case measure => simp [intOf]; omega
    · have e1 : Hid (xs.take k = xs) := List.take_of_length_le (by omega)
      clear hB hs
      go_wp2_with fail
      go_ret
      exact ⟨ret_int (by rw [e1.out]), HB.out⟩

theorem contentOf_empty (a : Option Addr) (cap : Nat) (c : Int) (w : World) :
    Calls Tryd.prog 61 #[.agg #[.slice a 0 cap, .int .i64 c]] w fun e w' => e = .returned (.int .i64 (gcdL [] 0)) ∧ Below w.heap.size w w' := by
  go_enter Tryd.func61, Tryd.ntmps61
  go_wp2_with fail
  refine wp_loop_rounds 1 ?_
  rw [rounds_succ]
  go_wp2_with fail
  go_ret
  exact ⟨ret_int rfl, allocBelow _ _⟩

theorem contentOf_any {lo : Nat} {w : World} {v : Value} {xs : List Int} (c : Int) (h : IsInts lo w v xs) (hs : xs.all smB = true) :
    Calls Tryd.prog 61 #[.agg #[v, .int .i64 c]] w fun e w' => e = .returned (.int .i64 (gcdL xs 0)) ∧ Below w.heap.size w w' := by
  obtain ⟨a, cap, rfl, hl, hm, hi, hc⟩ := h
  unfold maxLen at hm
  rcases hc with rfl | ⟨b, off, rfl, _, hb, hc⟩
  · exact contentOf_empty _ _ _ _
  · exact contentOf_full _ _ _ _ _ _ _ rfl (by omega) hb hs hc

/-- The row after k rounds of a division in place. -/
def midL (f : Int → Int) (xs : List Int) (k : Nat) : List Int := (xs.take k).map f ++ xs.drop k
theorem midL_length (f : Int → Int) (xs : List Int) (k : Nat) : (midL f xs k).length = xs.length := by simp [midL]; omega
theorem midL_get (f : Int → Int) (xs : List Int) (k : Nat) (h : k < xs.length) : (midL f xs k).getD k 0 = xs[k] := by
  have h1 : k ≤ xs.length := by omega
  simp [midL, List.getD, h1, h]
theorem midL_set (f : Int → Int) (xs : List Int) (k : Nat) (h : k < xs.length) : (midL f xs k).set k (f xs[k]) = midL f xs (k + 1) := by
  have h1 : min k xs.length = k := by omega
  simp only [midL]
  rw [List.set_append_right _ _ (by simp; omega), List.drop_eq_getElem_cons h, List.take_succ_eq_append_getElem h, List.map_append, List.append_assoc]
  have e : k - ((xs.take k).map f).length = 0 := by simp; omega
  rw [e]; rfl
theorem midL_end (f : Int → Int) (xs : List Int) (k : Nat) (h : xs.length ≤ k) : midL f xs k = xs.map f := by
  simp [midL, List.take_of_length_le h, List.drop_eq_nil_of_le h]

set_option maxHeartbeats 400000 in
theorem Tighten_any {lo : Nat} {w : World} {v : Value} {xs : List Int} (c : Int) (h : IsInts lo w v xs) (hn : xs.length ≤ 1000) (hs : smR (xs, c) = true) (g0 : gcdL xs 0 ≠ 0) :
    Calls Tryd.prog 30 #[.agg #[v, .int .i64 c]] w fun e w' => ∃ g, e = .returned (.agg #[.slice (some ⟨g, 0, none⟩) xs.length xs.length, .int .i64 (c / gcdL xs 0)]) ∧ OwnInts w.heap.size w' g (xs.map fun x => x.tdiv (gcdL xs 0)) ∧ Below w.heap.size w w' := by
  have H := h
  obtain ⟨a, cap, rfl, _, hm, _, _⟩ := h
  unfold maxLen at hm
  go_enter Tryd.func30, Tryd.ntmps30
  have HS := hid0 hs
  have HS1 := hid0 (smR_true.1 hs).1
  have hs3 : smR (xs, c) = true := HS.out
  have hg0 : ((gcdL xs 0 : Int) == 0) = false := by simp; omega
  clear hs
  go_wp2_with (first | (go_at_call 60; refine (cloneRow_any c (H.below (by go_grown)) hn).mono ?_; rintro e w1 ⟨g, rfl, hO, hb1⟩; have hB1 : Below w.heap.size w w1 := (Below.trans (by go_grown) (hb1.mono (by go_size))); have hs1 := hb1.size; simp only [World.size_alloc] at hs1; have hz0 : w.heap.size < w1.heap.size := (by omega); have hz1 : w.heap.size + 1 < w1.heap.size := (by omega); have hzg := hO.lt; obtain ⟨p1, p2⟩ := blk hb1 (n := w.heap.size) (by go_size); obtain ⟨p3, p4⟩ := blk hb1 (n := w.heap.size + 1) (by go_size)) | (go_at_call 48; refine (small_any c (H.below (by go_grown))).mono ?_; rintro e w2 ⟨rfl, hb2⟩; have hB2 : Below w.heap.size w w2 := (Below.trans (by go_grown) (hb2.mono (by go_size))); have hs2 := hb2.size; simp only [World.size_alloc] at hs2; obtain ⟨q1, q2⟩ := blk hb2 (n := w.heap.size) (by go_size); obtain ⟨q3, q4⟩ := blk hb2 (n := w.heap.size + 1) (by go_size); obtain ⟨q5, q6⟩ := blk hb2 (n := w1.heap.size) (by go_size)) | (go_at_call 61; refine (contentOf_any c (H.below (by go_grown)) HS1.out).mono ?_; rintro e w3 ⟨rfl, hb3⟩; have hB3 : Below w.heap.size w w3 := (hB2.trans (hb3.mono (by go_size))); have hs3' := hb3.size; obtain ⟨q7, q8⟩ := blk hb3 (n := w.heap.size) (by go_size); obtain ⟨q9, q10⟩ := blk hb3 (n := w.heap.size + 1) (by go_size); obtain ⟨q11, q12⟩ := blk hb3 (n := w1.heap.size) (by go_size)))
  have HO3 := hid0 (((hO.below ((allocBelow _ _).trans (hb2.mono (by go_size)))).below hb3).mono (lo' := w.heap.size) (by go_size))
  have HB := hid0 hB3
  have x1 : w3.cell? ⟨w1.heap.size, 0, none⟩ = some (.slice (some ⟨g, 0, none⟩) xs.length xs.length) := by
    rw [(blk hb3 (n := w1.heap.size) (by go_size)).1, (blk hb2 (n := w1.heap.size) (by go_size)).1]; simp
  have x2 : w3.cell? ⟨w1.heap.size, 1, none⟩ = some (.int .i64 c) := by
    rw [(blk hb3 (n := w1.heap.size) (by go_size)).1, (blk hb2 (n := w1.heap.size) (by go_size)).1]; simp
  have x3 : ∀ o, w3.frozen? ⟨w1.heap.size, o, none⟩ = false := fun o => by
    rw [(blk hb3 (n := w1.heap.size) (by go_size)).2, (blk hb2 (n := w1.heap.size) (by go_size)).2]; simp
  have hB13 := (allocBelow w1 _).trans ((hb2.mono (by go_size)).trans (hb3.mono (by go_size)))
  have hB03 := hb1.trans (hB13.mono hb1.size)
  have x4' : Hid (∃ u, w3.cell? ⟨w.heap.size + 1, 0, none⟩ = some u) := ⟨.slice none 0 0, by rw [(blk hB03 (n := w.heap.size + 1) (by go_size)).1]; simp⟩
  have x4'' : Hid (∃ u, w3.cell? ⟨w.heap.size + 1, 1, none⟩ = some u) := ⟨.int .i64 0, by rw [(blk hB03 (n := w.heap.size + 1) (by go_size)).1]; simp⟩
  have x5 : ∀ o, w3.frozen? ⟨w.heap.size + 1, o, none⟩ = false := fun o => by
    rw [(blk hB03 (n := w.heap.size + 1) (by go_size)).2]; simp
  have hzg3 : g ≠ w1.heap.size := by omega
  have hz3 : w.heap.size + 1 ≠ w1.heap.size := by omega
  have hgs : w.heap.size ≤ g ∧ g ≠ w.heap.size + 1 := by have := hO.1; simp only [World.size_alloc] at this; omega
  have hL1 : w1.heap.size < w3.heap.size := by omega
  clear p1 p2 p3 p4 q1 q2 q3 q4 q5 q6 q7 q8 q9 q10 q11 q12 hO hb1 hb2 hb3 hB1 hB2 hB3 hB13 hB03 hs1 hs2 hs3 hs3'
  go_loopw [20] (fun v wr => ∃ k : Nat, k ≤ xs.length ∧ v = .int .i64 k ∧ OwnInts w.heap.size wr g (midL (fun x => x.tdiv (gcdL xs 0)) xs k) ∧ (∀ b, b ≠ g → wr.heap[b]? = w3.heap[b]?) ∧ Below w.heap.size w wr) (fun v _ => xs.length - (intOf v).toNat)
  case atStart => exact ⟨0, Nat.zero_le _, rfl, by simpa [midL] using HO3.out, fun _ _ => rfl, HB.out⟩
  case round =>
    obtain ⟨k, hk, rfl, hO, hBut, hB⟩ := hrel
    have HOr := hid0 hO
    have HBut := hid0 hBut
    have HBr := hid0 hB
    obtain ⟨c1, c2⟩ := but_cell hBut
    have y1 : wr.cell? ⟨w1.heap.size, 0, none⟩ = some (.slice (some ⟨g, 0, none⟩) xs.length xs.length) := (c1 _ _ (by omega)).trans x1
    have y2 : wr.cell? ⟨w1.heap.size, 1, none⟩ = some (.int .i64 c) := (c1 _ _ (by omega)).trans x2
    by_cases h1 : k < xs.length
    · have g1 : wr.cell? ⟨g, k, none⟩ = some (.int .i64 (xs[k]'h1)) := by
        rw [hO.cell k (by rw [midL_length]; exact h1), midL_get _ _ _ h1]
      have g2 : wr.frozen? ⟨g, k, none⟩ = false := hO.frozen k
      have b0 := List.all_eq_true.1 HS1.out _ (List.getElem_mem h1)
      rw [smB_true] at b0
      obtain ⟨b1, b2⟩ := b0
      have b3 : (1 : Int) ≤ gcdL xs 0 := by omega
      have b4 : ¬ ((gcdL xs 0 : Int) = 0) := by omega
      clear hO hBut hB c1 c2 x1 x2 x3 x5
      go_wp2
      go_roundw
      case rel =>
        refine ⟨k + 1, by omega, by go_num, ?_, fun b hb => (Below.heap_setCell _ _ _ _ hb).trans (HBut.out b hb), HBr.out.setCell hgs.1 _⟩
        rw [← midL_set _ _ _ h1]
        refine HOr.out.set k _ ?_
        have e := tdiv_small (y := gcdL xs 0) (List.all_eq_true.1 HS1.out _ (List.getElem_mem h1))
        constructor <;> omega
      case measure => simp [intOf]; omega
    · obtain rfl : k = xs.length := by omega
      have s2 : Hid (smB c = true) := by
        exact (smR_true.1 HS.out).2
      have b3 : (1 : Int) ≤ gcdL xs 0 := by omega
      have b5 : (gcdL xs 0 : Int) ≤ 68719476736 := by
        have := gcdL_small xs 0 (by omega) HS1.out
        omega
      obtain ⟨u4, hu4⟩ := x4'.out
      obtain ⟨u5, hu5⟩ := x4''.out
      have y3 : ∀ o, wr.frozen? ⟨w1.heap.size, o, none⟩ = false := fun o => (c2 _ _ (by omega)).trans (x3 o)
      have y4 : wr.cell? ⟨w.heap.size + 1, 0, none⟩ = some u4 := (c1 _ _ (by omega)).trans hu4
      have y5 : wr.cell? ⟨w.heap.size + 1, 1, none⟩ = some u5 := (c1 _ _ (by omega)).trans hu5
      have y6 : ∀ o, wr.frozen? ⟨w.heap.size + 1, o, none⟩ = false := fun o => (c2 _ _ (by omega)).trans (x5 o)
      clear hO hBut hB c1 c2 x1 x2 x3 x5 hu4 hu5 h1 hk
      go_wp2_with (go_at_call 62; refine (floorDiv_any _ _ _ s2.out b3 b5).mono ?_; rintro e w' ⟨rfl, rfl⟩)
      have z1 : w.heap.size ≤ w1.heap.size := by omega
      refine bodyPost_ret (v := .agg #[.slice (some ⟨g, 0, none⟩) xs.length xs.length, .int .i64 (c / gcdL xs 0)]) (by simp [results, Tryd.results30, go_sem, y4, y5]) rfl ⟨g, rfl, ?_, ((HBr.out.setCell z1 _).setCell (by simp) _).setCell (by simp) _⟩
      have hO := HOr.out
      rw [midL_end _ _ _ (Nat.le_refl _)] at hO
      exact ((hO.setOther _ _ (by simp; omega)).setOther _ _ (by simp; omega)).setOther _ _ (by simp; omega)

set_option maxHeartbeats 400000 in
theorem Tighten_large {lo : Nat} {w : World} {v : Value} {xs : List Int} (c : Int) (h : IsInts lo w v xs) (hn : xs.length ≤ 1000) (hs : smR (xs, c) = false) :
    Calls Tryd.prog 30 #[.agg #[v, .int .i64 c]] w fun e w' => ∃ g, e = .returned (.agg #[.slice (some ⟨g, 0, none⟩) xs.length xs.length, .int .i64 c]) ∧ OwnInts w.heap.size w' g xs ∧ Below w.heap.size w w' := by
  have H := h
  obtain ⟨a, cap, rfl, _, hm, _, _⟩ := h
  unfold maxLen at hm
  go_enter Tryd.func30, Tryd.ntmps30
  go_wp2_with (first | (go_at_call 60; refine (cloneRow_any c (H.below (by go_grown)) hn).mono ?_; rintro e w1 ⟨g, rfl, hO, hb1⟩; have hB1 : Below w.heap.size w w1 := (Below.trans (by go_grown) (hb1.mono (by go_size))); have hs1 := hb1.size; simp only [World.size_alloc] at hs1; have hz0 : w.heap.size < w1.heap.size := (by omega); have hz1 : w.heap.size + 1 < w1.heap.size := (by omega); have hzg := hO.lt; obtain ⟨p1, p2⟩ := blk hb1 (n := w.heap.size) (by go_size); obtain ⟨p3, p4⟩ := blk hb1 (n := w.heap.size + 1) (by go_size)) | (go_at_call 48; refine (small_any c (H.below (by go_grown))).mono ?_; rintro e w2 ⟨rfl, hb2⟩; have hB2 : Below w.heap.size w w2 := (Below.trans (by go_grown) (hb2.mono (by go_size))); have hs2 := hb2.size; simp only [World.size_alloc] at hs2; obtain ⟨q1, q2⟩ := blk hb2 (n := w.heap.size) (by go_size); obtain ⟨q3, q4⟩ := blk hb2 (n := w.heap.size + 1) (by go_size); obtain ⟨q5, q6⟩ := blk hb2 (n := w1.heap.size) (by go_size)))
  have hB02 := hb1.trans (((allocBelow w1 _).trans (hb2.mono (by go_size))).mono hb1.size)
  have d1 : w2.cell? ⟨w.heap.size + 1, 0, none⟩ = some (.slice none 0 0) := by rw [(blk hB02 (n := w.heap.size + 1) (by go_size)).1]; simp
  have d2 : w2.cell? ⟨w.heap.size + 1, 1, none⟩ = some (.int .i64 0) := by rw [(blk hB02 (n := w.heap.size + 1) (by go_size)).1]; simp
  have hgs : g ≠ w.heap.size + 1 := by have := hO.1; simp only [World.size_alloc] at this; omega
  refine bodyPost_ret (v := .agg #[.slice (some ⟨g, 0, none⟩) xs.length xs.length, .int .i64 c]) (by simp [results, Tryd.results30, go_sem, d1, d2]) rfl ⟨g, rfl, ?_, (hB2.setCell (by simp) _).setCell (by simp) _⟩
  have hO2 := ((hO.below (allocBelow _ _)).below hb2).mono (lo' := w.heap.size) (by go_size)
  exact (hO2.setOther _ _ (by simp; omega)).setOther _ _ (by simp; omega)

set_option maxHeartbeats 400000 in
theorem Tighten_zero {lo : Nat} {w : World} {v : Value} {xs : List Int} (c : Int) (h : IsInts lo w v xs) (hn : xs.length ≤ 1000) (hs : smR (xs, c) = true) (g0 : gcdL xs 0 = 0) :
    Calls Tryd.prog 30 #[.agg #[v, .int .i64 c]] w fun e w' => ∃ g, e = .returned (.agg #[.slice (some ⟨g, 0, none⟩) xs.length xs.length, .int .i64 c]) ∧ OwnInts w.heap.size w' g xs ∧ Below w.heap.size w w' := by
  have H := h
  obtain ⟨a, cap, rfl, _, hm, _, _⟩ := h
  unfold maxLen at hm
  have HS := hid0 hs
  have HS1 := hid0 (smR_true.1 hs).1
  have hs3 : smR (xs, c) = true := HS.out
  have hg0 : ((gcdL xs 0 : Int) == 0) = true := by simp [g0]
  clear hs g0
  go_enter Tryd.func30, Tryd.ntmps30
  go_wp2_with (first | (go_at_call 60; refine (cloneRow_any c (H.below (by go_grown)) hn).mono ?_; rintro e w1 ⟨g, rfl, hO, hb1⟩; have hB1 : Below w.heap.size w w1 := (Below.trans (by go_grown) (hb1.mono (by go_size))); have hs1 := hb1.size; simp only [World.size_alloc] at hs1; have hz0 : w.heap.size < w1.heap.size := (by omega); have hz1 : w.heap.size + 1 < w1.heap.size := (by omega); have hzg := hO.lt; obtain ⟨p1, p2⟩ := blk hb1 (n := w.heap.size) (by go_size); obtain ⟨p3, p4⟩ := blk hb1 (n := w.heap.size + 1) (by go_size)) | (go_at_call 48; refine (small_any c (H.below (by go_grown))).mono ?_; rintro e w2 ⟨rfl, hb2⟩; have hB2 : Below w.heap.size w w2 := (Below.trans (by go_grown) (hb2.mono (by go_size))); have hs2 := hb2.size; simp only [World.size_alloc] at hs2; obtain ⟨q1, q2⟩ := blk hb2 (n := w.heap.size) (by go_size); obtain ⟨q3, q4⟩ := blk hb2 (n := w.heap.size + 1) (by go_size); obtain ⟨q5, q6⟩ := blk hb2 (n := w1.heap.size) (by go_size)) | (go_at_call 61; refine (contentOf_any c (H.below (by go_grown)) HS1.out).mono ?_; rintro e w3 ⟨rfl, hb3⟩; have hB3 : Below w.heap.size w w3 := (hB2.trans (hb3.mono (by go_size))); have hs3' := hb3.size; obtain ⟨q7, q8⟩ := blk hb3 (n := w.heap.size) (by go_size); obtain ⟨q9, q10⟩ := blk hb3 (n := w.heap.size + 1) (by go_size); obtain ⟨q11, q12⟩ := blk hb3 (n := w1.heap.size) (by go_size)))
  have hB02 := hb1.trans (((allocBelow w1 _).trans ((hb2.mono (by go_size)).trans (hb3.mono (by go_size)))).mono hb1.size)
  have d1 : w3.cell? ⟨w.heap.size + 1, 0, none⟩ = some (.slice none 0 0) := by rw [(blk hB02 (n := w.heap.size + 1) (by go_size)).1]; simp
  have d2 : w3.cell? ⟨w.heap.size + 1, 1, none⟩ = some (.int .i64 0) := by rw [(blk hB02 (n := w.heap.size + 1) (by go_size)).1]; simp
  have hgs : g ≠ w.heap.size + 1 := by have := hO.1; simp only [World.size_alloc] at this; omega
  refine bodyPost_ret (v := .agg #[.slice (some ⟨g, 0, none⟩) xs.length xs.length, .int .i64 c]) (by simp [results, Tryd.results30, go_sem, d1, d2]) rfl ⟨g, rfl, ?_, (hB3.setCell (by simp) _).setCell (by simp) _⟩
  have hO2 := (((hO.below (allocBelow _ _)).below hb2).below hb3).mono (lo' := w.heap.size) (by go_size)
  exact (hO2.setOther _ _ (by simp; omega)).setOther _ _ (by simp; omega)

/-- What Tighten returns. -/
def tX (xs : List Int) (c : Int) : List Int := if smR (xs, c) = true ∧ gcdL xs 0 ≠ 0 then xs.map fun x => x.tdiv (gcdL xs 0) else xs
def tC (xs : List Int) (c : Int) : Int := if smR (xs, c) = true ∧ gcdL xs 0 ≠ 0 then c / gcdL xs 0 else c
theorem tX_length (xs : List Int) (c : Int) : (tX xs c).length = xs.length := by unfold tX; split <;> simp
theorem Tighten_every {lo : Nat} {w : World} {v : Value} {xs : List Int} (c : Int) (h : IsInts lo w v xs) (hn : xs.length ≤ 1000) :
    Calls Tryd.prog 30 #[.agg #[v, .int .i64 c]] w fun e w' => ∃ g, e = .returned (.agg #[.slice (some ⟨g, 0, none⟩) xs.length xs.length, .int .i64 (tC xs c)]) ∧ OwnInts w.heap.size w' g (tX xs c) ∧ Below w.heap.size w w' := by
  cases hs : smR (xs, c) with
  | false =>
    rw [show tC xs c = c by simp [tC, hs], show tX xs c = xs by simp [tX, hs]]
    exact Tighten_large c h hn hs
  | true =>
    by_cases g0 : gcdL xs 0 = 0
    · rw [show tC xs c = c by simp [tC, g0], show tX xs c = xs by simp [tX, g0]]
      exact Tighten_zero c h hn hs g0
    · rw [show tC xs c = c / gcdL xs 0 by simp [tC, g0, hs], show tX xs c = xs.map fun x => x.tdiv (gcdL xs 0) by simp [tX, g0, hs]]
      exact Tighten_any c h hn hs g0
end Go.Proofs.YtbbglendddepfaaDoor

namespace Go.Proofs.YtbbglendddepfaaDoor
open Go.RowKit Go.Deep

/-- A row: its coefficients and its constant. -/
abbrev Rw := List Int × Int
/-- The value v is a slice of rows that reads as rs. -/
def IsRows (lo : Nat) (w : World) (v : Value) (rs : List Rw) : Prop :=
  ∃ (a : Option Addr) (cap : Nat), v = .slice a rs.length cap ∧ rs.length ≤ cap ∧ cap ≤ maxLen ∧
    (rs = [] ∨ ∃ b off, a = some ⟨b, off, none⟩ ∧ lo ≤ b ∧ b < w.heap.size ∧
      ∀ i (hi : i < rs.length), ∃ sv, w.cell? ⟨b, off + i * 2, none⟩ = some sv ∧ w.cell? ⟨b, off + i * 2 + 1, none⟩ = some (.int .i64 rs[i].2) ∧ IsInts lo w sv rs[i].1 ∧ I64 rs[i].2)

theorem IsRows.below {lo : Nat} {w w' : World} {v : Value} {rs : List Rw} (h : IsRows lo w v rs) (hb : Below w.heap.size w w') : IsRows lo w' v rs := by
  obtain ⟨a, cap, hv, hl, hm, hc⟩ := h
  refine ⟨a, cap, hv, hl, hm, ?_⟩
  rcases hc with hc | ⟨b, off, ha, hlo, hbk, hcell⟩
  · exact .inl hc
  · refine .inr ⟨b, off, ha, hlo, Nat.lt_of_lt_of_le hbk hb.size, fun i hi => ?_⟩
    obtain ⟨sv, h1, h2, h3, h4⟩ := hcell i hi
    exact ⟨sv, (hb.cell (p := ⟨b, off + i * 2, none⟩) hbk).trans h1, (hb.cell (p := ⟨b, off + i * 2 + 1, none⟩) hbk).trans h2, h3.below hb, h4⟩

theorem take_allR {p : Rw → Bool} {xs : List Rw} {k : Nat} (h : k < xs.length) (hk : (xs.take k).all p = true) (hp : p xs[k] = true) : (xs.take (k + 1)).all p = true := by
  rw [List.take_succ_eq_append_getElem h, List.all_append, hk]; simp [hp]
theorem all_noR {p : Rw → Bool} {xs : List Rw} {k : Nat} (h : k < xs.length) (hp : p xs[k] = false) : xs.all p = false := by
  rw [List.all_eq_false]; exact ⟨xs[k], List.getElem_mem h, by simp [hp]⟩
theorem all_takeR {p : Rw → Bool} {xs : List Rw} {k : Nat} (h : k = xs.length) (hk : (xs.take k).all p = true) : xs.all p = true := by
  rw [← List.take_of_length_le (by omega : xs.length ≤ k)]; exact hk

theorem IsRows.mono {lo lo' : Nat} {w : World} {v : Value} {rs : List Rw} (h : IsRows lo w v rs) (hl : lo' ≤ lo) : IsRows lo' w v rs := by
  obtain ⟨a, cap, hv, h1, hm, hc⟩ := h
  refine ⟨a, cap, hv, h1, hm, ?_⟩
  rcases hc with hc | ⟨b, off, ha, hlo, hbk, r⟩
  · exact .inl hc
  · exact .inr ⟨b, off, ha, Nat.le_trans hl hlo, hbk, fun i hi => by obtain ⟨sv, h1, h2, h3, h4⟩ := r i hi; exact ⟨sv, h1, h2, h3.mono hl, h4⟩⟩
theorem IsRows.shape {lo : Nat} {w : World} {v : Value} {rs : List Rw} (h : IsRows lo w v rs) : ∃ a cap, v = .slice a rs.length cap := by
  obtain ⟨a, cap, hv, _⟩ := h
  exact ⟨a, cap, hv⟩
theorem IsRows.bound {lo : Nat} {w : World} {v : Value} {rs : List Rw} (h : IsRows lo w v rs) : rs.length ≤ 9223372036854775807 := by
  obtain ⟨a, cap, _, h1, hm, _⟩ := h
  unfold maxLen at hm; omega
theorem IsRows.at {lo : Nat} {w : World} {a : Option Addr} {n cap : Nat} {rs : List Rw} (h : IsRows lo w (.slice a n cap) rs) (k : Nat) (hk : k < rs.length) :
    ∃ b off sv, a = some ⟨b, off, none⟩ ∧ b < w.heap.size ∧ w.cell? ⟨b, off + k * 2, none⟩ = some sv ∧ w.cell? ⟨b, off + k * 2 + 1, none⟩ = some (.int .i64 rs[k].2) ∧ IsInts lo w sv rs[k].1 ∧ I64 rs[k].2 := by
  obtain ⟨a', cap', hv, _, _, hc⟩ := h
  simp only [Value.slice.injEq] at hv
  rcases hc with rfl | ⟨b, off, ha, _, hb, hc⟩
  · simp at hk
  · obtain ⟨sv, h1, h2, h3, h4⟩ := hc k hk
    exact ⟨b, off, sv, hv.1.trans ha, hb, h1, h2, h3, h4⟩
end Go.Proofs.YtbbglendddepfaaDoor

namespace Go.Proofs.YtbbglendddepfaaDoor
open Go.RowKit Go.Deep

set_option maxHeartbeats 400000 in
theorem allSmall_full (b off n cap : Nat) (w : World) (rs : List Rw) (hx : rs.length = n) (hn : n ≤ 9223372036854775807) (hb : b < w.heap.size)
    (hc : ∀ i (hi : i < rs.length), ∃ sv, w.cell? ⟨b, off + i * 2, none⟩ = some sv ∧ w.cell? ⟨b, off + i * 2 + 1, none⟩ = some (.int .i64 rs[i].2) ∧ IsInts 0 w sv rs[i].1) :
    Calls Tryd.prog 63 #[.slice (some ⟨b, off, none⟩) n cap] w fun e w' => e = .returned (.bool (rs.all smR)) ∧ Below w.heap.size w w' := by
  go_enter Tryd.func63, Tryd.ntmps63
  go_wp2_with fail
  go_loopw [7] (fun v wr => ∃ k : Nat, k ≤ n ∧ v = .int .i64 k ∧ (rs.take k).all smR = true ∧ Below w.heap.size w wr) (fun v _ => n - (intOf v).toNat)
  case atStart => exact ⟨0, Nat.zero_le _, rfl, rfl, Below.refl _ _⟩
  case round =>
    obtain ⟨k, hk, rfl, hall, hB⟩ := hrel
    have HA := hid0 hall
    have HB := hid0 hB
    by_cases h1 : k < n
    · obtain ⟨sv, q1, q2, q3⟩ := hc k (by omega)
      obtain ⟨a', cap', rfl⟩ := q3.shape
      have g1 := (hB.cell (p := ⟨b, off + k * 2, none⟩) hb).trans q1
      have g2 := (hB.cell (p := ⟨b, off + k * 2 + 1, none⟩) hb).trans q2
      have g3 := hid0 (q3.below hB)
      clear hall hB hc q1 q2 q3
      go_wp2_with (go_at_call 48; refine (small_any _ (g3.out.below (by go_grown))).mono ?_; rintro e w1 ⟨rfl, hb1⟩)
      · have hp : (!smR (rs[k]'(by omega))) = true := by assumption
        go_ret
        exact ⟨ret_bool (by rw [all_noR (k := k) (by omega) (by simpa using hp)]), thenBelow HB.out (thenBelow (allocBelow _ _) hb1)⟩
      · have hp : (!smR (rs[k]'(by omega))) = false := by assumption
        go_roundw
        case rel => exact ⟨k + 1, by omega, by go_num, take_allR (by omega) HA.out (by simpa using hp), thenBelow HB.out (thenBelow (allocBelow _ _) hb1)⟩
        case measure => simp [intOf]; omega
    · clear hall hB hc
      go_wp2_with fail
      go_ret
      exact ⟨ret_bool (by rw [all_takeR (by omega) HA.out]), HB.out⟩

theorem allSmall_empty (a : Option Addr) (cap : Nat) (w : World) :
    Calls Tryd.prog 63 #[.slice a 0 cap] w fun e w' => e = .returned (.bool (([] : List Rw).all smR)) ∧ Below w.heap.size w w' := by
  go_enter Tryd.func63, Tryd.ntmps63
  go_wp2_with fail
  refine wp_loop_rounds 1 ?_
  rw [rounds_succ]
  go_wp2_with fail
  go_ret
  exact ⟨ret_bool rfl, Below.refl _ _⟩

theorem allSmall_any {lo : Nat} {w : World} {v : Value} {rs : List Rw} (h : IsRows lo w v rs) :
    Calls Tryd.prog 63 #[v] w fun e w' => e = .returned (.bool (rs.all smR)) ∧ Below w.heap.size w w' := by
  obtain ⟨a, cap, rfl, hl, hm, hc⟩ := h
  unfold maxLen at hm
  rcases hc with rfl | ⟨b, off, rfl, _, hb, hc⟩
  · exact allSmall_empty _ _ _
  · exact allSmall_full _ _ _ _ _ _ rfl (by omega) hb fun i hi => by
      obtain ⟨sv, h1, h2, h3, h4⟩ := hc i hi
      exact ⟨sv, h1, h2, h3.mono (Nat.zero_le _)⟩

/-- The row has as many coefficients as the system has variables. -/
def lenB (vars : Int) (r : Rw) : Bool := decide ((r.1.length : Int) = vars)

/-- The error of a system with a number of variables in range. -/
def valR (vars : Int) (rs : List Rw) : Int := if rs.all (lenB vars) = false then 1 else if 192 < rs.length ∨ rs.all smR = false then 4 else 0

set_option maxHeartbeats 400000 in
theorem Validate_full (vars : Int) (b off n cap : Nat) (w : World) (rs : List Rw) (hx : rs.length = n) (hn : n ≤ 9223372036854775807) (hb : b < w.heap.size) (h0 : 0 ≤ vars) (h96 : vars ≤ 96)
    (hc : ∀ i (hi : i < rs.length), ∃ sv, w.cell? ⟨b, off + i * 2, none⟩ = some sv ∧ w.cell? ⟨b, off + i * 2 + 1, none⟩ = some (.int .i64 rs[i].2) ∧ IsInts 0 w sv rs[i].1) (HR : IsRows 0 w (.slice (some ⟨b, off, none⟩) n cap) rs) :
    Calls Tryd.prog 32 #[.agg #[.int .i64 vars, .slice (some ⟨b, off, none⟩) n cap]] w fun e w' => e = .returned (.int .i64 (valR vars rs)) ∧ Below w.heap.size w w' := by
  go_enter Tryd.func32, Tryd.ntmps32
  go_wp2_with fail
  go_loopw [16] (fun v wr => ∃ k : Nat, k ≤ n ∧ v = .int .i64 k ∧ (rs.take k).all (lenB vars) = true ∧ Below (w.alloc (.cells #[.int .i64 vars, .slice (some ⟨b, off, none⟩) n cap] 24)).heap.size (w.alloc (.cells #[.int .i64 vars, .slice (some ⟨b, off, none⟩) n cap] 24)) wr) (fun v _ => n - (intOf v).toNat)
  case atStart => exact ⟨0, Nat.zero_le _, rfl, rfl, Below.refl _ _⟩
  case round =>
    obtain ⟨k, hk, rfl, hall, hB0⟩ := hrel
    have HA := hid0 hall
    have hB := (allocBelow w _).trans (hB0.mono (by go_size))
    have HB := hid0 hB
    have HB0 := hid0 hB0
    have y0 : wr.cell? ⟨w.heap.size, 0, none⟩ = some (.int .i64 vars) := by rw [(blk hB0 (n := w.heap.size) (by go_size)).1]; simp
    have y1 : wr.cell? ⟨w.heap.size, 1, none⟩ = some (.slice (some ⟨b, off, none⟩) n cap) := by rw [(blk hB0 (n := w.heap.size) (by go_size)).1]; simp
    have hsz : w.heap.size < wr.heap.size := by have := hB0.size; simp at this; omega
    by_cases h1 : k < n
    · obtain ⟨sv, q1, q2, q3⟩ := hc k (by omega)
      obtain ⟨a', cap', rfl⟩ := q3.shape
      have g1 := (hB.cell (p := ⟨b, off + k * 2, none⟩) hb).trans q1
      have g2 := (hB.cell (p := ⟨b, off + k * 2 + 1, none⟩) hb).trans q2
      have E : Hid (lenB vars (rs[k]'(by omega)) = decide (((rs[k]'(by omega)).1.length : Int) = vars)) := (rfl : lenB vars _ = _)
      clear hall hB hB0 hc q1 q2 q3
      by_cases h2 : (((rs[k]'(by omega)).1.length : Int) = vars)
      · have E2 : Hid (lenB vars (rs[k]'(by omega)) = true) := by show _ = _; rw [E.out]; simpa using h2
        have h3 : (((rs[k]'(by omega)).1.length : Int) != vars) = false := by simpa using h2
        clear h2
        go_wp2_with fail
        go_roundw
        case rel => exact ⟨k + 1, by omega, by go_num, take_allR (by omega) HA.out E2.out, thenBelow HB0.out (allocBelow _ _)⟩
        case measure => simp [intOf]; omega
      · have E2 : Hid (lenB vars (rs[k]'(by omega)) = false) := by show _ = _; rw [E.out]; simpa using h2
        have h3 : (((rs[k]'(by omega)).1.length : Int) != vars) = true := by simpa using h2
        clear h2
        go_wp2_with fail
        go_ret
        exact ⟨ret_int (by rw [valR, all_noR (k := k) (by omega) E2.out]; rfl), thenBelow HB.out (allocBelow _ _)⟩
    · have HRr := hid0 (HR.below hB)
      have E3 : Hid (rs.all (lenB vars) = true) := all_takeR (by omega) HA.out
      have hxx : Hid (rs.length = n) := hx
      clear hall hB hB0 hc
      by_cases h4 : 192 < n
      · go_wp2_with fail
        go_ret
        exact ⟨ret_int (by rw [valR, E3.out, hxx.out]; simp [h4]), HB.out⟩
      · cases h5 : rs.all smR with
        | false =>
          go_wp2_with (go_at_call 63; refine (allSmall_any HRr.out).mono ?_; rintro e w1 ⟨rfl, hb1⟩)
          go_ret
          exact ⟨ret_int (by rw [valR, E3.out, h5]; simp), thenBelow HB.out hb1⟩
        | true =>
          go_wp2_with (go_at_call 63; refine (allSmall_any HRr.out).mono ?_; rintro e w1 ⟨rfl, hb1⟩)
          go_ret
          exact ⟨ret_int (by rw [valR, E3.out, hxx.out, h5]; simp [h4]), thenBelow HB.out hb1⟩

theorem Validate_empty (vars : Int) (a : Option Addr) (cap : Nat) (w : World) (h0 : 0 ≤ vars) (h96 : vars ≤ 96) :
    Calls Tryd.prog 32 #[.agg #[.int .i64 vars, .slice a 0 cap]] w fun e w' => e = .returned (.int .i64 (valR vars [])) ∧ Below w.heap.size w w' := by
  go_enter Tryd.func32, Tryd.ntmps32
  go_wp2_with fail
  refine wp_loop_rounds 1 ?_
  rw [rounds_succ]
  go_wp2_with (go_at_call 63; refine (allSmall_empty _ _ _).mono ?_; rintro e w1 ⟨rfl, hb1⟩)
  go_ret
  exact ⟨ret_int rfl, thenBelow (allocBelow _ _) hb1⟩

theorem Validate_out (vars : Int) (a : Option Addr) (n cap : Nat) (w : World) (h0 : vars < 0 ∨ 96 < vars) :
    Calls Tryd.prog 32 #[.agg #[.int .i64 vars, .slice a n cap]] w fun e w' => e = .returned (.int .i64 1) ∧ Below w.heap.size w w' := by
  rcases h0 with h0 | h0
  · go_enter Tryd.func32, Tryd.ntmps32
    go_wp2_with fail
    go_ret
    exact ⟨rfl, allocBelow _ _⟩
  · have h1 : ¬ vars < 0 := by omega
    go_enter Tryd.func32, Tryd.ntmps32
    go_wp2_with fail
    go_ret
    exact ⟨rfl, allocBelow _ _⟩

/-- Which error Validate names. -/
def valS (vars : Int) (rs : List Rw) : Int := if vars < 0 ∨ 96 < vars then 1 else valR vars rs
theorem Validate_any {lo : Nat} {w : World} {v : Value} {rs : List Rw} (vars : Int) (h : IsRows lo w v rs) :
    Calls Tryd.prog 32 #[.agg #[.int .i64 vars, v]] w fun e w' => e = .returned (.int .i64 (valS vars rs)) ∧ Below w.heap.size w w' := by
  have H := h.mono (Nat.zero_le _)
  obtain ⟨a, cap, rfl, hl, hm, hc⟩ := H
  unfold maxLen at hm
  by_cases h0 : vars < 0 ∨ 96 < vars
  · rw [valS, if_pos h0]
    exact Validate_out _ _ _ _ _ h0
  · rw [valS, if_neg h0]
    rcases hc with rfl | ⟨b, off, rfl, _, hb, hc⟩
    · exact Validate_empty _ _ _ _ (by omega) (by omega)
    · exact Validate_full _ _ _ _ _ _ _ rfl (by omega) hb (by omega) (by omega) (fun i hi => by obtain ⟨sv, h1, h2, h3, h4⟩ := hc i hi; exact ⟨sv, h1, h2, h3⟩) (h.mono (Nat.zero_le _))

/-- A row holds at a point. -/
def holdB (ys : List Int) (r : Rw) : Bool := decide (0 ≤ r.2 + dot r.1 ys)
/-- Whether a point satisfies a system. -/
def satS (vars : Int) (rs : List Rw) (ys : List Int) : Bool := decide (valS vars rs = 0) && decide ((ys.length : Int) = vars) && ys.all coB && rs.all (holdB ys)

theorem valS_zero {vars : Int} {rs : List Rw} : valS vars rs = 0 ↔ (0 ≤ vars ∧ vars ≤ 96) ∧ rs.all (lenB vars) = true ∧ rs.all smR = true ∧ rs.length ≤ 192 := by
  unfold valS valR
  by_cases h : vars < 0 ∨ 96 < vars
  · rw [if_pos h]; constructor
    · intro e; cases e
    · intro e; omega
  · rw [if_neg h]
    cases h1 : rs.all (lenB vars)
    · simp
    · cases h2 : rs.all smR
      · simp
      · by_cases h3 : 192 < rs.length
        · simp [h3]
        · simp [h3]; omega

set_option maxHeartbeats 800000 in
theorem Satisfies_full {lo' : Nat} (vars : Int) (b off n cap : Nat) (w : World) (rs : List Rw) (v' : Value) (ys : List Int) (hx : rs.length = n) (hn : n ≤ 9223372036854775807) (hb : b < w.heap.size)
    (hc : ∀ i (hi : i < rs.length), ∃ sv, w.cell? ⟨b, off + i * 2, none⟩ = some sv ∧ w.cell? ⟨b, off + i * 2 + 1, none⟩ = some (.int .i64 rs[i].2) ∧ IsInts 0 w sv rs[i].1) (HR : IsRows 0 w (.slice (some ⟨b, off, none⟩) n cap) rs) (h' : IsInts lo' w v' ys)
    (hv : valS vars rs = 0) (hl : (ys.length : Int) = vars) (hp : ys.all coB = true) :
    Calls Tryd.prog 15 #[.agg #[.int .i64 vars, .slice (some ⟨b, off, none⟩) n cap], v'] w fun e w' => e = .returned (.bool (rs.all (holdB ys))) ∧ Below w.heap.size w w' := by
  obtain ⟨a, cap', rfl⟩ := h'.shape
  have HL := hid0 hl
  have HS := hid0 (valS_zero.1 hv)
  have HP := hid0 hp
  have HR' := hid0 HR
  have H' := hid0 h'
  have hl' : ((ys.length : Int) != vars) = false := by simp; omega
  clear hl HR h'
  go_enter Tryd.func15, Tryd.ntmps15
  go_wp2_with (first | (go_at_call 32; refine (Validate_any _ (HR'.out.below (by go_grown))).mono ?_; rintro e w1 ⟨rfl, hb1⟩; have hB1 : Below w.heap.size w w1 := (thenBelow (allocBelow _ _) hb1); obtain ⟨p1, p2⟩ := blk hb1 (n := w.heap.size) (by go_size)) | (go_at_call 35; refine (isPoint_any (H'.out.below (by go_grown))).mono ?_; rintro e w' ⟨rfl, rfl⟩))
  have HB1 := hid0 hB1
  clear hp hl' p1 p2 hb1 hB1 hv
  go_loopw [25] (fun v wr => ∃ k : Nat, k ≤ n ∧ v = .int .i64 k ∧ (rs.take k).all (holdB ys) = true ∧ Below w1.heap.size w1 wr) (fun v _ => n - (intOf v).toNat)
  case atStart => exact ⟨0, Nat.zero_le _, rfl, rfl, Below.refl _ _⟩
  case round =>
    obtain ⟨k, hk, rfl, hall, hB0⟩ := hrel
    have HA := hid0 hall
    have HB0 := hid0 hB0
    have HB := hid0 (thenBelow HB1.out hB0)
    by_cases h1 : k < n
    · obtain ⟨sv, q1, q2, q3⟩ := hc k (by omega)
      obtain ⟨a', cap', rfl⟩ := q3.shape
      have g1 := (HB.out.cell (p := ⟨b, off + k * 2, none⟩) hb).trans q1
      have g2 := (HB.out.cell (p := ⟨b, off + k * 2 + 1, none⟩) hb).trans q2
      have Q3 := hid0 (q3.below HB.out)
      have P3 := hid0 (H'.out.below HB.out)
      have S1 := hid0 (smR_true.1 (List.all_eq_true.1 HS.out.2.2.1 _ (List.getElem_mem (by omega : k < rs.length))))
      have S2 : Hid (((rs[k]'(by omega)).1.length : Int) = vars) := by
        have := List.all_eq_true.1 HS.out.2.1 _ (List.getElem_mem (by omega : k < rs.length))
        show _ = _
        simpa [lenB] using this
      have S3 : Hid ((rs[k]'(by omega)).1.length = ys.length) := by show _ = _; have := S2.out; have := HL.out; omega
      have S4 : Hid ((rs[k]'(by omega)).1.length ≤ 96) := by show _ ≤ _; have := S2.out; have := HS.out.1; omega
      have E : Hid (holdB ys (rs[k]'(by omega)) = decide (0 ≤ (rs[k]'(by omega)).2 + dot (rs[k]'(by omega)).1 ys)) := (rfl : holdB ys _ = _)
      clear hall hB0 hc q1 q2 q3
      by_cases h2 : (rs[k]'(by omega)).2 + dot (rs[k]'(by omega)).1 ys < 0
      · have E2 : Hid (holdB ys (rs[k]'(by omega)) = false) := by show _ = _; rw [E.out]; simp; omega
        go_wp2_with (go_at_call 36; refine (valueAt_any _ (Q3.out.below (by go_grown)) (P3.out.below (by go_grown)) S3.out S4.out S1.out.1 HP.out S1.out.2).mono ?_; rintro e w2 ⟨rfl, hb2⟩)
        go_ret
        exact ⟨ret_bool (by rw [all_noR (k := k) (by omega) E2.out]), thenBelow HB.out (thenBelow (allocBelow _ _) hb2)⟩
      · have E2 : Hid (holdB ys (rs[k]'(by omega)) = true) := by show _ = _; rw [E.out]; simp; omega
        go_wp2_with (go_at_call 36; refine (valueAt_any _ (Q3.out.below (by go_grown)) (P3.out.below (by go_grown)) S3.out S4.out S1.out.1 HP.out S1.out.2).mono ?_; rintro e w2 ⟨rfl, hb2⟩)
        go_roundw
        case rel => exact ⟨k + 1, by omega, by go_num, take_allR (by omega) HA.out E2.out, thenBelow HB0.out (thenBelow (allocBelow _ _) hb2)⟩
        case measure => simp [intOf]; omega
    · clear hall hB0 hc
      go_wp2_with fail
      go_ret
      exact ⟨ret_bool (by rw [all_takeR (by omega) HA.out]), HB.out⟩

set_option maxHeartbeats 800000 in
theorem Satisfies_no {lo lo' : Nat} (vars : Int) (w : World) (v v' : Value) (rs : List Rw) (ys : List Int) (HR : IsRows lo w v rs) (h' : IsInts lo' w v' ys)
    (hno : valS vars rs ≠ 0 ∨ (valS vars rs = 0 ∧ (ys.length : Int) ≠ vars) ∨ (valS vars rs = 0 ∧ (ys.length : Int) = vars ∧ ys.all coB = false)) :
    Calls Tryd.prog 15 #[.agg #[.int .i64 vars, v], v'] w fun e w' => e = .returned (.bool false) ∧ Below w.heap.size w w' := by
  obtain ⟨a, cap, rfl⟩ := HR.shape
  obtain ⟨a', cap', rfl⟩ := h'.shape
  have HR' := hid0 HR
  have H' := hid0 h'
  clear HR h'
  rcases hno with hv | ⟨hv, hl⟩ | ⟨hv, hl, hp⟩
  · have hv' : (valS vars rs != 0) = true := by simpa using hv
    clear hv
    go_enter Tryd.func15, Tryd.ntmps15
    go_wp2_with (first | (go_at_call 32; refine (Validate_any _ (HR'.out.below (by go_grown))).mono ?_; rintro e w1 ⟨rfl, hb1⟩; have hB1 : Below w.heap.size w w1 := (thenBelow (allocBelow _ _) hb1); obtain ⟨p1, p2⟩ := blk hb1 (n := w.heap.size) (by go_size)) | (go_at_call 35; refine (isPoint_any (H'.out.below (by go_grown))).mono ?_; rintro e w' ⟨rfl, rfl⟩))
    go_ret
    exact ⟨rfl, by assumption⟩
  · have hv' : (valS vars rs != 0) = false := by simpa using hv
    have hl' : ((ys.length : Int) != vars) = true := by simpa using hl
    clear hv hl
    go_enter Tryd.func15, Tryd.ntmps15
    go_wp2_with (first | (go_at_call 32; refine (Validate_any _ (HR'.out.below (by go_grown))).mono ?_; rintro e w1 ⟨rfl, hb1⟩; have hB1 : Below w.heap.size w w1 := (thenBelow (allocBelow _ _) hb1); obtain ⟨p1, p2⟩ := blk hb1 (n := w.heap.size) (by go_size)) | (go_at_call 35; refine (isPoint_any (H'.out.below (by go_grown))).mono ?_; rintro e w' ⟨rfl, rfl⟩))
    go_ret
    exact ⟨rfl, by assumption⟩
  · have hv' : (valS vars rs != 0) = false := by simpa using hv
    have hl' : ((ys.length : Int) != vars) = false := by simpa using hl
    clear hv hl
    go_enter Tryd.func15, Tryd.ntmps15
    go_wp2_with (first | (go_at_call 32; refine (Validate_any _ (HR'.out.below (by go_grown))).mono ?_; rintro e w1 ⟨rfl, hb1⟩; have hB1 : Below w.heap.size w w1 := (thenBelow (allocBelow _ _) hb1); obtain ⟨p1, p2⟩ := blk hb1 (n := w.heap.size) (by go_size)) | (go_at_call 35; refine (isPoint_any (H'.out.below (by go_grown))).mono ?_; rintro e w' ⟨rfl, rfl⟩))
    go_ret
    exact ⟨rfl, by assumption⟩

set_option maxHeartbeats 800000 in
theorem Satisfies_empty {lo' : Nat} (vars : Int) (w : World) (a : Option Addr) (cap : Nat) (v' : Value) (ys : List Int) (HR : IsRows 0 w (.slice a 0 cap) []) (h' : IsInts lo' w v' ys)
    (hv : valS vars [] = 0) (hl : (ys.length : Int) = vars) (hp : ys.all coB = true) :
    Calls Tryd.prog 15 #[.agg #[.int .i64 vars, .slice a 0 cap], v'] w fun e w' => e = .returned (.bool (([] : List Rw).all (holdB ys))) ∧ Below w.heap.size w w' := by
  obtain ⟨a', cap', rfl⟩ := h'.shape
  have HR' := hid0 HR
  have H' := hid0 h'
  have hl' : ((ys.length : Int) != vars) = false := by simpa using hl
  clear hl HR h'
  go_enter Tryd.func15, Tryd.ntmps15
  go_wp2_with (first | (go_at_call 32; refine (Validate_any _ (HR'.out.below (by go_grown))).mono ?_; rintro e w1 ⟨rfl, hb1⟩; have hB1 : Below w.heap.size w w1 := (thenBelow (allocBelow _ _) hb1); obtain ⟨p1, p2⟩ := blk hb1 (n := w.heap.size) (by go_size)) | (go_at_call 35; refine (isPoint_any (H'.out.below (by go_grown))).mono ?_; rintro e w' ⟨rfl, rfl⟩))
  refine wp_loop_rounds 1 ?_
  rw [rounds_succ]
  go_wp2_with fail
  go_ret
  exact ⟨ret_bool rfl, hB1⟩

theorem Satisfies_any {lo lo' : Nat} {w : World} {v v' : Value} {rs : List Rw} {ys : List Int} (vars : Int) (h : IsRows lo w v rs) (h' : IsInts lo' w v' ys) :
    Calls Tryd.prog 15 #[.agg #[.int .i64 vars, v], v'] w fun e w' => e = .returned (.bool (satS vars rs ys)) ∧ Below w.heap.size w w' := by
  by_cases hv : valS vars rs = 0
  · by_cases hl : (ys.length : Int) = vars
    · cases hp : ys.all coB with
      | false =>
        rw [show satS vars rs ys = false by simp only [satS, hp]; simp]
        exact Satisfies_no vars w v v' rs ys h h' (.inr (.inr ⟨hv, hl, hp⟩))
      | true =>
        rw [show satS vars rs ys = rs.all (holdB ys) by simp only [satS, hp, hv, hl]; simp]
        have H := h.mono (Nat.zero_le _)
        obtain ⟨a, cap, rfl, _, hm, hc⟩ := H
        unfold maxLen at hm
        rcases hc with rfl | ⟨b, off, rfl, _, hb, hc⟩
        · exact Satisfies_empty vars w a cap v' ys (h.mono (Nat.zero_le _)) h' hv hl hp
        · exact Satisfies_full vars b off _ _ w rs v' ys rfl (by omega) hb (fun i hi => by obtain ⟨sv, h1, h2, h3, h4⟩ := hc i hi; exact ⟨sv, h1, h2, h3⟩) (h.mono (Nat.zero_le _)) h' hv hl hp
    · rw [show satS vars rs ys = false by simp [satS, hl]]
      exact Satisfies_no vars w v v' rs ys h h' (.inr (.inl ⟨hv, hl⟩))
  · rw [show satS vars rs ys = false by simp [satS, hv]]
    exact Satisfies_no vars w v v' rs ys h h' (.inl hv)
end Go.Proofs.YtbbglendddepfaaDoor

namespace Go.Proofs.YtbbglendddepfaaDoor
open Go.RowKit Go.Deep

/-- n lies from lo to hi. -/
def inB (lo hi n : Int) : Bool := decide (lo ≤ n) && decide (n ≤ hi)
theorem within_any (n lo hi : Int) (w : World) :
    Calls Tryd.prog 41 #[.int .i64 n, .int .i64 lo, .int .i64 hi] w fun e w' => e = .returned (.bool (inB lo hi n)) ∧ w = w' := by
  have e : Hid (inB lo hi n = (decide (lo ≤ n) && decide (n ≤ hi))) := (rfl : inB lo hi n = _)
  by_cases h1 : lo ≤ n
  · by_cases h2 : n ≤ hi
    · go_enter Tryd.func41, Tryd.ntmps41
      go_wp2
      go_ret
      exact ⟨ret_bool (by rw [e.out]; simp; omega), rfl⟩
    · go_enter Tryd.func41, Tryd.ntmps41
      go_wp2
      go_ret
      exact ⟨ret_bool (by rw [e.out]; simp; omega), rfl⟩
  · go_enter Tryd.func41, Tryd.ntmps41
    go_wp2
    go_ret
    exact ⟨ret_bool (by rw [e.out]; simp; omega), rfl⟩
theorem within_sm (n : Int) (w : World) : Calls Tryd.prog 41 #[.int .i64 n, .int .i64 (-68719476736), .int .i64 68719476736] w fun e w' => e = .returned (.bool (smB n)) ∧ w = w' := within_any _ _ _ _
set_option maxHeartbeats 400000 in
theorem rSmall_full (b off n cap : Nat) (c : Int) (w : World) (xs : List Int) (hx : xs.length = n) (hn : n ≤ 9223372036854775807) (hb : b < w.heap.size)
    (hc : ∀ i, i < n → w.cell? ⟨b, off + i, none⟩ = some (.int .i64 (xs.getD i 0))) :
    Calls Tryd.prog 46 #[.agg #[.slice (some ⟨b, off, none⟩) n cap, .int .i64 c]] w fun e w' => e = .returned (.bool (xs.all smB && smB c)) ∧ Below w.heap.size w w' := by
  go_enter Tryd.func46, Tryd.ntmps46
  go_wp2_with fail
  go_loop [3] (fun v => ∃ k : Nat, k ≤ n ∧ v = .int .i64 k ∧ (xs.take k).all smB = true) (fun v => n - (intOf v).toNat)
  case atStart => exact ⟨0, Nat.zero_le _, rfl, rfl⟩
  case round =>
    obtain ⟨k, hk, rfl, hall⟩ := hrel
    have HA : Hid ((xs.take k).all smB = true) := hall
    clear hall
    by_cases h1 : k < n
    · have g1 : (w.alloc (.cells #[.slice (some ⟨b, off, none⟩) n cap, .int .i64 c] 39)).cell? ⟨b, off + k, none⟩ = some (.int .i64 (xs.getD k 0)) := (World.cell?_alloc_past _ _ _ (by simpa using hb)).trans (hc k h1)
      go_wp2_with (go_at_call 41; refine (within_sm _ _).mono ?_; rintro e w' ⟨rfl, rfl⟩)
      · have hp : (!smB xs[k]) = true := by assumption
        go_ret
        exact ⟨ret_bool (by rw [all_no (k := k) (by omega) (by simpa using hp)]; rfl), allocBelow _ _⟩
      · have hp : (!smB xs[k]) = false := by assumption
        go_round
        case rel => exact ⟨k + 1, by omega, by go_num, take_all (by omega) HA.out (by simpa using hp)⟩
        case measure => simp [intOf]; omega
    · go_wp2_with (go_at_call 41; refine (within_sm _ _).mono ?_; rintro e w' ⟨rfl, rfl⟩)
      go_ret
      exact ⟨ret_bool (by rw [all_take (by omega) HA.out]; rfl), allocBelow _ _⟩

theorem rSmall_empty (a : Option Addr) (cap : Nat) (c : Int) (w : World) :
    Calls Tryd.prog 46 #[.agg #[.slice a 0 cap, .int .i64 c]] w fun e w' => e = .returned (.bool (([] : List Int).all smB && smB c)) ∧ Below w.heap.size w w' := by
  go_enter Tryd.func46, Tryd.ntmps46
  go_wp2_with fail
  refine wp_loop_rounds 1 ?_
  rw [rounds_succ]
  go_wp2_with (go_at_call 41; refine (within_sm _ _).mono ?_; rintro e w' ⟨rfl, rfl⟩)
  go_ret
  exact ⟨ret_bool rfl, allocBelow _ _⟩

theorem rSmall_any {lo : Nat} {w : World} {v : Value} {xs : List Int} (c : Int) (h : IsInts lo w v xs) :
    Calls Tryd.prog 46 #[.agg #[v, .int .i64 c]] w fun e w' => e = .returned (.bool (smR (xs, c))) ∧ Below w.heap.size w w' := by
  obtain ⟨a, cap, rfl, hl, hm, hi, hc⟩ := h
  unfold maxLen at hm
  rcases hc with rfl | ⟨b, off, rfl, _, hb, hc⟩
  · exact rSmall_empty _ _ _ _
  · exact rSmall_full _ _ _ _ _ _ _ rfl (by omega) hb hc

end Go.Proofs.YtbbglendddepfaaDoor

namespace Go.Proofs.YtbbglendddepfaaDoor
open Go.RowKit Go.Deep

/-- The law's guard on systems. -/
def longB (r : Rw) : Bool := decide (200 < r.1.length)
def shortB (r : Rw) : Bool := !longB r
def wideB (rs : List Rw) : Bool := if 250 < rs.length then true else !rs.all shortB
theorem long_row {lo : Nat} {w : World} {v : Value} {r : Rw} (h : IsInts lo w v r.1) : Calls Tryd.prog 23 #[.agg #[v, .int .i64 r.2]] w fun e w' => e = .returned (.bool (longB r)) ∧ Below w.heap.size w w' := by
  obtain ⟨a, cap, rfl⟩ := h.shape
  have e : longB r = decide (200 < (r.1.length : Int)) := by unfold longB; rw [decide_eq_decide]; omega
  rw [e]
  exact long_any _ _ _ _ _

set_option maxHeartbeats 800000 in
theorem wide_full (vars : Int) (b off n cap : Nat) (w : World) (rs : List Rw) (hx : rs.length = n) (hn : n ≤ 250) (hb : b < w.heap.size)
    (hc : ∀ i (hi : i < rs.length), ∃ sv, w.cell? ⟨b, off + i * 2, none⟩ = some sv ∧ w.cell? ⟨b, off + i * 2 + 1, none⟩ = some (.int .i64 rs[i].2) ∧ IsInts 0 w sv rs[i].1) :
    Calls Tryd.prog 11 #[.agg #[.int .i64 vars, .slice (some ⟨b, off, none⟩) n cap]] w fun e w' => e = .returned (.bool (!rs.all shortB)) ∧ Below w.heap.size w w' := by
  go_enter Tryd.func11, Tryd.ntmps11
  go_wp2_with fail
  go_loopw [3] (fun v wr => ∃ k : Nat, k ≤ n ∧ v = .int .i64 k ∧ (rs.take k).all shortB = true ∧ Below (w.alloc (.cells #[.int .i64 vars, .slice (some ⟨b, off, none⟩) n cap] 24)).heap.size (w.alloc (.cells #[.int .i64 vars, .slice (some ⟨b, off, none⟩) n cap] 24)) wr) (fun v _ => n - (intOf v).toNat)
  case atStart => exact ⟨0, Nat.zero_le _, rfl, rfl, Below.refl _ _⟩
  case round =>
    obtain ⟨k, hk, rfl, hall, hB0⟩ := hrel
    have HA := hid0 hall
    have HB := hid0 (thenBelow (allocBelow w _) hB0)
    have HB0 := hid0 hB0
    have y1 : wr.cell? ⟨w.heap.size, 1, none⟩ = some (.slice (some ⟨b, off, none⟩) n cap) := by rw [(blk hB0 (n := w.heap.size) (by go_size)).1]; simp
    by_cases h1 : k < n
    · obtain ⟨sv, q1, q2, q3⟩ := hc k (by omega)
      obtain ⟨a', cap', rfl⟩ := q3.shape
      have g1 := (HB.out.cell (p := ⟨b, off + k * 2, none⟩) hb).trans q1
      have g2 := (HB.out.cell (p := ⟨b, off + k * 2 + 1, none⟩) hb).trans q2
      have Q3 := hid0 (q3.below HB.out)
      clear hall hB0 hc q1 q2 q3
      go_wp2_with (go_at_call 23; refine (long_row (r := rs[k]'(by omega)) Q3.out).mono ?_; rintro e w1 ⟨rfl, hb1⟩)
      · have hp : longB (rs[k]'(by omega)) = true := by assumption
        go_ret
        exact ⟨ret_bool (by rw [all_noR (k := k) (by omega) (by rw [shortB, hp]; rfl)]; rfl), thenBelow HB.out hb1⟩
      · have hp : longB (rs[k]'(by omega)) = false := by assumption
        go_roundw
        case rel => exact ⟨k + 1, by omega, by go_num, take_allR (by omega) HA.out (by rw [shortB, hp]; rfl), thenBelow HB0.out hb1⟩
        case measure => simp [intOf]; omega
    · clear hall hB0 hc
      go_wp2_with fail
      go_ret
      exact ⟨ret_bool (by rw [all_takeR (by omega) HA.out]; rfl), HB.out⟩
theorem wide_empty (vars : Int) (a : Option Addr) (cap : Nat) (w : World) :
    Calls Tryd.prog 11 #[.agg #[.int .i64 vars, .slice a 0 cap]] w fun e w' => e = .returned (.bool (!([] : List Rw).all shortB)) ∧ Below w.heap.size w w' := by
  go_enter Tryd.func11, Tryd.ntmps11
  go_wp2_with fail
  refine wp_loop_rounds 1 ?_
  rw [rounds_succ]
  go_wp2_with fail
  go_ret
  exact ⟨ret_bool rfl, allocBelow _ _⟩
theorem wide_many (vars : Int) (a : Option Addr) (n cap : Nat) (w : World) (h : 250 < n) :
    Calls Tryd.prog 11 #[.agg #[.int .i64 vars, .slice a n cap]] w fun e w' => e = .returned (.bool true) ∧ Below w.heap.size w w' := by
  have h' : (250 : Int) < n := by omega
  go_enter Tryd.func11, Tryd.ntmps11
  go_wp2_with fail
  go_ret
  exact ⟨rfl, allocBelow _ _⟩
theorem wide_any {lo : Nat} {w : World} {v : Value} {rs : List Rw} (vars : Int) (h : IsRows lo w v rs) :
    Calls Tryd.prog 11 #[.agg #[.int .i64 vars, v]] w fun e w' => e = .returned (.bool (wideB rs)) ∧ Below w.heap.size w w' := by
  obtain ⟨a, cap, rfl, hl, hm, hc⟩ := h.mono (Nat.zero_le _)
  by_cases h0 : 250 < rs.length
  · rw [wideB, if_pos h0]
    exact wide_many _ _ _ _ _ h0
  · rw [wideB, if_neg h0]
    rcases hc with rfl | ⟨b, off, rfl, _, hb, hc⟩
    · exact wide_empty _ _ _ _
    · exact wide_full _ _ _ _ _ _ _ rfl (by omega) hb (fun i hi => by obtain ⟨sv, h1, h2, h3, h4⟩ := hc i hi; exact ⟨sv, h1, h2, h3⟩)
set_option maxHeartbeats 1600000 in
theorem rValidate_full (vars : Int) (b off n cap : Nat) (w : World) (rs : List Rw) (hx : rs.length = n) (hn : n ≤ 9223372036854775807) (hb : b < w.heap.size) (h0 : inB 0 96 vars = true)
    (hc : ∀ i (hi : i < rs.length), ∃ sv, w.cell? ⟨b, off + i * 2, none⟩ = some sv ∧ w.cell? ⟨b, off + i * 2 + 1, none⟩ = some (.int .i64 rs[i].2) ∧ IsInts 0 w sv rs[i].1) :
    Calls Tryd.prog 40 #[.agg #[.int .i64 vars, .slice (some ⟨b, off, none⟩) n cap]] w fun e w' => e = .returned (.int .i64 (valR vars rs)) ∧ Below w.heap.size w w' := by
  go_enter Tryd.func40, Tryd.ntmps40
  go_wp2_with (go_at_call 41; refine (within_any _ _ _ _).mono ?_; rintro e w' ⟨rfl, rfl⟩)
  go_loopw [3] (fun v wr => ∃ k : Nat, k ≤ n ∧ v = .int .i64 k ∧ (rs.take k).all (lenB vars) = true ∧ Below (w.alloc (.cells #[.int .i64 vars, .slice (some ⟨b, off, none⟩) n cap] 24)).heap.size (w.alloc (.cells #[.int .i64 vars, .slice (some ⟨b, off, none⟩) n cap] 24)) wr) (fun v _ => n - (intOf v).toNat)
  case atStart => exact ⟨0, Nat.zero_le _, rfl, rfl, Below.refl _ _⟩
  case round =>
    obtain ⟨k, hk, rfl, hall, hB0⟩ := hrel
    have HA := hid0 hall
    have HB := hid0 (thenBelow (allocBelow w _) hB0)
    have HB0 := hid0 hB0
    have y0 : wr.cell? ⟨w.heap.size, 0, none⟩ = some (.int .i64 vars) := by rw [(blk hB0 (n := w.heap.size) (by go_size)).1]; simp
    have y1 : wr.cell? ⟨w.heap.size, 1, none⟩ = some (.slice (some ⟨b, off, none⟩) n cap) := by rw [(blk hB0 (n := w.heap.size) (by go_size)).1]; simp
    by_cases h1 : k < n
    · obtain ⟨sv, q1, q2, q3⟩ := hc k (by omega)
      obtain ⟨a', cap', rfl⟩ := q3.shape
      have g1 := (HB.out.cell (p := ⟨b, off + k * 2, none⟩) hb).trans q1
      have E : Hid (lenB vars (rs[k]'(by omega)) = decide (((rs[k]'(by omega)).1.length : Int) = vars)) := (rfl : lenB vars _ = _)
      clear hall hB0 hc q1 q2 q3
      by_cases h2 : (((rs[k]'(by omega)).1.length : Int) = vars)
      · have E2 : Hid (lenB vars (rs[k]'(by omega)) = true) := by show _ = _; rw [E.out]; simpa using h2
        have h3 : (((rs[k]'(by omega)).1.length : Int) != vars) = false := by simpa using h2
        clear h2
        go_wp2_with fail
        go_quiet (fail)
        go_wp2_with fail
        go_roundw
        case rel => exact ⟨k + 1, by omega, by go_num, take_allR (by omega) HA.out E2.out, quietBelow HB0.out _⟩
        case measure => simp [intOf]; omega
      · have E2 : Hid (lenB vars (rs[k]'(by omega)) = false) := by show _ = _; rw [E.out]; simpa using h2
        have h3 : (((rs[k]'(by omega)).1.length : Int) != vars) = true := by simpa using h2
        clear h2
        go_wp2_with fail
        go_quiet (fail)
        go_wp2_with fail
        go_ret
        exact ⟨ret_int (by rw [valR, all_noR (k := k) (by omega) E2.out]; rfl), quietBelow HB.out _⟩
    · have E3 : Hid (rs.all (lenB vars) = true) := all_takeR (by omega) HA.out
      clear hall hB0
      by_cases h4 : 192 < n
      · go_wp2_with fail
        go_ret
        exact ⟨ret_int (by rw [valR, E3.out, hx]; simp [h4]), HB.out⟩
      · go_wp2_with fail
        obtain ⟨wo, rfl⟩ : ∃ wo : World, wo = wr := ⟨_, rfl⟩
        clear h1 y0 HA hk
        go_loopw [4] (fun v wr => ∃ k : Nat, k ≤ n ∧ v = .int .i64 k ∧ (rs.take k).all smR = true ∧ Below wo.heap.size wo wr) (fun v _ => n - (intOf v).toNat)
        case atStart => exact ⟨0, Nat.zero_le _, rfl, rfl, Below.refl _ _⟩
        case round =>
          obtain ⟨k', hk', rfl, hall, hBo⟩ := hrel
          have HA := hid0 hall
          have HC := hid0 (thenBelow HB.out hBo)
          have HBo := hid0 hBo
          have hlt : w.heap.size < wo.heap.size := cell_lt y1
          have y2 : wr.cell? ⟨w.heap.size, 1, none⟩ = some (.slice (some ⟨b, off, none⟩) n cap) := (hBo.cell (p := ⟨w.heap.size, 1, none⟩) hlt).trans y1
          by_cases h1 : k' < n
          · obtain ⟨sv, q1, q2, q3⟩ := hc k' (by omega)
            obtain ⟨a', cap', rfl⟩ := q3.shape
            have g1 := (HC.out.cell (p := ⟨b, off + k' * 2, none⟩) hb).trans q1
            have g2 := (HC.out.cell (p := ⟨b, off + k' * 2 + 1, none⟩) hb).trans q2
            have Q3 := hid0 (q3.below HC.out)
            clear hall hBo hc q1 q2 q3 y1
            go_wp2_with (go_at_call 46; refine (rSmall_any _ Q3.out).mono ?_; rintro e w1 ⟨rfl, hb1⟩)
            · have hp : (!smR (rs[k']'(by omega))) = true := by assumption
              go_ret
              exact ⟨ret_int (by rw [valR, E3.out, all_noR (k := k') (by omega) (by simpa using hp)]; simp), thenBelow HC.out hb1⟩
            · have hp : (!smR (rs[k']'(by omega))) = false := by assumption
              go_roundw
              case rel => exact ⟨k' + 1, by omega, by go_num, take_allR (by omega) HA.out (by simpa using hp), thenBelow HBo.out hb1⟩
              case measure => simp [intOf]; omega
          · clear hall hBo hc y1
            go_wp2_with fail
            go_ret
            exact ⟨ret_int (by rw [valR, E3.out, all_takeR (by omega) HA.out, hx]; simp [h4]), HC.out⟩

theorem rValidate_empty (vars : Int) (a : Option Addr) (cap : Nat) (w : World) (h0 : inB 0 96 vars = true) :
    Calls Tryd.prog 40 #[.agg #[.int .i64 vars, .slice a 0 cap]] w fun e w' => e = .returned (.int .i64 (valR vars [])) ∧ Below w.heap.size w w' := by
  go_enter Tryd.func40, Tryd.ntmps40
  go_wp2_with (go_at_call 41; refine (within_any _ _ _ _).mono ?_; rintro e w' ⟨rfl, rfl⟩)
  refine wp_loop_rounds 1 ?_
  rw [rounds_succ]
  go_wp2_with fail
  refine wp_loop_rounds 1 ?_
  rw [rounds_succ]
  go_wp2_with fail
  go_ret
  exact ⟨ret_int rfl, allocBelow _ _⟩
theorem rValidate_out (vars : Int) (a : Option Addr) (n cap : Nat) (w : World) (h0 : inB 0 96 vars = false) :
    Calls Tryd.prog 40 #[.agg #[.int .i64 vars, .slice a n cap]] w fun e w' => e = .returned (.int .i64 1) ∧ Below w.heap.size w w' := by
  go_enter Tryd.func40, Tryd.ntmps40
  go_wp2_with (go_at_call 41; refine (within_any _ _ _ _).mono ?_; rintro e w' ⟨rfl, rfl⟩)
  go_ret
  exact ⟨rfl, allocBelow _ _⟩
theorem rValidate_any {lo : Nat} {w : World} {v : Value} {rs : List Rw} (vars : Int) (h : IsRows lo w v rs) :
    Calls Tryd.prog 40 #[.agg #[.int .i64 vars, v]] w fun e w' => e = .returned (.int .i64 (valS vars rs)) ∧ Below w.heap.size w w' := by
  obtain ⟨a, cap, rfl, hl, hm, hc⟩ := h.mono (Nat.zero_le _)
  unfold maxLen at hm
  by_cases h0 : vars < 0 ∨ 96 < vars
  · rw [valS, if_pos h0]
    exact rValidate_out _ _ _ _ _ (by simp [inB]; omega)
  · rw [valS, if_neg h0]
    have hi : inB 0 96 vars = true := by simp [inB]; omega
    rcases hc with rfl | ⟨b, off, rfl, _, hb, hc⟩
    · exact rValidate_empty _ _ _ _ hi
    · exact rValidate_full _ _ _ _ _ _ _ rfl (by omega) hb hi (fun i hi => by obtain ⟨sv, h1, h2, h3, h4⟩ := hc i hi; exact ⟨sv, h1, h2, h3⟩)

end Go.Proofs.YtbbglendddepfaaDoor

namespace Go.Proofs.YtbbglendddepfaaDoor
open Go.RowKit Go.Deep

/-- The order of slices of integers. -/
def cmpI : List Int → List Int → Int
  | [], [] => 0
  | [], _ :: _ => -1
  | _ :: _, [] => 1
  | x :: xs, y :: ys => if x < y then -1 else if y < x then 1 else cmpI xs ys

set_option maxHeartbeats 400000 in
theorem cmpInts_full (b off n cap b' off' n' cap' : Nat) (w : World) (xs ys : List Int) (hx : xs.length = n) (hy : ys.length = n') (hn : n ≤ 9223372036854775807)
    (hc : ∀ i, i < n → w.cell? ⟨b, off + i, none⟩ = some (.int .i64 (xs.getD i 0))) (hc' : ∀ i, i < n' → w.cell? ⟨b', off' + i, none⟩ = some (.int .i64 (ys.getD i 0))) :
    Calls Tryd.prog 29 #[.slice (some ⟨b, off, none⟩) n cap, .slice (some ⟨b', off', none⟩) n' cap'] w fun e w' => e = .returned (.int .i64 (cmpI xs ys)) ∧ Below w.heap.size w w' := by
  go_enter Tryd.func29, Tryd.ntmps29
  go_wp2
  go_loopw [5] (fun v wr => ∃ k : Nat, k ≤ n ∧ k ≤ n' ∧ v = .int .i64 k ∧ cmpI (xs.drop k) (ys.drop k) = cmpI xs ys ∧ Below w.heap.size w wr ∧ (∀ p : Addr, wr.cell? p = w.cell? p)) (fun v _ => n - (intOf v).toNat)
  case atStart => exact ⟨0, Nat.zero_le _, Nat.zero_le _, rfl, rfl, Below.refl _ _, fun _ => rfl⟩
  case round =>
    obtain ⟨k, hk, hk', rfl, hcm, hb, hsame⟩ := hrel
    have HS : Hid (∀ p : Addr, wr.cell? p = w.cell? p) := hsame
    have HB : Hid (Below w.heap.size w wr) := hb
    by_cases h1 : k < n
    · by_cases h2 : k < n'
      · have g1 : wr.cell? ⟨b, off + k, none⟩ = some (.int .i64 (xs.getD k 0)) := (hsame _).trans (hc k h1)
        have g2 : wr.cell? ⟨b', off' + k, none⟩ = some (.int .i64 (ys.getD k 0)) := (hsame _).trans (hc' k h2)
        have HC : Hid (cmpI xs ys = (if xs[k]'(by omega) < ys[k]'(by omega) then -1 else if ys[k]'(by omega) < xs[k]'(by omega) then 1 else cmpI (xs.drop (k+1)) (ys.drop (k+1)))) := by
          show _ = _
          rw [← hcm, List.drop_eq_getElem_cons (l := xs) (by omega), List.drop_eq_getElem_cons (l := ys) (by omega), cmpI]
        clear hsame hcm hb
        go_wp2
        go_quiet (fail)
        go_wp2
        · have hlt : xs[k] < ys[k] := by assumption
          go_ret
          exact ⟨ret_int (by rw [HC.out, if_pos hlt]), quietBelow HB.out _⟩
        · have hle : ys[k] ≤ xs[k] := by assumption
          go_quiet (fail)
          go_wp2
          · have hlt : ys[k] < xs[k] := by assumption
            go_ret
            exact ⟨ret_int (by rw [HC.out, if_neg (by omega), if_pos hlt]), (by (repeat refine quietBelow ?_ _); exact HB.out)⟩
          · have hle' : xs[k] ≤ ys[k] := by assumption
            go_roundw
            case rel => exact ⟨k + 1, by omega, by omega, by go_num, by rw [HC.out, if_neg (by omega), if_neg (by omega)], (by (repeat refine quietBelow ?_ _); exact HB.out), fun p => HS.out p⟩
            case measure => simp [intOf]; omega
      · have hd : ys.drop k = [] := List.drop_eq_nil_of_le (by omega)
        have HC : Hid (cmpI xs ys = 1) := by
          show _ = _
          rw [← hcm, hd, List.drop_eq_getElem_cons (by omega), cmpI]
        have hlt : n' < n := by omega
        clear hsame hcm hb hd
        go_wp2
        go_ret
        exact ⟨ret_int HC.out.symm, HB.out⟩
    · have hkn : k = n := by omega
      have hd : xs.drop k = [] := List.drop_eq_nil_of_le (by omega)
      by_cases h2 : n < n'
      · have HC : Hid (cmpI xs ys = -1) := by
          show _ = _
          rw [← hcm, hd, List.drop_eq_getElem_cons (by omega), cmpI]
        clear hsame hcm hb hd hkn
        go_wp2
        go_ret
        exact ⟨ret_int HC.out.symm, HB.out⟩
      · have HC : Hid (cmpI xs ys = 0) := by
          show _ = _
          rw [← hcm, hd, List.drop_eq_nil_of_le (by omega), cmpI]
        have hnn : ¬ n' < n := by omega
        clear hsame hcm hb hd hkn
        go_wp2
        go_ret
        exact ⟨ret_int HC.out.symm, HB.out⟩

set_option maxHeartbeats 400000 in
theorem cmpInts_left (a a' : Option Addr) (cap n' cap' : Nat) (w : World) (ys : List Int) (hy : ys.length = n') (hn' : n' ≤ 9223372036854775807) :
    Calls Tryd.prog 29 #[.slice a 0 cap, .slice a' n' cap'] w fun e w' => e = .returned (.int .i64 (cmpI [] ys)) ∧ Below w.heap.size w w' := by
  have HC : Hid (cmpI [] ys = if 0 < n' then -1 else 0) := by
    show _ = _
    cases ys <;> simp_all [cmpI] <;> omega
  by_cases h2 : 0 < n'
  · go_enter Tryd.func29, Tryd.ntmps29
    go_wp2
    go_rounds 1
    go_ret
    exact ⟨ret_int (by rw [HC.out, if_pos h2]), Below.refl _ _⟩
  · obtain rfl : n' = 0 := by omega
    clear h2
    go_enter Tryd.func29, Tryd.ntmps29
    go_wp2
    go_rounds 1
    go_ret
    exact ⟨ret_int (by rw [HC.out]; rfl), Below.refl _ _⟩

set_option maxHeartbeats 400000 in
theorem cmpInts_right (a a' : Option Addr) (n cap cap' : Nat) (w : World) (x : Int) (xs : List Int) (hx : (x :: xs).length = n) (hn : n ≤ 9223372036854775807) :
    Calls Tryd.prog 29 #[.slice a n cap, .slice a' 0 cap'] w fun e w' => e = .returned (.int .i64 (cmpI (x :: xs) [])) ∧ Below w.heap.size w w' := by
  have h2 : 0 < n := by simp at hx; omega
  clear hx
  go_enter Tryd.func29, Tryd.ntmps29
  go_wp2
  go_rounds 1
  go_ret
  exact ⟨rfl, Below.refl _ _⟩

theorem cmpInts_any {lo lo' : Nat} {w : World} {v v' : Value} {xs ys : List Int} (h : IsInts lo w v xs) (h' : IsInts lo' w v' ys) :
    Calls Tryd.prog 29 #[v, v'] w fun e w' => e = .returned (.int .i64 (cmpI xs ys)) ∧ Below w.heap.size w w' := by
  obtain ⟨a, cap, rfl, hl, hm, hi, hc⟩ := h
  obtain ⟨a', cap', rfl, hl', hm', hi', hc'⟩ := h'
  unfold maxLen at hm hm'
  rcases hc with rfl | ⟨b, off, rfl, _, _, hc⟩
  · exact cmpInts_left _ _ _ _ _ _ _ rfl (by omega)
  · rcases hc' with rfl | ⟨b', off', rfl, _, _, hc'⟩
    · cases xs with
      | nil => exact cmpInts_left _ _ _ _ _ _ _ rfl (by simp)
      | cons x xs => exact cmpInts_right _ _ _ _ _ _ _ _ rfl (by omega)
    · exact cmpInts_full _ _ _ _ _ _ _ _ _ _ _ rfl rfl (by omega) hc hc'

end Go.Proofs.YtbbglendddepfaaDoor

namespace Go.Proofs.YtbbglendddepfaaDoor
open Go.RowKit Go.Deep

/-- A slice of integers that the call has made: nil, or a row of its own. -/
def OwnV (lo : Nat) (w : World) (v : Value) (xs : List Int) : Prop :=
  (v = .slice none 0 0 ∧ xs = []) ∨ ∃ g cap, v = .slice (some ⟨g, 0, none⟩) xs.length cap ∧ xs.length ≤ cap ∧ cap ≤ maxLen ∧ OwnInts lo w g xs
theorem OwnV.ints {lo : Nat} {w : World} {v : Value} {xs : List Int} (h : OwnV lo w v xs) : IsInts lo w v xs := by
  rcases h with ⟨rfl, rfl⟩ | ⟨g, cap, rfl, hl, hm, h1, h2, h3, cur, t, hg, hc⟩
  · exact ⟨none, 0, rfl, by simp, by simp [maxLen], by simp, .inl rfl⟩
  · exact ints_of_block hg h1 rfl hl hm h3 hc
theorem OwnV.below {lo : Nat} {w w' : World} {v : Value} {xs : List Int} (h : OwnV lo w v xs) (hb : Below w.heap.size w w') : OwnV lo w' v xs := by
  rcases h with h | ⟨g, cap, hv, hl, hm, h⟩
  · exact .inl h
  · exact .inr ⟨g, cap, hv, hl, hm, h.below hb⟩
theorem OwnV.mono {lo lo' : Nat} {w : World} {v : Value} {xs : List Int} (h : OwnV lo w v xs) (hl' : lo' ≤ lo) : OwnV lo' w v xs := by
  rcases h with h | ⟨g, cap, hv, hl, hm, h⟩
  · exact .inl h
  · exact .inr ⟨g, cap, hv, hl, hm, h.mono hl'⟩
theorem OwnV.shape {lo : Nat} {w : World} {v : Value} {xs : List Int} (h : OwnV lo w v xs) : ∃ a cap, v = .slice a xs.length cap := h.ints.shape
theorem own_of_row {lo : Nat} {w : World} {v : Value} {e : TypeId} {xs : List Int} (h : w.ownsRow lo e 1 v xs.length (xs.map (Value.int .i64))) (hi : ∀ x ∈ xs, I64 x) : OwnV lo w v xs := by
  obtain ⟨_, h⟩ := h
  rcases h with ⟨hv, hn⟩ | ⟨g, cap, cur, hv, hb, hg, hnc, hcm, hcs, htake⟩
  · exact .inl ⟨hv, List.eq_nil_of_length_eq_zero hn⟩
  · refine .inr ⟨g, cap, hv, hnc, hcm, hb, Nat.le_trans hnc hcm, hi, cur, e, hg, fun i h => ?_⟩
    have h1 : (cur.toList.take (xs.length * 1))[i]? = some (.int .i64 (xs.getD i 0)) := by rw [htake]; simp [h]
    rw [List.getElem?_take, if_pos (by omega)] at h1
    simpa using h1

theorem info_int4 : ∃ i, Tryd.prog.info? 3 = some i ∧ i.zero = some (.int .i64 0) ∧ i.size = 1 ∧ i.bytes = 8 := by
  obtain ⟨i, hi, h⟩ := Option.map_eq_some_iff.1 (show (Tryd.prog.info? 3).map (fun i => (i.zero, i.size, i.bytes)) = some (some (.int .i64 0), 1, 8) by kernel_rfl)
  simp only [Prod.mk.injEq] at h
  exact ⟨i, hi, h.1, h.2.1, h.2.2⟩

set_option maxHeartbeats 800000 in
theorem CopyInts_any {lo : Nat} {w : World} {v : Value} {xs : List Int} (h : IsInts lo w v xs) (hn : xs.length ≤ 1000) :
    Calls Tryd.prog 20 #[v] w fun e w' => ∃ v', e = .returned v' ∧ OwnV w.heap.size w' v' xs ∧ Below w.heap.size w w' := by
  have H := h
  obtain ⟨a, cap, rfl, hl, hm, hi, hc⟩ := h
  obtain ⟨i0, hi0, hz0, hz1, hz2⟩ := info_int4
  have HI := hid0 hi.1
  cases a with
  | none =>
    obtain rfl : cap = 0 := hi.2 rfl
    have h0 : xs.length = 0 := by omega
    obtain rfl : xs = [] := List.eq_nil_of_length_eq_zero h0
    have hown := World.ownsRow_lit (base := w.heap.size) (e := 3) (size := 1) w #[] 0 (Nat.le_refl _) (by simp) (by simp)
    have HO := hid0 hown
    clear hown hc hi hl hm h0 H
    go_enter Tryd.func20, Tryd.ntmps20
    go_wp2_with (refine wpList_append_own_none rfl (.tmp 3) (.tmp 4) 25 rfl w.heap.size 3 i0 1 Tryd.underlying25 hi0 _ _ _ rfl HO.out rfl ?_)
    go_ret
    exact ⟨_, rfl, own_of_row (e := 3) (by simpa using HO.out) (by simp), allocBelow _ _⟩
  | some ad =>
    have HS : Hid (∀ w', Below w.heap.size w w' → ∀ j u, (xs.map (Value.int .i64))[j]? = some u → w'.cell? (ad.add j) = some u) := hid0 fun w' hb j u hj => by
      have h0 : 0 < xs.length := by have := (List.getElem?_eq_some_iff.1 hj).1; simp at this; omega
      obtain ⟨ad', e, hS⟩ := H.src h0
      cases e
      exact hS w' hb j u hj
    have hown := World.ownsRow_lit (base := w.heap.size) (e := 3) (size := 1) w #[] 0 (Nat.le_refl _) (by simp) (by simp)
    have HO := hid0 hown
    clear hown hc hi
    go_enter Tryd.func20, Tryd.ntmps20
    go_wp2_with (refine wpList_append_own _ rfl (.tmp 3) (.tmp 4) 25 rfl w.heap.size 3 i0 (.int .i64 0) 1 8 Tryd.underlying25 hi0 hz0 hz1 hz2 rfl (by decide) _ _ _ rfl HO.out ad xs.length cap (xs.map (Value.int .i64)) rfl (by simp) (HS.out _ (by go_grown)) (by simp [Value.oneCell']) (by unfold maxLen; omega) (by omega) (by simp) ?_; intro v' w1 hown1 hgrow1 _)
    go_ret
    have hown2 : w1.ownsRow w.heap.size 3 1 v' xs.length (xs.map (Value.int .i64)) := by simpa using hown1
    refine ⟨v', rfl, own_of_row hown2 HI.out, (allocBelow w _).grown hgrow1 (by simp) fun k hk => ?_⟩
    have hk' : some w.heap.size = some k := hk
    injection hk' with hk'
    omega

theorem cmpI_self : ∀ xs, cmpI xs xs = 0
  | [] => rfl
  | x :: xs => by simp [cmpI, cmpI_self xs]
theorem cmpI_zero : ∀ {xs ys : List Int}, cmpI xs ys = 0 → xs = ys
  | [], [], _ => rfl
  | [], _ :: _, h => by simp [cmpI] at h
  | _ :: _, [], h => by simp [cmpI] at h
  | x :: xs, y :: ys, h => by
    unfold cmpI at h
    split at h
    · cases h
    · split at h
      · cases h
      · rw [show x = y by omega, cmpI_zero h]
def eqI (xs ys : List Int) : Bool := decide (xs = ys)
theorem eqI_cmp (xs ys : List Int) : (cmpI xs ys == 0) = eqI xs ys := by
  unfold eqI
  rw [Bool.eq_iff_iff, beq_iff_eq, decide_eq_true_iff]
  exact ⟨cmpI_zero, fun h => by rw [h]; exact cmpI_self _⟩
theorem SameInts_any {lo lo' : Nat} {w : World} {v v' : Value} {xs ys : List Int} (h : IsInts lo w v xs) (h' : IsInts lo' w v' ys) :
    Calls Tryd.prog 28 #[v, v'] w fun e w' => e = .returned (.bool (eqI xs ys)) ∧ Below w.heap.size w w' := by
  obtain ⟨a, cap, rfl⟩ := h.shape
  obtain ⟨a', cap', rfl⟩ := h'.shape
  have E := hid0 (eqI_cmp xs ys)
  go_enter Tryd.func28, Tryd.ntmps28
  go_wp2_with (go_at_call 29; refine (cmpInts_any h h').mono ?_; rintro e w1 ⟨rfl, hb1⟩)
  go_ret
  exact ⟨ret_bool E.out, hb1⟩
end Go.Proofs.YtbbglendddepfaaDoor

namespace Go.Proofs.YtbbglendddepfaaDoor
open Go.RowKit Go.Deep

set_option maxHeartbeats 800000 in
theorem CopyRow_any {lo : Nat} {w : World} {v : Value} {xs : List Int} (c : Int) (h : IsInts lo w v xs) (hn : xs.length ≤ 1000) :
    Calls Tryd.prog 37 #[.agg #[v, .int .i64 c]] w fun e w' => ∃ v', e = .returned (.agg #[v', .int .i64 c]) ∧ OwnV w.heap.size w' v' xs ∧ Below w.heap.size w w' := by
  have H := hid0 h
  obtain ⟨a, cap, rfl⟩ := h.shape
  clear h
  go_enter Tryd.func37, Tryd.ntmps37
  go_wp2_with fail
  go_region_with (go_at_call 20; refine (CopyInts_any (H.out.below (by go_grown)) hn).mono ?_; rintro e w1 ⟨v', rfl, hO, hb1⟩; obtain ⟨p1, p2⟩ := blk hb1 (n := w.heap.size) (by go_size); obtain ⟨p3, p4⟩ := blk hb1 (n := w.heap.size + 1) (by go_size); obtain ⟨a', cap', rfl⟩ := hO.shape)
  all_goals
    go_wp2_with fail
    have d1 : w1.cell? ⟨w.heap.size + 1, 0, none⟩ = some (.slice none 0 0) := by rw [(blk hb1 (n := w.heap.size + 1) (by go_size)).1]; simp
    have d2 : w1.cell? ⟨w.heap.size + 1, 1, none⟩ = some (.int .i64 0) := by rw [(blk hb1 (n := w.heap.size + 1) (by go_size)).1]; simp
    have hB1 : Below w.heap.size w w1 := Below.trans (by go_grown) (hb1.mono (by go_size))
    refine bodyPost_ret (v := .agg #[.slice a' xs.length cap', .int .i64 c]) (by simp [results, Tryd.results37, go_sem, d1, d2]) rfl ⟨_, rfl, ?_, (hB1.setCell (by simp) _).setCell (by simp) _⟩
    have hO' := hO.mono (lo' := w.heap.size) (by go_size)
    have hne : ∀ g, OwnInts w.heap.size w1 g xs → OwnInts ((w.alloc (.cells #[.slice a xs.length cap, .int .i64 c] 39)).alloc (.cells #[.slice none 0 0, .int .i64 0] 39)).heap.size w1 g xs → OwnInts w.heap.size ((w1.setCell ⟨w.heap.size + 1, 0, none⟩ (.slice a' xs.length cap')).setCell ⟨w.heap.size + 1, 1, none⟩ (.int .i64 c)) g xs := fun g h1 h2 => by
      have hg := h2.1
      simp only [World.size_alloc] at hg
      exact (h1.setOther _ _ (by simp; omega)).setOther _ _ (by simp; omega)
    rcases hO with hv | ⟨g, cp, hv, hl, hm, hg⟩
    · exact .inl hv
    · exact .inr ⟨g, cp, hv, hl, hm, hne g (hg.mono (by go_size)) hg⟩

end Go.Proofs.YtbbglendddepfaaDoor

namespace Go.Proofs.YtbbglendddepfaaDoor
open Go.RowKit Go.Deep

/-- The order of numbers. -/
def cmpN (x y : Int) : Int := if x < y then -1 else if y < x then 1 else 0

theorem cmpCompare_any (x y : Int) (w : World) : Calls Tryd.prog 85 #[.int .i64 x, .int .i64 y] w fun e w' => e = .returned (.int .i64 (cmpN x y)) ∧ w = w' := by
  have E : Hid (cmpN x y = if x < y then -1 else if y < x then 1 else 0) := (rfl : cmpN x y = _)
  by_cases h1 : x < y
  · go_enter Tryd.func85, Tryd.ntmps85
    go_wp2
    go_ret
    exact ⟨ret_int (by rw [E.out, if_pos (by omega)]), rfl⟩
  · by_cases h2 : y < x
    · go_enter Tryd.func85, Tryd.ntmps85
      go_wp2
      go_ret
      exact ⟨ret_int (by rw [E.out, if_neg (by omega), if_pos (by omega)]), rfl⟩
    · obtain rfl : x = y := by omega
      clear h1 h2
      go_enter Tryd.func85, Tryd.ntmps85
      go_wp2
      go_ret
      exact ⟨ret_int (by rw [E.out]; simp), rfl⟩

/-- The first that is not 0. -/
def orI (x y : Int) : Int := if x ≠ 0 then x else y
theorem cmpOr_two (b : Nat) (x y : Int) (w : World) (h0 : w.cell? ⟨b, 0, none⟩ = some (.int .i64 x)) (h1 : w.cell? ⟨b, 1, none⟩ = some (.int .i64 y)) :
    Calls Tryd.prog 83 #[.slice (some ⟨b, 0, none⟩) 2 2] w fun e w' => e = .returned (.int .i64 (orI x y)) ∧ w = w' := by
  by_cases hx : x = 0
  · subst hx
    by_cases hy : y = 0
    · subst hy
      go_enter Tryd.func83, Tryd.ntmps83
      go_wp2
      go_rounds 3
      go_ret
      exact ⟨rfl, rfl⟩
    · have hy' : (y != 0) = true := by simpa using hy
      rw [show orI 0 y = y from rfl]
      clear hy
      go_enter Tryd.func83, Tryd.ntmps83
      go_wp2
      go_rounds 3
      go_ret
      exact ⟨rfl, rfl⟩
  · have hx' : (x != 0) = true := by simpa using hx
    rw [show orI x y = x from if_pos hx]
    clear hx
    go_enter Tryd.func83, Tryd.ntmps83
    go_wp2
    go_rounds 3
    go_ret
    exact ⟨rfl, rfl⟩

end Go.Proofs.YtbbglendddepfaaDoor

namespace Go.Proofs.YtbbglendddepfaaDoor
open Go.RowKit Go.Deep

/-- The order of rows. -/
def cmpR (r s : Rw) : Int := if cmpI r.1 s.1 ≠ 0 then cmpI r.1 s.1 else cmpN r.2 s.2
set_option maxHeartbeats 800000 in
theorem sCompare_full (b off n cap b' off' n' cap' : Nat) (w : World) (xs ys : List Int) (hx : xs.length = n) (hy : ys.length = n') (hn : n ≤ 9223372036854775807)
    (hc : ∀ i, i < n → w.cell? ⟨b, off + i, none⟩ = some (.int .i64 (xs.getD i 0))) (hc' : ∀ i, i < n' → w.cell? ⟨b', off' + i, none⟩ = some (.int .i64 (ys.getD i 0))) :
    Calls Tryd.prog 84 #[.slice (some ⟨b, off, none⟩) n cap, .slice (some ⟨b', off', none⟩) n' cap'] w fun e w' => e = .returned (.int .i64 (cmpI xs ys)) ∧ w = w' := by
  go_enter Tryd.func84, Tryd.ntmps84
  go_wp2_with fail
  go_loop [11] (fun v => ∃ k : Nat, k ≤ n ∧ k ≤ n' ∧ v = .int .i64 k ∧ cmpI (xs.drop k) (ys.drop k) = cmpI xs ys) (fun v => n - (intOf v).toNat)
  case atStart => exact ⟨0, Nat.zero_le _, Nat.zero_le _, rfl, rfl⟩
  case round =>
    obtain ⟨k, hk, hk', rfl, hcm⟩ := hrel
    by_cases h1 : k < n
    · by_cases h2 : k < n'
      · have g1 := hc k h1
        have g2 := hc' k h2
        have HC : Hid (cmpI xs ys = (if xs[k]'(by omega) < ys[k]'(by omega) then -1 else if ys[k]'(by omega) < xs[k]'(by omega) then 1 else cmpI (xs.drop (k+1)) (ys.drop (k+1)))) := by
          show _ = _
          rw [← hcm, List.drop_eq_getElem_cons (l := xs) (by omega), List.drop_eq_getElem_cons (l := ys) (by omega), cmpI]
        clear hcm
        by_cases hlt : (xs[k]'(by omega)) < (ys[k]'(by omega))
        · have hN : cmpN (xs[k]'(by omega)) (ys[k]'(by omega)) = -1 := by simp [cmpN, hlt]
          have E : Hid (cmpI xs ys = -1) := by show _ = _; rw [HC.out, if_pos hlt]
          clear hlt
          go_wp2_with (go_at_call 85; refine (cmpCompare_any _ _ _).mono ?_; rintro e w' ⟨rfl, rfl⟩)
          go_ret
          exact ⟨ret_int E.out.symm, rfl⟩
        · by_cases hgt : (ys[k]'(by omega)) < (xs[k]'(by omega))
          · have hN : cmpN (xs[k]'(by omega)) (ys[k]'(by omega)) = 1 := by simp [cmpN, hlt, hgt]
            have E : Hid (cmpI xs ys = 1) := by show _ = _; rw [HC.out, if_neg hlt, if_pos hgt]
            clear hlt hgt
            go_wp2_with (go_at_call 85; refine (cmpCompare_any _ _ _).mono ?_; rintro e w' ⟨rfl, rfl⟩)
            go_ret
            exact ⟨ret_int E.out.symm, rfl⟩
          · have hN : cmpN (xs[k]'(by omega)) (ys[k]'(by omega)) = 0 := by simp [cmpN, hlt, hgt]
            have E : Hid (cmpI (xs.drop (k + 1)) (ys.drop (k + 1)) = cmpI xs ys) := by show _ = _; rw [HC.out, if_neg hlt, if_neg hgt]
            clear hlt hgt
            go_wp2_with (go_at_call 85; refine (cmpCompare_any _ _ _).mono ?_; rintro e w' ⟨rfl, rfl⟩)
            go_round
            case rel => exact ⟨k + 1, by omega, by omega, by go_num, E.out⟩
            case measure => simp [intOf]; omega
      · have hd : ys.drop k = [] := List.drop_eq_nil_of_le (by omega)
        have HC : Hid (cmpI xs ys = 1) := by
          show _ = _
          rw [← hcm, hd, List.drop_eq_getElem_cons (by omega), cmpI]
        have g1 := hc k h1
        have hlt : n' ≤ k := by omega
        clear hcm hd
        go_wp2_with fail
        go_ret
        exact ⟨ret_int HC.out.symm, rfl⟩
    · have hkn : k = n := by omega
      have hd : xs.drop k = [] := List.drop_eq_nil_of_le (by omega)
      by_cases h2 : n < n'
      · have HC : Hid (cmpI xs ys = -1) := by
          show _ = _
          rw [← hcm, hd, List.drop_eq_getElem_cons (by omega), cmpI]
        clear hcm hd hkn
        go_wp2_with fail
        go_ret
        exact ⟨ret_int HC.out.symm, rfl⟩
      · have HC : Hid (cmpI xs ys = 0) := by
          show _ = _
          rw [← hcm, hd, List.drop_eq_nil_of_le (by omega), cmpI]
        clear hcm hd hkn
        go_wp2_with fail
        go_ret
        exact ⟨ret_int HC.out.symm, rfl⟩

theorem sCompare_left (a a' : Option Addr) (cap n' cap' : Nat) (w : World) (ys : List Int) (hy : ys.length = n') :
    Calls Tryd.prog 84 #[.slice a 0 cap, .slice a' n' cap'] w fun e w' => e = .returned (.int .i64 (cmpI [] ys)) ∧ w = w' := by
  have HC : Hid (cmpI [] ys = if 0 < n' then -1 else 0) := by
    show _ = _
    cases ys <;> simp_all [cmpI] <;> omega
  by_cases h2 : 0 < n'
  · go_enter Tryd.func84, Tryd.ntmps84
    go_wp2_with fail
    go_rounds 1
    go_ret
    exact ⟨ret_int (by rw [HC.out, if_pos h2]), rfl⟩
  · obtain rfl : n' = 0 := by omega
    clear h2
    go_enter Tryd.func84, Tryd.ntmps84
    go_wp2_with fail
    go_rounds 1
    go_ret
    exact ⟨ret_int (by rw [HC.out]; rfl), rfl⟩
theorem sCompare_right (b off n cap cap' : Nat) (a' : Option Addr) (w : World) (x : Int) (xs : List Int) (hx : (x :: xs).length = n) (hn : n ≤ 9223372036854775807) (hc : w.cell? ⟨b, off, none⟩ = some (.int .i64 x)) :
    Calls Tryd.prog 84 #[.slice (some ⟨b, off, none⟩) n cap, .slice a' 0 cap'] w fun e w' => e = .returned (.int .i64 (cmpI (x :: xs) [])) ∧ w = w' := by
  have h2 : 0 < n := by simp at hx; omega
  clear hx
  go_enter Tryd.func84, Tryd.ntmps84
  go_wp2_with fail
  go_rounds 1
  go_ret
  exact ⟨rfl, rfl⟩
theorem sCompare_any {lo lo' : Nat} {w : World} {v v' : Value} {xs ys : List Int} (h : IsInts lo w v xs) (h' : IsInts lo' w v' ys) :
    Calls Tryd.prog 84 #[v, v'] w fun e w' => e = .returned (.int .i64 (cmpI xs ys)) ∧ w = w' := by
  obtain ⟨a, cap, rfl, hl, hm, hi, hc⟩ := h
  obtain ⟨a', cap', rfl, hl', hm', hi', hc'⟩ := h'
  unfold maxLen at hm hm'
  rcases hc with rfl | ⟨b, off, rfl, _, _, hc⟩
  · exact sCompare_left _ _ _ _ _ _ _ rfl
  · rcases hc' with rfl | ⟨b', off', rfl, _, _, hc'⟩
    · cases xs with
      | nil => exact sCompare_left _ _ _ _ _ _ _ rfl
      | cons x xs => exact sCompare_right _ _ _ _ _ _ _ _ _ rfl (by omega) (by simpa using hc 0 (by simp))
    · exact sCompare_full _ _ _ _ _ _ _ _ _ _ _ rfl rfl (by omega) hc hc'

end Go.Proofs.YtbbglendddepfaaDoor

namespace Go.Proofs.YtbbglendddepfaaDoor
open Go.RowKit Go.Deep Go.Sort
/-- Nothing turned, and the draws went on. -/
structure Gro (w w' : World) : Prop where
  bel : Below w.heap.size w w'
  drawn : w.drawn ≤ w'.drawn
theorem Gro.refl (w : World) : Gro w w := ⟨Below.refl _ _, Nat.le_refl _⟩
theorem Gro.trans {w w1 w2 : World} (h : Gro w w1) (k : Gro w1 w2) : Gro w w2 := ⟨thenBelow h.bel k.bel, Nat.le_trans h.drawn k.drawn⟩
theorem drewGro (w : World) : Gro w w.drew := ⟨drewBelow w, Nat.le_succ _⟩
theorem allocGro (w : World) (o : Obj) : Gro w (w.alloc o) := ⟨allocBelow w o, Nat.le_refl _⟩
theorem Gro.grow {w w' : World} (h : Gro w w') : ∃ q os, w' = Go.Sort.grow (w.drewN q) os := by
  obtain ⟨⟨d, os⟩, rfl⟩ := regrown_of_below h.bel
  have hd : w.drawn ≤ d := h.drawn
  refine ⟨d - w.drawn, os, ?_⟩
  have e : redrawn w d = w.drewN (d - w.drawn) := by
    show ({ w with drawn := d } : World) = { w with drawn := w.drawn + (d - w.drawn) }
    rw [Nat.add_sub_cancel' hd]
  exact congrArg (Go.Sort.grow · os) e
theorem keepG {W w1 w2 : World} {p1 p2 p3 p4 : Addr} {u1 u2 u3 u4 : Value} (h : w1.cell? p1 = some u1 ∧ w1.cell? p2 = some u2 ∧ w1.cell? p3 = some u3 ∧ w1.cell? p4 = some u4 ∧ Gro W w1) (hb : Gro w1 w2) :
    w2.cell? p1 = some u1 ∧ w2.cell? p2 = some u2 ∧ w2.cell? p3 = some u3 ∧ w2.cell? p4 = some u4 ∧ Gro W w2 :=
  ⟨(hb.bel.cell (cell_lt h.1)).trans h.1, (hb.bel.cell (cell_lt h.2.1)).trans h.2.1, (hb.bel.cell (cell_lt h.2.2.1)).trans h.2.2.1, (hb.bel.cell (cell_lt h.2.2.2.1)).trans h.2.2.2.1, h.2.2.2.2.trans hb⟩
theorem heldG {a b c d : Prop} {W w : World} (h : a ∧ b ∧ c ∧ d ∧ Gro W w) : Below W.heap.size W w := h.2.2.2.2.bel
set_option maxHeartbeats 800000 in
theorem Compare_gro {lo lo' : Nat} {w : World} {v v' : Value} {xs ys : List Int} (c d : Int) (h : IsInts lo w v xs) (h' : IsInts lo' w v' ys) :
    Calls Tryd.prog 66 #[.agg #[v, .int .i64 c], .agg #[v', .int .i64 d]] w fun e w' => e = .returned (.int .i64 (cmpR (xs, c) (ys, d))) ∧ Gro w w' := by
  have H := hid0 h
  have H' := hid0 h'
  obtain ⟨a, cap, rfl⟩ := h.shape
  obtain ⟨a', cap', rfl⟩ := h'.shape
  clear h h'
  go_enter Tryd.func66, Tryd.ntmps66
  go_wp2_with fail
  obtain ⟨W, hW⟩ : ∃ W, W = (w.alloc (.cells #[.slice a xs.length cap, .int .i64 c] 39)).alloc (.cells #[.slice a' ys.length cap', .int .i64 d] 39) := ⟨_, rfl⟩
  rw [← hW]
  have r0 : W.cell? ⟨w.heap.size, 0, none⟩ = some (.slice a xs.length cap) := by rw [hW]; simp
  have r1 : W.cell? ⟨w.heap.size, 1, none⟩ = some (.int .i64 c) := by rw [hW]; simp
  have s0 : W.cell? ⟨w.heap.size + 1, 0, none⟩ = some (.slice a' ys.length cap') := by rw [hW]; simp
  have s1 : W.cell? ⟨w.heap.size + 1, 1, none⟩ = some (.int .i64 d) := by rw [hW]; simp
  have HBW : Hid (Gro w W) := by rw [hW]; exact (allocGro _ _).trans (allocGro _ _)
  clear hW
  go_region_held3 (fun w' => w'.cell? ⟨w.heap.size, 0, none⟩ = some (.slice a xs.length cap) ∧ w'.cell? ⟨w.heap.size, 1, none⟩ = some (.int .i64 c) ∧ w'.cell? ⟨w.heap.size + 1, 0, none⟩ = some (.slice a' ys.length cap') ∧ w'.cell? ⟨w.heap.size + 1, 1, none⟩ = some (.int .i64 d) ∧ Gro W w') (first | exact ⟨r0, r1, s0, s1, Gro.refl _⟩ | exact keepG ⟨r0, r1, s0, s1, Gro.refl _⟩ (drewGro _) | assumption | exact keepG (by assumption) (allocGro _ _)) (first | (go_at_call 84; refine (sCompare_any (H.out.below (thenBelow HBW.out.bel (heldG (by assumption)))) (H'.out.below (thenBelow HBW.out.bel (heldG (by assumption))))).mono ?_; rintro e w' ⟨rfl, rfl⟩) | (go_at_call 85; refine (cmpCompare_any _ _ _).mono ?_; rintro e w' ⟨rfl, rfl⟩) | (go_at_call 83; refine (cmpOr_two _ (cmpI xs ys) (cmpN c d) _ (new_cell _ _ _ _ rfl) (new_cell _ _ _ _ rfl)).mono ?_; rintro e w' ⟨rfl, rfl⟩))
  have hE := heldF (by assumption : _ ∧ _ ∧ _ ∧ _ ∧ Gro W _)
  go_wp2_with fail
  go_ret
  exact ⟨rfl, HBW.out.trans hE⟩
end Go.Proofs.YtbbglendddepfaaDoor

namespace Go.Proofs.YtbbglendddepfaaDoor
open Go.Sort (SWO PermIn SortedIn sorted_unique_holds)
theorem ordI_neg : ∀ xs ys : List Int, cmpI ys xs = - cmpI xs ys
  | [], [] => rfl
  | [], _ :: _ => rfl
  | _ :: _, [] => rfl
  | x :: xs, y :: ys => by
    simp only [cmpI]
    by_cases h1 : x < y
    · rw [if_neg (by omega), if_pos h1, if_pos h1]; rfl
    · by_cases h2 : y < x
      · rw [if_pos h2, if_neg h1, if_pos h2]
      · rw [if_neg h2, if_neg h1, if_neg h1, if_neg h2]; exact ordI_neg xs ys
theorem ordI_eq : ∀ xs ys : List Int, cmpI xs ys = 0 → xs = ys
  | [], [], _ => rfl
  | [], _ :: _, h => by simp [cmpI] at h
  | _ :: _, [], h => by simp [cmpI] at h
  | x :: xs, y :: ys, h => by
    simp only [cmpI] at h
    by_cases h1 : x < y
    · rw [if_pos h1] at h; omega
    · by_cases h2 : y < x
      · rw [if_neg h1, if_pos h2] at h; omega
      · rw [if_neg h1, if_neg h2] at h
        rw [show x = y by omega, ordI_eq xs ys h]
theorem ordI_trans : ∀ xs ys zs : List Int, cmpI xs ys < 0 → cmpI ys zs < 0 → cmpI xs zs < 0
  | [], [], _, h, _ => by simp [cmpI] at h
  | _ :: _, [], _, h, _ => by simp [cmpI] at h
  | _, _ :: _, [], _, h => by simp [cmpI] at h
  | [], _ :: _, _ :: _, _, _ => by simp [cmpI]
  | x :: xs, y :: ys, z :: zs, h, h' => by
    simp only [cmpI] at h h' ⊢
    by_cases h1 : x < y
    · by_cases h2 : y < z
      · rw [if_pos (by omega)]; omega
      · rw [if_neg h2] at h'
        by_cases h3 : z < y
        · rw [if_pos h3] at h'; omega
        · rw [if_pos (by omega)]; omega
    · rw [if_neg h1] at h
      by_cases h2 : y < x
      · rw [if_pos h2] at h; omega
      · rw [if_neg h2] at h
        by_cases h3 : y < z
        · rw [if_pos (by omega)]; omega
        · rw [if_neg h3] at h'
          by_cases h4 : z < y
          · rw [if_pos h4] at h'; omega
          · rw [if_neg h4] at h'
            rw [if_neg (by omega), if_neg (by omega)]
            exact ordI_trans xs ys zs h h'
theorem ordR_neg (x y : Rw) : cmpR y x = - cmpR x y := by
  unfold cmpR cmpN
  have h := ordI_neg x.1 y.1
  by_cases h0 : cmpI x.1 y.1 = 0
  · have e : cmpI y.1 x.1 = 0 := by omega
    simp only [h0, e, ne_eq, not_true_eq_false, if_false]
    by_cases h1 : x.2 < y.2
    · rw [if_neg (by omega), if_pos h1, if_pos h1]; rfl
    · by_cases h2 : y.2 < x.2
      · rw [if_pos h2, if_neg h1, if_pos h2]
      · rw [if_neg h2, if_neg h1, if_neg h1, if_neg h2]; rfl
  · have e : cmpI y.1 x.1 ≠ 0 := by omega
    rw [if_pos e, if_pos h0]; exact h
theorem ordR_eq (x y : Rw) (h : cmpR x y = 0) : x = y := by
  unfold cmpR cmpN at h
  by_cases h0 : cmpI x.1 y.1 = 0
  · rw [if_neg (by omega)] at h
    by_cases h1 : x.2 < y.2
    · rw [if_pos h1] at h; omega
    · by_cases h2 : y.2 < x.2
      · rw [if_neg h1, if_pos h2] at h; omega
      · exact Prod.ext (ordI_eq _ _ h0) (by omega)
  · rw [if_pos h0] at h; exact absurd h h0
theorem ordR_self (x : Rw) : cmpR x x = 0 := by have := ordR_neg x x; omega
theorem ordR_trans (x y z : Rw) (h : cmpR x y < 0) (h' : cmpR y z < 0) : cmpR x z < 0 := by
  unfold cmpR at h h' ⊢
  by_cases h0 : cmpI x.1 y.1 = 0
  · have e := ordI_eq _ _ h0
    rw [e] at h ⊢
    rw [if_neg (by rw [cmpI_self]; omega)] at h
    by_cases h1 : cmpI y.1 z.1 = 0
    · rw [if_neg (by omega)] at h' ⊢
      unfold cmpN at h h' ⊢
      by_cases a : x.2 < y.2
      · by_cases b : y.2 < z.2
        · rw [if_pos (by omega)]; omega
        · rw [if_neg b] at h'
          split at h' <;> omega
      · rw [if_neg a] at h
        split at h <;> omega
    · rw [if_pos h1] at h' ⊢; exact h'
  · rw [if_pos h0] at h
    by_cases h1 : cmpI y.1 z.1 = 0
    · have e := ordI_eq _ _ h1
      rw [← e, if_pos h0]; exact h
    · rw [if_pos h1] at h'
      have := ordI_trans _ _ _ h h'
      rw [if_pos (by omega)]; exact this
/-- One row ahead of another. -/
def ltR (x y : Rw) : Bool := decide (cmpR x y < 0)
theorem swoR : SWO ltR where
  irrefl x := by unfold ltR; rw [ordR_self]; rfl
  trans x y z h h' := by unfold ltR at *; simp only [decide_eq_true_eq] at *; exact ordR_trans x y z h h'
  ntrans x y z h h' := by
    unfold ltR at *
    simp only [decide_eq_false_iff_not, Int.not_lt] at *
    rcases Int.lt_or_le (cmpR x z) 0 with g | g
    · exfalso
      have n1 := ordR_neg x y
      by_cases e : cmpR x y = 0
      · rw [ordR_eq x y e] at g; omega
      · have := ordR_trans y x z (by omega) g; omega
    · exact g
theorem totR (x y : Rw) (h : ltR x y = false) (h' : ltR y x = false) : x = y := by
  unfold ltR at *
  simp only [decide_eq_false_iff_not, Int.not_lt] at *
  have := ordR_neg x y
  exact ordR_eq x y (by omega)
/-- The rows in their order. -/
def srt (rs : List Rw) : List Rw := rs.mergeSort fun x y => !ltR y x
theorem srt_perm (rs : List Rw) : (srt rs).Perm rs := List.mergeSort_perm _ _
theorem srt_len (rs : List Rw) : (srt rs).length = rs.length := (srt_perm rs).length_eq
/-- Whatever sorts, sorts so. -/
theorem srt_of {α : Type} [Inhabited α] (f : α → Rw) (d d' : Array α) (hp : PermIn 0 d.size d d') (hs : SortedIn (fun x y => ltR (f x) (f y)) 0 d.size d') : d'.toList.map f = srt (d.toList.map f) := by
  obtain ⟨h1, _, h3⟩ := hp
  have e : ∀ a : Array α, (a.map f).size = a.size := fun a => Array.size_map
  have g : ∀ (a : Array α) (i : Nat), i < a.size → (a.map f)[i]! = f a[i]! := fun a i hi => by
    rw [getElem!_pos _ i (by rw [e]; exact hi), getElem!_pos a i hi, Array.getElem_map]
  have := sorted_unique_holds (lt := ltR) swoR totR (d.map f) (d'.map f) ⟨by rw [e, e, h1], fun i hi => ?_, ?_⟩ fun i j h0 hij hj => ?_
  · simpa [srt] using this
  · rw [e] at hi
    rw [getElem!_neg _ i (by rw [e]; omega), getElem!_neg _ i (by rw [e]; omega)]
  · rw [e]
    have h4 : (d'.extract 0 d.size) = d' := by rw [← h1]; simp
    have h5 : (d.extract 0 d.size) = d := by simp
    have h6 : ((d'.map f).extract 0 d.size) = d'.map f := by rw [← h1, ← e d']; simp
    have h7 : ((d.map f).extract 0 d.size) = d.map f := by rw [← e d]; simp
    rw [h6, h7, Array.toList_map, Array.toList_map]
    rw [h4, h5] at h3
    exact h3.map f
  · rw [e] at hj
    rw [g d' i (by omega), g d' j (by omega)]
    exact hs i j h0 hij hj
end Go.Proofs.YtbbglendddepfaaDoor
