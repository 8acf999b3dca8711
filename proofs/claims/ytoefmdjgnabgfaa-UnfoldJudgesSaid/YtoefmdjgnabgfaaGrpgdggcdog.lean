import Derived.ChangeArms
import Derived.ChangeMaps5
import Derived.Test.YtoefmdjgnabgfaaGrpapeoecke
import Derived.Test.YtoefmdjgnabgfaaGrpdaleiikp
import Derived.Test.YtoefmdjgnabgfaaGrpnfmidmgj
import Derived.Test.YtoefmdjgnabgfaaGrpciobdeem
import Derived.Test.YtoefmdjgnabgfaaGrpmklbgajj
set_option linter.all false
namespace Go.Proofs.Ytoefmdjgnabgfaa
open Go.RowKit Go.Deep
namespace Ct
def plB (p : Fm) (c : Cf) : Bool := Rd.belB c.st ((p.states.length : Nat) : Int) && (decide (0 ≤ c.cor) && decide (c.cor ≤ ((c.st.length : Nat) : Int)))
def bump (L : List Int) (x : Int) : List Int := L.set x.toNat (L.getD x.toNat 0 + 1)
def cnt (S : Nat) (xs : List Int) : List Int := xs.foldl bump (List.replicate S 0)
theorem app_at {A B : List Int} {i : Nat} (h : i < A.length) : ((A ++ B).map iv)[i * 1]? = some (iv A[i]) := by
  rw [Nat.mul_one]
  rw [List.getElem?_map, List.getElem?_append_left h, List.getElem?_eq_getElem h]
  rfl
def two (sh A B se fa : List Int) (val : Int) : Cf := ⟨sh, A ++ B, ((A.length : Nat) : Int), se, fa, val⟩
theorem pl_two {p : Fm} {c : Cf} (h : plB p c = true) : ∃ sh A B se fa val, c = two sh A B se fa val := by
  obtain ⟨sh, st, cor, se, fa, val⟩ := c
  unfold plB at h
  simp only [Bool.and_eq_true, decide_eq_true_eq] at h
  obtain ⟨_, h1, h2⟩ := h
  refine ⟨sh, st.take cor.toNat, st.drop cor.toNat, se, fa, val, ?_⟩
  unfold two
  rw [List.take_append_drop, List.length_take, Nat.min_eq_left (by omega), Int.toNat_of_nonneg h1]
theorem row_at {L : List Int} {i : Nat} (h : i < L.length) : (L.map iv)[i * 1]? = some (iv (L.getD i 0)) := by
  rw [Nat.mul_one, List.getElem?_map, List.getD_eq_getElem?_getD, List.getElem?_eq_getElem h]
  rfl
theorem getD_at {L : List Int} {i : Nat} (h : i < L.length) : L.getD i 0 = L[i] := by
  rw [List.getD_eq_getElem?_getD, List.getElem?_eq_getElem h]; rfl
def srt (xs : List Int) : List Int := xs.mergeSort fun x y => decide (x ≤ y)
theorem srt_perm (xs : List Int) : (srt xs).Perm xs := List.mergeSort_perm _ _
theorem srt_pw (xs : List Int) : List.Pairwise (fun a b => a ≤ b) (srt xs) := by
  have := List.pairwise_mergeSort (le := fun x y : Int => decide (x ≤ y)) (fun a b c h1 h2 => by simp at *; omega) (fun a b => by simp; omega) xs
  exact this.imp fun h => by simpa using h
theorem srt_eq {xs L : List Int} (hp : L.Perm xs) (hs : ∀ a b, (h : a < b) → (hb : b < L.length) → L[a] ≤ L[b]) : L = srt xs :=
  List.Perm.eq_of_pairwise (le := fun a b : Int => a ≤ b) (fun a b _ _ h1 h2 => by omega) (List.pairwise_iff_getElem.2 fun i j _ hj hij => hs i j hij hj) (srt_pw xs) (hp.trans (srt_perm xs).symm)
structure Ins (xs L : List Int) (i k : Nat) : Prop where
  perm : L.Perm xs
  le : k ≤ i
  ord : ∀ a b, (h1 : a < b) → b ≤ i → (hb : b < L.length) → a ≠ k → b ≠ k → L[a]'(by omega) ≤ L[b]
  low : ∀ b, (h1 : k < b) → b ≤ i → (hb : b < L.length) → L[k]'(by omega) < L[b]
structure Srd (xs L : List Int) (i : Nat) : Prop where
  perm : L.Perm xs
  ord : ∀ a b, (h1 : a < b) → b < i → (hb : b < L.length) → L[a]'(by omega) ≤ L[b]
theorem Srd.one (xs : List Int) : Srd xs xs 1 := ⟨List.Perm.refl _, fun a b h1 h2 _ => by omega⟩
theorem Ins.out {xs L : List Int} {i k : Nat} (h : Ins xs L i k) (hi : i < L.length) (hk : 0 < k → L[k - 1]'(by have := h.le; omega) ≤ L[k]'(by have := h.le; omega)) : Srd xs L (i + 1) := by
  have hle := h.le
  refine ⟨h.perm, fun a b h1 h2 hb => ?_⟩
  by_cases ea : a = k
  · subst ea; exact Int.le_of_lt (h.low b h1 (by omega) hb)
  by_cases eb : b = k
  · subst eb
    have h3 := hk (by omega)
    by_cases e : a = b - 1
    · subst e; exact h3
    exact Int.le_trans (h.ord a (b - 1) (by omega) (by omega) (by omega) ea (by omega)) h3
  exact h.ord a b h1 (by omega) hb ea eb
def swp (L : List Int) (k : Nat) : List Int := (L.set (k - 1) (L.getD k 0)).set k (L.getD (k - 1) 0)
theorem swp_at {L : List Int} {k j : Nat} (hk : 0 < k) (hj : j < (swp L k).length) (hkl : k < L.length) : (swp L k)[j] = if j = k then L[k - 1] else if j = k - 1 then L[k] else L[j]'(by simpa [swp] using hj) := by
  show ((L.set (k - 1) (L.getD k 0)).set k (L.getD (k - 1) 0))[j]'(by simpa [swp] using hj) = _
  rw [List.getElem_set, List.getElem_set]
  by_cases e : k = j
  · subst e; simp [List.getD_eq_getElem?_getD, List.getElem?_eq_getElem (show k - 1 < L.length by omega)]
  rw [if_neg e, if_neg (Ne.symm e)]
  by_cases e2 : k - 1 = j
  · rw [if_pos e2, if_pos e2.symm]; simp [List.getD_eq_getElem?_getD, List.getElem?_eq_getElem hkl]
  rw [if_neg e2, if_neg (Ne.symm e2)]
theorem swp_perm {L : List Int} {k : Nat} (hkl : k < L.length) : (swp L k).Perm L := by
  have h1 : k - 1 < L.length := by omega
  have := List.set_set_perm h1 hkl
  unfold swp
  rw [List.getD_eq_getElem?_getD, List.getD_eq_getElem?_getD, List.getElem?_eq_getElem hkl, List.getElem?_eq_getElem h1]
  exact this
theorem Ins.step {xs L : List Int} {i k : Nat} (h : Ins xs L i k) (hi : i < L.length) (hk : 0 < k) (hgt : L[k]'(by have := h.le; omega) < L[k - 1]'(by have := h.le; omega)) : Ins xs (swp L k) i (k - 1) := by
  have hle := h.le
  have hkl : k < L.length := by omega
  refine ⟨(swp_perm hkl).trans h.perm, by omega, fun a b h1 h2 hb ha hb' => ?_, fun b h1 h2 hb => ?_⟩
  · have hb2 : b < L.length := by simpa [swp] using hb
    rw [swp_at hk _ hkl, swp_at hk _ hkl]
    by_cases eb : b = k
    · rw [if_neg (by omega), if_neg ha, if_pos eb]
      exact h.ord a (k - 1) (by omega) (by omega) (by omega) (by omega) (by omega)
    rw [if_neg eb, if_neg hb']
    by_cases ea : a = k
    · rw [if_pos ea]
      exact h.ord (k - 1) b (by omega) h2 hb2 (by omega) eb
    rw [if_neg ea, if_neg ha]
    exact h.ord a b h1 h2 hb2 ea eb
  have hb2 : b < L.length := by simpa [swp] using hb
  rw [swp_at hk _ hkl, swp_at hk _ hkl]
  rw [if_neg (by omega), if_pos rfl]
  by_cases eb : b = k
  · rw [if_pos eb]; exact hgt
  rw [if_neg eb, if_neg (by omega)]
  exact h.low b (by omega) h2 hb2
theorem Srd.eq {xs L : List Int} {i : Nat} (h : Srd xs L i) (hi : L.length ≤ i) : L = srt xs := srt_eq h.perm fun a b h1 hb => h.ord a b h1 (by omega) hb
end Ct
end Go.Proofs.Ytoefmdjgnabgfaa

namespace Go.Proofs.Ytoefmdjgnabgfaa
open Go.RowKit Go.Deep
abbrev Rw := List Int × Int
def IsRows (lo : Nat) (w : World) (v : Value) (rs : List Rw) : Prop :=
  ∃ (a : Option Addr) (cap : Nat), v = .slice a rs.length cap ∧ rs.length ≤ cap ∧ cap ≤ maxLen ∧
    (rs = [] ∨ ∃ b off, a = some ⟨b, off, none⟩ ∧ lo ≤ b ∧ b < w.heap.size ∧
      ∀ i (hi : i < rs.length), ∃ sv, w.cell? ⟨b, off + i * 2, none⟩ = some sv ∧ w.cell? ⟨b, off + i * 2 + 1, none⟩ = some (.int .i64 rs[i].2) ∧ IsInts lo w sv rs[i].1 ∧ I64 rs[i].2)
theorem IsRows.below {lo : Nat} {w w' : World} {v : Value} {rs : List Rw} (h : IsRows lo w v rs) (hb : Below w.heap.size w w') : IsRows lo w' v rs := by
  obtain ⟨a, cap, hv, hl, hm, hc⟩ := h
  refine ⟨a, cap, hv, hl, hm, ?_⟩
  rcases hc with hc | ⟨b, off, ha, hlo, hbk, hcell⟩
  · exact .inl hc
  refine .inr ⟨b, off, ha, hlo, Nat.lt_of_lt_of_le hbk hb.size, fun i hi => ?_⟩
  obtain ⟨sv, h1, h2, h3, h4⟩ := hcell i hi
  exact ⟨sv, (hb.cell (p := ⟨b, off + i * 2, none⟩) hbk).trans h1, (hb.cell (p := ⟨b, off + i * 2 + 1, none⟩) hbk).trans h2, h3.below hb, h4⟩
theorem IsRows.mono {lo lo' : Nat} {w : World} {v : Value} {rs : List Rw} (h : IsRows lo w v rs) (hl : lo' ≤ lo) : IsRows lo' w v rs := by
  obtain ⟨a, cap, hv, h1, hm, hc⟩ := h
  refine ⟨a, cap, hv, h1, hm, ?_⟩
  rcases hc with hc | ⟨b, off, ha, hlo, hbk, r⟩
  · exact .inl hc
  exact .inr ⟨b, off, ha, Nat.le_trans hl hlo, hbk, fun i hi => by obtain ⟨sv, h1, h2, h3, h4⟩ := r i hi; exact ⟨sv, h1, h2, h3.mono hl, h4⟩⟩
theorem IsRows.shape {lo : Nat} {w : World} {v : Value} {rs : List Rw} (h : IsRows lo w v rs) : ∃ a cap, v = .slice a rs.length cap := by
  obtain ⟨a, cap, hv, _⟩ := h
  exact ⟨a, cap, hv⟩
theorem IsRows.bound {lo : Nat} {w : World} {v : Value} {rs : List Rw} (h : IsRows lo w v rs) : rs.length ≤ 9223372036854775807 := by
  obtain ⟨a, cap, _, h1, hm, _⟩ := h
  unfold maxLen at hm; omega
theorem IsRows.at {lo : Nat} {w : World} {a : Option Addr} {n cap : Nat} {rs : List Rw} (h : IsRows lo w (.slice a n cap) rs) (k : Nat) (hk : k < rs.length) :
    ∃ b off sv, a = some ⟨b, off, none⟩ ∧ b < w.heap.size ∧ w.cell? ⟨b, off + k * 2, none⟩ = some sv ∧ w.cell? ⟨b, off + k * 2 + 1, none⟩ = some (.int .i64 rs[k].2) ∧ IsInts lo w sv rs[k].1 ∧ I64 rs[k].2 := by
  obtain ⟨a', cap', hv, _, _, hc⟩ := h
  simp only [Value.slice.injEq] at hv
  rcases hc with rfl | ⟨b, off, ha, _, hb, hc⟩
  · simp at hk
  obtain ⟨sv, h1, h2, h3, h4⟩ := hc k hk
  exact ⟨b, off, sv, hv.1.trans ha, hb, h1, h2, h3, h4⟩
end Go.Proofs.Ytoefmdjgnabgfaa

namespace Go.Proofs.Ytoefmdjgnabgfaa
open Go.RowKit Go.Deep
end Go.Proofs.Ytoefmdjgnabgfaa

namespace Go.Proofs.Ytoefmdjgnabgfaa
open Go.RowKit Go.Deep
structure Pq where
  nm : ByteArray
  kind : Int
  start : List Int
  bad : List Rw
  adj : List Int
  goal : List Int
def IsProp (lo : Nat) (w : World) (v : Value) (q : Pq) : Prop :=
  ∃ v2 v3 v4 v5, v = .agg #[.string q.nm, .int .i64 q.kind, v2, v3, v4, v5] ∧ IsInts lo w v2 q.start ∧ IsRows lo w v3 q.bad ∧ IsInts lo w v4 q.adj ∧ IsInts lo w v5 q.goal ∧ q.nm.size ≤ maxLen ∧ I64 q.kind
theorem IsProp.below {lo : Nat} {w w' : World} {v : Value} {q : Pq} (h : IsProp lo w v q) (hb : Below w.heap.size w w') : IsProp lo w' v q := by
  obtain ⟨v2, v3, v4, v5, e, h2, h3, h4, h5, h6⟩ := h
  exact ⟨v2, v3, v4, v5, e, h2.below hb, h3.below hb, h4.below hb, h5.below hb, h6⟩
theorem IsProp.mono {lo lo' : Nat} {w : World} {v : Value} {q : Pq} (h : IsProp lo w v q) (hl : lo' ≤ lo) : IsProp lo' w v q := by
  obtain ⟨v2, v3, v4, v5, e, h2, h3, h4, h5, h6⟩ := h
  exact ⟨v2, v3, v4, v5, e, h2.mono hl, h3.mono hl, h4.mono hl, h5.mono hl, h6⟩
end Go.Proofs.Ytoefmdjgnabgfaa

namespace Go.Proofs.Ytoefmdjgnabgfaa
open Go.RowKit Go.Deep Go.ChangeShapes Go.WideShapes Go.ChangeAt Go.Joins
theorem cells_string : Try.prog.cellsOf 9 = 1 := by kernel_rfl
theorem cells_prop : Try.prog.cellsOf 30 = 6 := by kernel_rfl
theorem cells_ints : Try.prog.cellsOf 24 = 1 := by kernel_rfl
theorem cells_row : Try.prog.cellsOf 53 = 2 := by kernel_rfl
theorem cells_rows : Try.prog.cellsOf 28 = 1 := by kernel_rfl
section
variable {H : Type} {enc : TypeId × Value → H} {w : World} {base : Nat} {sp : Nat → Bool} {held : Bool}
set_option maxRecDepth 100000 in
theorem row_of_trod {n : Nat} {cs : List Value} {x : DataW H × List MemPlace} (h : DataW.trod enc Try.prog w base sp held n 53 cs = some x) :
    ∃ v c xs, cs = [v, .int .i64 c] ∧ IsInts 0 w v xs ∧ I64 c := by
  obtain ⟨ys, m, _, _, hlen, _, hf⟩ := DataW.trod_struct Try.underlying53 h
  rw [cells_row] at hlen
  match cs, hlen with
  | [v0, v1], _ =>
    have h0 : DataW.trod enc Try.prog w base sp held m 24 (([v0, v1].drop 0).take (Try.prog.cellsOf 24)) = ys[0]? := hf 0 _ rfl
    have h1 : DataW.trod enc Try.prog w base sp held m 3 (([v0, v1].drop 1).take (Try.prog.cellsOf 3)) = ys[1]? := hf 1 _ rfl
    rw [cells_ints] at h0
    rw [Ye] at h1
    simp only [List.drop_zero, List.take_succ_cons, List.take_zero] at h0
    simp only [List.drop_succ_cons, List.drop_zero, List.take_succ_cons, List.take_zero] at h1
    have hx : ∀ i, i < 2 → ∃ y, ys[i]? = some y := fun i hi => ⟨ys[i]'(by simp at *; omega), List.getElem?_eq_getElem _⟩
    obtain ⟨y0, e0⟩ := hx 0 (by omega)
    obtain ⟨y1, e1⟩ := hx 1 (by omega)
    rw [e0] at h0
    rw [e1] at h1
    obtain ⟨xs, hxs⟩ := Yf Try.underlying24 Try.underlying3 Ye h0
    obtain ⟨c, rfl, hc⟩ := Yh h1
    exact ⟨v0, c, xs, rfl, hxs, hc⟩
end
end Go.Proofs.Ytoefmdjgnabgfaa

namespace Go.Proofs.Ytoefmdjgnabgfaa
open Go.RowKit Go.Deep
def longC (bad : List Rw) (k : Nat) : Bool := (bad.take k).any fun r => decide (60 < r.1.length)
theorem longC_succ {bad : List Rw} {k : Nat} (h : k < bad.length) (hk : longC bad k = false) (hp : ¬ 60 < bad[k].1.length) : longC bad (k + 1) = false := by
  unfold longC at *; rw [List.take_succ_eq_append_getElem h, List.any_append, hk]; simp; omega
theorem longC_yes {bad : List Rw} {k : Nat} (h : k < bad.length) (hp : 60 < bad[k].1.length) : longC bad bad.length = true := by
  unfold longC; rw [List.take_length, List.any_eq_true]; exact ⟨bad[k], List.getElem_mem h, by simpa using hp⟩
def bigQ (q : Pq) : Bool := decide (500 < q.nm.size) || decide (60 < q.start.length) || decide (60 < q.bad.length) || decide (60 < q.adj.length) || decide (60 < q.goal.length) || longC q.bad q.bad.length
set_option maxHeartbeats 3200000 in
theorem BigProperty_any {lo : Nat} {w : World} {v : Value} {q : Pq} (h : IsProp lo w v q) :
    Calls Try.prog 6 #[v] w fun e w' => e = .returned (.bool (bigQ q)) ∧ Below w.heap.size w w' := by
  obtain ⟨v2, v3, v4, v5, rfl, H2, H3, H4, H5, hnm, _⟩ := h
  obtain ⟨nm, kind, start, bad, adj, goal⟩ := q
  dsimp only at H2 H3 H4 H5 hnm ⊢
  obtain ⟨a0, c0, rfl⟩ := H2.shape
  obtain ⟨a1, c1, rfl⟩ := H3.shape
  obtain ⟨a2, c2, rfl⟩ := H4.shape
  obtain ⟨a3, c3, rfl⟩ := H5.shape
  have GH3 := Lib.hid H3
  have E : Hid (bigQ ⟨nm, kind, start, bad, adj, goal⟩ = (decide (500 < nm.size) || decide (60 < start.length) || decide (60 < bad.length) || decide (60 < adj.length) || decide (60 < goal.length) || longC bad bad.length)) := (rfl : bigQ _ = _)
  unfold maxLen at hnm
  clear H2 H3 H4 H5
  by_cases t0 : 500 < nm.size
  · have i0 : (500 : Int) < (nm.size : Nat) := by omega
    go_enter Try.func6, Try.ntmps6
    go_wp2_with fail
    go_ret
    exact ⟨Zl (by rw [E.out, decide_eq_true t0]; simp), Zg _ _⟩
  have i0 : ¬ (500 : Int) < (nm.size : Nat) := by omega
  by_cases t1 : 60 < start.length
  · have i1 : (60 : Int) < (start.length : Nat) := by omega
    go_enter Try.func6, Try.ntmps6
    go_wp2_with fail
    go_ret
    exact ⟨Zl (by rw [E.out, decide_eq_true t1]; simp), Zg _ _⟩
  have i1 : ¬ (60 : Int) < (start.length : Nat) := by omega
  by_cases t2 : 60 < bad.length
  · have i2 : (60 : Int) < (bad.length : Nat) := by omega
    go_enter Try.func6, Try.ntmps6
    go_wp2_with fail
    go_ret
    exact ⟨Zl (by rw [E.out, decide_eq_true t2]; simp), Zg _ _⟩
  have i2 : ¬ (60 : Int) < (bad.length : Nat) := by omega
  by_cases t3 : 60 < adj.length
  · have i3 : (60 : Int) < (adj.length : Nat) := by omega
    go_enter Try.func6, Try.ntmps6
    go_wp2_with fail
    go_ret
    exact ⟨Zl (by rw [E.out, decide_eq_true t3]; simp), Zg _ _⟩
  have i3 : ¬ (60 : Int) < (adj.length : Nat) := by omega
  by_cases t4 : 60 < goal.length
  · have i4 : (60 : Int) < (goal.length : Nat) := by omega
    go_enter Try.func6, Try.ntmps6
    go_wp2_with fail
    go_ret
    exact ⟨Zl (by rw [E.out, decide_eq_true t4]; simp), Zg _ _⟩
  have i4 : ¬ (60 : Int) < (goal.length : Nat) := by omega
  have E' := Lib.hid (show bigQ ⟨nm, kind, start, bad, adj, goal⟩ = longC bad bad.length by rw [E.out, decide_eq_false t0, decide_eq_false t1, decide_eq_false t2, decide_eq_false t3, decide_eq_false t4]; rfl)
  clear E
  go_enter Try.func6, Try.ntmps6
  go_wp2_with fail
  obtain ⟨W, hW⟩ : ∃ W, W = w.alloc (.cells #[.string nm, .int .i64 kind, .slice a0 start.length c0, .slice a1 bad.length c1, .slice a2 adj.length c2, .slice a3 goal.length c3] 30) := ⟨_, rfl⟩
  rw [← hW]
  have HA3 := Lib.hid (show W.cell? ⟨w.heap.size, 3, none⟩ = some (.slice a1 bad.length c1) by rw [hW]; exact (ZK _ _ _ 3 rfl).trans rfl)
  have HBW := Lib.hid (show Below w.heap.size w W by rw [hW]; exact Zg _ _)
  clear hW
  have A3 : W.cell? ⟨w.heap.size, 3, none⟩ = some (.slice a1 bad.length c1) := HA3.out
  go_loop [3] (fun v => ∃ k : Nat, k ≤ bad.length ∧ v = .int .i64 k ∧ longC bad k = false) (fun v => bad.length - (intOf v).toNat)
  case atStart => exact ⟨0, Nat.zero_le _, rfl, rfl⟩
  case round =>
    obtain ⟨k, hk, rfl, hs⟩ := hrel
    have HS := Lib.hid hs
    clear hs
    by_cases h1 : k < bad.length
    · obtain ⟨b, off, sv, rfl, hb, q1, q2, q3, _⟩ := GH3.out.at k h1
      obtain ⟨x1, d1, rfl⟩ := q3.shape
      have g1 := keep1 q1 HBW.out
      by_cases h2 : 60 < (bad[k]'h1).1.length
      · have h2' : (60 : Int) < (((bad[k]'h1).1.length : Nat) : Int) := by omega
        go_wp2_with fail
        go_ret
        exact ⟨Zl (by rw [E'.out, longC_yes h1 h2]), HBW.out⟩
      have h2' : ¬ (60 : Int) < (((bad[k]'h1).1.length : Nat) : Int) := by omega
      go_wp2_with fail
      go_round
      case rel => exact ⟨k + 1, by omega, by go_num, longC_succ h1 HS.out h2⟩
      case measure => simp [intOf]; omega
    go_wp2_with fail
    go_ret
    exact ⟨Zl (by rw [E'.out]; have : k = bad.length := by omega
                  rw [← this, HS.out]), HBW.out⟩
end Go.Proofs.Ytoefmdjgnabgfaa

namespace Go.Proofs.Ytoefmdjgnabgfaa
open Go.RowKit Go.Deep Go.ChangeShapes Go.WideShapes Go.ChangeAt Go.Joins
def RwEl (lo : Nat) (w : World) (cs : List Value) (r : Rw) : Prop := ∃ v, cs = [v, .int .i64 r.2] ∧ IsInts lo w v r.1 ∧ I64 r.2
def IsPropX (lo : Nat) (w : World) (v : Value) (q : Pq) : Prop :=
  ∃ v2 v3 v4 v5, v = .agg #[.string q.nm, .int .i64 q.kind, v2, v3, v4, v5] ∧ IsInts lo w v2 q.start ∧ IsSl 2 RwEl lo w v3 q.bad ∧ IsInts lo w v4 q.adj ∧ IsInts lo w v5 q.goal ∧ q.nm.size ≤ maxLen ∧ I64 q.kind
section
variable {H : Type} {enc : TypeId × Value → H} {w : World} {base : Nat} {sp : Nat → Bool} {held : Bool}
theorem rw_of_trod {n : Nat} {cs : List Value} {x : DataW H × List MemPlace} (h : DataW.trod enc Try.prog w base sp held n 53 cs = some x) : ∃ r, RwEl 0 w cs r := by
  obtain ⟨v, c, xs, e, h1, h2⟩ := row_of_trod h
  exact ⟨(xs, c), v, e, h1, h2⟩
set_option maxRecDepth 100000 in
theorem propx_of_trod {n : Nat} {cs : List Value} {x : DataW H × List MemPlace} (h : DataW.trod enc Try.prog w base sp held n 30 cs = some x) :
    ∃ v q, v = .agg cs.toArray ∧ IsPropX 0 w v q := by
  obtain ⟨ys, m, _, _, hlen, _, hf⟩ := DataW.trod_struct Try.underlying30 h
  rw [cells_prop] at hlen
  match cs, hlen with
  | [v0, v1, v2, v3, v4, v5], _ =>
    have h0 : DataW.trod enc Try.prog w base sp held m 9 (([v0, v1, v2, v3, v4, v5].drop 0).take (Try.prog.cellsOf 9)) = ys[0]? := hf 0 _ rfl
    rw [cells_string] at h0
    have h1 : DataW.trod enc Try.prog w base sp held m 3 (([v0, v1, v2, v3, v4, v5].drop 1).take (Try.prog.cellsOf 3)) = ys[1]? := hf 1 _ rfl
    rw [Ye] at h1
    have h2 : DataW.trod enc Try.prog w base sp held m 24 (([v0, v1, v2, v3, v4, v5].drop 2).take (Try.prog.cellsOf 24)) = ys[2]? := hf 2 _ rfl
    rw [cells_ints] at h2
    have h3 : DataW.trod enc Try.prog w base sp held m 28 (([v0, v1, v2, v3, v4, v5].drop 3).take (Try.prog.cellsOf 28)) = ys[3]? := hf 3 _ rfl
    rw [cells_rows] at h3
    have h4 : DataW.trod enc Try.prog w base sp held m 24 (([v0, v1, v2, v3, v4, v5].drop 4).take (Try.prog.cellsOf 24)) = ys[4]? := hf 4 _ rfl
    rw [cells_ints] at h4
    have h5 : DataW.trod enc Try.prog w base sp held m 24 (([v0, v1, v2, v3, v4, v5].drop 5).take (Try.prog.cellsOf 24)) = ys[5]? := hf 5 _ rfl
    rw [cells_ints] at h5
    simp only [List.drop_zero, List.take_succ_cons, List.take_zero] at h0
    simp only [List.drop_succ_cons, List.drop_zero, List.take_succ_cons, List.take_zero] at h1 h2 h3 h4 h5
    have hx : ∀ i, i < 6 → ∃ y, ys[i]? = some y := fun i hi => ⟨ys[i]'(by simp at *; omega), List.getElem?_eq_getElem _⟩
    obtain ⟨y0, e0⟩ := hx 0 (by omega)
    rw [e0] at h0
    obtain ⟨y1, e1⟩ := hx 1 (by omega)
    rw [e1] at h1
    obtain ⟨y2, e2⟩ := hx 2 (by omega)
    rw [e2] at h2
    obtain ⟨y3, e3⟩ := hx 3 (by omega)
    rw [e3] at h3
    obtain ⟨y4, e4⟩ := hx 4 (by omega)
    rw [e4] at h4
    obtain ⟨y5, e5⟩ := hx 5 (by omega)
    rw [e5] at h5
    obtain ⟨nm, hs, _, hnm⟩ := DataW.trod_string Try.underlying9 h0
    simp at hs
    subst hs
    obtain ⟨kind, rfl, hk⟩ := Yh h1
    obtain ⟨start, H2⟩ := Yf Try.underlying24 Try.underlying3 Ye h2
    obtain ⟨bad, H3⟩ := Kh Try.underlying28 cells_row (by omega) (fun _ _ _ hh _ => rw_of_trod hh) h3
    obtain ⟨adj, H4⟩ := Yf Try.underlying24 Try.underlying3 Ye h4
    obtain ⟨goal, H5⟩ := Yf Try.underlying24 Try.underlying3 Ye h5
    exact ⟨_, ⟨nm, kind, start, bad, adj, goal⟩, rfl, v2, v3, v4, v5, rfl, H2, H3, H4, H5, hnm, hk⟩
end
set_option maxRecDepth 100000 in
theorem arg_propx {H : Type} {enc : TypeId × Value → H} {w : World} {r : Reach} {b0 : Nat} {v : Value} {d : DataW H} {p : List MemPlace} (hv : Value.okWide Try.prog w r b0 30 v) (h : DataW.Trod enc Try.prog w 0 (fun _ => true) true 30 v d p) :
    ∃ q, IsPropX 0 w v q := by
  obtain ⟨cs, rfl, _⟩ := okWide_struct Try.underlying30 hv
  obtain ⟨fuel, hf⟩ := h
  obtain ⟨v', q, e, hq⟩ := propx_of_trod hf
  have e2 : v' = .agg cs := by rw [e]; simp [Value.cells]
  exact ⟨q, e2 ▸ hq⟩
def cRw (r : Rw) : List AV := [Ze r.1, iv r.2]
theorem lenRw (r : Rw) : (cRw r).length = 2 := rfl
def cPq (q : Pq) : List AV := [sv q.nm, iv q.kind, Ze q.start, slA 2 cRw q.bad, Ze q.adj, Ze q.goal]
theorem plain_rw (r : Rw) : ∀ X ∈ cRw r, Plain X := by
  intro X hX; simp only [cRw, List.mem_cons, List.not_mem_nil, or_false] at hX
  rcases hX with rfl | rfl
  · exact Z5 _
  exact .v _
theorem Yr (q : Pq) : ∀ X ∈ cPq q, Plain X := by
  intro X hX; simp only [cPq, List.mem_cons, List.not_mem_nil, or_false] at hX
  rcases hX with rfl | rfl | rfl | rfl | rfl | rfl <;> first | exact .v _ | exact Z5 _ | exact plain_sl plain_rw _
structure PqOk (q : Pq) : Prop where
  nm : q.nm.size ≤ maxLen
  kind : I64 q.kind
  start : InOk q.start
  bad : ∀ r ∈ q.bad, InOk r.1 ∧ I64 r.2 ∧ r.1.length ≤ 9223372036854775807
  adj : InOk q.adj
  goal : InOk q.goal
  lstart : q.start.length ≤ 9223372036854775807
  lbad : q.bad.length ≤ 9223372036854775807
  ladj : q.adj.length ≤ 9223372036854775807
  lgoal : q.goal.length ≤ 9223372036854775807
theorem IsPropX.ok {lo : Nat} {w : World} {v : Value} {q : Pq} (h : IsPropX lo w v q) : PqOk q := by
  obtain ⟨v2, v3, v4, v5, _, h2, h3, h4, h5, h6, h7⟩ := h
  exact ⟨h6, h7, h2.ok, h3.all fun cs r hr => by obtain ⟨v, _, a, b⟩ := hr; exact ⟨a.ok, b, a.len⟩, h4.ok, h5.ok, h2.len, h3.bound, h4.len, h5.len⟩
section
variable {F ok : Nat → Prop} {lo : Nat} {w : World}
theorem prop_pu (hok : ∀ b, lo ≤ b → b < w.heap.size → ok b) {v : Value} {q : Pq} (h : IsPropX lo w v q) : Pu F w ok (.agg (cPq q)) v := by
  obtain ⟨v2, v3, v4, v5, rfl, h2, h3, h4, h5, _, _⟩ := h
  refine .agg rfl fun j hj => ?_
  match j, hj with
  | 0, _ => exact .v _
  | 1, _ => exact .v _
  | 2, _ => exact YZ hok h2
  | 3, _ =>
    refine sl_pu lenRw hok (fun r vs hr j hj => ?_) h3
    obtain ⟨v, rfl, a, _⟩ := hr
    match j, hj with
    | 0, _ => exact YZ hok a
    | 1, _ => exact .v _
  | 4, _ => exact YZ hok h4
  | 5, _ => exact YZ hok h5
theorem cells2 {vs : List Value} (h : vs.length = 2) : vs = [vs.getD 0 undef, vs.getD 1 undef] := by
  match vs, h with
  | [_, _], _ => rfl
theorem prop_of {q : Pq} {v : Value} (hq : PqOk q) (hlo : ∀ b, ok b → lo ≤ b) (h : Pu F w ok (.agg (cPq q)) v) : IsProp lo w v q := by
  obtain ⟨vs, rfl, hl, h⟩ := agg_cells h
  have hz : (cPq q).length = 6 := rfl
  have h3 : IsSl 2 RwEl lo w (vs.getD 3 undef) q.bad := pu_slm lenRw hlo (fun r => InOk r.1 ∧ I64 r.2) (fun r hr => ⟨(hq.bad r hr).1, (hq.bad r hr).2.1⟩) (fun r ws hr hl hp => ⟨ws.getD 0 undef, by
    have e := cells2 hl
    rw [show ws.getD 1 undef = .int .i64 r.2 from (hp 1 (by rw [lenRw]; omega)).v_inv] at e
    exact e, YA hr.1 hlo (hp 0 (by rw [lenRw]; omega)), hr.2⟩) (h 3 (by omega))
  have h3' : IsRows lo w (vs.getD 3 undef) q.bad := by
    obtain ⟨a, cap, hv, a1, a2, a3, a4⟩ := h3
    refine ⟨a, cap, hv, a1, a2, ?_⟩
    rcases a4 with a4 | ⟨b, off, b1, b2, b3, b4⟩
    · exact .inl a4
    refine .inr ⟨b, off, b1, b2, b3, fun i hi => ?_⟩
    obtain ⟨cs, c1, c2, v, rfl, c4, c5⟩ := b4 i hi
    exact ⟨v, (c2 0 (by omega)), (c2 1 (by omega)), c4, c5⟩
  refine ⟨vs.getD 2 undef, vs.getD 3 undef, vs.getD 4 undef, vs.getD 5 undef, ?_, YA hq.start hlo (h 2 (by omega)), h3', YA hq.adj hlo (h 4 (by omega)), YA hq.goal hlo (h 5 (by omega)), hq.nm, hq.kind⟩
  have e := cells6 (hl.trans hz)
  rw [show vs.getD 0 undef = .string q.nm from (h 0 (by omega)).v_inv, show vs.getD 1 undef = .int .i64 q.kind from (h 1 (by omega)).v_inv] at e
  exact congrArg (fun l : List Value => Value.agg l.toArray) e
end
section
variable {J : World → Prop}
theorem BigProperty_c {q : Pq} (hq : PqOk q) : Ctr Try.prog J 6 [.agg (cPq q)] (bv (bigQ q)) := ctr1 fun w v _ h => (BigProperty_any (prop_of hq lo0 h)).mono fun _ _ => ret_sc
theorem setError_c (n : Nat) (hn : n ≤ 9223372036854775807) (xs : List Int) (hx : InOk xs) : Ctr Try.prog J 50 [Ze xs, iv n] (iv (setE n xs)) := ctr2 fun w v v' _ h h' => by
  rw [h'.v_inv]; exact (Yy n hn (YA hx lo0 h)).mono fun _ _ => ret_sc
theorem KP (n : Nat) (hn : n ≤ 9223372036854775807) (xs : List Int) (hx : InOk xs) : Ctr Try.prog J 49 [Ze xs, iv n] (iv (someE n xs)) := ctr2 fun w v v' _ h h' => by
  rw [h'.v_inv]; exact (Kr n hn (YA hx lo0 h)).mono fun _ _ => ret_sc
theorem between_c (n lo hi : Int) : Ctr Try.prog J 42 [iv n, iv lo, iv hi] (bv (inB lo hi n)) := ctr3 fun w v v' v'' _ h h' h'' => by
  rw [h.v_inv, h'.v_inv, h''.v_inv]; exact (Yq n lo hi w).mono fun _ _ => ret_eq
theorem isIndex_c (x : Int) (n : Nat) (hn : n ≤ 9223372036854775807) : Ctr Try.prog J 74 [iv x, iv n] (bv (ixB n x)) := ctr2 fun w v v' _ h h' => by
  rw [h.v_inv, h'.v_inv]; exact (ZS x n hn w).mono fun _ _ => ret_eq
theorem qValidName_c (s : ByteArray) (hs : s.size ≤ maxLen) : Ctr Try.prog J 41 [sv s] (bv (nameB s.toList)) := ctr1 fun w v _ h => by
  rw [h.v_inv]; exact (Yx s w hs).mono fun _ _ => ret_sc
end
end Go.Proofs.Ytoefmdjgnabgfaa

namespace Go.Proofs.Ytoefmdjgnabgfaa
open Go.RowKit Go.Deep
def noI (xs : List Int) (x : Int) (k : Nat) : Prop := ∀ j (h : j < xs.length), j < k → xs[j] ≠ x
theorem noI_zero (xs : List Int) (x : Int) : noI xs x 0 := fun _ _ h => absurd h (by omega)
theorem noI_succ {xs : List Int} {x : Int} {k : Nat} (hk : k < xs.length) (h : noI xs x k) (e : ¬ x = xs[k]) : noI xs x (k + 1) := fun j hj h' => by
  by_cases c : j = k
  · subst c; exact fun h => e h.symm
  exact h j hj (by omega)
theorem noI_succ' {xs : List Int} {x : Int} {k : Nat} (hk : k < xs.length) (h : noI xs x k) (e : ¬ xs[k] = x) : noI xs x (k + 1) := noI_succ hk h (fun c => e c.symm)
def idxI (xs : List Int) (x : Int) : Int := if x ∈ xs then ((xs.findIdx (· == x) : Nat) : Int) else -1
theorem idx_yes {xs : List Int} {x : Int} {k : Nat} (hk : k < xs.length) (h : noI xs x k) (e : x = xs[k]) : ((k : Nat) : Int) = idxI xs x := by
  have hm : x ∈ xs := by rw [e]; exact List.getElem_mem hk
  have : xs.findIdx (· == x) = k := (List.findIdx_eq hk).2 ⟨by simp [← e], fun j hj => by simpa using h j (by omega) hj⟩
  unfold idxI; rw [if_pos hm, this]
theorem has_no {xs : List Int} {x : Int} {k : Nat} (hk : ¬ k < xs.length) (h : noI xs x k) : decide (x ∈ xs) = false := by
  rw [decide_eq_false_iff_not]; intro hm
  obtain ⟨j, hj, e⟩ := List.getElem_of_mem hm
  exact h j hj (by omega) e
theorem has_yes {xs : List Int} {x : Int} {k : Nat} (hk : k < xs.length) (e : xs[k] = x) : decide (x ∈ xs) = true := by
  rw [decide_eq_true_eq, ← e]; exact List.getElem_mem hk
theorem idx_no {xs : List Int} {x : Int} {k : Nat} (hk : ¬ k < xs.length) (h : noI xs x k) : (-1 : Int) = idxI xs x := by
  have := has_no hk h
  unfold idxI; rw [if_neg (by simpa using this)]
theorem idx_has (xs : List Int) (x : Int) : decide (0 ≤ idxI xs x) = decide (x ∈ xs) := by
  unfold idxI
  by_cases h : x ∈ xs
  · rw [if_pos h]; simp [h]
  rw [if_neg h]; simp [h]
def subB (init xs : List Int) (k : Nat) : Bool := (xs.take k).all fun x => decide (x ∈ init)
theorem subB_succ {init xs : List Int} {k : Nat} (hk : k < xs.length) (h : subB init xs k = true) (e : decide (xs[k] ∈ init) = true) : subB init xs (k + 1) = true := all_succ hk h e
theorem subB_no {init xs : List Int} {k : Nat} (hk : k < xs.length) (e : decide (xs[k] ∈ init) = false) : subB init xs xs.length = false := by
  unfold subB; rw [List.take_length]; exact all_no hk e
def cntE (n : Nat) (c : Rw) : Int := if setE n c.1 = 0 then (if ((c.1.length : Nat) : Int) = 0 then 1 else if inB 1 3 c.2 = true then 0 else 1) else setE n c.1
def cntsE (n : Nat) : List Rw → Int
  | [] => 0
  | c :: cs => if cntE n c = 0 then cntsE n cs else cntE n c
def cntOk (n : Nat) (cs : List Rw) (k : Nat) : Prop := ∀ j (h : j < cs.length), j < k → cntE n cs[j] = 0
theorem cntOk_zero (n : Nat) (cs : List Rw) : cntOk n cs 0 := fun _ _ h => absurd h (by omega)
theorem cntOk_succ {n : Nat} {cs : List Rw} {k : Nat} (hk : k < cs.length) (h : cntOk n cs k) (e : cntE n cs[k] = 0) : cntOk n cs (k + 1) := fun j hj h' => by
  by_cases c : j = k
  · subst c; exact e
  exact h j hj (by omega)
theorem cnts_first {n : Nat} : ∀ {cs : List Rw} {k : Nat} (hk : k < cs.length), cntOk n cs k → cntE n cs[k] ≠ 0 → cntsE n cs = cntE n cs[k]
  | c :: cs, 0, _, _, e => by
    have e' : ¬ cntE n c = 0 := e
    unfold cntsE; rw [if_neg e']; rfl
  | c :: cs, k + 1, hk, h, e => by
    have h0 : cntE n c = 0 := h 0 (by simp) (by omega)
    unfold cntsE
    rw [if_pos h0]
    exact cnts_first (cs := cs) (k := k) (by simpa using hk) (fun j hj h' => h (j + 1) (by simpa using hj) (by omega)) e
theorem cnts_zero {n : Nat} : ∀ {cs : List Rw}, cntOk n cs cs.length → cntsE n cs = 0
  | [], _ => rfl
  | c :: cs, h => by
    have h0 : cntE n c = 0 := h 0 (by simp) (by simp)
    unfold cntsE
    rw [if_pos h0]
    exact cnts_zero (cs := cs) (fun j hj h' => h (j + 1) (by simpa using hj) (by simpa using h'))
def adjB (n : Nat) (xs : List Int) (k : Nat) : Bool := (xs.take k).all fun x => ixB n x
theorem adjB_succ {n : Nat} {xs : List Int} {k : Nat} (hk : k < xs.length) (h : adjB n xs k = true) (e : ixB n xs[k] = true) : adjB n xs (k + 1) = true := all_succ hk h e
theorem adjB_no {n : Nat} {xs : List Int} {k : Nat} (hk : k < xs.length) (e : ixB n xs[k] = false) : adjB n xs xs.length = false := by
  unfold adjB; rw [List.take_length]; exact all_no hk e
def adjE (p : Fm) (xs : List Int) : Int :=
  if ((xs.length : Nat) : Int) = 0 then 0 else if p.top = 1 then 6 else if ((xs.length : Nat) : Int) = 2 then (if adjB p.states.length xs xs.length = true then 0 else 5) else 1
theorem adj_two {n : Nat} {xs : List Int} (h : ((xs.length : Nat) : Int) = 2) (h0 : ixB n (xs[0]'(by omega)) = true) (h1 : ixB n (xs[1]'(by omega)) = true) : adjB n xs xs.length = true := by
  have : xs.length = 2 := by omega
  match xs, this with
  | [a, b], _ => simp [adjB] at *; exact ⟨h0, h1⟩
def badE (p : Fm) (q : Pq) : Int :=
  if ((q.bad.length : Nat) : Int) = 0 ∧ ((q.adj.length : Nat) : Int) = 0 then 1
  else if (3 : Int) < ((q.bad.length : Nat) : Int) then 4
  else if cntsE p.states.length q.bad = 0 then adjE p q.adj else cntsE p.states.length q.bad
def vp3 (p : Fm) (q : Pq) (z : Int) : Int := if setE p.states.length q.start = 0 then (if subB p.init q.start q.start.length = true then z else 5) else setE p.states.length q.start
def vp2 (p : Fm) (q : Pq) : Int :=
  if q.kind = 1 then (if (0 : Int) < ((q.goal.length : Nat) : Int) then 1 else vp3 p q (badE p q))
  else if q.kind = 2 then (if (0 : Int) < ((q.bad.length : Nat) : Int) then 1 else if (0 : Int) < ((q.adj.length : Nat) : Int) then 1 else vp3 p q (someE p.states.length q.goal)) else 1
def vpE (p : Fm) (q : Pq) : Int := if valE p = 0 then (if nameB q.nm.toList = true then vp2 p q else 2) else valE p
theorem vp_v {p : Fm} {q : Pq} (h : ¬ valE p = 0) : vpE p q = valE p := if_neg h
theorem vp_n {p : Fm} {q : Pq} (h : valE p = 0) (h2 : nameB q.nm.toList = false) : vpE p q = 2 := by unfold vpE; rw [if_pos h, if_neg (by rw [h2]; simp)]
theorem vp_2 {p : Fm} {q : Pq} (h : valE p = 0) (h2 : nameB q.nm.toList = true) : vpE p q = vp2 p q := by unfold vpE; rw [if_pos h, if_pos h2]
theorem v2_k {p : Fm} {q : Pq} (h : ¬ q.kind = 1) (h2 : ¬ q.kind = 2) : vp2 p q = 1 := by unfold vp2; rw [if_neg h, if_neg h2]
theorem v2_g {p : Fm} {q : Pq} (h : q.kind = 1) (h2 : (0 : Int) < ((q.goal.length : Nat) : Int)) : vp2 p q = 1 := by unfold vp2; rw [if_pos h, if_pos h2]
theorem v2_1 {p : Fm} {q : Pq} (h : q.kind = 1) (h2 : ¬ (0 : Int) < ((q.goal.length : Nat) : Int)) : vp2 p q = vp3 p q (badE p q) := by unfold vp2; rw [if_pos h, if_neg h2]
theorem v2_b {p : Fm} {q : Pq} (h : ¬ q.kind = 1) (h2 : q.kind = 2) (h3 : (0 : Int) < ((q.bad.length : Nat) : Int)) : vp2 p q = 1 := by unfold vp2; rw [if_neg h, if_pos h2, if_pos h3]
theorem v2_a {p : Fm} {q : Pq} (h : ¬ q.kind = 1) (h2 : q.kind = 2) (h3 : ¬ (0 : Int) < ((q.bad.length : Nat) : Int)) (h4 : (0 : Int) < ((q.adj.length : Nat) : Int)) : vp2 p q = 1 := by unfold vp2; rw [if_neg h, if_pos h2, if_neg h3, if_pos h4]
theorem v2_2 {p : Fm} {q : Pq} (h : ¬ q.kind = 1) (h2 : q.kind = 2) (h3 : ¬ (0 : Int) < ((q.bad.length : Nat) : Int)) (h4 : ¬ (0 : Int) < ((q.adj.length : Nat) : Int)) : vp2 p q = vp3 p q (someE p.states.length q.goal) := by unfold vp2; rw [if_neg h, if_pos h2, if_neg h3, if_neg h4]
theorem v3_s {p : Fm} {q : Pq} {z : Int} (h : ¬ setE p.states.length q.start = 0) : vp3 p q z = setE p.states.length q.start := if_neg h
theorem v3_i {p : Fm} {q : Pq} {z : Int} (h : setE p.states.length q.start = 0) {k : Nat} (hk : k < q.start.length) (e : decide (q.start[k] ∈ p.init) = false) : vp3 p q z = 5 := by
  unfold vp3; rw [if_pos h, if_neg (by rw [subB_no hk e]; simp)]
theorem v3_z {p : Fm} {q : Pq} {z : Int} (h : setE p.states.length q.start = 0) (e : subB p.init q.start q.start.length = true) : vp3 p q z = z := by
  unfold vp3; rw [if_pos h, if_pos e]
theorem some_e {n : Nat} {xs : List Int} (h : ¬ setE n xs = 0) : someE n xs = setE n xs := by
  unfold someE; rw [if_neg]; intro e; rw [List.eq_nil_of_length_eq_zero e, Kv] at h; exact h rfl
theorem some_l {n : Nat} {xs : List Int} (h : ((xs.length : Nat) : Int) = 0) : someE n xs = 1 := by unfold someE; rw [if_pos (by omega)]
theorem some_0 {n : Nat} {xs : List Int} (h : setE n xs = 0) (h2 : ¬ ((xs.length : Nat) : Int) = 0) : someE n xs = 0 := by unfold someE; rw [if_neg (by omega), h]
theorem bad_0 {p : Fm} {q : Pq} (h : ((q.bad.length : Nat) : Int) = 0) (h2 : ((q.adj.length : Nat) : Int) = 0) : badE p q = 1 := if_pos ⟨h, h2⟩
theorem bad_4 {p : Fm} {q : Pq} (h : ¬ (((q.bad.length : Nat) : Int) = 0 ∧ ((q.adj.length : Nat) : Int) = 0)) (h2 : (3 : Int) < ((q.bad.length : Nat) : Int)) : badE p q = 4 := by unfold badE; rw [if_neg h, if_pos h2]
structure BP (q : Pq) : Prop where
  a : ¬ (((q.bad.length : Nat) : Int) = 0 ∧ ((q.adj.length : Nat) : Int) = 0)
  b : ¬ (3 : Int) < ((q.bad.length : Nat) : Int)
theorem bad_c {p : Fm} {q : Pq} (h : BP q) {k : Nat} (hk : k < q.bad.length) (ho : cntOk p.states.length q.bad k) {u : Int} (e : cntE p.states.length q.bad[k] = u) (hu : u ≠ 0) : badE p q = u := by
  have := cnts_first hk ho (by rw [e]; exact hu)
  unfold badE; rw [if_neg h.a, if_neg h.b, if_neg (by rw [this, e]; exact hu), this, e]
theorem bad_z {p : Fm} {q : Pq} (h : BP q) (ho : cntOk p.states.length q.bad q.bad.length) : badE p q = adjE p q.adj := by
  unfold badE; rw [if_neg h.a, if_neg h.b, if_pos (cnts_zero ho)]
theorem cnt_s {n : Nat} {c : Rw} (h : ¬ setE n c.1 = 0) : cntE n c = setE n c.1 := if_neg h
theorem cnt_l {n : Nat} {c : Rw} (h : setE n c.1 = 0) (h2 : ((c.1.length : Nat) : Int) = 0) : cntE n c = 1 := by unfold cntE; rw [if_pos h, if_pos h2]
theorem cnt_b {n : Nat} {c : Rw} (h : setE n c.1 = 0) (h2 : ¬ ((c.1.length : Nat) : Int) = 0) (h3 : inB 1 3 c.2 = false) : cntE n c = 1 := by unfold cntE; rw [if_pos h, if_neg h2, if_neg (by rw [h3]; simp)]
theorem cnt_0 {n : Nat} {c : Rw} (h : setE n c.1 = 0) (h2 : ¬ ((c.1.length : Nat) : Int) = 0) (h3 : inB 1 3 c.2 = true) : cntE n c = 0 := by unfold cntE; rw [if_pos h, if_neg h2, if_pos h3]
theorem some_ne {n : Nat} {c : Rw} (h : ¬ someE n c.1 = 0) : cntE n c = someE n c.1 := by
  by_cases e : setE n c.1 = 0
  · by_cases l : ((c.1.length : Nat) : Int) = 0
    · rw [cnt_l e l, some_l l]
    exact absurd (some_0 e l) h
  rw [cnt_s e, some_e e]
theorem some_z {n : Nat} {c : Rw} (h : someE n c.1 = 0) : setE n c.1 = 0 ∧ ¬ ((c.1.length : Nat) : Int) = 0 := by
  by_cases l : ((c.1.length : Nat) : Int) = 0
  · rw [some_l l] at h; cases h
  refine ⟨?_, l⟩
  by_cases e : setE n c.1 = 0
  · exact e
  rw [some_e e] at h; exact h
theorem adj_0 {p : Fm} {xs : List Int} (h : ((xs.length : Nat) : Int) = 0) : adjE p xs = 0 := if_pos h
theorem adj_6 {p : Fm} {xs : List Int} (h : ¬ ((xs.length : Nat) : Int) = 0) (h2 : p.top = 1) : adjE p xs = 6 := by unfold adjE; rw [if_neg h, if_pos h2]
theorem adj_1 {p : Fm} {xs : List Int} (h : ¬ ((xs.length : Nat) : Int) = 0) (h2 : ¬ p.top = 1) (h3 : ¬ ((xs.length : Nat) : Int) = 2) : adjE p xs = 1 := by unfold adjE; rw [if_neg h, if_neg h2, if_neg h3]
theorem adj_5 {p : Fm} {xs : List Int} (h : ¬ ((xs.length : Nat) : Int) = 0) (h2 : ¬ p.top = 1) (h3 : ((xs.length : Nat) : Int) = 2) {k : Nat} (hk : k < xs.length) (e : ixB p.states.length xs[k] = false) : adjE p xs = 5 := by
  unfold adjE; rw [if_neg h, if_neg h2, if_pos h3, if_neg (by rw [adjB_no hk e]; simp)]
theorem adj_k {p : Fm} {xs : List Int} (h : ¬ ((xs.length : Nat) : Int) = 0) (h2 : ¬ p.top = 1) (h3 : ((xs.length : Nat) : Int) = 2) (e : adjB p.states.length xs xs.length = true) : adjE p xs = 0 := by
  unfold adjE; rw [if_neg h, if_neg h2, if_pos h3, if_pos e]
end Go.Proofs.Ytoefmdjgnabgfaa

namespace Go.Proofs.Ytoefmdjgnabgfaa
open Go.RowKit Go.Deep
namespace Jd
def prE (p : Fm) (q : Pq) (kd : Int) : Int := if vpE p q = 0 then (if q.kind = kd then 0 else 7) else vpE p q
theorem prE_v {p : Fm} {q : Pq} {kd : Int} (h : ¬ vpE p q = 0) : prE p q kd = vpE p q := if_neg h
theorem prE_k {p : Fm} {q : Pq} {kd : Int} (h : vpE p q = 0) (h2 : ¬ q.kind = kd) : prE p q kd = 7 := by unfold prE; rw [if_pos h, if_neg h2]
theorem prE_o {p : Fm} {q : Pq} {kd : Int} (h : vpE p q = 0) (h2 : q.kind = kd) : prE p q kd = 0 := by unfold prE; rw [if_pos h, if_pos h2]
theorem prE_in {p : Fm} {q : Pq} {kd : Int} (h : prE p q kd = 0) : vpE p q = 0 ∧ q.kind = kd := by
  unfold prE at h
  split at h
  · rename_i hv
    split at h
    · rename_i hk; exact ⟨hv, hk⟩
    cases h
  rename_i hv; exact absurd h hv
def lkF (top : Int) (sh : List Int) (n i : Nat) : Int := if top = 4 then (trun sh sh.length).fi i else (rowL top n i).1
def lkS (top : Int) (sh : List Int) (n i : Nat) : Int := if top = 4 then (trun sh sh.length).se i else (rowL top n i).2.1
def sec (xs : List Int) (y j : Int) : Bool := decide (0 ≤ j) && decide (xs.getD j.toNat 0 = y)
def nxB (top x y : Int) (xs : List Int) (F S : Nat → Int) (i : Nat) : Bool := decide (xs.getD i 0 = x) && (sec xs y (S i) || (decide (top = 4) && sec xs y (F i)))
def adV (top x y : Int) (xs : List Int) (F S : Nat → Int) : Bool := (List.range xs.length).any (nxB top x y xs F S)
def noN (top x y : Int) (xs : List Int) (F S : Nat → Int) (k : Nat) : Prop := ∀ i, i < k → nxB top x y xs F S i = false
section
variable {top x y : Int} {xs : List Int} {F S : Nat → Int} {k : Nat}
theorem noN_zero : noN top x y xs F S 0 := fun _ h => absurd h (by omega)
theorem noN_succ (h : noN top x y xs F S k) (e : nxB top x y xs F S k = false) : noN top x y xs F S (k + 1) := fun i hi => by
  by_cases c : i = k
  · subst c; exact e
  exact h i (by omega)
theorem adV_hit (hk : k < xs.length) (h : nxB top x y xs F S k = true) : adV top x y xs F S = true := List.any_eq_true.2 ⟨k, List.mem_range.2 hk, h⟩
theorem adV_none (hk : xs.length ≤ k) (h : noN top x y xs F S k) : adV top x y xs F S = false := List.any_eq_false.2 fun i hi => by
  have := h i (by have := List.mem_range.1 hi; omega)
  simp [this]
end
def cP (xs l : List Int) : Nat := xs.countP fun x => decide (x ∈ l)
theorem cP_in {xs l : List Int} {k : Nat} (hk : k < xs.length) (h : decide (xs[k] ∈ l) = true) : cP (xs.take (k + 1)) l = cP (xs.take k) l + 1 := by
  unfold cP
  rw [List.take_succ_eq_append_getElem hk, List.countP_append, List.countP_singleton, if_pos h]
theorem cP_out {xs l : List Int} {k : Nat} (hk : k < xs.length) (h : decide (xs[k] ∈ l) = false) : cP (xs.take (k + 1)) l = cP (xs.take k) l := by
  unfold cP
  rw [List.take_succ_eq_append_getElem hk, List.countP_append, List.countP_singleton, if_neg (by rw [h]; simp)]
  rfl
theorem cP_le (xs l : List Int) (k : Nat) : cP (xs.take k) l ≤ k := Nat.le_trans List.countP_le_length (List.length_take_le _ _)
def alB (xs : List Int) (bad : List Rw) : Bool := bad.all fun r => decide (r.2 ≤ ((cP xs r.1 : Nat) : Int))
def upB (xs : List Int) (bad : List Rw) (k : Nat) : Prop := ∀ i (h : i < bad.length), i < k → bad[i].2 ≤ ((cP xs bad[i].1 : Nat) : Int)
theorem upB_zero (xs : List Int) (bad : List Rw) : upB xs bad 0 := fun _ _ h => absurd h (by omega)
theorem upB_succ {xs : List Int} {bad : List Rw} {k : Nat} (hk : k < bad.length) (h : upB xs bad k) (e : ¬ ((cP xs bad[k].1 : Nat) : Int) < bad[k].2) : upB xs bad (k + 1) := fun i hi h' => by
  by_cases c : i = k
  · subst c; omega
  exact h i hi (by omega)
theorem alB_no {xs : List Int} {bad : List Rw} {k : Nat} (hk : k < bad.length) (h : ((cP xs bad[k].1 : Nat) : Int) < bad[k].2) : alB xs bad = false := by
  unfold alB
  rw [List.all_eq_false]
  exact ⟨_, List.getElem_mem hk, by simp; omega⟩
theorem alB_yes {xs : List Int} {bad : List Rw} {k : Nat} (hk : ¬ k < bad.length) (h : upB xs bad k) : alB xs bad = true := by
  unfold alB
  rw [List.all_eq_true]
  intro r hr
  obtain ⟨i, hi, rfl⟩ := List.mem_iff_getElem.1 hr
  exact decide_eq_true (h i hi (by omega))
def adX (q : Pq) : Int := q.adj.getD 0 0
def adY (q : Pq) : Int := q.adj.getD 1 0
def bdV (p : Fm) (q : Pq) (c : Cf) : Bool := alB (c.st.take c.cor.toNat) q.bad && (decide (((q.adj.length : Nat) : Int) = 0) || adV p.top (adX q) (adY q) c.st (lkF p.top c.sh c.st.length) (lkS p.top c.sh c.st.length))
def okB (p : Fm) (c : Cf) : Bool := Ct.plB p c && !(decide (p.top = 4) && !isShp c.sh ((c.st.length : Nat) : Int))
def bdE (p : Fm) (q : Pq) (c : Cf) : Int := if prE p q 1 = 0 then (if okB p c = true then 0 else 1) else prE p q 1
def bdR (p : Fm) (q : Pq) (c : Cf) : Bool := if bdE p q c = 0 then bdV p q c else false
theorem bdE_p {p : Fm} {q : Pq} {c : Cf} (h : ¬ prE p q 1 = 0) : bdE p q c = prE p q 1 := if_neg h
theorem bdE_n {p : Fm} {q : Pq} {c : Cf} (h : prE p q 1 = 0) (h' : okB p c = false) : bdE p q c = 1 := by unfold bdE; rw [if_pos h, h']; rfl
theorem bdE_o {p : Fm} {q : Pq} {c : Cf} (h : prE p q 1 = 0) (h' : okB p c = true) : bdE p q c = 0 := by unfold bdE; rw [if_pos h, h']; rfl
theorem bdR_p {p : Fm} {q : Pq} {c : Cf} (h : ¬ prE p q 1 = 0) : bdR p q c = false := by unfold bdR; rw [bdE_p h, if_neg h]
theorem bdR_n {p : Fm} {q : Pq} {c : Cf} (h : prE p q 1 = 0) (h' : okB p c = false) : bdR p q c = false := by unfold bdR; rw [bdE_n h h']; rfl
theorem bdR_o {p : Fm} {q : Pq} {c : Cf} (h : prE p q 1 = 0) (h' : okB p c = true) : bdR p q c = bdV p q c := by unfold bdR; rw [bdE_o h h']; rfl
def rcE (p : Fm) (q : Pq) (c : Cf) : Int := if prE p q 2 = 0 then (if Ct.plB p c = true then 0 else 1) else prE p q 2
def glB (xs goal : List Int) : Bool := !xs.any fun x => !decide (x ∈ goal)
def rcR (p : Fm) (q : Pq) (c : Cf) : Bool := if rcE p q c = 0 then glB (c.st.take c.cor.toNat) q.goal else false
theorem rcE_p {p : Fm} {q : Pq} {c : Cf} (h : ¬ prE p q 2 = 0) : rcE p q c = prE p q 2 := if_neg h
theorem rcE_n {p : Fm} {q : Pq} {c : Cf} (h : prE p q 2 = 0) (h' : Ct.plB p c = false) : rcE p q c = 1 := by unfold rcE; rw [if_pos h, h']; rfl
theorem rcE_o {p : Fm} {q : Pq} {c : Cf} (h : prE p q 2 = 0) (h' : Ct.plB p c = true) : rcE p q c = 0 := by unfold rcE; rw [if_pos h, h']; rfl
theorem rcR_p {p : Fm} {q : Pq} {c : Cf} (h : ¬ prE p q 2 = 0) : rcR p q c = false := by unfold rcR; rw [rcE_p h, if_neg h]
theorem rcR_n {p : Fm} {q : Pq} {c : Cf} (h : prE p q 2 = 0) (h' : Ct.plB p c = false) : rcR p q c = false := by unfold rcR; rw [rcE_n h h']; rfl
theorem rcR_o {p : Fm} {q : Pq} {c : Cf} (h : prE p q 2 = 0) (h' : Ct.plB p c = true) : rcR p q c = glB (c.st.take c.cor.toNat) q.goal := by unfold rcR; rw [rcE_o h h']; rfl
def lkC (top : Int) (sh : List Int) (n : Nat) (j : Nat) : Int := if j % 3 = 0 then lkF top sh n (j / 3) else if j % 3 = 1 then lkS top sh n (j / 3) else if top = 4 then (trun sh sh.length).pa (j / 3) else (rowL top n (j / 3)).2.2
def lkA (top : Int) (sh : List Int) (n : Nat) : AV := .sl 3 n ((List.range (n * 3)).map fun j => iv (lkC top sh n j))
theorem lkC_F {top : Int} {sh : List Int} {n i : Nat} : lkC top sh n (i * 3) = lkF top sh n i := by unfold lkC; rw [if_pos (by omega)]; congr 1; omega
theorem lkC_S {top : Int} {sh : List Int} {n i : Nat} : lkC top sh n (i * 3 + 1) = lkS top sh n i := by unfold lkC; rw [if_neg (by omega), if_pos (by omega)]; congr 1; omega
theorem lkA_tree {sh : List Int} : Ns.lkT sh = lkA 4 sh sh.length := by
  unfold Ns.lkT lkA
  congr 1
theorem lkZ_row {top : Int} {sh : List Int} {n : Nat} (ht : ¬ top = 4) : Ns.lkZ top n n = (List.range (n * 3)).map fun j => iv (lkC top sh n j) := by
  unfold Ns.lkZ
  rw [Nat.sub_self, List.replicate_zero, List.flatten_nil, List.append_nil]
  have key : ∀ k, (List.range k).flatMap (fun i : Nat => Ns.lk3 top n i) = (List.range (k * 3)).map fun j => iv (lkC top sh n j) := by
    intro k
    induction k with
    | zero => rfl
    | succ k ih =>
      rw [List.range_succ, List.flatMap_append, ih, show (k + 1) * 3 = k * 3 + 1 + 1 + 1 by omega, List.range_succ, List.range_succ, List.range_succ, List.map_append, List.map_append, List.map_append]
      have e1 : lkC top sh n (k * 3) = (rowL top n k).1 := by rw [lkC_F]; exact if_neg ht
      have e2 : lkC top sh n (k * 3 + 1) = (rowL top n k).2.1 := by rw [lkC_S]; exact if_neg ht
      have e3 : lkC top sh n (k * 3 + 1 + 1) = (rowL top n k).2.2 := by
        unfold lkC
        rw [if_neg (by omega), if_neg (by omega), if_neg ht]
        congr 3; omega
      simp only [List.map_cons, List.map_nil, e1, e2, e3, List.flatMap_cons, List.flatMap_nil, List.append_nil, Ns.lk3, List.append_assoc, List.cons_append, List.nil_append]
  exact key n
theorem lk_at {top : Int} {sh : List Int} {n i : Nat} (h : i < n) : ((List.range (n * 3)).map fun j => iv (lkC top sh n j))[i * 3]? = some (iv (lkF top sh n i)) := by
  rw [List.getElem?_map, List.getElem?_range (by omega), Option.map_some, lkC_F]
theorem lk_at1 {top : Int} {sh : List Int} {n i : Nat} (h : i < n) : ((List.range (n * 3)).map fun j => iv (lkC top sh n j))[i * 3 + 1]? = some (iv (lkS top sh n i)) := by
  rw [List.getElem?_map, List.getElem?_range (by omega), Option.map_some, lkC_S]
def LkOk (top : Int) (sh : List Int) (n : Nat) : Prop := ∀ i, i < n → lkF top sh n i < n ∧ lkS top sh n i < n
theorem lk_tree {sh : List Int} (h : shp sh = true) : LkOk 4 sh sh.length := fun i hi => by
  have T := (tree_ok sh h).1
  unfold lkF lkS
  rw [if_pos rfl, if_pos rfl]
  have h1 := T.fst i hi
  have h2 := T.snd i hi
  constructor
  · rcases h1 with e | ⟨j, hj, e, _⟩ <;> omega
  rcases h2 with e | ⟨j, hj, e, _⟩ <;> omega
theorem lk_row {top : Int} {sh : List Int} {n : Nat} (h : top = 2 ∨ top = 3) : LkOk top sh n := fun i hi => by
  unfold lkF lkS
  rw [if_neg (by omega), if_neg (by omega)]
  unfold rowL
  dsimp only
  constructor <;> (repeat' split) <;> omega
theorem ok_pl {p : Fm} {c : Cf} (h : okB p c = true) : Ct.plB p c = true := by
  unfold okB at h
  rw [Bool.and_eq_true] at h
  exact h.1
theorem top4 {p : Fm} {c : Cf} (h : okB p c = false) (h2 : Ct.plB p c = true) : p.top = 4 := by
  unfold okB at h
  rw [h2] at h
  simp at h
  exact h.1
theorem shpN {p : Fm} {c : Cf} (h : okB p c = false) (h2 : Ct.plB p c = true) : isShp c.sh ((c.st.length : Nat) : Int) = false := by
  unfold okB at h
  rw [h2] at h
  simp at h
  exact h.2
theorem shpY {p : Fm} {c : Cf} (h : okB p c = true) (h4 : p.top = 4) : isShp c.sh ((c.st.length : Nat) : Int) = true := by
  unfold okB at h
  rw [Bool.and_eq_true] at h
  have := h.2
  rw [decide_eq_true h4] at this
  simpa using this
theorem bdV_two {p : Fm} {q : Pq} {sh A B se fa : List Int} {val : Int} : bdV p q (Ct.two sh A B se fa val) = (alB A q.bad && (decide (((q.adj.length : Nat) : Int) = 0) || adV p.top (adX q) (adY q) (A ++ B) (lkF p.top sh (A ++ B).length) (lkS p.top sh (A ++ B).length))) := by
  unfold bdV Ct.two
  dsimp only
  rw [Int.toNat_natCast, List.take_left' rfl]
theorem rc_two {p : Fm} {q : Pq} {sh A B se fa : List Int} {val : Int} (h : prE p q 2 = 0) (h' : Ct.plB p (Ct.two sh A B se fa val) = true) : rcR p q (Ct.two sh A B se fa val) = glB A q.goal := by
  rw [rcR_o h h']
  unfold Ct.two
  dsimp only
  rw [Int.toNat_natCast, List.take_left' rfl]
theorem top_in {p : Fm} (h : valE p = 0) : 1 ≤ p.top ∧ p.top ≤ 4 := by
  unfold valE at h
  split at h
  · cases h
  split at h
  · cases h
  rename_i _ h2
  have : inB 1 4 p.top = true := by
    cases e : inB 1 4 p.top with
    | true => rfl
    | false => exact absurd (.inl e) h2
  unfold inB at this
  simp at this
  omega
theorem vp_val {p : Fm} {q : Pq} (h : vpE p q = 0) : valE p = 0 := by
  unfold vpE at h
  split at h
  · assumption
  exact h
theorem adj_in {p : Fm} {q : Pq} (h : prE p q 1 = 0) (h0 : ¬ ((q.adj.length : Nat) : Int) = 0) : ¬ p.top = 1 ∧ q.adj.length = 2 := by
  obtain ⟨hv, hk⟩ := prE_in h
  have hval := vp_val hv
  unfold vpE at hv
  rw [if_pos hval] at hv
  split at hv
  · unfold vp2 at hv
    rw [if_pos hk] at hv
    split at hv
    · cases hv
    unfold vp3 at hv
    split at hv
    · split at hv
      · unfold badE at hv
        split at hv
        · cases hv
        split at hv
        · cases hv
        split at hv
        · unfold adjE at hv
          rw [if_neg h0] at hv
          split at hv
          · cases hv
          split at hv
          · rename_i h1 h2; exact ⟨h1, by omega⟩
          cases hv
        rename_i h3; exact absurd hv h3
      cases hv
    rename_i h3; exact absurd hv h3
  cases hv
end Jd
end Go.Proofs.Ytoefmdjgnabgfaa
