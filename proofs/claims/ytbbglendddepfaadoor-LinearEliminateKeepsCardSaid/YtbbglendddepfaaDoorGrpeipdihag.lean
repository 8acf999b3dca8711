import Derived.ChangeArms
import Derived.Test.YtbbglendddepfaaDoorGrpajmjpnbp
import Derived.Test.YtbbglendddepfaaDoorGrphiooaika
import Derived.Test.YtbbglendddepfaaDoorGrpahmkmnmo
import Derived.Test.YtbbglendddepfaaDoorGrpomklliff
set_option linter.all false
namespace Go.Proofs.YtbbglendddepfaaDoor
open Go.RowKit Go.Deep
namespace Elm
variable {J : World → Prop}
theorem EE_zero {n v : Int} {rs : List Rw} (h : EE n v rs = 0) : valS n rs = 0 ∧ ∃ p m : Nat, n = p ∧ v = m ∧ m < p ∧ ¬ 192 < szE p m rs ∧ elOk p m rs = true := by
  unfold EE at h
  by_cases hv : valS n rs = 0
  · rw [if_pos hv] at h
    by_cases ha : v < 0 ∨ n ≤ v
    · rw [if_pos ha] at h; cases h
    · rw [if_neg ha] at h
      obtain ⟨p, rfl⟩ := Int.eq_ofNat_of_zero_le (show 0 ≤ n by omega)
      obtain ⟨m, rfl⟩ := Int.eq_ofNat_of_zero_le (show 0 ≤ v by omega)
      rw [Int.toNat_natCast, Int.toNat_natCast] at h
      unfold elE at h
      refine ⟨hv, p, m, rfl, rfl, by omega, fun e => ?_, ?_⟩
      · rw [if_pos e] at h; cases h
      · by_cases e : 192 < szE p m rs
        · rw [if_pos e] at h; cases h
        · rw [if_neg e] at h
          cases e2 : elOk p m rs with
          | true => rfl
          | false => rw [e2] at h; cases h
  · rw [if_neg hv] at h; exact absurd h hv
section
variable {n v : Int} {rs : List Rw}
theorem ER_ok : SyOk (ER n v rs) := by
  unfold ER
  split
  · rename_i h
    obtain ⟨hv, p, m, rfl, rfl, hm, hs, ho⟩ := EE_zero h
    have S := (fit_of hv hm).sy ho hs
    rw [Int.toNat_natCast, Int.toNat_natCast]
    exact ⟨nrm_ok S.1, Nat.le_trans nrm_len S.1.len⟩
  · exact ⟨fun x hx => by simp at hx, by simp⟩
theorem ER_len : (ER n v rs).length ≤ 251 := by
  unfold ER
  split
  · rename_i h
    obtain ⟨hv, p, m, rfl, rfl, hm, hs, ho⟩ := EE_zero h
    have S := (fit_of hv hm).sy ho hs
    rw [Int.toNat_natCast, Int.toNat_natCast]
    have := nrm_len (rs := elL p m rs)
    have := S.2.1
    omega
  · simp
theorem none_left (e : ¬ EE n v rs = 0) : (((ER n v rs).length : Nat) : Int) = 0 := by
  unfold ER; rw [if_neg e]; rfl
theorem EN_eq (e : EE n v rs = 0) : EN n v rs = n := by unfold EN; rw [if_pos e]
end
theorem cf_sum {m : Nat} {a b : Int} {xs ys : List Int} (e : xs.length = ys.length) : (sumL a b xs ys).getD m 0 = a * xs.getD m 0 + b * ys.getD m 0 := by
  unfold sumL
  by_cases h : m < xs.length
  · have h' : m < ys.length := by omega
    simp [List.getD_eq_getElem?_getD, List.getElem?_zipWith, List.getElem?_eq_getElem h, List.getElem?_eq_getElem h']
  · have h' : ¬ m < ys.length := by omega
    simp [List.getD_eq_getElem?_getD, List.getElem?_zipWith, List.getElem?_eq_none (Nat.le_of_not_lt h), List.getElem?_eq_none (Nat.le_of_not_lt h')]
theorem dot_sum (a b : Int) : ∀ (xs ys zs : List Int), xs.length = ys.length → dot (sumL a b xs ys) zs = a * dot xs zs + b * dot ys zs
  | [], [], zs, _ => by simp [sumL, dot]
  | x :: xs, y :: ys, [], _ => by simp [sumL, dot]
  | x :: xs, y :: ys, z :: zs, h => by
    have ih := dot_sum a b xs ys zs (by simpa using h)
    unfold sumL at ih ⊢
    simp only [List.zipWith_cons_cons, dot, ih, Int.mul_add, Int.add_mul, Int.mul_assoc]
    omega
section
variable {p m : Nat} {rs : List Rw}
theorem mix_cf {l u : Rw} (P : Pair m l u) : cf m (mixR m l u) = 0 := by
  unfold mixR
  show (sumL (kB m l u) (kA m l u) l.1 u.1).getD m 0 = 0
  rw [cf_sum P.e]
  show kB m l u * cf m l + kA m l u * cf m u = 0
  have hg : gE m l u ≠ 0 := by have := P.g1; omega
  have h1 : kA m l u * gE m l u = cf m l := by
    unfold kA
    exact Int.tdiv_mul_cancel (Int.gcd_dvd_left ..)
  have h2 : kB m l u * gE m l u = -cf m u := by
    unfold kB
    exact Int.tdiv_mul_cancel (Int.gcd_dvd_right ..)
  have e1 : cf m u = -(kB m l u * gE m l u) := by omega
  rw [e1, ← h1, Int.mul_neg, ← Int.mul_assoc, ← Int.mul_assoc, Int.mul_comm (kA m l u) (kB m l u)]
  omega
theorem el_cf (F : Fit p m rs) {r : Rw} (hr : r ∈ elL p m rs) : cf m r = 0 := by
  rcases List.mem_append.1 hr with hr | hr
  · exact of_decide_eq_true (List.mem_filter.1 hr).2
  · obtain ⟨l, hl, hr⟩ := List.mem_flatMap.1 hr
    obtain ⟨u, hu, rfl⟩ := List.mem_map.1 hr
    exact mix_cf (F.pair hl hu)
theorem tR_cf {r : Rw} (h : cf m r = 0) : cf m (tR r) = 0 := by
  unfold cf tR tX at *
  dsimp only
  split
  · by_cases hm : m < r.1.length
    · simp only [List.getD_eq_getElem?_getD, List.getElem?_map, List.getElem?_eq_getElem hm, Option.map_some, Option.getD_some] at h ⊢
      rw [h]; simp
    · simp [List.getD_eq_getElem?_getD, List.getElem?_eq_none (Nat.le_of_not_lt hm)]
  · exact h
theorem dot_ax (c : Int) : ∀ (p m : Nat) (ys : List Int), m < p → ys.length = p → dot (axR p m c) ys = c * ys.getD m 0
  | 0, m, ys, h, _ => by omega
  | p + 1, 0, [], _, h => by simp at h
  | p + 1, 0, y :: ys, _, h => by
    have : ∀ (q : Nat) (ys : List Int), dot (List.replicate q (0 : Int)) ys = 0 := by
      intro q
      induction q with
      | zero => intro ys; simp [dot]
      | succ q ih => intro ys; cases ys with
        | nil => simp [dot, List.replicate_succ]
        | cons y ys => simp [dot, List.replicate_succ, ih]
    simp [axR, List.replicate_succ, dot, this]
  | p + 1, m + 1, [], _, h => by simp at h
  | p + 1, m + 1, y :: ys, hm, h => by
    have ih := dot_ax c p m ys (by omega) (by simpa using h)
    unfold axR at ih ⊢
    simp only [List.replicate_succ, List.set_cons_succ, dot, ih]
    simp
theorem el_hold (F : Fit p m rs) {ys : List Int} (hl : ys.length = p) (hy : ys.all coB = true) (h : rs.all (holdB ys) = true) : (elL p m rs).all (holdB ys) = true := by
  have low_h : ∀ l ∈ low p m rs, 0 ≤ l.2 + dot l.1 ys := fun l hl' => by
    rcases List.mem_cons.1 hl' with rfl | hl'
    · dsimp only
      rw [dot_ax 1 p m ys F.mp hl]
      have hm : m < ys.length := by rw [hl]; exact F.mp
      have := (coB_true.1 (List.all_eq_true.1 hy _ (List.getElem_mem hm))).1
      rw [List.getD_eq_getElem?_getD, List.getElem?_eq_getElem hm, Option.getD_some]
      omega
    · exact of_decide_eq_true (List.all_eq_true.1 h _ (List.mem_filter.1 hl').1)
  have upp_h : ∀ u ∈ upp m rs, 0 ≤ u.2 + dot u.1 ys := fun u hu => of_decide_eq_true (List.all_eq_true.1 h _ (List.mem_filter.1 hu).1)
  refine List.all_eq_true.2 fun r hr => ?_
  rcases List.mem_append.1 hr with hr | hr
  · exact List.all_eq_true.1 h _ (List.mem_filter.1 hr).1
  · obtain ⟨l, hl', hr⟩ := List.mem_flatMap.1 hr
    obtain ⟨u, hu, rfl⟩ := List.mem_map.1 hr
    have P := F.pair hl' hu
    unfold holdB mixR
    dsimp only
    rw [dot_sum _ _ _ _ _ P.e]
    have h1 := Int.mul_nonneg P.kb.1 (low_h l hl')
    have h2 := Int.mul_nonneg P.ka.1 (upp_h u hu)
    rw [Int.mul_add] at h1 h2
    exact decide_eq_true (by omega)
theorem el_val (F : Fit p m rs) (ho : elOk p m rs = true) (hs : ¬ 192 < szE p m rs) : valS ((p : Nat) : Int) (elL p m rs) = 0 := by
  have h3 := elL_len (p := p) (m := m) (rs := rs)
  have := F.p96
  refine valS_zero.2 ⟨by omega, List.all_eq_true.2 fun r hr => ?_, List.all_eq_true.2 fun r hr => (F.el_mem ho r hr).2, by omega⟩
  unfold lenB
  rw [(F.el_mem ho r hr).1]
  exact decide_eq_true rfl
end
section
variable {n v : Int} {rs : List Rw} {ys : List Int}
theorem gone (e : EE n v rs = 0) {r : Rw} (hr : r ∈ ER n v rs) : 0 ≤ v ∧ v < (r.1.length : Int) ∧ cf v.toNat r = 0 := by
  unfold ER at hr
  rw [if_pos e] at hr
  obtain ⟨hv, p, m, rfl, rfl, hm, hs, ho⟩ := EE_zero e
  rw [Int.toNat_natCast, Int.toNat_natCast] at hr
  obtain ⟨x, hx, rfl, _⟩ := Nk.nrm_mem r hr
  have F := fit_of hv hm
  refine ⟨by omega, ?_, ?_⟩
  · rw [tR_len, (F.el_mem ho x hx).1]; omega
  · rw [Int.toNat_natCast]; exact tR_cf (el_cf F hx)
theorem stays (e : EE n v rs = 0) (h : satS n rs ys = true) : satS (EN n v rs) (ER n v rs) ys = true := by
  rw [EN_eq e]
  unfold ER
  rw [if_pos e]
  obtain ⟨hv, p, m, rfl, rfl, hm, hs, ho⟩ := EE_zero e
  rw [Int.toNat_natCast, Int.toNat_natCast]
  have F := fit_of hv hm
  rw [Nk.nrm_sat (el_val F ho hs)]
  unfold satS at h ⊢
  simp only [Bool.and_eq_true, decide_eq_true_eq] at h ⊢
  exact ⟨⟨⟨el_val F ho hs, h.1.1.2⟩, h.1.2⟩, el_hold F (by have := h.1.1.2; omega) h.1.2 h.2⟩
end
end Elm
end Go.Proofs.YtbbglendddepfaaDoor

namespace Go.Proofs.YtbbglendddepfaaDoor
open Go.RowKit Go.Deep
/-- Numbers may have turned, but not in the blocks of K. -/
structure Ichg (K : Nat → Prop) (w w' : World) : Prop where
  os : w'.os = w.os
  tape : w'.tape = w.tape
  output : w'.output = w.output
  size : w.heap.size ≤ w'.heap.size
  keep : ∀ b, b < w.heap.size → K b → w'.heap[b]? = w.heap[b]?
  soft : ∀ b, soft w b → soft w' b
  cell : ∀ c j x, w.cell? ⟨c, j, none⟩ = some x → w'.cell? ⟨c, j, none⟩ = some x ∨ ∃ k i i', x = .int k i ∧ w'.cell? ⟨c, j, none⟩ = some (.int k i')
theorem Ichg.refl (K : Nat → Prop) (w : World) : Ichg K w w := ⟨rfl, rfl, rfl, Nat.le_refl _, fun _ _ _ => rfl, fun _ h => h, fun _ _ _ h => .inl h⟩
theorem Ichg.set {K : Nat → Prop} {w w' : World} (h : Ichg K w w') {b o : Nat} {i i' : Int} (hb : ¬ K b) (hs : Go.Proofs.YtbbglendddepfaaDoor.soft w' b) (hc : w'.cell? ⟨b, o, none⟩ = some (.int .i64 i)) : Ichg K w (w'.setCells b o [.int .i64 i']) := by
  obtain ⟨cur, T, hg⟩ := hs
  have ho : o < cur.size := by
    simp only [World.cell?, hg] at hc
    exact (Array.getElem?_eq_some_iff.1 (by simpa using hc)).1
  obtain ⟨q1, q2, q3⟩ := setCells_os b [.int .i64 i'] o w'
  refine ⟨q1.trans h.os, q2.trans h.tape, q3.trans h.output, by rw [setCells_size]; exact h.size, fun c hc1 hK => (setCells_other (fun e => by subst e; exact hb hK) _ _ _).trans (h.keep c hc1 hK), fun c hc1 => soft_set1 hg ho (h.soft c hc1), fun c j x hx => ?_⟩
  rw [cell_set1 hg ho]
  split
  · rename_i e
    obtain ⟨rfl, rfl⟩ := e
    rcases h.cell _ _ _ hx with h1 | ⟨k, p, p', rfl, h1⟩
    · rw [hc] at h1
      cases h1
      exact .inr ⟨.i64, i, i', rfl, rfl⟩
    · rw [hc] at h1
      cases h1
      exact .inr ⟨.i64, p, i', rfl, rfl⟩
  · exact h.cell _ _ _ hx
end Go.Proofs.YtbbglendddepfaaDoor

namespace Go.Proofs.YtbbglendddepfaaDoor
open Go.RowKit Go.Deep
variable {J : World → Prop}
theorem Ichg.ints {K : Nat → Prop} {w w' : World} (h : Ichg K w w') (c j : Nat) (x : Int) (hx : w.cell? ⟨c, j, none⟩ = some (.int .i64 x)) : ∃ y, w'.cell? ⟨c, j, none⟩ = some (.int .i64 y) := by
  rcases h.cell _ _ _ hx with h1 | ⟨k, i, i', e, h1⟩
  · exact ⟨x, h1⟩
  · cases e; exact ⟨i', h1⟩
section
variable {P : Program} {o : Oper}
end
section
variable {P : Program} {w0 : Wb} {ops : Array Oper} {o : Oper} {rest : List Oper} {Q : Exit → Act → World → Prop}
end
end Go.Proofs.YtbbglendddepfaaDoor

namespace Go.Proofs.YtbbglendddepfaaDoor
open Go.RowKit Go.Deep
variable {J : World → Prop}
section
variable {n : Int} {rs : List Rw} {r : Rw}
end
end Go.Proofs.YtbbglendddepfaaDoor

namespace Go.Proofs.YtbbglendddepfaaDoor
open Go.RowKit Go.Deep
variable {J : World → Prop}
end Go.Proofs.YtbbglendddepfaaDoor

namespace Go.Proofs.YtbbglendddepfaaDoor
open Go.RowKit Go.Deep Go.ChangeShapes Go.WideShapes Go.ChangeAt Go.Joins

theorem cells_int : Tryd.prog.cellsOf 3 = 1 := by kernel_rfl
theorem cells_ints : Tryd.prog.cellsOf 25 = 1 := by kernel_rfl
theorem cells_row : Tryd.prog.cellsOf 39 = 2 := by kernel_rfl
theorem cells_rows : Tryd.prog.cellsOf 22 = 1 := by kernel_rfl
theorem cells_sys : Tryd.prog.cellsOf 24 = 2 := by kernel_rfl

section
variable {H : Type} {enc : TypeId × Value → H} {w : World} {base : Nat} {sp : Nat → Bool} {held : Bool}

theorem int_of_trod {n : Nat} {v : Value} {x : DataW H × List MemPlace} (h : DataW.trod enc Tryd.prog w base sp held n 3 [v] = some x) : ∃ c, v = .int .i64 c ∧ I64 c := by
  obtain ⟨c, e1, _, e3⟩ := DataW.trod_int Tryd.underlying3 h
  simp at e1
  exact ⟨c, e1, I64.of_wf e3⟩

set_option maxRecDepth 100000 in
theorem row_of_trod {n : Nat} {cs : List Value} {x : DataW H × List MemPlace} (h : DataW.trod enc Tryd.prog w base sp held n 39 cs = some x) :
    ∃ v c xs, cs = [v, .int .i64 c] ∧ IsInts 0 w v xs ∧ I64 c := by
  obtain ⟨ys, m, _, _, hlen, _, hf⟩ := DataW.trod_struct Tryd.underlying39 h
  rw [cells_row] at hlen
  match cs, hlen with
  | [v0, v1], _ =>
    have h0 : DataW.trod enc Tryd.prog w base sp held m 25 (([v0, v1].drop 0).take (Tryd.prog.cellsOf 25)) = ys[0]? := hf 0 _ rfl
    have h1 : DataW.trod enc Tryd.prog w base sp held m 3 (([v0, v1].drop 1).take (Tryd.prog.cellsOf 3)) = ys[1]? := hf 1 _ rfl
    rw [cells_ints] at h0
    rw [cells_int] at h1
    simp only [List.drop_zero, List.take_succ_cons, List.take_zero] at h0
    simp only [List.drop_succ_cons, List.drop_zero, List.take_succ_cons, List.take_zero] at h1
    have hx : ∀ i, i < 2 → ∃ y, ys[i]? = some y := fun i hi => ⟨ys[i]'(by simp at *; omega), List.getElem?_eq_getElem _⟩
    obtain ⟨y0, e0⟩ := hx 0 (by omega)
    obtain ⟨y1, e1⟩ := hx 1 (by omega)
    rw [e0] at h0
    rw [e1] at h1
    obtain ⟨xs, hxs⟩ := ints_of_trod Tryd.underlying25 Tryd.underlying3 cells_int h0
    obtain ⟨c, rfl, hc⟩ := int_of_trod h1
    exact ⟨v0, c, xs, rfl, hxs, hc⟩

end

set_option maxRecDepth 100000 in
theorem arg_ints {H : Type} {enc : TypeId × Value → H} {w : World} {r : Reach} {b0 : Nat} {v : Value} {d : DataW H} {p : List MemPlace} (hv : Value.okWide Tryd.prog w r b0 25 v) (h : DataW.Trod enc Tryd.prog w 0 (fun _ => true) true 25 v d p) :
    ∃ xs, IsInts 0 w v xs := by
  obtain ⟨a, len, cap, rfl⟩ := okWide_slice Tryd.underlying25 hv
  obtain ⟨fuel, hf⟩ := h
  exact ints_of_trod Tryd.underlying25 Tryd.underlying3 cells_int (by simpa [Value.cells] using hf)
end Go.Proofs.YtbbglendddepfaaDoor

namespace Go.Proofs.YtbbglendddepfaaDoor
open Go.RowKit Go.Deep Go.ChangeShapes Go.WideShapes Go.ChangeAt Go.Joins
def RoEl (lo : Nat) (w : World) (cs : List Value) (r : Rw) : Prop := ∃ v, cs = [v, .int .i64 r.2] ∧ IsInts lo w v r.1 ∧ I64 r.2
def IsSysX (lo : Nat) (w : World) (v : Value) (n : Int) (rs : List Rw) : Prop := ∃ u, v = .agg #[.int .i64 n, u] ∧ IsSl 2 RoEl lo w u rs ∧ I64 n
section
variable {H : Type} {enc : TypeId × Value → H} {w : World} {base : Nat} {sp : Nat → Bool} {held : Bool}
theorem ro_of_trod {n : Nat} {cs : List Value} {x : DataW H × List MemPlace} (h : DataW.trod enc Tryd.prog w base sp held n 39 cs = some x) : ∃ r, RoEl 0 w cs r := by
  obtain ⟨v, c, xs, e, h1, h2⟩ := row_of_trod h
  exact ⟨(xs, c), v, e, h1, h2⟩
set_option maxRecDepth 100000 in
theorem sysx_of_trod {n : Nat} {cs : List Value} {x : DataW H × List MemPlace} (h : DataW.trod enc Tryd.prog w base sp held n 24 cs = some x) :
    ∃ vars v rs, cs = [.int .i64 vars, v] ∧ IsSl 2 RoEl 0 w v rs ∧ I64 vars := by
  obtain ⟨ys, m, _, _, hlen, _, hf⟩ := DataW.trod_struct Tryd.underlying24 h
  rw [cells_sys] at hlen
  match cs, hlen with
  | [v0, v1], _ =>
    have h0 : DataW.trod enc Tryd.prog w base sp held m 3 (([v0, v1].drop 0).take (Tryd.prog.cellsOf 3)) = ys[0]? := hf 0 _ rfl
    have h1 : DataW.trod enc Tryd.prog w base sp held m 22 (([v0, v1].drop 1).take (Tryd.prog.cellsOf 22)) = ys[1]? := hf 1 _ rfl
    rw [cells_int] at h0
    rw [cells_rows] at h1
    simp only [List.drop_zero, List.take_succ_cons, List.take_zero] at h0
    simp only [List.drop_succ_cons, List.drop_zero, List.take_succ_cons, List.take_zero] at h1
    have hx : ∀ i, i < 2 → ∃ y, ys[i]? = some y := fun i hi => ⟨ys[i]'(by simp at *; omega), List.getElem?_eq_getElem _⟩
    obtain ⟨y0, e0⟩ := hx 0 (by omega)
    obtain ⟨y1, e1⟩ := hx 1 (by omega)
    rw [e0] at h0
    rw [e1] at h1
    obtain ⟨vars, rfl, hc⟩ := int_of_trod h0
    obtain ⟨rs, hrs⟩ := sl_of_trod Tryd.underlying22 cells_row (by omega) (fun _ _ _ hh _ => ro_of_trod hh) h1
    exact ⟨vars, v1, rs, rfl, hrs, hc⟩
end
set_option maxRecDepth 100000 in
theorem arg_sysx {H : Type} {enc : TypeId × Value → H} {w : World} {r : Reach} {b0 : Nat} {v : Value} {d : DataW H} {p : List MemPlace} (hv : Value.okWide Tryd.prog w r b0 24 v) (h : DataW.Trod enc Tryd.prog w 0 (fun _ => true) true 24 v d p) :
    ∃ n rs, IsSysX 0 w v n rs := by
  obtain ⟨cs, rfl, _⟩ := okWide_struct Tryd.underlying24 hv
  obtain ⟨fuel, hf⟩ := h
  obtain ⟨vars, u, rs, e, h1, h2⟩ := sysx_of_trod hf
  have e2 : cs = #[.int .i64 vars, u] := by obtain ⟨l⟩ := cs; simp [Value.cells] at e; simpa using e
  exact ⟨vars, rs, u, by rw [e2], h1, h2⟩
theorem IsSysX.ok {lo : Nat} {w : World} {v : Value} {n : Int} {rs : List Rw} (h : IsSysX lo w v n rs) : SyOk rs := by
  obtain ⟨u, _, h1, _⟩ := h
  exact ⟨h1.all fun cs r hr => by obtain ⟨v, _, a, b⟩ := hr; exact ⟨a.ok, b⟩, h1.bound⟩
section
variable {F ok : Nat → Prop} {lo : Nat} {w : World}
theorem sysx_pu (hok : ∀ b, lo ≤ b → b < w.heap.size → ok b) {v : Value} {n : Int} {rs : List Rw} (h : IsSysX lo w v n rs) : Pu F w ok (.agg (cSy n rs)) v := by
  obtain ⟨u, rfl, h1, _⟩ := h
  refine .agg rfl fun j hj => ?_
  match j, hj with
  | 0, _ => exact .v _
  | 1, _ =>
    refine sl_pu lenRo hok (fun r vs hr j hj => ?_) h1
    obtain ⟨v, rfl, a, _⟩ := hr
    match j, hj with
    | 0, _ => exact ints_pu hok a
    | 1, _ => exact .v _
end
theorem lwalk3 {f : FuncId} {A B C : AV} {w : World} {v v' v'' : Value} (h : Ctr Tryd.prog (fun _ => True) f [A, B, C] (bv true)) (hA : Pu (fun _ => True) w (fun b => b < w.heap.size) A v) (hB : Pu (fun _ => True) w (fun b => b < w.heap.size) B v') (hC : Pu (fun _ => True) w (fun b => b < w.heap.size) C v'') :
    Calls Tryd.prog f #[v, v', v''] w fun e w' => e = .returned (.bool true) ∧ Below w.heap.size w w' :=
  (h w #[v, v', v''] (fun _ _ => trivial) rfl fun j hj => (match j, hj with | 0, _ => hA | 1, _ => hB | 2, _ => hC)).mono fun _ _ ⟨_, he, hp, hb⟩ => ⟨by rw [he, hp.v_inv], hb⟩
end Go.Proofs.YtbbglendddepfaaDoor

namespace Go.Proofs.YtbbglendddepfaaDoor
open Go.RowKit Go.Deep
variable {J : World → Prop}
set_option linter.unusedSimpArgs false in
set_option linter.unusedVariables false in
set_option maxRecDepth 100000 in
set_option maxHeartbeats 6400000 in
theorem lawEliminateKeeps_c {n v : Int} {rs : List Rw} {ys : List Int} (H : SyOk rs) (Hy : InOk ys) : Ctr Tryd.prog J 7 [.agg (cSy n rs), iv v, intsA ys] (bv true) := by
 have hln := Elm.ER_len (n := n) (v := v) (rs := rs)
 refine ctr_of_tri Tryd.func7 rfl (by intro X hX; simp only [List.mem_cons, List.not_mem_nil, or_false] at hX; rcases hX with rfl | rfl | rfl; exact plain_agg (plain_sy n rs); exact .v _; exact plain_ints _) (n := 80) rfl (by simp) (fun w0 => ?_)
 refine kW 80 [] [(0, .agg (cSy n rs)), (1, iv v), (2, intsA ys)] ?_
 refine tri_seq ?_
 refine tri_region ?_
 refine t_op rfl (sp_box (X := .agg (cSy n rs)) (k := 1) (.tmp 0) rfl rfl) ⟨I0, T0⟩ T0 rfl ?_
 refine oA (sp_assign (.const (.bool false)) (bv false) rfl) I0 ?_
 refine kN 80 [(1, .box 24 (cSy n rs))] [(1, iv v), (2, intsA ys), (3, .box 1 0), (6, bv false)] ?_
 refine t_then ?_
 refine tri_seq ?_
 refine tri_seq ?_
 by_cases hs1 : (wideB rs) = true
 refine tri_region ?_
 refine oB (sp_loadBoxS (Y := .box 24 (cSy n rs)) (ds := cSy n rs) (z := 2) (.tmp 3) rfl Tryd.underlying24 rfl (by kernel_rfl) (by decide) (by kernel_rfl) (by kernel_rfl)) I0 rfl ?_
 refine oC (sp_call (c := .func 11) (xs := #[.tmp 10]) [] (ctr_b (wide_c H) hs1) rfl (by kernel_rfl) rfl (Xs := [.agg (cSy n rs)]) rfl rfl rfl) I0 I0 ?_
 refine oA (sp_move (.tmp 11) (bv true) rfl) I0 ?_
 refine t_skip rfl ?_
 refine t_skip rfl ?_
 refine t_skip rfl ?_
 refine oD (sp_pick (.tmp 12) (.const (.bool true)) (.tmp 15) true (bv true) (.v (.tuple #[])) rfl) I0 I0 I0 ?_
 refine kN 80 [(1, .box 24 (cSy n rs))] [(1, iv v), (2, intsA ys), (3, .box 1 0), (6, bv false), (16, bv true)] ?_
 refine t_then ?_
 refine t_condT rfl ?_
 refine tri_seq ?_
 refine tri_region ?_
 refine oA (sp_call (c := .func 12) (xs := #[]) [] wknown_c rfl (by kernel_rfl) rfl (Xs := []) rfl rfl rfl) I0 ?_
 refine oA (sp_assign (.tmp 17) (bv true) rfl) I0 ?_
 refine kN 80 [(1, .box 24 (cSy n rs))] [(1, iv v), (2, intsA ys), (3, .box 1 0), (6, bv true)] ?_
 refine t_then ?_
 refine tri_ret ?_
 refine t_then_ret ?_
 refine tri_end1 Tryd.results7 (.tmp rfl) ?_
 exact rfl
 have hs1f : (wideB rs) = false := by simpa using hs1
 by_cases hs2 : 200 < ((ys.length : Nat) : Int)
 refine tri_region ?_
 refine oB (sp_loadBoxS (Y := .box 24 (cSy n rs)) (ds := cSy n rs) (z := 2) (.tmp 3) rfl Tryd.underlying24 rfl (by kernel_rfl) (by decide) (by kernel_rfl) (by kernel_rfl)) I0 rfl ?_
 refine oC (sp_call (c := .func 11) (xs := #[.tmp 10]) [] (ctr_b (wide_c H) hs1f) rfl (by kernel_rfl) rfl (Xs := [.agg (cSy n rs)]) rfl rfl rfl) I0 I0 ?_
 refine oA (sp_move (.tmp 11) (bv false) rfl) I0 ?_
 refine gA (sp_move (.tmp 2) (intsA ys) rfl) I0 ?_
 refine gA (sp_lenSl (.tmp 13) rfl Tryd.underlying25) I0 ?_
 refine gC (sp_gtr rfl (dT hs2)) I0 I0 ?_
 refine oD (sp_pick (.tmp 12) (.const (.bool true)) (.tmp 15) false (bv true) (bv true) rfl) I0 I0 I0 ?_
 refine kN 80 [(1, .box 24 (cSy n rs))] [(1, iv v), (2, intsA ys), (3, .box 1 0), (6, bv false), (16, bv true)] ?_
 refine t_then ?_
 refine t_condT rfl ?_
 refine tri_seq ?_
 refine tri_region ?_
 refine oA (sp_call (c := .func 12) (xs := #[]) [] wknown_c rfl (by kernel_rfl) rfl (Xs := []) rfl rfl rfl) I0 ?_
 refine oA (sp_assign (.tmp 17) (bv true) rfl) I0 ?_
 refine kN 80 [(1, .box 24 (cSy n rs))] [(1, iv v), (2, intsA ys), (3, .box 1 0), (6, bv true)] ?_
 refine t_then ?_
 refine tri_ret ?_
 refine t_then_ret ?_
 refine tri_end1 Tryd.results7 (.tmp rfl) ?_
 exact rfl
 refine tri_region ?_
 refine oB (sp_loadBoxS (Y := .box 24 (cSy n rs)) (ds := cSy n rs) (z := 2) (.tmp 3) rfl Tryd.underlying24 rfl (by kernel_rfl) (by decide) (by kernel_rfl) (by kernel_rfl)) I0 rfl ?_
 refine oC (sp_call (c := .func 11) (xs := #[.tmp 10]) [] (ctr_b (wide_c H) hs1f) rfl (by kernel_rfl) rfl (Xs := [.agg (cSy n rs)]) rfl rfl rfl) I0 I0 ?_
 refine oA (sp_move (.tmp 11) (bv false) rfl) I0 ?_
 refine gA (sp_move (.tmp 2) (intsA ys) rfl) I0 ?_
 refine gA (sp_lenSl (.tmp 13) rfl Tryd.underlying25) I0 ?_
 refine gC (sp_gtr rfl (dF hs2)) I0 I0 ?_
 refine oD (sp_pick (.tmp 12) (.const (.bool true)) (.tmp 15) false (bv true) (bv false) rfl) I0 I0 I0 ?_
 refine kN 80 [(1, .box 24 (cSy n rs))] [(1, iv v), (2, intsA ys), (3, .box 1 0), (6, bv false), (16, bv false)] ?_
 refine t_then ?_
 refine t_condF rfl ?_
 refine tri_skip ?_
 refine t_then ?_
 refine tri_seq ?_
 refine tri_region ?_
 refine oB (sp_loadBoxS (Y := .box 24 (cSy n rs)) (ds := cSy n rs) (z := 2) (.tmp 3) rfl Tryd.underlying24 rfl (by kernel_rfl) (by decide) (by kernel_rfl) (by kernel_rfl)) I0 rfl ?_
 refine oA (sp_move (.tmp 1) (iv v) rfl) I0 ?_
 refine oD (sp_call (c := .func 21) (xs := #[.tmp 19, .tmp 20]) [] (lEliminate_c H) rfl (by kernel_rfl) rfl (Xs := [.agg (cSy n rs), iv v]) rfl rfl rfl) I0 I0 I0 ?_
 refine oA (sp_move (.tmp 21) (.tup [.fr (.agg (cSy (Elm.EN n v rs) (Elm.ER n v rs))), iv (Elm.EE n v rs)]) rfl) I0 ?_
 refine oA (sp_extract (X := .fr (.agg (cSy (Elm.EN n v rs) (Elm.ER n v rs)))) (.tmp 18) rfl rfl) I0 ?_
 refine oA (sp_extract (X := iv (Elm.EE n v rs)) (.tmp 18) rfl rfl) I0 ?_
 refine t_op rfl (sp_alloc (z := .agg #[.int .i64 0, .slice none 0 0]) (k := 2) rfl (by kernel_rfl)) T0 T0 rfl ?_
 refine t_op rfl (sp_storeBox (T0 := 24) (X := .agg [iv (Elm.EN n v rs), .fr (slA 2 cRo (Elm.ER n v rs))]) (cs := [iv 0, .v (.slice none 0 0)]) (ds := [iv (Elm.EN n v rs), .fr (slA 2 cRo (Elm.ER n v rs))]) (z := 2) (.tmp 7) (.tmp 22) rfl (by kernel_rfl) (by kernel_rfl) (by kernel_rfl) (of_decide_eq_true (by kernel_rfl)) (by kernel_rfl)) ⟨I0, .inr (.inr (.inl ⟨_, rfl, rfl⟩)), T0⟩ ⟨rfl, T0⟩ rfl ?_
 refine oA (sp_assign (.tmp 23) (iv (Elm.EE n v rs)) rfl) I0 ?_
 refine kN 80 [(1, .box 24 (cSy n rs)), (2, .box 24 [iv (Elm.EN n v rs), .fr (slA 2 cRo (Elm.ER n v rs))])] [(1, iv v), (2, intsA ys), (3, .box 1 0), (6, bv false), (7, .box 2 0), (8, iv (Elm.EE n v rs))] ?_
 refine t_then ?_
 refine tri_seq ?_
 refine tri_seq ?_
 by_cases hs3 : (Elm.EE n v rs) = 0
 have hE : Elm.EE n v rs = 0 := hs3
 refine tri_region ?_
 refine oA (sp_move (.tmp 8) (iv (Elm.EE n v rs)) rfl) I0 ?_
 refine oC (sp_neq rfl (dT' hs3)) I0 I0 ?_
 refine kN 80 [(1, .box 24 (cSy n rs)), (2, .box 24 [iv (Elm.EN n v rs), .fr (slA 2 cRo (Elm.ER n v rs))])] [(1, iv v), (2, intsA ys), (3, .box 1 0), (6, bv false), (7, .box 2 0), (25, bv false)] ?_
 refine t_then ?_
 refine t_condF rfl ?_
 refine tri_skip ?_
 refine t_then ?_
 refine tri_seq ?_
 refine tri_seq ?_
 refine tri_region ?_
 refine oA (sp_assign (.const (.int .i64 0)) (iv 0) rfl) I0 ?_
 refine kN 80 [(1, .box 24 (cSy n rs)), (2, .box 24 [iv (Elm.EN n v rs), .fr (slA 2 cRo (Elm.ER n v rs))])] [(1, iv v), (2, intsA ys), (3, .box 1 0), (6, bv false), (7, .box 2 0), (9, iv 0)] ?_
 refine t_then ?_
 refine tri_block ?_
 refine tri_loop (σ := {i : Nat // i ≤ (Elm.ER n v rs).length}) (fun s => (ofL [(1, .box 24 (cSy n rs)), (2, .box 24 [iv (Elm.EN n v rs), .fr (slA 2 cRo (Elm.ER n v rs))])], ofT 80 [(1, iv v), (2, intsA ys), (3, .box 1 0), (7, .box 2 0), (9, iv s.1)])) (fun s => (Elm.ER n v rs).length - s.1) ⟨0, Nat.zero_le _⟩ (wk_keep _ _ rfl (by kernel_rfl) (by kernel_rfl)) (fun s => ?_)
 obtain ⟨i, hi0⟩ := s
 show ETri J w0 (ofL [(1, .box 24 (cSy n rs)), (2, .box 24 [iv (Elm.EN n v rs), .fr (slA 2 cRo (Elm.ER n v rs))])]) (ofT 80 [(1, iv v), (2, intsA ys), (3, .box 1 0), (7, .box 2 0), (9, iv i)]) _
 refine tri_seq ?_
 refine tri_seq ?_
 by_cases hs4 : ((i : Nat) : Int) < (((Elm.ER n v rs).length : Nat) : Int)
 have hi1 : i < (Elm.ER n v rs).length := by omega
 obtain ⟨g1, g2, g3⟩ := Elm.gone hE (List.getElem_mem hi1)
 refine tri_region ?_
 refine oA (sp_move (.tmp 9) (iv i) rfl) I0 ?_
 refine oA (fB 1 (.tmp 7) rfl Tryd.underlying24 rfl 1 rfl) I0 ?_
 refine oB (lB (.box 24 [iv (Elm.EN n v rs), .fr (slA 2 cRo (Elm.ER n v rs))]) (.fr (slA 2 cRo (Elm.ER n v rs))) (.tmp 34) rfl Tryd.underlying22 rfl rfl) I0 rfl ?_
 refine t_op rfl (sp_lenSl (.tmp 35) rfl Tryd.underlying22) ⟨.inr (.inl rfl), T0⟩ T0 T0 ?_
 refine oC (sp_lss rfl (dT hs4)) I0 I0 ?_
 refine kN 80 [(1, .box 24 (cSy n rs)), (2, .box 24 [iv (Elm.EN n v rs), .fr (slA 2 cRo (Elm.ER n v rs))])] [(1, iv v), (2, intsA ys), (3, .box 1 0), (7, .box 2 0), (9, iv i), (37, bv true)] ?_
 refine t_then ?_
 refine t_condT rfl ?_
 refine tri_skip ?_
 refine t_then ?_
 refine tri_seq ?_
 refine tri_block ?_
 refine tri_seq ?_
 refine tri_region ?_
 refine oA (sp_move (.tmp 1) (iv v) rfl) I0 ?_
 refine oA (fB 1 (.tmp 7) rfl Tryd.underlying24 rfl 1 rfl) I0 ?_
 refine oB (lB (.box 24 [iv (Elm.EN n v rs), .fr (slA 2 cRo (Elm.ER n v rs))]) (.fr (slA 2 cRo (Elm.ER n v rs))) (.tmp 41) rfl Tryd.underlying22 rfl rfl) I0 rfl ?_
 refine oA (sp_move (.tmp 9) (iv i) rfl) I0 ?_
 refine t_op rfl (sp_indexSl (off := i * 2) (.tmp 42) (.tmp 43) rfl Tryd.underlying22 (by kernel_rfl) (by omega) (by omega) rfl) ⟨.inr (.inl rfl), I0, T0⟩ T0 T0 ?_
 refine oA (sp_fieldEl (off' := i * 2) (.tmp 44) rfl Tryd.underlying39 rfl (z := 1) (by kernel_rfl) (by decide) rfl) I0 ?_
 refine oA (sp_loadEl1 (X := intsA ((Elm.ER n v rs)[i].1)) (.tmp 45) rfl Tryd.underlying25 rfl ((eflat_get lenRo (Elm.ER n v rs) i 0 (by omega) (by decide)).trans rfl)) I0 ?_
 refine oA (sp_lenSl (.tmp 46) rfl Tryd.underlying25) I0 ?_
 refine oC (sp_geq rfl (dF (by omega))) I0 I0 ?_
 refine oA (sp_move (.tmp 48) (bv false) rfl) I0 ?_
 refine gA (fB 1 (.tmp 7) rfl Tryd.underlying24 rfl 1 rfl) I0 ?_
 refine gB (lB (.box 24 [iv (Elm.EN n v rs), .fr (slA 2 cRo (Elm.ER n v rs))]) (.fr (slA 2 cRo (Elm.ER n v rs))) (.tmp 50) rfl Tryd.underlying22 rfl rfl) I0 rfl ?_
 refine gA (sp_move (.tmp 9) (iv i) rfl) I0 ?_
 refine t_opG rfl (sp_indexSl (off := i * 2) (.tmp 51) (.tmp 52) rfl Tryd.underlying22 (by kernel_rfl) (by omega) (by omega) rfl) ⟨.inr (.inl rfl), I0, T0⟩ T0 T0 ?_
 refine gA (sp_fieldEl (off' := i * 2) (.tmp 53) rfl Tryd.underlying39 rfl (z := 1) (by kernel_rfl) (by decide) rfl) I0 ?_
 refine gA (sp_loadEl1 (X := intsA ((Elm.ER n v rs)[i].1)) (.tmp 54) rfl Tryd.underlying25 rfl ((eflat_get lenRo (Elm.ER n v rs) i 0 (by omega) (by decide)).trans rfl)) I0 ?_
 refine gA (sp_move (.tmp 1) (iv v) rfl) I0 ?_
 refine gC (sp_indexSl (off := v.toNat * 1) (.tmp 55) (.tmp 56) rfl Tryd.underlying25 (by kernel_rfl) (by omega) (by omega) rfl) I0 I0 ?_
 refine gA (sp_loadEl1 (X := iv (Elm.cf v.toNat (Elm.ER n v rs)[i])) (.tmp 57) rfl Tryd.underlying3 rfl ((map_at1 ((Elm.ER n v rs)[i].1) (by omega)).trans (congrArg (fun x => some (iv x)) (Elm.cf_at (by omega))))) I0 ?_
 refine gC (sp_neq rfl (dT' g3)) I0 I0 ?_
 refine oD (sp_pick (.tmp 49) (.const (.bool true)) (.tmp 59) false (bv true) (bv false) rfl) I0 I0 I0 ?_
 refine kN 80 [(1, .box 24 (cSy n rs)), (2, .box 24 [iv (Elm.EN n v rs), .fr (slA 2 cRo (Elm.ER n v rs))])] [(1, iv v), (2, intsA ys), (3, .box 1 0), (7, .box 2 0), (9, iv i), (37, bv true), (60, bv false)] ?_
 refine t_then ?_
 refine t_condF rfl ?_
 refine tri_skip ?_
 refine t_block ?_
 refine t_then ?_
 refine tri_region ?_
 refine oA (sp_move (.tmp 9) (iv i) rfl) I0 ?_
 refine oC (sp_add (c := ((i + 1 : Nat) : Int)) rfl (w64 (by omega) (by omega) (by omega))) I0 I0 ?_
 refine oA (sp_assign (.tmp 39) (iv (i + 1 : Nat)) rfl) I0 ?_
 refine kN 80 [(1, .box 24 (cSy n rs)), (2, .box 24 [iv (Elm.EN n v rs), .fr (slA 2 cRo (Elm.ER n v rs))])] [(1, iv v), (2, intsA ys), (3, .box 1 0), (7, .box 2 0), (9, iv (i + 1 : Nat)), (37, bv true), (60, bv false)] ?_
 refine t_then ?_
 refine tri_again ⟨i + 1, by omega⟩ (show (Elm.ER n v rs).length - (i + 1) < (Elm.ER n v rs).length - i by omega) ?_
 exact wk_keep _ _ rfl (by kernel_rfl) (by kernel_rfl)
 refine tri_region ?_
 refine oA (sp_move (.tmp 9) (iv i) rfl) I0 ?_
 refine oA (fB 1 (.tmp 7) rfl Tryd.underlying24 rfl 1 rfl) I0 ?_
 refine oB (lB (.box 24 [iv (Elm.EN n v rs), .fr (slA 2 cRo (Elm.ER n v rs))]) (.fr (slA 2 cRo (Elm.ER n v rs))) (.tmp 34) rfl Tryd.underlying22 rfl rfl) I0 rfl ?_
 refine t_op rfl (sp_lenSl (.tmp 35) rfl Tryd.underlying22) ⟨.inr (.inl rfl), T0⟩ T0 T0 ?_
 refine oC (sp_lss rfl (dF hs4)) I0 I0 ?_
 refine kN 80 [(1, .box 24 (cSy n rs)), (2, .box 24 [iv (Elm.EN n v rs), .fr (slA 2 cRo (Elm.ER n v rs))])] [(1, iv v), (2, intsA ys), (3, .box 1 0), (7, .box 2 0), (9, iv i), (37, bv false)] ?_
 refine t_then ?_
 refine t_condF rfl ?_
 refine tri_exit ?_
 refine t_then_exit ?_
 refine t_then_exit ?_
 refine t_hit ?_
 refine t_then ?_
 refine tri_seq ?_
 by_cases hs5 : (satS n rs ys) = true
 refine tri_region ?_
 refine oA (fB 0 (.tmp 7) rfl Tryd.underlying24 rfl 1 rfl) I0 ?_
 refine oB (lB (.box 24 [iv (Elm.EN n v rs), .fr (slA 2 cRo (Elm.ER n v rs))]) (iv (Elm.EN n v rs)) (.tmp 61) rfl Tryd.underlying3 rfl rfl) I0 rfl ?_
 refine oA (fB 0 (.tmp 3) rfl Tryd.underlying24 rfl 1 rfl) I0 ?_
 refine oB (lB (.box 24 (cSy n rs)) (iv n) (.tmp 63) rfl Tryd.underlying3 rfl rfl) I0 rfl ?_
 refine oC (sp_eql rfl (dT (Elm.EN_eq hE))) I0 I0 ?_
 refine oA (sp_move (.tmp 65) (bv true) rfl) I0 ?_
 refine gB (sp_loadBoxS (Y := .box 24 (cSy n rs)) (ds := cSy n rs) (z := 2) (.tmp 3) rfl Tryd.underlying24 rfl (by kernel_rfl) (by decide) (by kernel_rfl) (by kernel_rfl)) I0 rfl ?_
 refine gA (sp_move (.tmp 2) (intsA ys) rfl) I0 ?_
 refine gD (sp_call (c := .func 15) (xs := #[.tmp 67, .tmp 68]) [] (ctr_b (Nk.Satisfies_c H Hy) hs5) rfl (by kernel_rfl) rfl (Xs := [.agg (cSy n rs), intsA ys]) rfl rfl rfl) I0 I0 I0 ?_
 refine gA (sp_not rfl rfl) I0 ?_
 refine gA (sp_move (.tmp 70) (bv false) rfl) I0 ?_
 refine gB (sp_loadBoxS (Y := .box 24 [iv (Elm.EN n v rs), .fr (slA 2 cRo (Elm.ER n v rs))]) (ds := [iv (Elm.EN n v rs), .fr (slA 2 cRo (Elm.ER n v rs))]) (z := 2) (.tmp 7) rfl Tryd.underlying24 rfl (by kernel_rfl) (by decide) (by kernel_rfl) (by kernel_rfl)) I0 rfl ?_
 refine gA (sp_move (.tmp 2) (intsA ys) rfl) I0 ?_
 refine gD (sp_call (c := .func 15) (xs := #[.tmp 72, .tmp 73]) [] (ctr_b (Nk.Satisfies_c Elm.ER_ok Hy) (Elm.stays hE hs5)) rfl (by kernel_rfl) rfl (Xs := [.agg [iv (Elm.EN n v rs), .fr (slA 2 cRo (Elm.ER n v rs))], intsA ys]) rfl rfl rfl) I0 I0 I0 ?_
 refine gD (sp_pick (.tmp 71) (.const (.bool true)) (.tmp 74) false (bv true) (bv true) rfl) I0 I0 I0 ?_
 refine oD (sp_pick (.tmp 66) (.tmp 75) (.const (.bool false)) true (bv true) (bv false) rfl) I0 I0 I0 ?_
 refine oA (sp_move (.tmp 76) (bv true) rfl) I0 ?_
 refine gA (sp_call (c := .func 12) (xs := #[]) [] wknown_c rfl (by kernel_rfl) rfl (Xs := []) rfl rfl rfl) I0 ?_
 refine oD (sp_pick (.tmp 77) (.tmp 78) (.const (.bool false)) true (bv true) (bv false) rfl) I0 I0 I0 ?_
 refine oA (sp_assign (.tmp 79) (bv true) rfl) I0 ?_
 refine kN 80 [] [(6, bv true)] ?_
 refine t_then ?_
 refine tri_ret ?_
 refine tri_end1 Tryd.results7 (.tmp rfl) ?_
 exact rfl
 have hs5f : (satS n rs ys) = false := by simpa using hs5
 refine tri_region ?_
 refine oA (fB 0 (.tmp 7) rfl Tryd.underlying24 rfl 1 rfl) I0 ?_
 refine oB (lB (.box 24 [iv (Elm.EN n v rs), .fr (slA 2 cRo (Elm.ER n v rs))]) (iv (Elm.EN n v rs)) (.tmp 61) rfl Tryd.underlying3 rfl rfl) I0 rfl ?_
 refine oA (fB 0 (.tmp 3) rfl Tryd.underlying24 rfl 1 rfl) I0 ?_
 refine oB (lB (.box 24 (cSy n rs)) (iv n) (.tmp 63) rfl Tryd.underlying3 rfl rfl) I0 rfl ?_
 refine oC (sp_eql rfl (dT (Elm.EN_eq hE))) I0 I0 ?_
 refine oA (sp_move (.tmp 65) (bv true) rfl) I0 ?_
 refine gB (sp_loadBoxS (Y := .box 24 (cSy n rs)) (ds := cSy n rs) (z := 2) (.tmp 3) rfl Tryd.underlying24 rfl (by kernel_rfl) (by decide) (by kernel_rfl) (by kernel_rfl)) I0 rfl ?_
 refine gA (sp_move (.tmp 2) (intsA ys) rfl) I0 ?_
 refine gD (sp_call (c := .func 15) (xs := #[.tmp 67, .tmp 68]) [] (ctr_b (Nk.Satisfies_c H Hy) hs5f) rfl (by kernel_rfl) rfl (Xs := [.agg (cSy n rs), intsA ys]) rfl rfl rfl) I0 I0 I0 ?_
 refine gA (sp_not rfl rfl) I0 ?_
 refine gA (sp_move (.tmp 70) (bv true) rfl) I0 ?_
 refine t_skip rfl ?_
 refine t_skip rfl ?_
 refine t_skip rfl ?_
 refine gD (sp_pick (.tmp 71) (.const (.bool true)) (.tmp 74) true (bv true) (.v (.tuple #[])) rfl) I0 I0 I0 ?_
 refine oD (sp_pick (.tmp 66) (.tmp 75) (.const (.bool false)) true (bv true) (bv false) rfl) I0 I0 I0 ?_
 refine oA (sp_move (.tmp 76) (bv true) rfl) I0 ?_
 refine gA (sp_call (c := .func 12) (xs := #[]) [] wknown_c rfl (by kernel_rfl) rfl (Xs := []) rfl rfl rfl) I0 ?_
 refine oD (sp_pick (.tmp 77) (.tmp 78) (.const (.bool false)) true (bv true) (bv false) rfl) I0 I0 I0 ?_
 refine oA (sp_assign (.tmp 79) (bv true) rfl) I0 ?_
 refine kN 80 [] [(6, bv true)] ?_
 refine t_then ?_
 refine tri_ret ?_
 refine tri_end1 Tryd.results7 (.tmp rfl) ?_
 exact rfl
 refine tri_region ?_
 refine oA (sp_move (.tmp 8) (iv (Elm.EE n v rs)) rfl) I0 ?_
 refine oC (sp_neq rfl (dF' hs3)) I0 I0 ?_
 refine kN 80 [(1, .box 24 (cSy n rs)), (2, .box 24 [iv (Elm.EN n v rs), .fr (slA 2 cRo (Elm.ER n v rs))])] [(1, iv v), (2, intsA ys), (3, .box 1 0), (6, bv false), (7, .box 2 0), (25, bv true)] ?_
 refine t_then ?_
 refine t_condT rfl ?_
 refine tri_seq ?_
 refine tri_region ?_
 refine oA (fB 1 (.tmp 7) rfl Tryd.underlying24 rfl 1 rfl) I0 ?_
 refine oB (lB (.box 24 [iv (Elm.EN n v rs), .fr (slA 2 cRo (Elm.ER n v rs))]) (.fr (slA 2 cRo (Elm.ER n v rs))) (.tmp 26) rfl Tryd.underlying22 rfl rfl) I0 rfl ?_
 refine t_op rfl (sp_lenSl (.tmp 27) rfl Tryd.underlying22) ⟨.inr (.inl rfl), T0⟩ T0 T0 ?_
 refine oC (sp_eql rfl (dT (Elm.none_left hs3))) I0 I0 ?_
 refine oA (sp_move (.tmp 29) (bv true) rfl) I0 ?_
 refine gA (sp_call (c := .func 12) (xs := #[]) [] wknown_c rfl (by kernel_rfl) rfl (Xs := []) rfl rfl rfl) I0 ?_
 refine oD (sp_pick (.tmp 30) (.tmp 31) (.const (.bool false)) true (bv true) (bv false) rfl) I0 I0 I0 ?_
 refine oA (sp_assign (.tmp 32) (bv true) rfl) I0 ?_
 refine kN 80 [(1, .box 24 (cSy n rs)), (2, .box 24 [iv (Elm.EN n v rs), .fr (slA 2 cRo (Elm.ER n v rs))])] [(1, iv v), (2, intsA ys), (3, .box 1 0), (6, bv true), (7, .box 2 0)] ?_
 refine t_then ?_
 refine tri_ret ?_
 refine t_then_ret ?_
 refine tri_end1 Tryd.results7 (.tmp rfl) ?_
 exact rfl
theorem walk_EliminateKeeps {u x : Value} {n v : Int} {rs : List Rw} {ys : List Int} (w : World) (h : IsSysX 0 w u n rs) (_ : I64 v) (h1 : IsInts 0 w x ys) :
    Calls Tryd.prog 7 #[u, .int .i64 v, x] w fun e w' => e = .returned (.bool true) ∧ Below w.heap.size w w' :=
  lwalk3 (lawEliminateKeeps_c h.ok h1.ok) (sysx_pu (fun _ _ h => h) h) (.v _) (ints_pu (fun _ _ h => h) h1)
end Go.Proofs.YtbbglendddepfaaDoor
