import Derived.Test.YtbbglendddepfaaDoorGrpeokkmchn
import Derived.Test.YtbbglendddepfaaDoorGrpigfeloij
set_option linter.all false
namespace Go.Proofs.YtbbglendddepfaaDoor
open Go.RowKit Go.Deep

def negB (x : Int) : Bool := decide (x < 0)
def triB (xs : List Int) (c : Int) : Bool := decide (0 ≤ c) && !xs.any negB

theorem isNegative_any (x : Int) (w : World) : Calls Tryd.prog 80 #[.int .i64 x] w fun e w' => e = .returned (.bool (negB x)) ∧ w = w' := by
  have E : Hid (negB x = decide (x < 0)) := (rfl : negB x = _)
  by_cases h : x < 0
  · go_enter Tryd.func80, Tryd.ntmps80
    go_wp2
    go_ret
    exact ⟨ret_bool (by rw [E.out]; symm; first | (rw [decide_eq_true_iff]; omega) | (rw [decide_eq_false_iff_not]; omega)), rfl⟩
  · go_enter Tryd.func80, Tryd.ntmps80
    go_wp2
    go_ret
    exact ⟨ret_bool (by rw [E.out]; symm; first | (rw [decide_eq_true_iff]; omega) | (rw [decide_eq_false_iff_not]; omega)), rfl⟩

/-- Where the first such number stands, -1 if there is none. -/
theorem find_negB (xs : List Int) (k : Nat) (h : k < xs.length) (hp : negB xs[k] = true) : xs.any negB = true := List.any_eq_true.2 ⟨_, List.getElem_mem h, hp⟩

set_option maxHeartbeats 800000 in
theorem index_negB_full (b off n cap : Nat) (w : World) (xs : List Int) (hx : xs.length = n) (hn : n ≤ 9223372036854775807)
    (hc : ∀ i, i < n → w.cell? ⟨b, off + i, none⟩ = some (.int .i64 (xs.getD i 0))) :
    Calls Tryd.prog 91 #[.slice (some ⟨b, off, none⟩) n cap, .func (.func 80) #[] #[]] w fun e w' => ∃ r : Int, e = .returned (.int .i64 r) ∧ (decide (0 ≤ r) = xs.any negB) ∧ w = w' := by
  go_enter Tryd.func91, Tryd.ntmps91
  go_wp2_with fail
  go_loop [8] (fun v => ∃ k : Nat, k ≤ n ∧ v = .int .i64 k ∧ (xs.take k).any negB = false) (fun v => n - (intOf v).toNat)
  case atStart => exact ⟨0, Nat.zero_le _, rfl, rfl⟩
  case round =>
    obtain ⟨k, hk, rfl, hall⟩ := hrel
    have HA := hid0 hall
    clear hall
    by_cases h1 : k < n
    · have g1 : w.cell? ⟨b, off + k, none⟩ = some (.int .i64 (xs.getD k 0)) := hc k h1
      cases hp : negB (xs[k]'(by omega)) with
      | true =>
        have E := hid0 (find_negB xs k (by omega) hp)
        go_wp2_with (go_at_call 80; refine (isNegative_any _ _).mono ?_; rintro e w' ⟨rfl, rfl⟩)
        go_ret
        exact ⟨_, rfl, by rw [E.out]; simp, rfl⟩
      | false =>
        go_wp2_with (go_at_call 80; refine (isNegative_any _ _).mono ?_; rintro e w' ⟨rfl, rfl⟩)
        go_round
        case rel => exact ⟨k + 1, by omega, by go_num, by rw [List.take_succ_eq_append_getElem (by omega), List.any_append, HA.out]; simp [hp]⟩
        case measure => simp [intOf]; omega
    · have e1 : xs.take k = xs := List.take_of_length_le (by omega)
      have HA' : Hid (xs.any negB = false) := by rw [← e1]; exact HA.out
      clear e1
      go_wp2_with fail
      go_ret
      exact ⟨-1, rfl, by rw [HA'.out]; simp, rfl⟩
theorem index_negB_empty (a : Option Addr) (cap : Nat) (w : World) :
    Calls Tryd.prog 91 #[.slice a 0 cap, .func (.func 80) #[] #[]] w fun e w' => ∃ r : Int, e = .returned (.int .i64 r) ∧ (decide (0 ≤ r) = ([] : List Int).any negB) ∧ w = w' := by
  go_enter Tryd.func91, Tryd.ntmps91
  go_wp2_with fail
  refine wp_loop_rounds 1 ?_
  rw [rounds_succ]
  go_wp2_with fail
  go_ret
  exact ⟨-1, rfl, rfl, rfl⟩
theorem contains_negB {lo : Nat} {w : World} {v : Value} {xs : List Int} (h : IsInts lo w v xs) :
    Calls Tryd.prog 79 #[v, .func (.func 80) #[] #[]] w fun e w' => e = .returned (.bool (xs.any negB)) ∧ w = w' := by
  have hI : Calls Tryd.prog 91 #[v, .func (.func 80) #[] #[]] w fun e w' => ∃ r : Int, e = .returned (.int .i64 r) ∧ (decide (0 ≤ r) = xs.any negB) ∧ w = w' := by
    obtain ⟨a, cap, rfl, hl, hm, _, hc⟩ := h
    unfold maxLen at hm
    rcases hc with rfl | ⟨b, off, rfl, _, _, hc⟩
    · exact index_negB_empty _ _ _
    · exact index_negB_full _ _ _ _ _ _ rfl (by omega) hc
  obtain ⟨a, cap, rfl⟩ := h.shape
  have HI := hid0 hI
  clear hI h
  go_enter Tryd.func79, Tryd.ntmps79
  go_wp2_with (go_at_call 91; refine Calls.mono (show Calls _ _ _ _ _ from HI.out) ?_; rintro e w' ⟨r, rfl, hr, rfl⟩; have HR := hid0 hr; clear hr)
  go_ret
  exact ⟨ret_bool HR.out, rfl⟩

theorem Trivial_any {lo : Nat} {w : World} {v : Value} {xs : List Int} (c : Int) (h : IsInts lo w v xs) :
    Calls Tryd.prog 64 #[.agg #[v, .int .i64 c]] w fun e w' => e = .returned (.bool (triB xs c)) ∧ Below w.heap.size w w' := by
  have H := hid0 h
  obtain ⟨a, cap, rfl⟩ := h.shape
  clear h
  by_cases hc : 0 ≤ c
  · have E : Hid (triB xs c = !xs.any negB) := by show _ = _; simp [triB, hc]
    go_enter Tryd.func64, Tryd.ntmps64
    go_wp2_with (go_at_call 79; refine (contains_negB (H.out.below (by go_grown))).mono ?_; rintro e w' ⟨rfl, rfl⟩)
    go_ret
    exact ⟨ret_bool E.out.symm, allocBelow _ _⟩
  · have E : Hid (triB xs c = false) := by show _ = _; simp [triB, hc]
    go_enter Tryd.func64, Tryd.ntmps64
    go_wp2_with fail
    go_ret
    exact ⟨ret_bool E.out.symm, allocBelow _ _⟩

set_option maxHeartbeats 400000 in
theorem rTrivial_full (b off n cap : Nat) (c : Int) (w : World) (xs : List Int) (hx : xs.length = n) (hn : n ≤ 9223372036854775807) (hb : b < w.heap.size)
    (hc : ∀ i, i < n → w.cell? ⟨b, off + i, none⟩ = some (.int .i64 (xs.getD i 0))) :
    Calls Tryd.prog 73 #[.agg #[.slice (some ⟨b, off, none⟩) n cap, .int .i64 c]] w fun e w' => e = .returned (.bool (triB xs c)) ∧ Below w.heap.size w w' := by
  have E1 : Hid (triB xs c = (decide (0 ≤ c) && !xs.any negB)) := (rfl : triB xs c = _)
  go_enter Tryd.func73, Tryd.ntmps73
  go_wp2_with fail
  go_loop [3] (fun v => ∃ k : Nat, k ≤ n ∧ v = .int .i64 k ∧ (xs.take k).any negB = false) (fun v => n - (intOf v).toNat)
  case atStart => exact ⟨0, Nat.zero_le _, rfl, rfl⟩
  case round =>
    obtain ⟨k, hk, rfl, hall⟩ := hrel
    have HA := hid0 hall
    clear hall
    by_cases h1 : k < n
    · have g1 : (w.alloc (.cells #[.slice (some ⟨b, off, none⟩) n cap, .int .i64 c] 39)).cell? ⟨b, off + k, none⟩ = some (.int .i64 (xs.getD k 0)) := (World.cell?_alloc_past _ _ _ (by simpa using hb)).trans (hc k h1)
      by_cases hp : (xs[k]'(by omega)) < 0
      · have E := hid0 (find_negB xs k (by omega) (by simpa [negB] using hp))
        go_wp2_with fail
        go_ret
        exact ⟨ret_bool (by rw [E1.out, E.out]; simp), allocBelow _ _⟩
      · have hp' := hid0 hp
        go_wp2_with fail
        go_round
        case rel => exact ⟨k + 1, by omega, by go_num, by rw [List.take_succ_eq_append_getElem (by omega), List.any_append, HA.out]; simpa [negB] using hp'.out⟩
        case measure => simp [intOf]; omega
    · have e1 : xs.take k = xs := List.take_of_length_le (by omega)
      have HA' : Hid (xs.any negB = false) := by rw [← e1]; exact HA.out
      clear e1
      go_wp2_with fail
      go_ret
      exact ⟨ret_bool (by rw [E1.out, HA'.out]; simp), allocBelow _ _⟩
theorem rTrivial_empty (a : Option Addr) (cap : Nat) (c : Int) (w : World) :
    Calls Tryd.prog 73 #[.agg #[.slice a 0 cap, .int .i64 c]] w fun e w' => e = .returned (.bool (triB [] c)) ∧ Below w.heap.size w w' := by
  have E1 : Hid (triB [] c = (decide (0 ≤ c) && !([] : List Int).any negB)) := (rfl : triB [] c = _)
  go_enter Tryd.func73, Tryd.ntmps73
  go_wp2_with fail
  refine wp_loop_rounds 1 ?_
  rw [rounds_succ]
  go_wp2_with fail
  go_ret
  exact ⟨ret_bool (by rw [E1.out]; simp), allocBelow _ _⟩
theorem rTrivial_any {lo : Nat} {w : World} {v : Value} {xs : List Int} (c : Int) (h : IsInts lo w v xs) :
    Calls Tryd.prog 73 #[.agg #[v, .int .i64 c]] w fun e w' => e = .returned (.bool (triB xs c)) ∧ Below w.heap.size w w' := by
  obtain ⟨a, cap, rfl, hl, hm, hi, hc⟩ := h
  unfold maxLen at hm
  rcases hc with rfl | ⟨b, off, rfl, _, hb, hc⟩
  · exact rTrivial_empty _ _ _ _
  · exact rTrivial_full _ _ _ _ _ _ _ rfl (by omega) hb hc
end Go.Proofs.YtbbglendddepfaaDoor

namespace Go.Proofs.YtbbglendddepfaaDoor
open Go.RowKit Go.Deep
variable {J : World → Prop}
def tR (r : Rw) : Rw := (tX r.1 r.2, tC r.1 r.2)
theorem tR_len (r : Rw) : (tR r).1.length = r.1.length := tX_length _ _
theorem smB_I64 {x : Int} (h : smB x = true) : I64 x := by rw [smB_true] at h; unfold I64; omega
theorem tR_small {xs : List Int} {c : Int} (h : smR (xs, c) = true) : smR (tX xs c, tC xs c) = true := by
  unfold tX tC
  split
  · rename_i hh
    obtain ⟨h1, h2⟩ := smR_true.1 h
    have hg : (1 : Int) ≤ gcdL xs 0 := by have := hh.2; omega
    rw [smR_true]
    constructor
    · rw [List.all_eq_true]
      intro y hy
      obtain ⟨x, hx, rfl⟩ := List.mem_map.1 hy
      rw [smB_true]
      exact tdiv_small (List.all_eq_true.1 h1 x hx)
    · rw [smB_true] at h2 ⊢
      obtain ⟨a, b⟩ := h2
      generalize ((gcdL xs 0 : Nat) : Int) = g at hg
      constructor
      · exact (Int.le_ediv_iff_mul_le (a := -68719476736) (b := c) (by omega : 0 < g)).2 (by omega)
      · by_cases hc : 0 ≤ c
        · exact Int.le_trans (Int.ediv_le_self _ hc) b
        · have h3 : c / g ≤ 0 := by
            have := Int.ediv_le_ediv (by omega : 0 < g) (by omega : c ≤ 0)
            simpa using this
          omega
  · exact h
theorem tR_ok {r : Rw} (h : RwOk r) : RwOk (tR r) := by
  by_cases hs : smR (r.1, r.2) = true
  · obtain ⟨h1, h2⟩ := smR_true.1 (tR_small hs)
    exact ⟨fun x hx => smB_I64 (List.all_eq_true.1 h1 x hx), smB_I64 h2⟩
  · have e1 : tX r.1 r.2 = r.1 := by unfold tX; rw [if_neg fun h => hs h.1]
    have e2 : tC r.1 r.2 = r.2 := by unfold tC; rw [if_neg fun h => hs h.1]
    have : tR r = r := Prod.ext e1 e2
    rw [this]; exact h
theorem Tighten_c {r : Rw} (H : RwOk r) (hn : r.1.length ≤ 1000) : Ctr Tryd.prog J 30 [.agg (cRo r)] (.agg (cRo (tR r))) := ctr1 fun w v _ h => by
  obtain ⟨u, rfl, hu⟩ := row_args h
  exact (Tighten_every r.2 (pu_ints H.coef lo00 hu) hn).mono fun _ _ ⟨g, he, ho, hb⟩ => ⟨_, he, .agg rfl fun j hj => (match j, hj with
    | 0, _ => ownI' ho (tX_length _ _).symm
    | 1, _ => .v _), hb⟩
theorem Trivial_c {r : Rw} (H : RwOk r) : Ctr Tryd.prog J 64 [.agg (cRo r)] (bv (triB r.1 r.2)) := ctr1 fun w v _ h => by
  obtain ⟨u, rfl, hu⟩ := row_args h
  exact (Trivial_any r.2 (pu_ints H.coef lo00 hu)).mono fun _ _ ⟨he, hb⟩ => ⟨_, he, .v _, hb⟩
/-- The rows that say something, tightened. -/
def tgs (rs : List Rw) : List Rw := (rs.map tR).filter fun t => !triB t.1 t.2
section
variable {rs : List Rw} {k : Nat}
theorem tgs_yes (hk : k < rs.length) (h : triB (tR rs[k]).1 (tR rs[k]).2 = false) : tgs (rs.take (k + 1)) = tgs (rs.take k) ++ [tR rs[k]] := by
  unfold tgs
  rw [List.take_succ_eq_append_getElem hk, List.map_append, List.filter_append]
  simp [h]
theorem tgs_no (hk : k < rs.length) (h : triB (tR rs[k]).1 (tR rs[k]).2 = true) : tgs (rs.take (k + 1)) = tgs (rs.take k) := by
  unfold tgs
  rw [List.take_succ_eq_append_getElem hk, List.map_append, List.filter_append]
  simp [h]
theorem tgs_ok {ss : List Rw} (h : ∀ r ∈ ss, RwOk r) : ∀ r ∈ tgs ss, RwOk r := fun r hr => by
  unfold tgs at hr
  obtain ⟨x, hx, rfl⟩ := List.mem_map.1 (List.mem_filter.1 hr).1
  exact tR_ok (h x hx)
theorem srt_ok {ss : List Rw} (h : ∀ r ∈ ss, RwOk r) : ∀ r ∈ srt ss, RwOk r := fun r hr => h r ((srt_perm ss).mem_iff.1 hr)
end
/-- The rows of a system in their normal form. -/
def nrm (rs : List Rw) : List Rw := cmpt (srt (tgs rs))
section
variable {n : Int} {rs : List Rw}
theorem cmpt_sub {ss : List Rw} : ∀ r ∈ cmpt ss, r ∈ ss := by
  have key : ∀ m, m ≤ ss.length → ∀ r ∈ keptR ss m, r ∈ ss := by
    intro m
    induction m with
    | zero => intro _ r h; simp [keptR] at h
    | succ m ih =>
      intro hm r h
      rw [keptR, List.mem_append] at h
      rcases h with h | h
      · exact ih (by omega) r h
      · split at h
        · rw [List.mem_singleton] at h
          rw [h, List.getD_eq_getElem?_getD, List.getElem?_eq_getElem (by omega)]
          exact List.getElem_mem _
        · cases h
  exact key _ (Nat.le_refl _)
theorem keptR_len (ss : List Rw) : ∀ m, (keptR ss m).length ≤ m
  | 0 => Nat.le_refl _
  | m + 1 => by
    have := keptR_len ss m
    rw [keptR, List.length_append]
    split <;> simp <;> omega
theorem nrm_ok (H : SyOk rs) : ∀ r ∈ nrm rs, RwOk r := fun r hr => srt_ok (tgs_ok H.rows) r (cmpt_sub r hr)
theorem nrm_len : (nrm rs).length ≤ rs.length := by
  unfold nrm cmpt
  have h1 := keptR_len (srt (tgs rs)) (srt (tgs rs)).length
  have h2 := srt_len (tgs rs)
  have h3 : (tgs rs).length ≤ rs.length := by
    unfold tgs
    exact Nat.le_trans (List.length_filter_le _ _) (by simp)
  omega
end
end Go.Proofs.YtbbglendddepfaaDoor

namespace Go.Proofs.YtbbglendddepfaaDoor
open Go.RowKit Go.Deep
variable {J : World → Prop}
set_option linter.unusedSimpArgs false in
set_option linter.unusedVariables false in
set_option maxRecDepth 100000 in
set_option maxHeartbeats 6400000 in
theorem normalRows_o {rs : List Rw} (H : SyOk rs) (hl : rs.length ≤ 250) (hs : ∀ r ∈ rs, r.1.length ≤ 1000) (k : Nat) : CtrO Tryd.prog J 33 [slA 2 cRo rs] k (.row true 39 2 ((nrm rs).length) ((nrm rs).flatMap cRo)) (.own k) := by
 refine ctrO_of_tri Tryd.func33 rfl (by intro X hX; simp only [List.mem_cons, List.not_mem_nil, or_false] at hX; rcases hX with rfl; exact plain_sl plain_ro _) (n := 27) rfl (by simp) (fun w0 => ?_)
 refine kW 27 [] [(0, slA 2 cRo rs)] ?_
 refine tri_seq ?_
 refine tri_region ?_
 refine oA (sp_assign (.const (.slice none 0 0)) (.v (.slice none 0 0)) rfl) I0 ?_
 refine kN 27 [] [(0, slA 2 cRo rs), (2, .v (.slice none 0 0))] ?_
 refine t_then ?_
 refine tri_seq ?_
 refine tri_region ?_
 refine oA (sp_assign (.const (.slice none 0 0)) (.v (.slice none 0 0)) rfl) I0 ?_
 refine kN 27 [] [(0, slA 2 cRo rs), (2, .v (.slice none 0 0)), (3, .v (.slice none 0 0))] ?_
 refine t_then ?_
 refine tri_seq ?_
 refine tri_seq ?_
 refine tri_region ?_
 refine oA (sp_move (.tmp 0) (slA 2 cRo rs) rfl) I0 ?_
 refine oA (sp_lenSl (.tmp 7) rfl Tryd.underlying22) I0 ?_
 refine oA (sp_move (.const (.int .i64 0)) (iv 0) rfl) I0 ?_
 refine kN 27 [] [(2, .v (.slice none 0 0)), (3, .v (.slice none 0 0)), (7, slA 2 cRo rs), (8, iv rs.length), (9, iv 0)] ?_
 refine t_then ?_
 refine tri_block ?_
 refine tri_wk (wk_adopt 3 1 true 39 2 rfl rfl rfl) ?_
 refine tri_loop (σ := {p : Nat × List Rw // p.1 ≤ rs.length ∧ p.2 = tgs (rs.take p.1) ∧ p.2.length ≤ p.1}) (fun s => (ofL [(1, .row true 39 2 s.1.2.length (s.1.2.flatMap cRo))], ofT 27 [(2, .v (.slice none 0 0)), (3, .own 1), (7, slA 2 cRo rs), (8, iv rs.length), (9, iv s.1.1)])) (fun s => rs.length - s.1.1) ⟨(0, []), Nat.zero_le _, rfl, Nat.zero_le _⟩ (wk_keep _ _ rfl (by kernel_rfl) (by kernel_rfl)) (fun s => ?_)
 obtain ⟨⟨j, L⟩, hj0, hL, hLb⟩ := s
 show ETri J w0 (ofL [(1, .row true 39 2 L.length (L.flatMap cRo))]) (ofT 27 [(2, .v (.slice none 0 0)), (3, .own 1), (7, slA 2 cRo rs), (8, iv rs.length), (9, iv j)]) _
 dsimp only at hj0 hL hLb
 refine tri_seq ?_
 by_cases hs1 : ((j : Nat) : Int) < ((rs.length : Nat) : Int)
 refine tri_region ?_
 refine oC (sp_lss rfl (dT hs1)) I0 I0 ?_
 refine kN 27 [(1, .row true 39 2 L.length (L.flatMap cRo))] [(2, .v (.slice none 0 0)), (3, .own 1), (7, slA 2 cRo rs), (8, iv rs.length), (9, iv j), (10, bv true)] ?_
 refine t_then ?_
 refine tri_seq ?_
 refine t_condT rfl ?_
 refine tri_skip ?_
 refine t_then ?_
 refine tri_seq ?_
 refine tri_block ?_
 refine tri_seq ?_
 refine tri_region ?_
 refine oC (sp_indexSl (off := j * 2) (.tmp 7) (.tmp 9) rfl Tryd.underlying22 (by kernel_rfl) (by omega) (by omega) rfl) I0 I0 ?_
 refine oA (sp_loadElS (z := 2) (.tmp 11) rfl Tryd.underlying39 rfl (by kernel_rfl) (flat_take lenRo rs j (by omega)) rfl) I0 ?_
 refine t_op rfl (sp_alloc (z := .agg #[.slice none 0 0, .int .i64 0]) (k := 2) rfl (by kernel_rfl)) T0 T0 rfl ?_
 refine t_op rfl (sp_storeBox (T0 := 39) (X := .agg (cRo rs[j])) (cs := [.v (.slice none 0 0), iv 0]) (ds := cRo rs[j]) (z := 2) (.tmp 5) (.tmp 12) rfl (by kernel_rfl) (by kernel_rfl) (by kernel_rfl) (of_decide_eq_true (by kernel_rfl)) (by kernel_rfl)) ⟨I0, I0, T0⟩ ⟨rfl, T0⟩ rfl ?_
 refine kN 27 [(1, .row true 39 2 L.length (L.flatMap cRo)), (2, .box 39 (cRo rs[j]))] [(2, .v (.slice none 0 0)), (3, .own 1), (5, .box 2 0), (7, slA 2 cRo rs), (8, iv rs.length), (9, iv j), (10, bv true)] ?_
 refine t_then ?_
 refine tri_seq ?_
 refine tri_region ?_
 refine oB (sp_loadBoxS (Y := .box 39 (cRo rs[j])) (ds := cRo rs[j]) (z := 2) (.tmp 5) rfl Tryd.underlying39 rfl (by kernel_rfl) (by decide) (by kernel_rfl) (by kernel_rfl)) I0 rfl ?_
 refine oC (sp_call (c := .func 30) (xs := #[.tmp 13]) [] (Tighten_c (H.rows rs[j] (List.getElem_mem (by omega))) (hs rs[j] (List.getElem_mem (by omega)))) rfl (by kernel_rfl) rfl (Xs := [.agg (cRo rs[j])]) rfl rfl rfl) I0 I0 ?_
 refine t_op rfl (sp_alloc (z := .agg #[.slice none 0 0, .int .i64 0]) (k := 3) rfl (by kernel_rfl)) T0 T0 rfl ?_
 refine t_op rfl (sp_storeBox (T0 := 39) (X := .agg [.fr (intsA ((tR rs[j]).1)), iv ((tR rs[j]).2)]) (cs := [.v (.slice none 0 0), iv 0]) (ds := [.fr (intsA ((tR rs[j]).1)), iv ((tR rs[j]).2)]) (z := 2) (.tmp 6) (.tmp 14) rfl (by kernel_rfl) (by kernel_rfl) (by kernel_rfl) (of_decide_eq_true (by kernel_rfl)) (by kernel_rfl)) ⟨I0, .inr (.inr (.inl ⟨_, rfl, rfl⟩)), T0⟩ ⟨rfl, T0⟩ rfl ?_
 refine kN 27 [(1, .row true 39 2 L.length (L.flatMap cRo)), (2, .box 39 (cRo rs[j])), (3, .box 39 [.fr (intsA ((tR rs[j]).1)), iv ((tR rs[j]).2)])] [(2, .v (.slice none 0 0)), (3, .own 1), (5, .box 2 0), (6, .box 3 0), (7, slA 2 cRo rs), (8, iv rs.length), (9, iv j), (10, bv true)] ?_
 refine t_then ?_
 refine tri_seq ?_
 by_cases hs2 : (triB (tR rs[j]).1 (tR rs[j]).2) = true
 refine tri_region ?_
 refine oB (sp_loadBoxS (Y := .box 39 [.fr (intsA ((tR rs[j]).1)), iv ((tR rs[j]).2)]) (ds := [.fr (intsA ((tR rs[j]).1)), iv ((tR rs[j]).2)]) (z := 2) (.tmp 6) rfl Tryd.underlying39 rfl (by kernel_rfl) (by decide) (by kernel_rfl) (by kernel_rfl)) I0 rfl ?_
 refine oC (sp_call (c := .func 64) (xs := #[.tmp 15]) [] (ctr_b (Trivial_c (tR_ok (H.rows rs[j] (List.getElem_mem (by omega))))) hs2) rfl (by kernel_rfl) rfl (Xs := [.agg [.fr (intsA ((tR rs[j]).1)), iv ((tR rs[j]).2)]]) rfl rfl rfl) I0 I0 ?_
 refine oA (sp_not rfl rfl) I0 ?_
 refine kN 27 [(1, .row true 39 2 L.length (L.flatMap cRo)), (2, .box 39 (cRo rs[j])), (3, .box 39 [.fr (intsA ((tR rs[j]).1)), iv ((tR rs[j]).2)])] [(2, .v (.slice none 0 0)), (3, .own 1), (5, .box 2 0), (6, .box 3 0), (7, slA 2 cRo rs), (8, iv rs.length), (9, iv j), (10, bv true), (17, bv false)] ?_
 refine t_then ?_
 refine t_condF rfl ?_
 refine tri_skip ?_
 refine t_block ?_
 refine t_then ?_
 refine tri_region ?_
 refine oC (sp_add (c := ((j + 1 : Nat) : Int)) rfl (w64 (by omega) (by omega) (by omega))) I0 I0 ?_
 refine oA (sp_move (.tmp 22) (iv (j + 1 : Nat)) rfl) I0 ?_
 refine kN 27 [(1, .row true 39 2 L.length (L.flatMap cRo)), (2, .box 39 (cRo rs[j])), (3, .box 39 [.fr (intsA ((tR rs[j]).1)), iv ((tR rs[j]).2)])] [(2, .v (.slice none 0 0)), (3, .own 1), (5, .box 2 0), (6, .box 3 0), (7, slA 2 cRo rs), (8, iv rs.length), (9, iv (j + 1 : Nat)), (10, bv true), (17, bv false)] ?_
 refine t_then ?_
 refine tri_again ⟨(j + 1, L), by dsimp only; omega, by rw [tgs_no (by omega) hs2]; exact hL, by dsimp only; omega⟩ (show rs.length - (j + 1) < rs.length - j by omega) ?_
 exact wk_keep _ _ rfl (by kernel_rfl) (by kernel_rfl)
 have hs2f : (triB (tR rs[j]).1 (tR rs[j]).2) = false := by simpa using hs2
 refine tri_region ?_
 refine oB (sp_loadBoxS (Y := .box 39 [.fr (intsA ((tR rs[j]).1)), iv ((tR rs[j]).2)]) (ds := [.fr (intsA ((tR rs[j]).1)), iv ((tR rs[j]).2)]) (z := 2) (.tmp 6) rfl Tryd.underlying39 rfl (by kernel_rfl) (by decide) (by kernel_rfl) (by kernel_rfl)) I0 rfl ?_
 refine oC (sp_call (c := .func 64) (xs := #[.tmp 15]) [] (ctr_b (Trivial_c (tR_ok (H.rows rs[j] (List.getElem_mem (by omega))))) hs2f) rfl (by kernel_rfl) rfl (Xs := [.agg [.fr (intsA ((tR rs[j]).1)), iv ((tR rs[j]).2)]]) rfl rfl rfl) I0 I0 ?_
 refine oA (sp_not rfl rfl) I0 ?_
 refine kN 27 [(1, .row true 39 2 L.length (L.flatMap cRo)), (2, .box 39 (cRo rs[j])), (3, .box 39 [.fr (intsA ((tR rs[j]).1)), iv ((tR rs[j]).2)])] [(2, .v (.slice none 0 0)), (3, .own 1), (5, .box 2 0), (6, .box 3 0), (7, slA 2 cRo rs), (8, iv rs.length), (9, iv j), (10, bv true), (17, bv true)] ?_
 refine t_then ?_
 refine t_condT rfl ?_
 refine tri_region ?_
 refine oA (sp_move (.tmp 3) (.own 1) rfl) I0 ?_
 refine oB (sp_loadBoxS (Y := .box 39 [.fr (intsA ((tR rs[j]).1)), iv ((tR rs[j]).2)]) (ds := [.fr (intsA ((tR rs[j]).1)), iv ((tR rs[j]).2)]) (z := 2) (.tmp 6) rfl Tryd.underlying39 rfl (by kernel_rfl) (by decide) (by kernel_rfl) (by kernel_rfl)) I0 rfl ?_
 refine t_op rfl (sp_build (z := 2) (k := 4) (fr := false) (cs := [.fr (intsA ((tR rs[j]).1)), iv ((tR rs[j]).2)]) [.tmp 19] [.agg [.fr (intsA ((tR rs[j]).1)), iv ((tR rs[j]).2)]] rfl Tryd.underlying22 (by kernel_rfl) (by decide) (by decide) rfl rfl rfl (by kernel_rfl) (by decide) (fun h => Bool.noConfusion h) (by kernel_rfl)) ⟨I0, T0⟩ T0 rfl ?_
 refine t_op rfl (sp_appendOwn (n := L.length) (cs := (L.flatMap cRo)) (fr := true) (m := 1) (ds := [.fr (intsA ((tR rs[j]).1)), iv ((tR rs[j]).2)]) (⟨Tryd.underlying22, by kernel_rfl, by decide⟩ : Elt Tryd.prog 22 39 2 32) (.tmp 18) (.tmp 20) rfl (fun _ => newRo (tR rs[j])) (by unfold maxLen; omega) (by omega) (cellRo (tR rs[j])) (es := ((L ++ [tR rs[j]]).flatMap cRo)) snocRw) ⟨I0, I0, T0⟩ ⟨rfl, rfl, T0⟩ rfl ?_
 refine oA (sp_assign (.tmp 21) (.own 1) rfl) I0 ?_
 refine kN 27 [(1, .row true 39 2 (L.length + 1) ((L ++ [tR rs[j]]).flatMap cRo)), (2, .box 39 (cRo rs[j])), (3, .box 39 [.fr (intsA ((tR rs[j]).1)), iv ((tR rs[j]).2)])] [(2, .v (.slice none 0 0)), (3, .own 1), (5, .box 2 0), (6, .box 3 0), (7, slA 2 cRo rs), (8, iv rs.length), (9, iv j), (10, bv true), (17, bv true)] ?_
 refine t_block ?_
 refine t_then ?_
 refine tri_region ?_
 refine oC (sp_add (c := ((j + 1 : Nat) : Int)) rfl (w64 (by omega) (by omega) (by omega))) I0 I0 ?_
 refine oA (sp_move (.tmp 22) (iv (j + 1 : Nat)) rfl) I0 ?_
 refine kN 27 [(1, .row true 39 2 (L.length + 1) ((L ++ [tR rs[j]]).flatMap cRo)), (2, .box 39 (cRo rs[j])), (3, .box 39 [.fr (intsA ((tR rs[j]).1)), iv ((tR rs[j]).2)])] [(2, .v (.slice none 0 0)), (3, .own 1), (5, .box 2 0), (6, .box 3 0), (7, slA 2 cRo rs), (8, iv rs.length), (9, iv (j + 1 : Nat)), (10, bv true), (17, bv true)] ?_
 refine t_then ?_
 refine tri_again ⟨(j + 1, L ++ [tR rs[j]]), by dsimp only; omega, by rw [tgs_yes (by omega) hs2f, ← hL], by rw [List.length_append]; dsimp only [List.length]; omega⟩ (show rs.length - (j + 1) < rs.length - j by omega) ?_
 show Wk _ _ (ofL [(1, .row true 39 2 ((L ++ [tR rs[j]]).length) ((L ++ [tR rs[j]]).flatMap cRo))]) (ofT 27 [(2, .v (.slice none 0 0)), (3, .own 1), (7, slA 2 cRo rs), (8, iv rs.length), (9, iv ((j + 1) : Nat))])
 rw [List.length_append]
 exact wk_keep _ _ rfl (by kernel_rfl) (by kernel_rfl)
 refine tri_region ?_
 refine oC (sp_lss rfl (dF hs1)) I0 I0 ?_
 refine kN 27 [(1, .row true 39 2 L.length (L.flatMap cRo))] [(2, .v (.slice none 0 0)), (3, .own 1), (7, slA 2 cRo rs), (8, iv rs.length), (9, iv j), (10, bv false)] ?_
 refine t_then ?_
 refine tri_seq ?_
 refine t_condF rfl ?_
 refine tri_exit ?_
 refine t_then_exit ?_
 refine t_then_exit ?_
 refine t_hit ?_
 refine t_then ?_
 refine tri_seq ?_
 refine tri_region ?_
 refine oA (sp_move (.tmp 3) (.own 1) rfl) I0 ?_
 refine t_op rfl (sp_sortRo (c := .func 65) (x := .tmp 23) (y := .func 66) (e := 39) (n := L.length) (k := 1) (fr := true) (ds := L) rfl (hL ▸ tgs_ok fun x hx => H.rows x (List.mem_of_mem_take hx)) (by omega)) ⟨I0, I0, I0, T0⟩ ⟨rfl, T0⟩ rfl ?_
 refine kN 27 [(1, .row true 39 2 L.length ((srt L).flatMap cRo))] [(2, .v (.slice none 0 0)), (3, .own 1)] ?_
 refine t_then ?_
 refine tri_seq ?_
 refine tri_region ?_
 refine oA (sp_move (.tmp 3) (.own 1) rfl) I0 ?_
 refine t_op rfl (sp_compactRo (c := .func 67) (x := .tmp 25) (y := .func 68) (e := 39) (n := L.length) (k := 1) (fr := true) (ds := srt L) rfl (srt_ok (hL ▸ tgs_ok fun x hx => H.rows x (List.mem_of_mem_take hx))) (by rw [srt_len]; omega) (m := (cmpt (srt L)).length) rfl) ⟨I0, I0, I0, T0⟩ ⟨rfl, T0⟩ rfl ?_
 refine oA (sp_assign (.tmp 26) (.own 1) rfl) I0 ?_
 refine kN 27 [(1, .row true 39 2 ((cmpt (srt L)).length) ((cmpt (srt L)).flatMap cRo))] [(2, .own 1)] ?_
 refine t_then ?_
 refine tri_ret ?_
 have hk : j = rs.length := by omega
 have hL2 : L = tgs rs := by rw [hL, hk, List.take_length]
 subst hL2
 refine tri_give1 1 Tryd.results33 (.tmp rfl) rfl rfl
end Go.Proofs.YtbbglendddepfaaDoor

namespace Go.Proofs.YtbbglendddepfaaDoor
open Go.RowKit Go.Deep
variable {J : World → Prop}
end Go.Proofs.YtbbglendddepfaaDoor

namespace Go.Proofs.YtbbglendddepfaaDoor
theorem eqI_iff {xs ys : List Int} : eqI xs ys = true ↔ xs = ys := by unfold eqI; exact decide_eq_true_iff
/-- One more row is put in. -/
def insT (t : Rw) : List Rw → List Rw
  | [] => [t]
  | x :: xs => if cmpI x.1 t.1 < 0 then x :: insT t xs else if eqI x.1 t.1 then (if t.2 < x.2 then (x.1, t.2) :: xs else x :: xs) else t :: x :: xs
def tdy (ts : List Rw) : List Rw := ts.foldl (fun o t => insT t o) []
def Asc (L : List Rw) : Prop := L.Pairwise fun a b => cmpI a.1 b.1 < 0
/-- A smallest one of its coefficients. -/
def Least (ts : List Rw) (r : Rw) : Prop := r ∈ ts ∧ ∀ s ∈ ts, s.1 = r.1 → r.2 ≤ s.2
theorem asc_ext : ∀ {L M : List Rw}, Asc L → Asc M → (∀ r, r ∈ L ↔ r ∈ M) → L = M
  | [], [], _, _, _ => rfl
  | [], b :: M, _, _, h => absurd ((h b).2 (by simp)) (by simp)
  | a :: L, [], _, _, h => absurd ((h a).1 (by simp)) (by simp)
  | a :: L, b :: M, h1, h2, h => by
    obtain ⟨a1, a2⟩ := List.pairwise_cons.1 h1
    obtain ⟨b1, b2⟩ := List.pairwise_cons.1 h2
    have hab : a = b := by
      rcases List.mem_cons.1 ((h a).1 (by simp)) with e | e
      · exact e
      · rcases List.mem_cons.1 ((h b).2 (by simp)) with e' | e'
        · exact e'.symm
        · have := b1 a e; have := a1 b e'; have := ordI_neg a.1 b.1; omega
    subst hab
    rw [asc_ext a2 b2 fun r => ⟨fun hr => ?_, fun hr => ?_⟩]
    · rcases List.mem_cons.1 ((h r).1 (List.mem_cons_of_mem _ hr)) with e | e
      · subst e; have := a1 r hr; rw [cmpI_self] at this; omega
      · exact e
    · rcases List.mem_cons.1 ((h r).2 (List.mem_cons_of_mem _ hr)) with e | e
      · subst e; have := b1 r hr; rw [cmpI_self] at this; omega
      · exact e
theorem insT_from (t : Rw) : ∀ L : List Rw, ∀ y ∈ insT t L, y.1 = t.1 ∨ ∃ x ∈ L, x.1 = y.1
  | [], y, h => by simp only [insT, List.mem_singleton] at h; subst h; exact .inl rfl
  | x :: xs, y, h => by
    simp only [insT] at h
    split at h
    · rcases List.mem_cons.1 h with rfl | h
      · exact .inr ⟨y, by simp, rfl⟩
      · rcases insT_from t xs y h with h | ⟨z, h1, h2⟩
        · exact .inl h
        · exact .inr ⟨z, List.mem_cons_of_mem _ h1, h2⟩
    · split at h
      · split at h
        · rcases List.mem_cons.1 h with rfl | h
          · exact .inr ⟨x, by simp, rfl⟩
          · exact .inr ⟨y, List.mem_cons_of_mem _ h, rfl⟩
        · exact .inr ⟨y, h, rfl⟩
      · rcases List.mem_cons.1 h with rfl | h
        · exact .inl rfl
        · exact .inr ⟨y, h, rfl⟩
theorem insT_asc (t : Rw) : ∀ L : List Rw, Asc L → Asc (insT t L)
  | [], _ => List.pairwise_singleton _ _
  | x :: xs, h => by
    obtain ⟨h1, h2⟩ := List.pairwise_cons.1 h
    simp only [insT]
    split
    · rename_i hx
      refine List.pairwise_cons.2 ⟨fun y hy => ?_, insT_asc t xs h2⟩
      rcases insT_from t xs y hy with e | ⟨z, hz, e⟩
      · rw [e]; exact hx
      · rw [← e]; exact h1 z hz
    · rename_i hx
      split
      · split
        · exact List.pairwise_cons.2 ⟨fun y hy => h1 y hy, h2⟩
        · exact h
      · rename_i he
        have hlt : cmpI t.1 x.1 < 0 := by
          have a := ordI_neg x.1 t.1
          have b : cmpI x.1 t.1 ≠ 0 := fun e => he (eqI_iff.2 (ordI_eq _ _ e))
          omega
        refine List.pairwise_cons.2 ⟨fun y hy => ?_, h⟩
        rcases List.mem_cons.1 hy with rfl | hy
        · exact hlt
        · exact ordI_trans _ _ _ hlt (h1 y hy)
theorem lt_ne {x y : List Int} (h : cmpI x y < 0) : x ≠ y := fun e => by subst e; rw [cmpI_self] at h; omega
theorem insT_mem (t : Rw) : ∀ L : List Rw, Asc L → ∀ r, r ∈ insT t L ↔ (r ∈ L ∧ (r.1 = t.1 → r.2 ≤ t.2)) ∨ (r = t ∧ ∀ x ∈ L, x.1 = t.1 → t.2 < x.2)
  | [], _, r => by simp [insT]
  | x :: xs, h, r => by
    obtain ⟨h1, h2⟩ := List.pairwise_cons.1 h
    simp only [insT]
    split
    · rename_i hx
      have hne := lt_ne hx
      rw [List.mem_cons, insT_mem t xs h2 r]
      constructor
      · rintro (rfl | ⟨a, b⟩ | ⟨a, b⟩)
        · exact .inl ⟨by simp, fun e => absurd e hne⟩
        · exact .inl ⟨List.mem_cons_of_mem _ a, b⟩
        · refine .inr ⟨a, fun y hy e => ?_⟩
          rcases List.mem_cons.1 hy with rfl | hy
          · exact absurd e hne
          · exact b y hy e
      · rintro (⟨a, b⟩ | ⟨a, b⟩)
        · rcases List.mem_cons.1 a with rfl | a
          · exact .inl rfl
          · exact .inr (.inl ⟨a, b⟩)
        · exact .inr (.inr ⟨a, fun y hy => b y (List.mem_cons_of_mem _ hy)⟩)
    · rename_i hx
      split
      · rename_i he
        have he := eqI_iff.1 he
        have hxs : ∀ y ∈ xs, y.1 ≠ t.1 := fun y hy e => lt_ne (h1 y hy) (by rw [e, he])
        split
        · rename_i hc
          have ht : (x.1, t.2) = t := Prod.ext he rfl
          rw [ht, List.mem_cons]
          constructor
          · rintro (rfl | a)
            · refine .inr ⟨rfl, fun y hy e => ?_⟩
              rcases List.mem_cons.1 hy with rfl | hy
              · exact hc
              · exact absurd e (hxs y hy)
            · exact .inl ⟨List.mem_cons_of_mem _ a, fun e => absurd e (hxs r a)⟩
          · rintro (⟨a, b⟩ | ⟨a, b⟩)
            · rcases List.mem_cons.1 a with rfl | a
              · have := b he; omega
              · exact .inr a
            · exact .inl a
        · rename_i hc
          constructor
          · intro a
            refine .inl ⟨a, fun e => ?_⟩
            rcases List.mem_cons.1 a with rfl | a
            · omega
            · exact absurd e (hxs r a)
          · rintro (⟨a, b⟩ | ⟨a, b⟩)
            · exact a
            · have := b x (by simp) he; omega
      · rename_i he
        have hlt : cmpI t.1 x.1 < 0 := by
          have a := ordI_neg x.1 t.1
          have b : cmpI x.1 t.1 ≠ 0 := fun e => he (eqI_iff.2 (ordI_eq _ _ e))
          omega
        have hall : ∀ y ∈ x :: xs, y.1 ≠ t.1 := fun y hy e => by
          rcases List.mem_cons.1 hy with rfl | hy
          · exact lt_ne hlt e.symm
          · exact lt_ne (ordI_trans _ _ _ hlt (h1 y hy)) e.symm
        rw [List.mem_cons]
        constructor
        · rintro (rfl | a)
          · exact .inr ⟨rfl, fun y hy e => absurd e (hall y hy)⟩
          · exact .inl ⟨a, fun e => absurd e (hall r a)⟩
        · rintro (⟨a, b⟩ | ⟨a, b⟩)
          · exact .inr a
          · exact .inl a
theorem has_least : ∀ (ts : List Rw) (s : Rw), s ∈ ts → ∃ x, Least ts x ∧ x.1 = s.1 ∧ x.2 ≤ s.2
  | [], s, h => by simp at h
  | t :: ts, s, h => by
    have key : ∀ y : Rw, y ∈ t :: ts → (∀ z ∈ ts, z.1 = y.1 → y.2 ≤ z.2) → ∃ x, Least (t :: ts) x ∧ x.1 = y.1 ∧ x.2 ≤ y.2 := fun y hy hz => by
      by_cases e : t.1 = y.1 ∧ t.2 < y.2
      · refine ⟨t, ⟨by simp, fun z hz' e' => ?_⟩, e.1, by omega⟩
        rcases List.mem_cons.1 hz' with rfl | hz'
        · exact Int.le_refl _
        · have := hz z hz' (e'.trans e.1); omega
      · refine ⟨y, ⟨hy, fun z hz' e' => ?_⟩, rfl, Int.le_refl _⟩
        rcases List.mem_cons.1 hz' with rfl | hz'
        · by_cases h2 : z.2 < y.2
          · exact absurd ⟨e', h2⟩ e
          · omega
        · exact hz z hz' e'
    by_cases hm : ∃ z ∈ ts, z.1 = s.1
    · obtain ⟨z, hz, e⟩ := hm
      obtain ⟨x, ⟨x1, x2⟩, x3, x4⟩ := has_least ts z hz
      obtain ⟨y, y1, y2, y3⟩ := key x (List.mem_cons_of_mem _ x1) x2
      refine ⟨y, y1, y2.trans (x3.trans e), y1.2 s h (by rw [y2, x3, e])⟩
    · obtain ⟨y, y1, y2, y3⟩ := key s h fun z hz e => absurd ⟨z, hz, e⟩ hm
      exact ⟨y, y1, y2, y3⟩
theorem insT_inv {L pre : List Rw} {t : Rw} (hL : Asc L) (h : ∀ r, r ∈ L ↔ Least pre r) (r : Rw) : r ∈ insT t L ↔ Least (pre ++ [t]) r := by
  rw [insT_mem t L hL r]
  constructor
  · rintro (⟨a, b⟩ | ⟨rfl, b⟩)
    · obtain ⟨c, d⟩ := (h r).1 a
      refine ⟨by simp [c], fun s hs e => ?_⟩
      rcases List.mem_append.1 hs with hs | hs
      · exact d s hs e
      · rw [List.mem_singleton] at hs; subst hs; exact b e.symm
    · refine ⟨by simp, fun s hs e => ?_⟩
      rcases List.mem_append.1 hs with hs | hs
      · obtain ⟨x, x1, x2, x3⟩ := has_least pre s hs
        have := b x ((h x).2 x1) (x2.trans e)
        omega
      · rw [List.mem_singleton] at hs; subst hs; exact Int.le_refl _
  · rintro ⟨a, b⟩
    by_cases hp : r ∈ pre
    · exact .inl ⟨(h r).2 ⟨hp, fun s hs e => b s (by simp [hs]) e⟩, fun e => b t (by simp) e.symm⟩
    · have e : r = t := by simpa [hp] using a
      subst e
      refine .inr ⟨rfl, fun x hx e => ?_⟩
      have hx := (h x).1 hx
      have h1 := b x (by simp [hx.1]) e
      by_cases h2 : x.2 = r.2
      · exact absurd hx.1 (by rw [Prod.ext e h2]; exact hp)
      · omega
theorem tdy_inv (ts : List Rw) : Asc (tdy ts) ∧ ∀ r, r ∈ tdy ts ↔ Least ts r := by
  have key : ∀ (ts L pre : List Rw), Asc L → (∀ r, r ∈ L ↔ Least pre r) → Asc (ts.foldl (fun o t => insT t o) L) ∧ ∀ r, r ∈ ts.foldl (fun o t => insT t o) L ↔ Least (pre ++ ts) r := by
    intro ts
    induction ts with
    | nil => intro L pre h1 h2; rw [List.append_nil]; exact ⟨h1, h2⟩
    | cons t ts ih =>
      intro L pre h1 h2
      have := ih (insT t L) (pre ++ [t]) (insT_asc t L h1) (insT_inv h1 h2)
      rw [List.append_assoc] at this
      exact this
  exact key ts [] [] List.Pairwise.nil fun r => by simp [Least]
/-- The i-th and the one ahead of it differ. -/
theorem keepR_succ {S : List Rw} {i : Nat} (h : i + 1 < S.length) : keepR S (i + 1) = !eqI S[i + 1].1 S[i].1 := by
  unfold keepR
  simp [List.getD_eq_getElem?_getD, List.getElem?_eq_getElem h, List.getElem?_eq_getElem (show i < S.length by omega)]
theorem keptR_mem {S : List Rw} : ∀ m, m ≤ S.length → ∀ r, r ∈ keptR S m ↔ ∃ i, ∃ h : i < S.length, i < m ∧ keepR S i = true ∧ S[i] = r
  | 0, _, r => by simp [keptR]
  | m + 1, hm, r => by
    have e : S.getD m ([], 0) = S[m]'(by omega) := by rw [List.getD_eq_getElem?_getD, List.getElem?_eq_getElem (by omega)]; rfl
    rw [keptR, List.mem_append, keptR_mem m (by omega) r, e]
    constructor
    · rintro (⟨i, h, a, b, c⟩ | h)
      · exact ⟨i, h, by omega, b, c⟩
      · split at h
        · rename_i hk
          rw [List.mem_singleton] at h
          exact ⟨m, by omega, by omega, hk, h.symm⟩
        · cases h
    · rintro ⟨i, h, a, b, c⟩
      by_cases hi : i = m
      · subst hi
        rw [if_pos b]
        exact .inr (by simp [c])
      · exact .inl ⟨i, h, by omega, b, c⟩
section
variable {S : List Rw}
/-- In their order. -/
def Srtd (S : List Rw) : Prop := ∀ i j, (h : i < S.length) → (h' : j < S.length) → i ≤ j → cmpR S[i] S[j] ≤ 0
theorem cmpR_fst {x y : Rw} (h : cmpR x y ≤ 0) : cmpI x.1 y.1 ≤ 0 := by
  unfold cmpR at h
  by_cases e : cmpI x.1 y.1 = 0
  · omega
  · rw [if_pos e] at h; exact h
theorem cmpR_snd {x y : Rw} (h : cmpR x y ≤ 0) (e : x.1 = y.1) : x.2 ≤ y.2 := by
  unfold cmpR cmpN at h
  rw [e, cmpI_self, if_neg (by simp)] at h
  by_cases h1 : x.2 < y.2
  · omega
  · rw [if_neg h1] at h
    by_cases h2 : y.2 < x.2
    · rw [if_pos h2] at h; omega
    · omega
theorem between_eq {x y z : List Int} (h : cmpI x y ≤ 0) (h' : cmpI y z ≤ 0) (e : x = z) : y = z := by
  subst e
  have := ordI_neg x y
  exact (ordI_eq x y (by omega)).symm
theorem kept_new (hS : Srtd S) {i j : Nat} (hi : i < S.length) (hk : keepR S i = true) (hj : j < i) : S[j].1 ≠ S[i].1 := fun e => by
  obtain ⟨p, rfl⟩ : ∃ p, i = p + 1 := ⟨i - 1, by omega⟩
  rw [keepR_succ hi] at hk
  have h1 := cmpR_fst (hS j p (by omega) (by omega) (by omega))
  have h2 := cmpR_fst (hS p (p + 1) (by omega) (by omega) (by omega))
  have h3 := between_eq h1 h2 e
  rw [h3] at hk
  have : eqI S[p + 1].1 S[p + 1].1 = true := eqI_iff.2 rfl
  rw [this] at hk
  cases hk
theorem kept_asc (hS : Srtd S) : ∀ m, m ≤ S.length → Asc (keptR S m)
  | 0, _ => List.Pairwise.nil
  | m + 1, hm => by
    have e : S.getD m ([], 0) = S[m]'(by omega) := by rw [List.getD_eq_getElem?_getD, List.getElem?_eq_getElem (by omega)]; rfl
    rw [keptR, e]
    refine List.pairwise_append.2 ⟨kept_asc hS m (by omega), ?_, fun a ha b hb => ?_⟩
    · split
      · exact List.pairwise_singleton _ _
      · exact List.Pairwise.nil
    · split at hb
      · rename_i hk
        rw [List.mem_singleton] at hb
        subst hb
        obtain ⟨i, h, h1, h2, rfl⟩ := (keptR_mem m (by omega) a).1 ha
        have h3 := cmpR_fst (hS i m h (by omega) (by omega))
        have h4 : cmpI S[i].1 S[m].1 ≠ 0 := fun e => kept_new hS (by omega) hk h1 (ordI_eq _ _ e)
        omega
      · cases hb
theorem kept_least (hS : Srtd S) (r : Rw) : r ∈ keptR S S.length ↔ Least S r := by
  rw [keptR_mem S.length (Nat.le_refl _) r]
  constructor
  · rintro ⟨i, h, _, hk, rfl⟩
    refine ⟨List.getElem_mem _, fun s hs e => ?_⟩
    obtain ⟨j, hj, rfl⟩ := List.getElem_of_mem hs
    by_cases hij : i ≤ j
    · exact cmpR_snd (hS i j h hj hij) e.symm
    · exact absurd e (kept_new hS h hk (by omega))
  · rintro ⟨a, b⟩
    obtain ⟨j, hj, rfl⟩ := List.getElem_of_mem a
    have key : ∀ n i, i ≤ n → (h : i < S.length) → S[i] = S[j] → ∃ i, ∃ h : i < S.length, i < S.length ∧ keepR S i = true ∧ S[i] = S[j] := by
      intro n
      induction n with
      | zero => intro i hi h e; obtain rfl : i = 0 := (by omega); exact ⟨0, h, h, rfl, e⟩
      | succ n ih =>
        intro i hi h e
        by_cases hk : keepR S i = true
        · exact ⟨i, h, h, hk, e⟩
        · by_cases h0 : i = 0
          · subst h0; exact absurd rfl hk
          · obtain ⟨p, rfl⟩ : ∃ p, i = p + 1 := ⟨i - 1, by omega⟩
            rw [keepR_succ h] at hk
            have h1 : S[p + 1].1 = S[p].1 := eqI_iff.1 (by simpa using hk)
            have h2 := cmpR_snd (hS p (p + 1) (by omega) h (by omega)) h1.symm
            have h3 := b S[p] (List.getElem_mem _) (by rw [← h1, e])
            rw [← e] at h3
            exact ih p (by omega) (by omega) ((Prod.ext h1.symm (by omega)).trans e)
    exact key j j (Nat.le_refl _) hj rfl
end
theorem srt_srtd (ts : List Rw) : Srtd (srt ts) := fun i j h h' hij => by
  rcases Nat.lt_or_ge i j with hlt | hge
  · have hp : (srt ts).Pairwise fun a b => (!ltR b a) = true := List.pairwise_mergeSort (le := fun x y => !ltR y x) (fun a b c h1 h2 => by
      simp only [Bool.not_eq_true'] at h1 h2 ⊢
      exact swoR.ntrans _ _ _ h2 h1) (fun a b => by
      cases e : ltR b a with
      | false => rfl
      | true =>
        cases e' : ltR a b with
        | false => rfl
        | true => have := swoR.trans _ _ _ e e'; rw [swoR.irrefl] at this; cases this) ts
    have := List.pairwise_iff_getElem.1 hp i j h h' hlt
    simp only [Bool.not_eq_true'] at this
    unfold ltR at this
    simp only [decide_eq_false_iff_not, Int.not_lt] at this
    have := ordR_neg (srt ts)[i] (srt ts)[j]
    omega
  · obtain rfl : i = j := by omega
    rw [ordR_self]; omega
/-- THE ONE AND THE OTHER ARE THE SAME. -/
theorem tdy_cmpt (ts : List Rw) : tdy ts = cmpt (srt ts) := by
  obtain ⟨h1, h2⟩ := tdy_inv ts
  refine asc_ext h1 (kept_asc (srt_srtd ts) _ (Nat.le_refl _)) fun r => ?_
  rw [h2 r, show (r ∈ cmpt (srt ts)) = (r ∈ keptR (srt ts) (srt ts).length) from rfl, kept_least (srt_srtd ts) r]
  unfold Least
  simp only [(srt_perm ts).mem_iff]
theorem nrm_tdy (rs : List Rw) : nrm rs = tdy (tgs rs) := (tdy_cmpt _).symm
end Go.Proofs.YtbbglendddepfaaDoor

namespace Go.Proofs.YtbbglendddepfaaDoor
open Go.RowKit Go.Deep

set_option maxHeartbeats 400000 in
theorem rgcd_any (x y : Nat) (w : World) (hx : x ≤ 68719476736) (hy : y ≤ 68719476736) :
    Calls Tryd.prog 44 #[.int .i64 x, .int .i64 y] w fun e w' => e = .returned (.int .i64 (Nat.gcd x y)) ∧ Below w.heap.size w w' := by
  go_enter Tryd.func44, Tryd.ntmps44
  go_wp2_with fail
  go_loopw [0, 1] (fun u v wr => ∃ a b : Nat, u = .int .i64 a ∧ v = .int .i64 b ∧ a ≤ 68719476736 ∧ b ≤ 68719476736 ∧ Nat.gcd a b = Nat.gcd x y ∧ Below w.heap.size w wr) (fun _ v _ => (intOf v).toNat)
  case atStart => exact ⟨x, y, rfl, rfl, hx, hy, rfl, Below.refl _ _⟩
  case round =>
    obtain ⟨a, b, rfl, rfl, ha, hb, hg, hB⟩ := hrel
    have HG := hid0 hg
    have HB := hid0 hB
    clear hg hB hx hy
    by_cases h0 : b = 0
    · subst h0
      have e : Hid (Nat.gcd x y = a) := by show _ = _; rw [← HG.out]; simp
      go_wp2
      go_ret
      exact ⟨ret_int (by rw [e.out]), HB.out⟩
    · have hm1 : a % b < b := Nat.mod_lt _ (by omega)
      have hm3 : Hid (Nat.gcd b (a % b) = Nat.gcd x y) := by
        show _ = _
        rw [← HG.out, Nat.gcd_comm, ← Nat.gcd_rec, Nat.gcd_comm]
      have hb0 : ((b : Int) != 0) = true := by simp; omega
      have hb1 : (1 : Int) ≤ b := by omega
      go_wp2
      go_region
      go_wp2
      go_roundw
      case rel => exact ⟨b, a % b, rfl, by go_num, hb, by omega, hm3.out, HB.out.drew⟩
      case measure => simp [intOf]; omega

theorem down_any (x y : Int) (w : World) (hx : smB x = true) (hy : 1 ≤ y) (hy' : y ≤ 68719476736) :
    Calls Tryd.prog 88 #[.int .i64 x, .int .i64 y] w fun e w' => e = .returned (.int .i64 (x / y)) ∧ w = w' := by
  have D := hid0 (tdiv_small (y := y) hx)
  have e1 : x.tmod y < 0 → Hid (x / y = x.tdiv y - 1) := fun h => div_of_neg hy h
  have e2 : ¬ x.tmod y < 0 → Hid (x / y = x.tdiv y) := fun h => div_of_nonneg hy h
  have hx0 := hx
  rw [smB_true] at hx
  obtain ⟨h1, h2⟩ := hx
  by_cases h : x.tmod y < 0
  · have E := e1 h
    clear e1 e2
    go_enter Tryd.func88, Tryd.ntmps88
    go_wp2
    go_ret
    have d := D.out
    exact ⟨ret_int (by rw [E.out]; try exact IntWalk.wrap64_in _ (by omega)), rfl⟩
  · have E := e2 h
    clear e1 e2
    go_enter Tryd.func88, Tryd.ntmps88
    go_wp2
    go_ret
    have d := D.out
    exact ⟨ret_int (by rw [E.out]; try exact IntWalk.wrap64_in _ (by omega)), rfl⟩

theorem abs_any (x : Int) (w : World) (hx : smB x = true) : Calls Tryd.prog 76 #[.int .i64 x] w fun e w' => e = .returned (.int .i64 x.natAbs) ∧ w = w' := by
  rw [smB_true] at hx
  obtain ⟨h1, h2⟩ := hx
  by_cases h : x < 0
  · have e : Hid ((x.natAbs : Int) = -x) := by show _ = _; omega
    go_enter Tryd.func76, Tryd.ntmps76
    go_wp2
    go_ret
    exact ⟨ret_int e.out.symm, rfl⟩
  · have e : Hid ((x.natAbs : Int) = x) := by show _ = _; omega
    go_enter Tryd.func76, Tryd.ntmps76
    go_wp2
    go_ret
    exact ⟨ret_int e.out.symm, rfl⟩

/-- An own row stays when the cells of two boxes are written. -/
theorem OwnV.setBoth {lo lo' : Nat} {w : World} {v : Value} {xs : List Int} (h : OwnV lo' w v xs) (hl : lo ≤ lo') (b : Nat) (hb : b < lo') (u u' : Value) : OwnV lo ((w.setCell ⟨b, 0, none⟩ u).setCell ⟨b, 1, none⟩ u') v xs := by
  rcases h with hv | ⟨g, cp, hv, h1, hm, hg⟩
  · exact .inl hv
  · have := hg.1
    exact .inr ⟨g, cp, hv, h1, hm, (((hg.setOther _ _ (by simp; omega)).setOther _ _ (by simp; omega)).mono hl)⟩

set_option maxHeartbeats 1600000 in
theorem rTighten_large {lo : Nat} {w : World} {v : Value} {xs : List Int} (c : Int) (h : IsInts lo w v xs) (hn : xs.length ≤ 1000) (hs : smR (xs, c) = false) :
    Calls Tryd.prog 72 #[.agg #[v, .int .i64 c]] w fun e w' => ∃ v', e = .returned (.agg #[v', .int .i64 c]) ∧ OwnV w.heap.size w' v' xs ∧ Below w.heap.size w w' := by
  have H := hid0 h
  obtain ⟨a, cap, rfl⟩ := h.shape
  clear h
  go_enter Tryd.func72, Tryd.ntmps72
  go_wp2_with (first | (go_at_call 37; refine (CopyRow_any c (H.out.below (by go_grown)) hn).mono ?_; rintro e w1 ⟨v', rfl, hO, hb1⟩; have hB1 : Below w.heap.size w w1 := (Below.trans (by go_grown) (hb1.mono (by go_size))); have hs1 := hb1.size; simp only [World.size_alloc] at hs1; have hz0 : w.heap.size < w1.heap.size := (by omega); have hz1 : w.heap.size + 1 < w1.heap.size := (by omega); obtain ⟨p1, p2⟩ := blk hb1 (n := w.heap.size) (by go_size); obtain ⟨p3, p4⟩ := blk hb1 (n := w.heap.size + 1) (by go_size); obtain ⟨a', cap', rfl⟩ := hO.shape) | (go_at_call 46; refine (rSmall_any c (H.out.below (by go_grown))).mono ?_; rintro e w2 ⟨rfl, hb2⟩; have hB2 : Below w.heap.size w w2 := (Below.trans (by go_grown) (hb2.mono (by go_size))); have hs2 := hb2.size; simp only [World.size_alloc] at hs2; obtain ⟨q1, q2⟩ := blk hb2 (n := w.heap.size) (by go_size); obtain ⟨q3, q4⟩ := blk hb2 (n := w.heap.size + 1) (by go_size); obtain ⟨q5, q6⟩ := blk hb2 (n := w1.heap.size) (by go_size)))
  have hB02 := hb1.trans (((allocBelow w1 _).trans (hb2.mono (by go_size))).mono hb1.size)
  have d1 : w2.cell? ⟨w.heap.size + 1, 0, none⟩ = some (.slice none 0 0) := by rw [(blk hB02 (n := w.heap.size + 1) (by go_size)).1]; simp
  have d2 : w2.cell? ⟨w.heap.size + 1, 1, none⟩ = some (.int .i64 0) := by rw [(blk hB02 (n := w.heap.size + 1) (by go_size)).1]; simp
  have hO2 := (hO.below (allocBelow _ _)).below hb2
  refine bodyPost_ret (v := .agg #[.slice a' xs.length cap', .int .i64 c]) (by simp [results, Tryd.results72, go_sem, d1, d2]) rfl ⟨_, rfl, hO2.setBoth (by go_size) _ (by go_size) _ _, (hB2.setCell (by simp) _).setCell (by simp) _⟩

/-- The loop of the content: what it holds after k rounds. -/
theorem gcdL_nat (xs : List Int) (k : Nat) (h : k < xs.length) : Nat.gcd (gcdL (xs.take k) 0) (xs[k]).natAbs = gcdL (xs.take (k + 1)) 0 := by
  rw [gcdL_snoc xs 0 k h]; simp [Int.gcd]

set_option maxHeartbeats 3200000 in
theorem rTighten_full {lo : Nat} {w : World} {xs : List Int} {b off cap : Nat} (c : Int) (h : IsInts lo w (.slice (some ⟨b, off, none⟩) xs.length cap) xs) (hn : xs.length ≤ 1000) (hs : smR (xs, c) = true) (hb : b < w.heap.size)
    (hc : ∀ i, i < xs.length → w.cell? ⟨b, off + i, none⟩ = some (.int .i64 (xs.getD i 0))) (hne : xs ≠ []) :
    Calls Tryd.prog 72 #[.agg #[.slice (some ⟨b, off, none⟩) xs.length cap, .int .i64 c]] w fun e w' => ∃ v', e = .returned (.agg #[v', .int .i64 (tC xs c)]) ∧ OwnV w.heap.size w' v' (tX xs c) ∧ Below w.heap.size w w' := by
  have H := hid0 h
  have HS := hid0 (smR_true.1 hs)
  have HSM := hid0 hs
  have HC := hid0 hc
  clear h hc
  go_enter Tryd.func72, Tryd.ntmps72
  go_wp2_with (first | (go_at_call 37; refine (CopyRow_any c (H.out.below (by go_grown)) hn).mono ?_; rintro e w1 ⟨v', rfl, hO, hb1⟩; have hB1 : Below w.heap.size w w1 := (Below.trans (by go_grown) (hb1.mono (by go_size))); have hs1 := hb1.size; simp only [World.size_alloc] at hs1; have hz0 : w.heap.size < w1.heap.size := (by omega); have hz1 : w.heap.size + 1 < w1.heap.size := (by omega); obtain ⟨p1, p2⟩ := blk hb1 (n := w.heap.size) (by go_size); obtain ⟨p3, p4⟩ := blk hb1 (n := w.heap.size + 1) (by go_size); obtain ⟨a', cap', rfl⟩ := hO.shape) | (go_at_call 46; refine (rSmall_any c (H.out.below (by go_grown))).mono ?_; rintro e w2 ⟨rfl, hb2⟩; have hB2 : Below w.heap.size w w2 := (Below.trans (by go_grown) (hb2.mono (by go_size))); have hs2 := hb2.size; simp only [World.size_alloc] at hs2; obtain ⟨q1, q2⟩ := blk hb2 (n := w.heap.size) (by go_size); obtain ⟨q3, q4⟩ := blk hb2 (n := w.heap.size + 1) (by go_size); obtain ⟨q5, q6⟩ := blk hb2 (n := w1.heap.size) (by go_size)))
  have hB12 := (allocBelow w1 _).trans (hb2.mono (by go_size))
  have hB02 := hb1.trans (hB12.mono hb1.size)
  have x1 : w2.cell? ⟨w1.heap.size, 0, none⟩ = some (.slice a' xs.length cap') := by rw [q5]; simp
  have x2 : w2.cell? ⟨w1.heap.size, 1, none⟩ = some (.int .i64 c) := by rw [q5]; simp
  have x3 : ∀ o, w2.frozen? ⟨w1.heap.size, o, none⟩ = false := fun o => by rw [q6]; simp
  have d1 : w2.cell? ⟨w.heap.size + 1, 0, none⟩ = some (.slice none 0 0) := by rw [(blk hB02 (n := w.heap.size + 1) (by go_size)).1]; simp
  have d2 : w2.cell? ⟨w.heap.size + 1, 1, none⟩ = some (.int .i64 0) := by rw [(blk hB02 (n := w.heap.size + 1) (by go_size)).1]; simp
  have d3 : ∀ o, w2.frozen? ⟨w.heap.size + 1, o, none⟩ = false := fun o => by rw [(blk hB02 (n := w.heap.size + 1) (by go_size)).2]; simp
  have r0 : w2.cell? ⟨w.heap.size, 0, none⟩ = some (.slice (some ⟨b, off, none⟩) xs.length cap) := by rw [(blk hB02 (n := w.heap.size) (by go_size)).1]; simp
  have r1 : w2.cell? ⟨w.heap.size, 1, none⟩ = some (.int .i64 c) := by rw [(blk hB02 (n := w.heap.size) (by go_size)).1]; simp
  have HO2 := hid0 ((hO.below (allocBelow _ _)).below hb2)
  have HG1 := hid0 hO
  have hcap : xs.length ≤ cap' ∧ cap' ≤ maxLen := by
    rcases hO with ⟨_, e⟩ | ⟨g', cp, hv, h1, h2, _⟩
    · exact absurd e hne
    · simp only [Value.slice.injEq] at hv
      exact ⟨by omega, by omega⟩
  have HB2 := hid0 hB2
  have hs2' : w1.heap.size < w2.heap.size := by omega
  clear p1 p2 p3 p4 q1 q2 q3 q4 q5 q6 hb1 hb2 hB1 hB2 hB12 hB02 hO hs1 hs2
  obtain ⟨g, hvg, hOg⟩ : ∃ g, Value.slice a' xs.length cap' = .slice (some ⟨g, 0, none⟩) xs.length cap' ∧ Hid (OwnInts ((w.alloc (.cells #[.slice (some ⟨b, off, none⟩) xs.length cap, .int .i64 c] 39)).alloc (.cells #[.slice none 0 0, .int .i64 0] 39)).heap.size w2 g xs) := by
    rcases HO2.out with ⟨_, e⟩ | ⟨g, cp, hv, _, _, hg⟩
    · exact absurd e hne
    · simp only [Value.slice.injEq] at hv
      exact ⟨g, by rw [hv.1], hg⟩
  obtain rfl : a' = some ⟨g, 0, none⟩ := by simpa using hvg
  have hgs : w.heap.size + 1 < g := by have := hOg.out.1; simp only [World.size_alloc] at this; omega
  have hgl : g < w1.heap.size := by
    rcases HG1.out with ⟨_, e⟩ | ⟨g', cp, hv, _, _, hg⟩
    · exact absurd e hne
    · simp only [Value.slice.injEq, Option.some.injEq, Addr.mk.injEq] at hv
      rw [hv.1.1]; exact hg.lt
  clear hvg
  go_loopw [4, 5] (fun u v wr => ∃ k : Nat, k ≤ xs.length ∧ v = .int .i64 k ∧ u = .int .i64 (gcdL (xs.take k) 0) ∧ Below w2.heap.size w2 wr) (fun _ v _ => xs.length - (intOf v).toNat)
  case atStart => exact ⟨0, Nat.zero_le _, rfl, rfl, Below.refl _ _⟩
  case round =>
    obtain ⟨k, hk, rfl, rfl, hB0⟩ := hrel
    have HB0 := hid0 hB0
    have HB := hid0 (thenBelow HB2.out hB0)
    have l0 : w.heap.size < w2.heap.size := by omega
    have l1 : w.heap.size + 1 < w2.heap.size := by omega
    have y0 : wr.cell? ⟨w.heap.size, 0, none⟩ = some (.slice (some ⟨b, off, none⟩) xs.length cap) := (hB0.cell (p := ⟨w.heap.size, 0, none⟩) l0).trans r0
    by_cases h1 : k < xs.length
    · have g1 : wr.cell? ⟨b, off + k, none⟩ = some (.int .i64 (xs.getD k 0)) := (HB.out.cell (p := ⟨b, off + k, none⟩) hb).trans (HC.out k h1)
      have s1 : Hid (smB (xs[k]'h1) = true) := List.all_eq_true.1 HS.out.1 _ (List.getElem_mem _)
      have s2 : Hid ((xs[k]'h1).natAbs ≤ 68719476736) := by show _ ≤ _; have := smB_true.1 s1.out; omega
      have s3 : Hid (gcdL (xs.take k) 0 ≤ 68719476736) := gcdL_small _ _ (by omega) (all_take_of k HS.out.1)
      have s4 := hid0 (gcdL_nat xs k h1)
      clear hB0 r0 r1 d1 d2 d3 x1 x2 x3
      go_wp2_with (first | (go_at_call 76; refine (abs_any _ _ s1.out).mono ?_; rintro e w' ⟨rfl, rfl⟩) | (go_at_call 44; refine (rgcd_any _ _ _ s3.out s2.out).mono ?_; rintro e w4 ⟨rfl, hb4⟩))
      go_roundw
      case rel => exact ⟨k + 1, by omega, by go_num, by rw [s4.out], thenBelow HB0.out hb4⟩
      case measure => simp [intOf]; omega
    · obtain rfl : k = xs.length := by omega
      have e1 : xs.take xs.length = xs := List.take_length
      rw [e1]
      have y1 : wr.cell? ⟨w1.heap.size, 0, none⟩ = some (.slice (some ⟨g, 0, none⟩) xs.length cap') := (hB0.cell (p := ⟨w1.heap.size, 0, none⟩) hs2').trans x1
      have y2 : wr.cell? ⟨w1.heap.size, 1, none⟩ = some (.int .i64 c) := (hB0.cell (p := ⟨w1.heap.size, 1, none⟩) hs2').trans x2
      have y3 : ∀ o, wr.frozen? ⟨w1.heap.size, o, none⟩ = false := fun o => (hB0.frozen (p := ⟨w1.heap.size, o, none⟩) hs2').trans (x3 o)
      have y4 : wr.cell? ⟨w.heap.size + 1, 0, none⟩ = some (.slice none 0 0) := (hB0.cell (p := ⟨w.heap.size + 1, 0, none⟩) l1).trans d1
      have y5 : wr.cell? ⟨w.heap.size + 1, 1, none⟩ = some (.int .i64 0) := (hB0.cell (p := ⟨w.heap.size + 1, 1, none⟩) l1).trans d2
      have y6 : ∀ o, wr.frozen? ⟨w.heap.size + 1, o, none⟩ = false := fun o => (hB0.frozen (p := ⟨w.heap.size + 1, o, none⟩) l1).trans (d3 o)
      have HOr := hid0 (hOg.out.below hB0)
      clear hB0 r0 r1 d1 d2 d3 x1 x2 x3 hk h1 e1
      by_cases g0 : gcdL xs 0 = 0
      · have hg0 : ((gcdL xs 0 : Int) == 0) = true := by simp [g0]
        have E1 : Hid (tC xs c = c) := by show _ = _; simp [tC, g0]
        have E2 : Hid (tX xs c = xs) := by show _ = _; simp [tX, g0]
        clear g0
        go_wp2_with fail
        refine bodyPost_ret (v := .agg #[.slice (some ⟨g, 0, none⟩) xs.length cap', .int .i64 c]) (by simp [results, Tryd.results72, go_sem, y4, y5]) rfl ⟨_, by rw [E1.out], ?_, (HB.out.setCell (by simp) _).setCell (by simp) _⟩
        rw [E2.out]
        exact OwnV.setBoth (lo' := w.heap.size + 2) (.inr ⟨g, cap', rfl, hcap.1, hcap.2, HOr.out.mono (by simp only [World.size_alloc]; omega)⟩) (by omega) _ (by omega) _ _
      · have hg0 : ((gcdL xs 0 : Int) == 0) = false := by simp; omega
        have E1 : Hid (tC xs c = c / gcdL xs 0) := by show _ = _; simp [tC, g0, HSM.out]
        have E2 : Hid (tX xs c = xs.map fun x => x.tdiv (gcdL xs 0)) := by show _ = _; simp [tX, g0, HSM.out]
        have b3 : (1 : Int) ≤ gcdL xs 0 := by omega
        have b5 : (gcdL xs 0 : Int) ≤ 68719476736 := by
          have := gcdL_small xs 0 (by omega) HS.out.1
          omega
        have b4 : ¬ ((gcdL xs 0 : Int) = 0) := by omega
        go_wp2_with fail
        obtain ⟨wo, rfl⟩ : ∃ wo : World, wo = wr := ⟨_, rfl⟩
        have hz3 : w.heap.size + 1 ≠ w1.heap.size := by omega
        have z4 : w.heap.size ≤ g := by omega
        clear hg0 g0 y0
        go_loopw [6] (fun v wr => ∃ k : Nat, k ≤ xs.length ∧ v = .int .i64 k ∧ OwnInts (w.heap.size + 2) wr g (midL (fun x => x.tdiv (gcdL xs 0)) xs k) ∧ (∀ b, b ≠ g → wr.heap[b]? = wo.heap[b]?) ∧ Below w.heap.size w wr) (fun v _ => xs.length - (intOf v).toNat)
        case atStart => exact ⟨0, Nat.zero_le _, rfl, by simpa [midL] using HOr.out.mono (by simp only [World.size_alloc]; omega), fun _ _ => rfl, HB.out⟩
        case round =>
          obtain ⟨k, hk, rfl, hO, hBut, hB⟩ := hrel
          have HOk := hid0 hO
          have HBut := hid0 hBut
          have HBr := hid0 hB
          obtain ⟨c1, c2⟩ := but_cell hBut
          have u1 : wr.cell? ⟨w1.heap.size, 0, none⟩ = some (.slice (some ⟨g, 0, none⟩) xs.length cap') := (c1 _ _ (by omega)).trans y1
          have u2 : wr.cell? ⟨w1.heap.size, 1, none⟩ = some (.int .i64 c) := (c1 _ _ (by omega)).trans y2
          by_cases h1 : k < xs.length
          · have g1 : wr.cell? ⟨g, k, none⟩ = some (.int .i64 (xs[k]'h1)) := by
              rw [hO.cell k (by rw [midL_length]; exact h1), midL_get _ _ _ h1]
            have g2 : wr.frozen? ⟨g, k, none⟩ = false := hO.frozen k
            have b0 := List.all_eq_true.1 HS.out.1 _ (List.getElem_mem h1)
            have e := tdiv_small (y := gcdL xs 0) b0
            have ew : IntKind.i64.wrap ((xs[k]'h1).tdiv (gcdL xs 0)) = (xs[k]'h1).tdiv (gcdL xs 0) := IntWalk.i64_in _ (by omega)
            rw [smB_true] at b0
            obtain ⟨b1, b2⟩ := b0
            have He := hid0 e
            clear e hO hBut hB c1 c2 y1 y2 y3 y4 y5 y6
            go_wp2
            go_region
            go_wp2
            go_roundw
            case rel =>
              refine ⟨k + 1, by omega, by go_num, ?_, fun b hb => (Below.heap_setCell _ _ _ _ hb).trans (HBut.out b hb), (HBr.out.setCell z4 _).drew⟩
              rw [← midL_set _ _ _ h1]
              refine HOk.out.set k _ ?_
              have := He.out
              constructor <;> omega
            case measure => simp [intOf]; omega
          · obtain rfl : k = xs.length := by omega
            have v3 : ∀ o, wr.frozen? ⟨w1.heap.size, o, none⟩ = false := fun o => (c2 _ _ (by omega)).trans (y3 o)
            have v4 : wr.cell? ⟨w.heap.size + 1, 0, none⟩ = some (.slice none 0 0) := (c1 _ _ (by omega)).trans y4
            have v5 : wr.cell? ⟨w.heap.size + 1, 1, none⟩ = some (.int .i64 0) := (c1 _ _ (by omega)).trans y5
            have v6 : ∀ o, wr.frozen? ⟨w.heap.size + 1, o, none⟩ = false := fun o => (c2 _ _ (by omega)).trans (y6 o)
            clear hO hBut hB c1 c2 y1 y2 y3 y4 y5 y6 h1 hk
            have s2 : Hid (smB c = true) := HS.out.2
            go_wp2_with (go_at_call 88; refine (down_any _ _ _ s2.out b3 b5).mono ?_; rintro e w' ⟨rfl, rfl⟩)
            have z1 : w.heap.size ≤ w1.heap.size := by omega
            refine bodyPost_ret (v := .agg #[.slice (some ⟨g, 0, none⟩) xs.length cap', .int .i64 (c / gcdL xs 0)]) (by simp [results, Tryd.results72, go_sem, v4, v5]) rfl ⟨_, by rw [E1.out], ?_, ((HBr.out.setCell z1 _).setCell (by simp) _).setCell (by simp) _⟩
            have hO := HOk.out
            rw [midL_end _ _ _ (Nat.le_refl _)] at hO
            rw [E2.out]
            have hO1 := hO.setOther ⟨w1.heap.size, 1, none⟩ (.int .i64 (c / gcdL xs 0)) (by simp; omega)
            have hv : OwnV (w.heap.size + 2) _ (.slice (some ⟨g, 0, none⟩) xs.length cap') (xs.map fun x => x.tdiv (gcdL xs 0)) := .inr ⟨g, cap', by simp, by simpa using hcap.1, hcap.2, hO1⟩
            exact hv.setBoth (by omega) _ (by omega) _ _

set_option maxHeartbeats 1600000 in
theorem rTighten_nil {lo : Nat} {w : World} {a : Option Addr} {cap : Nat} (c : Int) (h : IsInts lo w (.slice a 0 cap) []) (hs : smR ([], c) = true) :
    Calls Tryd.prog 72 #[.agg #[.slice a 0 cap, .int .i64 c]] w fun e w' => ∃ v', e = .returned (.agg #[v', .int .i64 c]) ∧ OwnV w.heap.size w' v' [] ∧ Below w.heap.size w w' := by
  have H := hid0 h
  have hn : ([] : List Int).length ≤ 1000 := by decide
  clear h
  go_enter Tryd.func72, Tryd.ntmps72
  go_wp2_with (first | (go_at_call 37; refine (CopyRow_any c (H.out.below (by go_grown)) hn).mono ?_; rintro e w1 ⟨v', rfl, hO, hb1⟩; have hB1 : Below w.heap.size w w1 := (Below.trans (by go_grown) (hb1.mono (by go_size))); have hs1 := hb1.size; simp only [World.size_alloc] at hs1; have hz0 : w.heap.size < w1.heap.size := (by omega); have hz1 : w.heap.size + 1 < w1.heap.size := (by omega); obtain ⟨p1, p2⟩ := blk hb1 (n := w.heap.size) (by go_size); obtain ⟨p3, p4⟩ := blk hb1 (n := w.heap.size + 1) (by go_size); obtain ⟨a', cap', rfl⟩ := hO.shape) | (go_at_call 46; refine (rSmall_any c (H.out.below (by go_grown))).mono ?_; rintro e w2 ⟨rfl, hb2⟩; have hB2 : Below w.heap.size w w2 := (Below.trans (by go_grown) (hb2.mono (by go_size))); have hs2 := hb2.size; simp only [World.size_alloc] at hs2; obtain ⟨q1, q2⟩ := blk hb2 (n := w.heap.size) (by go_size); obtain ⟨q3, q4⟩ := blk hb2 (n := w.heap.size + 1) (by go_size); obtain ⟨q5, q6⟩ := blk hb2 (n := w1.heap.size) (by go_size)))
  have hB12 := (allocBelow w1 _).trans (hb2.mono (by go_size))
  have hB02 := hb1.trans (hB12.mono hb1.size)
  have d1 : w2.cell? ⟨w.heap.size + 1, 0, none⟩ = some (.slice none 0 0) := by rw [(blk hB02 (n := w.heap.size + 1) (by go_size)).1]; simp
  have d2 : w2.cell? ⟨w.heap.size + 1, 1, none⟩ = some (.int .i64 0) := by rw [(blk hB02 (n := w.heap.size + 1) (by go_size)).1]; simp
  have hO2 := (hO.below (allocBelow _ _)).below hb2
  refine wp_loop_rounds 1 ?_
  rw [rounds_succ]
  go_wp2_with fail
  refine bodyPost_ret (v := .agg #[.slice a' 0 cap', .int .i64 c]) (by simp [results, Tryd.results72, go_sem, d1, d2]) rfl ⟨_, rfl, hO2.setBoth (by go_size) _ (by go_size) _ _, (hB2.setCell (by simp) _).setCell (by simp) _⟩

theorem rTighten_any {lo : Nat} {w : World} {v : Value} {xs : List Int} (c : Int) (h : IsInts lo w v xs) (hn : xs.length ≤ 1000) :
    Calls Tryd.prog 72 #[.agg #[v, .int .i64 c]] w fun e w' => ∃ v', e = .returned (.agg #[v', .int .i64 (tC xs c)]) ∧ OwnV w.heap.size w' v' (tX xs c) ∧ Below w.heap.size w w' := by
  cases hs : smR (xs, c) with
  | false =>
    rw [show tC xs c = c by simp [tC, hs], show tX xs c = xs by simp [tX, hs]]
    exact rTighten_large c h hn hs
  | true =>
    have H := h
    obtain ⟨a, cap, rfl, _, _, _, hc⟩ := h
    have hnil : ∀ {a : Option Addr} {cap : Nat}, xs = [] → IsInts lo w (.slice a xs.length cap) xs → Calls Tryd.prog 72 #[.agg #[.slice a xs.length cap, .int .i64 c]] w fun e w' => ∃ v', e = .returned (.agg #[v', .int .i64 (tC xs c)]) ∧ OwnV w.heap.size w' v' (tX xs c) ∧ Below w.heap.size w w' := fun e h => by
      subst e
      rw [show tC [] c = c by simp [tC, gcdL], show tX [] c = [] by simp [tX, gcdL]]
      exact rTighten_nil c h hs
    rcases hc with e | ⟨b, off, rfl, _, hb, hc⟩
    · exact hnil e H
    · by_cases hne : xs = []
      · exact hnil hne H
      · exact rTighten_full c H hn hs hb hc hne
end Go.Proofs.YtbbglendddepfaaDoor

namespace Go.Proofs.YtbbglendddepfaaDoor
open Go.RowKit Go.Deep
variable {J : World → Prop}
/-- A slice all of whose memory is new: so is what lies in it, cell by cell. -/
theorem wk_spread {h : AHeap} {t : ATm} (i : Nat) {z n : Nat} {cs : List AV} {t' : ATm} (hi : t.f i = .fr (.sl z n cs)) (ht : aput t (some i) (.sl z n (cs.map .fr)) = t') : Wk h t h t' := by
  subst ht
  intro J w0 ρ a w s
  refine ⟨ρ, s.wf, s.hH, s.bel, s.inv, s.hp, s.dom, s.pin, s.tl, fun j hj => ?_, s.df⟩
  have hold := s.tm j hj
  simp only [aput]
  split
  · rename_i e
    subst e
    rw [hi] at hold
    generalize a.tmps.getD j undef = x at hold ⊢
    cases hold with
    | pu hold =>
      cases hold with
      | fr hold =>
        cases hold with
        | sl0 h2 hz => exact .pu (.sl0 h2 hz)
        | sl hc h1 h2 hb hw hf h => exact .pu (.sl (by simpa using hc) h1 h2 hb.1 hw (fun k hk => hf k (by simpa using hk)) fun k hk => by
            rw [List.getElem_map]
            exact .fr (h k (by simpa using hk)))
  · exact hold
/-- Put in: what is ahead stays, then the row, then the rest. -/
theorem insT_at (t : Rw) : ∀ (L : List Rw) (p : Nat), p ≤ L.length → (∀ i, (h : i < L.length) → i < p → cmpI L[i].1 t.1 < 0) →
    ((h : p < L.length) → ¬ cmpI L[p].1 t.1 < 0) →
    insT t L = if h : p < L.length then (if eqI L[p].1 t.1 = true then (if t.2 < L[p].2 then L.set p (L[p].1, t.2) else L) else L.take p ++ t :: L.drop p) else L ++ [t]
  | [], p, hp, _, _ => by
    have : p = 0 := by simpa using hp
    subst this
    simp [insT]
  | x :: xs, 0, hp, _, hn => by
    have hx : ¬ cmpI x.1 t.1 < 0 := hn (by simp)
    rw [insT, if_neg hx]
    simp
  | x :: xs, p + 1, hp, hl, hn => by
    have hx : cmpI x.1 t.1 < 0 := hl 0 (by simp) (by omega)
    have ih := insT_at t xs p (by simpa using hp) (fun i h hi => hl (i + 1) (by simp; omega) (by omega)) (fun h => hn (by simp; omega))
    rw [insT, if_pos hx, ih]
    by_cases h : p < xs.length
    · rw [dif_pos h, dif_pos (show p + 1 < (x :: xs).length by simp; omega)]
      simp only [List.getElem_cons_succ]
      split
      · split <;> rfl
      · rfl
    · rw [dif_neg h, dif_neg (show ¬ p + 1 < (x :: xs).length by simp; omega)]
      rfl
theorem ownV' {F : Nat → Prop} {lo : Nat} {w : World} {v : Value} {xs : List Int} (h : OwnV lo w v xs) : Pu F w (nw w lo) (intsA xs) v := by
  rcases h with ⟨rfl, rfl⟩ | ⟨g, cap, rfl, hl, hm, h1, h2, h3, cur, t, hg, hc⟩
  · exact .sl0 (by simp [maxLen]) (by simp)
  · refine .sl (b := g) (off := 0) (f := fun j => .int .i64 (xs.getD j 0)) (by simp) hl hm ⟨h1, _, _, hg⟩ (Array.getElem?_eq_some_iff.1 hg).1 (fun j hj => ?_) fun j hj => ?_
    · have hj' : j < xs.length := by simpa using hj
      rw [Nat.zero_add, cellB hg j (v := .int .i64 (xs.getD j 0)) (hc j hj')]
    · have hj' : j < xs.length := by simpa using hj
      simp only [List.getElem_map, List.getD_eq_getElem?_getD, List.getElem?_eq_getElem hj', Option.getD_some]
      exact .v _
theorem rTighten_c {r : Rw} (H : RwOk r) (hn : r.1.length ≤ 1000) : Ctr Tryd.prog J 72 [.agg (cRo r)] (.agg (cRo (tR r))) := ctr1 fun w v _ h => by
  obtain ⟨u, rfl, hu⟩ := row_args h
  exact (rTighten_any r.2 (pu_ints H.coef lo00 hu) hn).mono fun _ _ ⟨v', he, ho, hb⟩ => ⟨_, he, .agg rfl fun j hj => (match j, hj with
    | 0, _ => ownV' ho
    | 1, _ => .v _), hb⟩
theorem rTrivial_c {r : Rw} (H : RwOk r) : Ctr Tryd.prog J 73 [.agg (cRo r)] (bv (triB r.1 r.2)) := ctr1 fun w v _ h => by
  obtain ⟨u, rfl, hu⟩ := row_args h
  exact (rTrivial_any r.2 (pu_ints H.coef lo00 hu)).mono fun _ _ ⟨he, hb⟩ => ⟨_, he, .v _, hb⟩
theorem rCompareInts_c {xs ys : List Int} (hx : InOk xs) (hy : InOk ys) : Ctr Tryd.prog J 29 [intsA xs, intsA ys] (iv (cmpI xs ys)) := ctr2 fun w v v' _ h h' =>
  (cmpInts_any (pu_ints hx lo00 h) (pu_ints hy lo00 h')).mono fun _ _ ⟨he, hb⟩ => ⟨_, he, .v _, hb⟩
theorem rSameInts_c {xs ys : List Int} (hx : InOk xs) (hy : InOk ys) : Ctr Tryd.prog J 28 [intsA xs, intsA ys] (bv (eqI xs ys)) := ctr2 fun w v v' _ h h' =>
  (SameInts_any (pu_ints hx lo00 h) (pu_ints hy lo00 h')).mono fun _ _ ⟨he, hb⟩ => ⟨_, he, .v _, hb⟩
/-- A constant is written into a row of rows. -/
theorem set_cRo : ∀ (L : List Rw) (p : Nat) (h : p < L.length) (c : Int), setAll (L.flatMap cRo) (p * 2 + 1) [iv c] = (L.set p (L[p].1, c)).flatMap cRo
  | x :: xs, 0, _, c => rfl
  | x :: xs, p + 1, h, c => by
    have ih := set_cRo xs p (by simpa using h) c
    rw [List.set_cons_succ, List.flatMap_cons, List.flatMap_cons, List.getElem_cons_succ, ← ih, show (p + 1) * 2 + 1 = p * 2 + 1 + 2 by omega]
    rfl
def BelowT (L : List Rw) (t : Rw) (p : Nat) : Prop := ∀ i, (h : i < L.length) → i < p → cmpI L[i].1 t.1 < 0
theorem below_zero {L : List Rw} {t : Rw} : BelowT L t 0 := fun i _ h => by omega
theorem below_succ {L : List Rw} {t : Rw} {p : Nat} {hp : p < L.length} (h : BelowT L t p) (hc : cmpI L[p].1 t.1 < 0) : BelowT L t (p + 1) := fun i hi hlt => by
  by_cases e : i = p
  · subst e; exact hc
  · exact h i hi (by omega)
theorem tdy_ok {ts : List Rw} (h : ∀ r ∈ ts, RwOk r) : ∀ r ∈ tdy ts, RwOk r := fun r hr => h r (((tdy_inv ts).2 r).1 hr).1
theorem tdy_snoc (ts : List Rw) (t : Rw) : tdy (ts ++ [t]) = insT t (tdy ts) := by unfold tdy; rw [List.foldl_append]; rfl
section
variable {rs L : List Rw} {j p : Nat}
theorem td_set (hL : L = tdy (tgs (rs.take j))) {hj : j < rs.length} (htr : triB (tR rs[j]).1 (tR rs[j]).2 = false) (hb : BelowT L (tR rs[j]) p) {hp : p < L.length} (hn : ¬ cmpI L[p].1 (tR rs[j]).1 < 0) (he : eqI L[p].1 (tR rs[j]).1 = true) (hc : (tR rs[j]).2 < L[p].2) : L.set p (L[p].1, (tR rs[j]).2) = tdy (tgs (rs.take (j + 1))) := by
  rw [tgs_yes hj htr, tdy_snoc, ← hL, insT_at (tR rs[j]) L p (by omega) hb (fun _ => hn), dif_pos hp, if_pos he, if_pos hc]
theorem td_stay (hL : L = tdy (tgs (rs.take j))) {hj : j < rs.length} (htr : triB (tR rs[j]).1 (tR rs[j]).2 = false) (hb : BelowT L (tR rs[j]) p) {hp : p < L.length} (hn : ¬ cmpI L[p].1 (tR rs[j]).1 < 0) (he : eqI L[p].1 (tR rs[j]).1 = true) (hc : ¬ (tR rs[j]).2 < L[p].2) : L = tdy (tgs (rs.take (j + 1))) := by
  rw [tgs_yes hj htr, tdy_snoc, ← hL, insT_at (tR rs[j]) L p (by omega) hb (fun _ => hn), dif_pos hp, if_pos he, if_neg hc]
theorem td_ins (hL : L = tdy (tgs (rs.take j))) {hj : j < rs.length} (htr : triB (tR rs[j]).1 (tR rs[j]).2 = false) (hb : BelowT L (tR rs[j]) p) {hp : p < L.length} (hn : ¬ cmpI L[p].1 (tR rs[j]).1 < 0) (he : eqI L[p].1 (tR rs[j]).1 = false) : L.take p ++ tR rs[j] :: L.drop p = tdy (tgs (rs.take (j + 1))) := by
  rw [tgs_yes hj htr, tdy_snoc, ← hL, insT_at (tR rs[j]) L p (by omega) hb (fun _ => hn), dif_pos hp, if_neg (by rw [he]; decide)]
theorem td_end (hL : L = tdy (tgs (rs.take j))) {hj : j < rs.length} (htr : triB (tR rs[j]).1 (tR rs[j]).2 = false) (hb : BelowT L (tR rs[j]) p) (hp0 : p ≤ L.length) (hp : ¬ p < L.length) : L.take p ++ tR rs[j] :: L.drop p = tdy (tgs (rs.take (j + 1))) := by
  rw [tgs_yes hj htr, tdy_snoc, ← hL, insT_at (tR rs[j]) L p hp0 hb (fun h => absurd h hp), dif_neg hp, List.take_of_length_le (by omega), List.drop_eq_nil_of_le (by omega)]
theorem newC (c : Int) : ∀ d ∈ [iv c], d.isNew = true := fun d hd => by rw [List.mem_singleton] at hd; subst hd; rfl
end
def frs (L : List Rw) : List AV := (L.flatMap cRo).map .fr
section
variable {L : List Rw} {p : Nat} {t : Rw}
theorem frs_take (hp : p ≤ L.length) : ((frs L).drop (0 * 2)).take ((p - 0) * 2) = frs (L.take p) := by
  unfold frs
  rw [Nat.zero_mul, List.drop_zero, Nat.sub_zero, ← List.map_take]
  congr 1
  induction L generalizing p with
  | nil => simp
  | cons x xs ih =>
    cases p with
    | zero => rfl
    | succ p =>
      rw [List.flatMap_cons, List.take_succ_cons, List.flatMap_cons, ← ih (p := p) (by simpa using hp), show (p + 1) * 2 = p * 2 + 2 by omega]
      rfl
theorem frs_drop (hp : p ≤ L.length) : ((frs L).drop (p * 2)).take ((L.length - p) * 2) = frs (L.drop p) := by
  have e : (L.flatMap cRo).drop (p * 2) = (L.drop p).flatMap cRo := by
    induction L generalizing p with
    | nil => simp
    | cons x xs ih =>
      cases p with
      | zero => rfl
      | succ p =>
        rw [List.flatMap_cons, List.drop_succ_cons, ← ih (p := p) (by simpa using hp), show (p + 1) * 2 = p * 2 + 2 by omega]
        rfl
  unfold frs
  rw [← List.map_drop, e, List.take_of_length_le]
  rw [List.length_map, lenFlat, List.length_drop]
  exact Nat.le_refl _
theorem new_frs : true = true → ∀ d ∈ frs L, d.isNew = true := fun _ d hd => by
  obtain ⟨x, _, rfl⟩ := List.mem_map.1 hd
  rfl
theorem cell_frs : ∀ d ∈ frs L, d.cell = true := fun d hd => by
  obtain ⟨x, hx, rfl⟩ := List.mem_map.1 hd
  obtain ⟨r, _, hr⟩ := List.mem_flatMap.1 hx
  simp only [cRo, List.mem_cons, List.not_mem_nil, or_false] at hr
  rcases hr with rfl | rfl <;> rfl
theorem unfr_frs : rowCells true (frs L) = L.flatMap cRo := by
  unfold rowCells frs
  rw [if_pos rfl, List.map_map]
  exact List.map_id' _
theorem newFrs : ∀ d ∈ frs L, d.isNew = true := new_frs rfl
theorem lenIns (hp : p ≤ L.length) : (L.take p ++ t :: L.drop p).length = p - 0 + 1 + (L.length - p) := by
  rw [List.length_append, List.length_cons, List.length_take, List.length_drop]; omega
theorem ins_end : (L.take p ++ [t]).flatMap cRo ++ rowCells true (frs (L.drop p)) = (L.take p ++ t :: L.drop p).flatMap cRo := by
  rw [unfr_frs, ← List.flatMap_append, List.append_assoc]; rfl
end
end Go.Proofs.YtbbglendddepfaaDoor
