import Derived.ChangeArms
import Derived.Test.YtpadmggccpgajaaDoorGrplnbjgihk
import Derived.Test.YtpadmggccpgajaaDoorGrpoholaele
import Derived.Test.YtpadmggccpgajaaDoorGrppealnncj
import Derived.Test.YtpadmggccpgajaaDoorGrpkbfballg
import Derived.Test.YtpadmggccpgajaaDoorGrphebogjfp
set_option linter.all false
namespace Go.Proofs.YtpadmggccpgajaaDoor
open Go.RowKit Go.Deep
variable {J : World → Prop}
set_option linter.unusedSimpArgs false in
set_option linter.unusedVariables false in
set_option maxRecDepth 100000 in
set_option maxHeartbeats 6400000 in
theorem lNormalize_c {n : Int} {rs : List Rw} (H : SyOk rs) (hl : rs.length ≤ 250) (hs : ∀ r ∈ rs, r.1.length ≤ 1000) : Ctr Tryd.prog J 34 [.agg (cSy n rs)] (.tup [.agg (cSy (nmN n rs) (nmR n rs)), iv (nmE n rs)]) := by
 refine ctr_of_tri Tryd.func34 rfl (by intro X hX; simp only [List.mem_cons, List.not_mem_nil, or_false] at hX; rcases hX with rfl; exact plain_agg (plain_sy n rs)) (n := 17) rfl (by simp) (fun w0 => ?_)
 refine kW 17 [] [(0, .agg (cSy n rs))] ?_
 refine tri_seq ?_
 refine tri_region ?_
 refine t_op rfl (sp_box (X := .agg (cSy n rs)) (k := 1) (.tmp 0) rfl rfl) ⟨I0, T0⟩ T0 rfl ?_
 refine t_op rfl (sp_alloc (z := .agg #[.int .i64 0, .slice none 0 0]) (k := 2) rfl (by kernel_rfl)) T0 T0 rfl ?_
 refine oA (sp_assign (.const (.int .i64 0)) (iv 0) rfl) I0 ?_
 refine kN 17 [(1, .box 52 (cSy n rs)), (2, .box 52 [iv 0, .v (.slice none 0 0)])] [(1, .box 1 0), (2, .box 2 0), (3, iv 0)] ?_
 refine t_then ?_
 refine tri_seq ?_
 refine tri_seq ?_
 refine tri_region ?_
 refine oB (sp_loadBoxS (Y := .box 52 (cSy n rs)) (ds := cSy n rs) (z := 2) (.tmp 1) rfl Tryd.underlying52 rfl (by kernel_rfl) (by decide) (by kernel_rfl) (by kernel_rfl)) I0 rfl ?_
 refine oC (sp_call (c := .func 65) (xs := #[.tmp 5]) [] (lValidate_c H) rfl (by kernel_rfl) rfl (Xs := [.agg (cSy n rs)]) rfl rfl rfl) I0 I0 ?_
 refine oA (sp_assign (.tmp 6) (iv (valS n rs)) rfl) I0 ?_
 refine kN 17 [(1, .box 52 (cSy n rs)), (2, .box 52 [iv 0, .v (.slice none 0 0)])] [(1, .box 1 0), (2, .box 2 0), (3, iv 0), (4, iv (valS n rs))] ?_
 refine t_then ?_
 refine tri_seq ?_
 by_cases hs1 : valS n rs = 0
 refine tri_region ?_
 refine oA (sp_move (.tmp 4) (iv (valS n rs)) rfl) I0 ?_
 refine oC (sp_neq rfl (dT' hs1)) I0 I0 ?_
 refine kN 17 [(1, .box 52 (cSy n rs)), (2, .box 52 [iv 0, .v (.slice none 0 0)])] [(1, .box 1 0), (2, .box 2 0), (3, iv 0), (4, iv (valS n rs)), (8, bv false)] ?_
 refine t_then ?_
 refine t_condF rfl ?_
 refine tri_skip ?_
 refine t_then ?_
 refine tri_seq ?_
 refine tri_draw [⟨[(.tmp 1, .box 1 0)], [], .box 1 0, .no⟩, ⟨[(.tmp 11, .box 1 0)], [(1, .box 52 (cSy n rs))], iv n, .no⟩, ⟨[(.tmp 1, .box 1 0)], [], .box 1 1, .no⟩, ⟨[(.tmp 13, .box 1 1)], [(1, .box 52 (cSy n rs))], slA 2 cRo rs, .no⟩, ⟨[(.func 69, .v (.func (.func 69) #[] #[])), (.tmp 14, slA 2 cRo rs)], [], .own 3, .new 3 (.row true 54 2 ((nrm rs).length) ((nrm rs).flatMap cRo))⟩, ⟨[(.tmp 12, iv n), (.tmp 15, .own 3)], [], .agg [iv n, .own 3], .no⟩, ⟨[(.tmp 2, .box 2 0), (.tmp 16, .agg [iv n, .own 3])], [(2, .box 52 [iv 0, .v (.slice none 0 0)])], .v undef, .st 2 (.box 52 [iv n, .own 3])⟩, ⟨[(.const (.int .i64 0), iv 0)], [], iv 0, .no⟩] (by kernel_rfl) (by kernel_rfl) ?_
 refine ⟨app_yes rfl (fB 0 (.tmp 1) rfl Tryd.underlying52 rfl 1 rfl) ⟨I0, T0⟩ T0 T0, ?_⟩
 refine ⟨app_yes rfl (lB (.box 52 (cSy n rs)) (iv n) (.tmp 11) rfl Tryd.underlying3 rfl rfl) ⟨I0, T0⟩ ⟨rfl, T0⟩ T0, ?_⟩
 refine ⟨app_yes rfl (fB 1 (.tmp 1) rfl Tryd.underlying52 rfl 1 rfl) ⟨I0, T0⟩ T0 T0, ?_⟩
 refine ⟨app_yes rfl (lB (.box 52 (cSy n rs)) (slA 2 cRo rs) (.tmp 13) rfl Tryd.underlying50 rfl rfl) ⟨I0, T0⟩ ⟨rfl, T0⟩ T0, ?_⟩
 refine ⟨app_yes rfl (sp_callO (c := .func 69) (xs := #[.tmp 14]) [] (normalRows_o H hl hs 3) rfl (by kernel_rfl) rfl (Xs := [slA 2 cRo rs]) rfl rfl rfl) ⟨I0, I0, T0⟩ T0 rfl, ?_⟩
 refine ⟨app_yes rfl (sp_bldN [0, 1] [.tmp 12, .tmp 15] [iv n, .own 3] [.inr 0, .inr 1] rfl rfl rfl rfl rfl (fun _ => by kernel_rfl) rfl (ds := [iv n, .own 3]) rfl) ⟨I0, I0, T0⟩ T0 T0, ?_⟩
 refine ⟨app_yes rfl (sp_storeBox (T0 := 52) (X := .agg [iv n, .own 3]) (cs := [iv 0, .v (.slice none 0 0)]) (ds := [iv n, .own 3]) (z := 2) (.tmp 2) (.tmp 16) rfl (by kernel_rfl) (by kernel_rfl) (by kernel_rfl) (of_decide_eq_true (by kernel_rfl)) (by kernel_rfl)) ⟨I0, I0, T0⟩ ⟨rfl, T0⟩ rfl, ?_⟩
 refine ⟨app_yes rfl (sp_assign (.const (.int .i64 0)) (iv 0) rfl) ⟨I0, T0⟩ T0 T0, ?_⟩
 show ETri J w0 _ _ _
 refine kW 17 [(2, .box 52 [iv n, .own 3]), (3, .row true 54 2 ((nrm rs).length) ((nrm rs).flatMap cRo))] [(2, .box 2 0), (3, iv 0)] ?_
 refine t_then ?_
 refine tri_ret ?_
 refine tri_end2 Tryd.results34 (.cellS rfl rfl Tryd.underlying52 rfl (z := 2) (by kernel_rfl) rfl (by decide)) (.tmp rfl) ?_
 exact nm_ok hs1
 refine tri_region ?_
 refine oA (sp_move (.tmp 4) (iv (valS n rs)) rfl) I0 ?_
 refine oC (sp_neq rfl (dF' hs1)) I0 I0 ?_
 refine kN 17 [(1, .box 52 (cSy n rs)), (2, .box 52 [iv 0, .v (.slice none 0 0)])] [(1, .box 1 0), (2, .box 2 0), (3, iv 0), (4, iv (valS n rs)), (8, bv true)] ?_
 refine t_then ?_
 refine t_condT rfl ?_
 refine tri_seq ?_
 refine tri_region ?_
 refine t_op rfl (sp_bld [] #[.int .i64 0, .slice none 0 0] rfl rfl (by kernel_rfl) rfl) T0 T0 T0 ?_
 refine oA (sp_move (.tmp 4) (iv (valS n rs)) rfl) I0 ?_
 refine t_op rfl (sp_storeBox (T0 := 52) (X := .agg [iv 0, .v (.slice none 0 0)]) (cs := [iv 0, .v (.slice none 0 0)]) (ds := [iv 0, .v (.slice none 0 0)]) (z := 2) (.tmp 2) (.tmp 9) rfl (by kernel_rfl) (by kernel_rfl) (by kernel_rfl) (of_decide_eq_true (by kernel_rfl)) (by kernel_rfl)) ⟨I0, I0, T0⟩ ⟨rfl, T0⟩ rfl ?_
 refine oA (sp_assign (.tmp 10) (iv (valS n rs)) rfl) I0 ?_
 refine kN 17 [(1, .box 52 (cSy n rs)), (2, .box 52 [iv 0, .v (.slice none 0 0)])] [(1, .box 1 0), (2, .box 2 0), (3, iv (valS n rs))] ?_
 refine t_then ?_
 refine tri_ret ?_
 refine t_then_ret ?_
 refine tri_wk (wk_adoptB 2 1 3 true 54 2 rfl rfl rfl rfl) ?_
 refine tri_end2 Tryd.results34 (.cellS rfl rfl Tryd.underlying52 rfl (z := 2) (by kernel_rfl) rfl (by decide)) (.tmp rfl) ?_
 exact nm_e1 hs1
end Go.Proofs.YtpadmggccpgajaaDoor

namespace Go.Proofs.YtpadmggccpgajaaDoor
open Go.RowKit Go.Deep
/-- Numbers may have turned, but not in the blocks of K. -/
structure Ichg (K : Nat → Prop) (w w' : World) : Prop where
  os : w'.os = w.os
  tape : w'.tape = w.tape
  output : w'.output = w.output
  size : w.heap.size ≤ w'.heap.size
  keep : ∀ b, b < w.heap.size → K b → w'.heap[b]? = w.heap[b]?
  soft : ∀ b, soft w b → soft w' b
  cell : ∀ c j x, w.cell? ⟨c, j, none⟩ = some x → w'.cell? ⟨c, j, none⟩ = some x ∨ ∃ k i i', x = .int k i ∧ w'.cell? ⟨c, j, none⟩ = some (.int k i')
theorem Ichg.refl (K : Nat → Prop) (w : World) : Ichg K w w := ⟨rfl, rfl, rfl, Nat.le_refl _, fun _ _ _ => rfl, fun _ h => h, fun _ _ _ h => .inl h⟩
theorem Ichg.set {K : Nat → Prop} {w w' : World} (h : Ichg K w w') {b o : Nat} {i i' : Int} (hb : ¬ K b) (hs : Go.Proofs.YtpadmggccpgajaaDoor.soft w' b) (hc : w'.cell? ⟨b, o, none⟩ = some (.int .i64 i)) : Ichg K w (w'.setCells b o [.int .i64 i']) := by
  obtain ⟨cur, T, hg⟩ := hs
  have ho : o < cur.size := by
    simp only [World.cell?, hg] at hc
    exact (Array.getElem?_eq_some_iff.1 (by simpa using hc)).1
  obtain ⟨q1, q2, q3⟩ := setCells_os b [.int .i64 i'] o w'
  refine ⟨q1.trans h.os, q2.trans h.tape, q3.trans h.output, by rw [setCells_size]; exact h.size, fun c hc1 hK => (setCells_other (fun e => by subst e; exact hb hK) _ _ _).trans (h.keep c hc1 hK), fun c hc1 => soft_set1 hg ho (h.soft c hc1), fun c j x hx => ?_⟩
  rw [cell_set1 hg ho]
  split
  · rename_i e
    obtain ⟨rfl, rfl⟩ := e
    rcases h.cell _ _ _ hx with h1 | ⟨k, p, p', rfl, h1⟩
    · rw [hc] at h1
      cases h1
      exact .inr ⟨.i64, i, i', rfl, rfl⟩
    · rw [hc] at h1
      cases h1
      exact .inr ⟨.i64, p, i', rfl, rfl⟩
  · exact h.cell _ _ _ hx
theorem setCell_eq (w : World) (b o : Nat) (v : Value) : w.setCells b o [v] = w.setCell ⟨b, o, none⟩ v := rfl
set_option maxHeartbeats 800000 in
theorem spoil_w {K : Nat → Prop} (g off n cap : Nat) (w : World) (hn : n ≤ 9223372036854775807) (hK : ¬ K g) (hs : soft w g) (hc : ∀ j, j < n → ∃ i, w.cell? ⟨g, off + j, none⟩ = some (.int .i64 i)) :
    Calls Tryd.prog 32 #[.slice (some ⟨g, off, none⟩) n cap] w fun e w' => e = .returned (.tuple #[]) ∧ Ichg K w w' := by
  have Hs := hid0 hs
  have Hc := hid0 hc
  have HK := hid0 hK
  clear hs hc hK
  go_enter Tryd.func32, Tryd.ntmps32
  go_wp2_with fail
  go_loopw [2] (fun v wr => ∃ (k : Nat), k ≤ n ∧ v = .int .i64 k ∧ Ichg K w wr ∧ soft wr g ∧ ∀ j, j < n → ∃ i, wr.cell? ⟨g, off + j, none⟩ = some (.int .i64 i)) (fun v _ => n - (intOf v).toNat)
  case atStart => exact ⟨0, Nat.zero_le _, rfl, Ichg.refl _ _, Hs.out, Hc.out⟩
  case round =>
    obtain ⟨k, hk, rfl, hI, hS, hC⟩ := hrel
    have HI := hid0 hI
    have HS := hid0 hS
    have HC := hid0 hC
    by_cases h1 : k < n
    · obtain ⟨i0, g1⟩ := hC k h1
      have G1 := hid0 g1
      have g2 : wr.frozen? ⟨g, off + k, none⟩ = false := by obtain ⟨cur, T, hg⟩ := hS; exact frozenB hg _
      clear hI hS hC
      go_wp2_with fail
      go_roundw
      case rel =>
        refine ⟨k + 1, by omega, by go_num, HI.out.set HK.out HS.out G1.out, ?_, fun j hj => ?_⟩
        · obtain ⟨cur, T, hg⟩ := HS.out
          have ho : off + k < cur.size := by
            have := G1.out
            simp only [World.cell?, hg] at this
            exact (Array.getElem?_eq_some_iff.1 (by simpa using this)).1
          exact soft_set1 hg ho HS.out
        · obtain ⟨cur, T, hg⟩ := HS.out
          have ho : off + k < cur.size := by
            have := G1.out
            simp only [World.cell?, hg] at this
            exact (Array.getElem?_eq_some_iff.1 (by simpa using this)).1
          have := cell_set1 (v := .int .i64 (-77)) hg ho g (off + j)
          rw [setCell_eq] at this
          rw [this]
          split
          · exact ⟨_, rfl⟩
          · exact HC.out j hj
      case measure => simp [intOf]; omega
    · clear hI hS hC
      go_wp2_with fail
      go_end0
      exact ⟨rfl, HI.out⟩
theorem spoil_z (w : World) (a : Option Addr) (cap : Nat) : Calls Tryd.prog 32 #[.slice a 0 cap] w fun e w' => e = .returned (.tuple #[]) ∧ w = w' := by
  go_enter Tryd.func32, Tryd.ntmps32
  go_wp2_with fail
  refine wp_loop_rounds 1 ?_
  rw [rounds_succ]
  go_wp2_with fail
  go_end0
  exact ⟨rfl, rfl⟩
end Go.Proofs.YtpadmggccpgajaaDoor

namespace Go.Proofs.YtpadmggccpgajaaDoor
open Go.RowKit Go.Deep
variable {J : World → Prop}
theorem Ichg.ints {K : Nat → Prop} {w w' : World} (h : Ichg K w w') (c j : Nat) (x : Int) (hx : w.cell? ⟨c, j, none⟩ = some (.int .i64 x)) : ∃ y, w'.cell? ⟨c, j, none⟩ = some (.int .i64 y) := by
  rcases h.cell _ _ _ hx with h1 | ⟨k, i, i', e, h1⟩
  · exact ⟨x, h1⟩
  · cases e; exact ⟨i', h1⟩
theorem pu_is_slice {F ok : Nat → Prop} {w : World} {xs : List Int} {v : Value} (h : Pu F w ok (intsA xs) v) : ∃ a m c, v = .slice a m c := pu_slice h
theorem rows_blur {F ok ok' : Nat → Prop} {K : Nat → Prop} {w w' : World} {rs : List Rw} {v : Value} (hI : Ichg K w w') (h : Pu F w ok (slA 2 cRo rs) v) (hok : ∀ b, ok b → ok' b) : ∃ rs' : List Rw, rs'.length = rs.length ∧ Pu F w' ok' (slA 2 cRo rs') v := by
  unfold slA at h
  generalize hcs : rs.flatMap cRo = cs at h
  generalize hn : rs.length = n at h
  cases h with
  | sl0 h2 hz => exact ⟨[], rfl, .sl0 h2 hz⟩
  | sl hc h1 h2 hb hw hf h =>
    rename_i b off cap g
    subst hn
    have H : ∀ i, i < rs.length → ∃ r : Rw, w'.cell? ⟨b, off + i * 2, none⟩ = some (g (i * 2)) ∧ w'.cell? ⟨b, off + (i * 2 + 1), none⟩ = some (.int .i64 r.2) ∧ Pu F w' ok' (intsA r.1) (g (i * 2)) := fun i hi => by
      have hlt : i * 2 + 1 < cs.length := by rw [hc]; omega
      have e0 : cs[i * 2] = intsA rs[i].1 := by
        have := eflat_get lenRo rs i 0 hi (by decide)
        rw [hcs, Nat.add_zero, List.getElem?_eq_getElem (by omega)] at this
        exact Option.some.inj this
      have e1 : cs[i * 2 + 1] = iv rs[i].2 := by
        have := eflat_get lenRo rs i 1 hi (by decide)
        rw [hcs, List.getElem?_eq_getElem hlt] at this
        exact Option.some.inj this
      have h0 := h (i * 2) (by omega)
      have h1 := h (i * 2 + 1) hlt
      rw [e0] at h0
      rw [e1] at h1
      obtain ⟨l', _, q1⟩ := ints_blur (ok' := ok') h0 hI.size hok hI.ints
      have c1 := hf (i * 2 + 1) hlt
      rw [h1.v_inv] at c1
      obtain ⟨y, c2⟩ := hI.ints _ _ _ c1
      refine ⟨(l', y), ?_, c2, q1⟩
      rcases hI.cell _ _ _ (hf (i * 2) (by omega)) with c3 | ⟨k, p, p', e, _⟩
      · exact c3
      · obtain ⟨a, m, c, e'⟩ := pu_is_slice h0
        rw [e'] at e; cases e
    obtain ⟨R, hR⟩ := choose_lt H
    have hl : ((List.range rs.length).map R).length = rs.length := by simp
    refine ⟨(List.range rs.length).map R, hl, ?_⟩
    unfold slA
    rw [hl]
    refine .sl (b := b) (off := off) (f := fun j => if j % 2 = 0 then g j else .int .i64 (R (j / 2)).2) (by rw [flat_length lenRo, hl]) h1 h2 (hok _ hb) (Nat.lt_of_lt_of_le hw hI.size) (fun j hj => ?_) fun j hj => ?_
    · rw [flat_length lenRo, hl] at hj
      have hi : j / 2 < rs.length := by omega
      obtain ⟨c1, c2, _⟩ := hR _ hi
      by_cases e : j % 2 = 0
      · rw [if_pos e]
        rw [show j / 2 * 2 = j by omega] at c1
        exact c1
      · rw [if_neg e]
        rw [show j / 2 * 2 + 1 = j by omega] at c2
        exact c2
    · have hj' := hj
      rw [flat_length lenRo, hl] at hj'
      have hi : j / 2 < rs.length := by omega
      obtain ⟨_, _, c3⟩ := hR _ hi
      have hi' : j / 2 < ((List.range rs.length).map R).length := by simpa using hi
      have eR : ((List.range rs.length).map R)[j / 2] = R (j / 2) := by simp
      have key := eflat_get lenRo ((List.range rs.length).map R) (j / 2) (j % 2) hi' (Nat.mod_lt _ (by decide))
      rw [show j / 2 * 2 + j % 2 = j by omega, List.getElem?_eq_getElem hj, eR] at key
      by_cases e : j % 2 = 0
      · rw [e] at key
        have key := Option.some.inj key
        rw [key, if_pos e]
        rw [show j / 2 * 2 = j by omega] at c3
        exact c3
      · rw [show j % 2 = 1 by omega] at key
        have key := Option.some.inj key
        rw [key, if_neg e]
        exact .v _
/-- The contract of such a helper. -/
def CtrS (P : Program) (f : FuncId) : Prop := ∀ (K : Nat → Prop) (N : Nat) (w : World) (v : Value) (l : List Int), Pu (N ≤ ·) w (fun b => ¬ K b ∧ soft w b) (intsA l) v → Calls P f #[v] w fun e w' => e = .returned (.tuple #[]) ∧ Ichg K w w'
theorem spoil_c : CtrS Tryd.prog 32 := fun K N w v l h => by
  unfold intsA at h
  generalize hcs : l.map iv = cs at h
  generalize hn : l.length = n at h
  cases h with
  | sl0 h2 hz => exact (spoil_z w _ _).mono fun e w' hh => ⟨hh.1, by rw [hh.2]; exact Ichg.refl _ _⟩
  | sl hc h1 h2 hb hw hf h =>
    subst hn hcs
    refine spoil_w _ _ _ _ w (by unfold maxLen at h2; omega) hb.1 hb.2 fun j hj => ?_
    have hj' : j < (l.map iv).length := by simpa using hj
    have h3 := h j hj'
    simp only [List.getElem_map] at h3
    exact ⟨l[j], by rw [hf j hj', h3.v_inv]⟩
section
variable {P : Program} {o : Oper}
theorem sp_fieldElF {S : TypeId} {fs : Array Field} {f off off' z : Nat} {cs : List AV} {fl : Field} (x : Operand) (ho : o.op = .fieldAddr S x f) (hu : P.underlying S = some (.struct fs)) (hf : fs[f]? = some fl) (hz : (P.info? fl.type).map (·.size) = some z) (h0 : 0 < z) (e : off + fl.offset = off') :
    ASpec P J o [(x, .fr (.el cs off))] [] (.fr (.el cs off')) .no :=
  aspec_val fun ρ B a w _ ha _ => by
    have h := ha (x, .fr (.el cs off)) (by simp)
    generalize hx : a.eval x = v at h
    cases h with
    | pu h =>
    cases h with
    | fr h =>
    cases h with
    | el hb hw hfc hr =>
      refine ⟨_, ?_, .pu (.fr (.el (o := off') hb hw hfc hr))⟩
      simp only [execOp, ho, hx]
      exact run_val (by rw [run_field hu hf hz h0, Nat.add_assoc, e])
theorem sp_loadEl1F {T : TypeId} {d : TypeDesc} {off : Nat} {cs : List AV} {X : AV} (x : Operand) (ho : o.op = .load T x) (hu : P.underlying T = some d) (hd : d.isRow = false) (hX : cs[off]? = some X) : ASpec P J o [(x, .fr (.el cs off))] [] (.fr X) .no :=
  aspec_val fun ρ B a w _ ha _ => by
    have h := ha (x, .fr (.el cs off)) (by simp)
    generalize hx : a.eval x = v at h
    obtain ⟨hj, hX⟩ := List.getElem?_eq_some_iff.1 hX
    cases h with
    | pu h =>
    cases h with
    | fr h =>
    cases h with
    | el hb hw hfc hr =>
      rename_i b o1 fc
      refine ⟨fc off, ?_, .pu (.fr (by rw [← hX]; exact hr off hj))⟩
      simp only [execOp, ho, hx]
      exact run_val (run_load1 hu hd (hfc off hj))
end
section
variable {P : Program} {w0 : Wb} {ops : Array Oper} {o : Oper} {rest : List Oper} {Q : Exit → Act → World → Prop}
theorem tri_spoilBx {c : Operand} {ats : Array TypeId} {f : FuncId} {T : TypeId} {kb n ix : Nat} {l : List Int} {rs : List Rw} (x : Operand) (A : List Value) (Lb : List Nat) (Lo : List (Nat × AV)) (Lv : List (Nat × Value)) (hW : CtrS P f) (hg : o.guard = none)
    (ho : o.op = .call { callee := .value c, args := #[x], argTypes := ats }) (hc : aev (ofT n ((ix, .fr (intsA l)) :: ((Lb.map fun i => (i, .box kb 0)) ++ ((Lo.map fun p => (p.1, .old w0.heap.size p.2)) ++ Lv.map fun p => (p.1, .v p.2))))) c = .v (.func (.func f) #[] #[]))
    (hf : (P.funcs[f]?).map (fun fn => (fn.name == "runtime.NumGoroutine") || fn.body.isNone) = some false)
    (hx : aev (ofT n ((ix, .fr (intsA l)) :: ((Lb.map fun i => (i, .box kb 0)) ++ ((Lo.map fun p => (p.1, .old w0.heap.size p.2)) ++ Lv.map fun p => (p.1, .v p.2))))) x = .fr (intsA l))
    (hix : (Lb ++ (Lo.map (·.1) ++ Lv.map (·.1))).all (fun k => !(k == ix)) = true)
    (H : ∀ rs' : List Rw, rs'.length = rs.length → ETri J w0 (ofL [(kb, .box T (A.map .v ++ [.fr (slA 2 cRo rs')]))]) (aput (ofT n ((Lb.map fun i => (i, .box kb 0)) ++ ((Lo.map fun p => (p.1, .old w0.heap.size p.2)) ++ Lv.map fun p => (p.1, .v p.2)))) o.dst (.v (.tuple #[]))) (wpList P ops Q rest)) :
    ETri J w0 (ofL [(kb, .box T (A.map .v ++ [.fr (slA 2 cRo rs)]))]) (ofT n ((ix, .fr (intsA l)) :: ((Lb.map fun i => (i, .box kb 0)) ++ ((Lo.map fun p => (p.1, .old w0.heap.size p.2)) ++ Lv.map fun p => (p.1, .v p.2))))) (wpList P ops Q (o :: rest)) := by
  intro ρ a w s
  refine wpList_plain hg fun K hK => ?_
  have hcv := s.ev c
  rw [hc] at hcv
  have hxv := s.ev x
  rw [hx] at hxv
  refine upon_call ho hcv.v_inv hf ?_
  simp only [List.map_toArray, List.map_cons, List.map_nil, Array.append_empty]
  have hpx : Pu (w0.heap.size ≤ ·) w (fun b => ¬ (¬ okOf ρ b ∨ b < w0.heap.size) ∧ soft w b) (intsA l) (a.eval x) := by
    cases hxv with
    | pu hxv =>
      cases hxv with
      | fr hxv => exact hxv.weak fun b hb => ⟨fun h => h.elim (fun h => h hb.1) (fun h => by have := hb.2.1; omega), hb.2.2⟩
  refine (hW (fun b => ¬ okOf ρ b ∨ b < w0.heap.size) w0.heap.size w _ l hpx).mono fun e w' ⟨he, hI⟩ => ⟨_, he, ?_⟩
  obtain ⟨nm, g1, b, c', n', vs, rfl, g2, g3, g4⟩ := s.hp kb (.box T (A.map .v ++ [.fr (slA 2 cRo rs)])) (by simp [ofL])
  have hr := g4 A.length (by simp)
  simp only [List.getElem_append_right, List.length_map, Nat.le_refl, Nat.sub_self, List.getElem_cons_zero] at hr
  have hblur : ∃ rs' : List Rw, rs'.length = rs.length ∧ Rel ρ w0.heap.size w' (.fr (slA 2 cRo rs')) (vs.getD A.length undef) := by
    cases hr with
    | pu hr =>
      cases hr with
      | fr hr =>
        obtain ⟨rs', q1, q2⟩ := rows_blur (ok' := fun b => okOf ρ b ∧ w0.heap.size ≤ b ∧ soft w' b) hI hr fun b hb => ⟨hb.1, hb.2.1, hI.soft _ hb.2.2⟩
        exact ⟨rs', q1, .pu (.fr q2)⟩
  obtain ⟨rs', q1, q2⟩ := hblur
  have hlo := s.wf.lo _ _ _ _ g1
  have hbel : Bel w0 w' := ⟨hI.os.trans s.bel.os, hI.tape.trans s.bel.tape, hI.output.trans s.bel.output, Nat.le_trans s.bel.size hI.size, fun b hb hH => (hI.keep b (Nat.lt_of_lt_of_le hb s.bel.size) (.inr hb)).trans (s.bel.block b hb hH)⟩
  refine hK _ _ (H rs' q1 ρ _ _ ⟨⟨s.wf.inj, fun k b c n hk => ⟨(s.wf.lo _ _ _ _ hk).1, Nat.lt_of_lt_of_le (s.wf.lo _ _ _ _ hk).2 hI.size⟩⟩, s.hH, hbel, s.inv, fun k X hk => ?_, fun k hl hk => s.dom k hl ?_, s.pin, by rw [put_size, aput_n]; exact s.tl, rel_put _ (show _ = n from s.tl) (fun i hi => ?_) (.pu (.v _)), by rw [put_defers]; exact s.df⟩)
  · simp only [ofL, List.find?_cons, List.find?_nil] at hk
    by_cases e : kb = k
    · subst e
      simp only [beq_self_eq_true, Option.map_some, Option.some.injEq] at hk
      subst hk
      refine ⟨_, g1, b, c', n', vs, rfl, (hI.keep b hlo.2 (.inl fun h => h _ _ _ g1)).trans g2, by rw [g3]; simp, fun j hj => ?_⟩
      by_cases hjA : j < A.length
      · rw [List.getElem_append_left (by simpa using hjA)]
        have := g4 j (by simp; omega)
        rw [List.getElem_append_left (by simpa using hjA)] at this
        simp only [List.getElem_map] at this ⊢
        rw [this.v_inv]; exact .pu (.v _)
      · have : j = A.length := by simp at hj; omega
        subst this
        simp only [List.getElem_append_right, List.length_map, Nat.le_refl, Nat.sub_self, List.getElem_cons_zero]
        exact q2
    · rw [show (kb == k) = false by simpa using e] at hk
      cases hk
  · simp only [ofL, List.find?_cons, List.find?_nil] at hk ⊢
    by_cases e : kb = k
    · subst e; simp at hk
    · rw [show (kb == k) = false by simpa using e]; rfl
  · have hk0 := s.tm i hi
    simp only [ofT, List.find?_cons] at hk0 ⊢
    cases hfi : ((Lb.map fun i => (i, AV.box kb 0)) ++ ((Lo.map fun p => (p.1, AV.old w0.heap.size p.2)) ++ Lv.map fun p => (p.1, AV.v p.2))).find? fun p => p.1 == i with
    | none => exact .anyR
    | some p =>
      have hm := List.mem_of_find?_eq_some hfi
      have hpk : p.1 = i := by simpa using List.find?_some hfi
      have hne : (ix == i) = false := by
        rw [beq_eq_false_iff_ne]
        rintro rfl
        have hall := List.all_eq_true.1 hix
        have hmem : p.1 ∈ Lb ++ (Lo.map (·.1) ++ Lv.map (·.1)) := by
          rcases List.mem_append.1 hm with hm | hm
          · obtain ⟨p', hp', rfl⟩ := List.mem_map.1 hm; exact List.mem_append_left _ hp'
          · rcases List.mem_append.1 hm with hm | hm
            · obtain ⟨p', hp', rfl⟩ := List.mem_map.1 hm; exact List.mem_append_right _ (List.mem_append_left _ (List.mem_map.2 ⟨p', hp', rfl⟩))
            · obtain ⟨p', hp', rfl⟩ := List.mem_map.1 hm; exact List.mem_append_right _ (List.mem_append_right _ (List.mem_map.2 ⟨p', hp', rfl⟩))
        have := hall _ hmem
        simp [hpk] at this
      simp only [hne, hfi, Option.map_some, Option.getD_some] at hk0 ⊢
      rcases List.mem_append.1 hm with hm | hm
      · obtain ⟨p', _, rfl⟩ := List.mem_map.1 hm
        obtain ⟨b2, c2, n2, e1, e2⟩ := hk0.box_inv
        rw [e2]
        exact .box e1
      · rcases List.mem_append.1 hm with hm | hm
        · obtain ⟨p', _, rfl⟩ := List.mem_map.1 hm
          cases hk0 with
          | pu hk0 =>
          cases hk0 with
          | old hk0 => exact .pu (.old (hk0.mono (fun b' hb' hw' => ⟨hb', Nat.lt_of_lt_of_le hw' hI.size, hI.keep b' hw' (.inr hb'.2)⟩) fun _ _ h => h))
        · obtain ⟨p', _, rfl⟩ := List.mem_map.1 hm
          rw [hk0.v_inv]
          exact .pu (.v _)
end
end Go.Proofs.YtpadmggccpgajaaDoor

namespace Go.Proofs.YtpadmggccpgajaaDoor
open Go.RowKit Go.Deep
variable {J : World → Prop}
section
variable {n : Int} {rs : List Rw} {r : Rw}
theorem wideL (h : wideB rs = false) : rs.length ≤ 250 ∧ ∀ x ∈ rs, x.1.length ≤ 200 := by
  unfold wideB at h
  split at h
  · cases h
  · rename_i h1
    refine ⟨by omega, fun x hx => ?_⟩
    have h2 : rs.all shortB = true := by simpa using h
    have := List.all_eq_true.1 h2 x hx
    unfold shortB longB at this
    simpa using this
end
end Go.Proofs.YtpadmggccpgajaaDoor

namespace Go.Proofs.YtpadmggccpgajaaDoor
open Go.RowKit Go.Deep
variable {J : World → Prop}
set_option linter.unusedSimpArgs false in
set_option linter.unusedVariables false in
set_option maxRecDepth 100000 in
set_option maxHeartbeats 6400000 in
theorem SameRow_l {r : Rw} (H : RwOk r) : Ctr Tryd.prog J 33 [.agg (cRo r), .agg (cRo r)] (bv true) := by
 refine ctr_of_tri Tryd.func33 rfl (by intro X hX; simp only [List.mem_cons, List.not_mem_nil, or_false] at hX; rcases hX with rfl | rfl; exact plain_agg (plain_ro r); exact plain_agg (plain_ro r)) (n := 17) rfl (by simp) (fun w0 => ?_)
 refine kW 17 [] [(0, .agg (cRo r)), (1, .agg (cRo r))] ?_
 refine tri_seq ?_
 refine tri_region ?_
 refine t_op rfl (sp_box (X := .agg (cRo r)) (k := 1) (.tmp 0) rfl rfl) ⟨I0, T0⟩ T0 rfl ?_
 refine t_op rfl (sp_box (X := .agg (cRo r)) (k := 2) (.tmp 1) rfl rfl) ⟨I0, T0⟩ T0 rfl ?_
 refine oA (sp_assign (.const (.bool false)) (bv false) rfl) I0 ?_
 refine kN 17 [(1, .box 54 (cRo r)), (2, .box 54 (cRo r))] [(2, .box 1 0), (3, .box 2 0), (4, bv false)] ?_
 refine t_then ?_
 refine tri_seq ?_
 refine tri_region ?_
 refine oA (fB 1 (.tmp 2) rfl Tryd.underlying54 rfl 1 rfl) I0 ?_
 refine oB (lB (.box 54 (cRo r)) (iv r.2) (.tmp 5) rfl Tryd.underlying3 rfl rfl) I0 rfl ?_
 refine oA (fB 1 (.tmp 3) rfl Tryd.underlying54 rfl 1 rfl) I0 ?_
 refine oB (lB (.box 54 (cRo r)) (iv r.2) (.tmp 7) rfl Tryd.underlying3 rfl rfl) I0 rfl ?_
 refine oC (sp_eql rfl (dT rfl)) I0 I0 ?_
 refine oA (sp_move (.tmp 9) (bv true) rfl) I0 ?_
 refine gA (fB 0 (.tmp 2) rfl Tryd.underlying54 rfl 1 rfl) I0 ?_
 refine gB (lB (.box 54 (cRo r)) (intsA r.1) (.tmp 11) rfl Tryd.underlying24 rfl rfl) I0 rfl ?_
 refine gA (fB 0 (.tmp 3) rfl Tryd.underlying54 rfl 1 rfl) I0 ?_
 refine gB (lB (.box 54 (cRo r)) (intsA r.1) (.tmp 13) rfl Tryd.underlying24 rfl rfl) I0 rfl ?_
 refine gD (sp_call (c := .func 19) (xs := #[.tmp 12, .tmp 14]) [] (sameIntsL r.1 H.coef) rfl (by kernel_rfl) rfl (Xs := [intsA r.1, intsA r.1]) rfl rfl rfl) I0 I0 I0 ?_
 refine oD (sp_pick (.tmp 10) (.tmp 15) (.const (.bool false)) true (bv true) (bv false) rfl) I0 I0 I0 ?_
 refine oA (sp_assign (.tmp 16) (bv true) rfl) I0 ?_
 refine kN 17 [] [(4, bv true)] ?_
 refine t_then ?_
 refine tri_ret ?_
 refine tri_end1 Tryd.results33 (.tmp rfl) ?_
 exact rfl
set_option linter.unusedSimpArgs false in
set_option linter.unusedVariables false in
set_option maxRecDepth 100000 in
set_option maxHeartbeats 6400000 in
theorem SameSystem_l {n : Int} {rs : List Rw} (H : SyOk rs) : Ctr Tryd.prog J 31 [.agg (cSy n rs), .agg (cSy n rs)] (bv true) := by
 have l1 := H.len
 refine ctr_of_tri Tryd.func31 rfl (by intro X hX; simp only [List.mem_cons, List.not_mem_nil, or_false] at hX; rcases hX with rfl | rfl; exact plain_agg (plain_sy n rs); exact plain_agg (plain_sy n rs)) (n := 39) rfl (by simp) (fun w0 => ?_)
 refine kW 39 [] [(0, .agg (cSy n rs)), (1, .agg (cSy n rs))] ?_
 refine tri_seq ?_
 refine tri_region ?_
 refine t_op rfl (sp_box (X := .agg (cSy n rs)) (k := 1) (.tmp 0) rfl rfl) ⟨I0, T0⟩ T0 rfl ?_
 refine t_op rfl (sp_box (X := .agg (cSy n rs)) (k := 2) (.tmp 1) rfl rfl) ⟨I0, T0⟩ T0 rfl ?_
 refine oA (sp_assign (.const (.bool false)) (bv false) rfl) I0 ?_
 refine kN 39 [(1, .box 52 (cSy n rs)), (2, .box 52 (cSy n rs))] [(2, .box 1 0), (3, .box 2 0), (4, bv false)] ?_
 refine t_then ?_
 refine tri_seq ?_
 refine tri_seq ?_
 refine tri_region ?_
 refine oA (fB 0 (.tmp 2) rfl Tryd.underlying52 rfl 1 rfl) I0 ?_
 refine oB (lB (.box 52 (cSy n rs)) (iv n) (.tmp 6) rfl Tryd.underlying3 rfl rfl) I0 rfl ?_
 refine oA (fB 0 (.tmp 3) rfl Tryd.underlying52 rfl 1 rfl) I0 ?_
 refine oB (lB (.box 52 (cSy n rs)) (iv n) (.tmp 8) rfl Tryd.underlying3 rfl rfl) I0 rfl ?_
 refine oC (sp_neq rfl (dT' rfl)) I0 I0 ?_
 refine oA (sp_move (.tmp 10) (bv false) rfl) I0 ?_
 refine gA (fB 1 (.tmp 2) rfl Tryd.underlying52 rfl 1 rfl) I0 ?_
 refine gB (lB (.box 52 (cSy n rs)) (slA 2 cRo rs) (.tmp 12) rfl Tryd.underlying50 rfl rfl) I0 rfl ?_
 refine gA (sp_lenSl (.tmp 13) rfl Tryd.underlying50) I0 ?_
 refine gA (fB 1 (.tmp 3) rfl Tryd.underlying52 rfl 1 rfl) I0 ?_
 refine gB (lB (.box 52 (cSy n rs)) (slA 2 cRo rs) (.tmp 15) rfl Tryd.underlying50 rfl rfl) I0 rfl ?_
 refine gA (sp_lenSl (.tmp 16) rfl Tryd.underlying50) I0 ?_
 refine gC (sp_neq rfl (dT' rfl)) I0 I0 ?_
 refine oD (sp_pick (.tmp 11) (.const (.bool true)) (.tmp 18) false (bv true) (bv false) rfl) I0 I0 I0 ?_
 refine kN 39 [(1, .box 52 (cSy n rs)), (2, .box 52 (cSy n rs))] [(2, .box 1 0), (3, .box 2 0), (4, bv false), (19, bv false)] ?_
 refine t_then ?_
 refine t_condF rfl ?_
 refine tri_skip ?_
 refine t_then ?_
 refine tri_seq ?_
 refine tri_seq ?_
 refine tri_region ?_
 refine oA (sp_assign (.const (.int .i64 0)) (iv 0) rfl) I0 ?_
 refine kN 39 [(1, .box 52 (cSy n rs)), (2, .box 52 (cSy n rs))] [(2, .box 1 0), (3, .box 2 0), (4, bv false), (5, iv 0)] ?_
 refine t_then ?_
 refine tri_block ?_
 refine tri_loop (σ := {k : Nat // k ≤ rs.length}) (fun s => (ofL [(1, .box 52 (cSy n rs)), (2, .box 52 (cSy n rs))], ofT 39 [(2, .box 1 0), (3, .box 2 0), (5, iv s.1)])) (fun s => rs.length - s.1) ⟨0, Nat.zero_le _⟩ (wk_keep _ _ rfl (by kernel_rfl) (by kernel_rfl)) (fun s => ?_)
 obtain ⟨k, hk0⟩ := s
 show ETri J w0 (ofL [(1, .box 52 (cSy n rs)), (2, .box 52 (cSy n rs))]) (ofT 39 [(2, .box 1 0), (3, .box 2 0), (5, iv k)]) _
 refine tri_seq ?_
 refine tri_seq ?_
 by_cases hs1 : ((k : Nat) : Int) < ((rs.length : Nat) : Int)
 refine tri_region ?_
 refine oA (sp_move (.tmp 5) (iv k) rfl) I0 ?_
 refine oA (fB 1 (.tmp 2) rfl Tryd.underlying52 rfl 1 rfl) I0 ?_
 refine oB (lB (.box 52 (cSy n rs)) (slA 2 cRo rs) (.tmp 21) rfl Tryd.underlying50 rfl rfl) I0 rfl ?_
 refine oA (sp_lenSl (.tmp 22) rfl Tryd.underlying50) I0 ?_
 refine oC (sp_lss rfl (dT hs1)) I0 I0 ?_
 refine kN 39 [(1, .box 52 (cSy n rs)), (2, .box 52 (cSy n rs))] [(2, .box 1 0), (3, .box 2 0), (5, iv k), (24, bv true)] ?_
 refine t_then ?_
 refine t_condT rfl ?_
 refine tri_skip ?_
 refine t_then ?_
 refine tri_seq ?_
 refine tri_block ?_
 refine tri_seq ?_
 refine tri_draw [⟨[(.tmp 2, .box 1 0)], [], .box 1 1, .no⟩, ⟨[(.tmp 27, .box 1 1)], [(1, .box 52 (cSy n rs))], slA 2 cRo rs, .no⟩, ⟨[(.tmp 5, iv k)], [], iv k, .no⟩, ⟨[(.tmp 28, slA 2 cRo rs), (.tmp 29, iv k)], [], .el (rs.flatMap cRo) (k * 2), .no⟩, ⟨[(.tmp 30, .el (rs.flatMap cRo) (k * 2))], [], .agg (cRo rs[k]), .no⟩, ⟨[(.tmp 3, .box 2 0)], [], .box 2 1, .no⟩, ⟨[(.tmp 32, .box 2 1)], [(2, .box 52 (cSy n rs))], slA 2 cRo rs, .no⟩, ⟨[(.tmp 5, iv k)], [], iv k, .no⟩, ⟨[(.tmp 33, slA 2 cRo rs), (.tmp 34, iv k)], [], .el (rs.flatMap cRo) (k * 2), .no⟩, ⟨[(.tmp 35, .el (rs.flatMap cRo) (k * 2))], [], .agg (cRo rs[k]), .no⟩, ⟨[(.func 33, .v (.func (.func 33) #[] #[])), (.tmp 31, .agg (cRo rs[k])), (.tmp 36, .agg (cRo rs[k]))], [], bv true, .no⟩, ⟨[(.tmp 37, bv true)], [], bv false, .no⟩] (by kernel_rfl) (by kernel_rfl) ?_
 refine ⟨app_yes rfl (fB 1 (.tmp 2) rfl Tryd.underlying52 rfl 1 rfl) ⟨I0, T0⟩ T0 T0, ?_⟩
 refine ⟨app_yes rfl (lB (.box 52 (cSy n rs)) (slA 2 cRo rs) (.tmp 27) rfl Tryd.underlying50 rfl rfl) ⟨I0, T0⟩ ⟨rfl, T0⟩ T0, ?_⟩
 refine ⟨app_yes rfl (sp_move (.tmp 5) (iv k) rfl) ⟨I0, T0⟩ T0 T0, ?_⟩
 refine ⟨app_yes rfl (sp_indexSl (off := k * 2) (.tmp 28) (.tmp 29) rfl Tryd.underlying50 (by kernel_rfl) (by omega) (by omega) rfl) ⟨I0, I0, T0⟩ T0 T0, ?_⟩
 refine ⟨app_yes rfl (sp_loadElS (z := 2) (.tmp 30) rfl Tryd.underlying54 rfl (by kernel_rfl) (flat_take lenRo rs k (by omega)) rfl) ⟨I0, T0⟩ T0 T0, ?_⟩
 refine ⟨app_yes rfl (fB 1 (.tmp 3) rfl Tryd.underlying52 rfl 1 rfl) ⟨I0, T0⟩ T0 T0, ?_⟩
 refine ⟨app_yes rfl (lB (.box 52 (cSy n rs)) (slA 2 cRo rs) (.tmp 32) rfl Tryd.underlying50 rfl rfl) ⟨I0, T0⟩ ⟨rfl, T0⟩ T0, ?_⟩
 refine ⟨app_yes rfl (sp_move (.tmp 5) (iv k) rfl) ⟨I0, T0⟩ T0 T0, ?_⟩
 refine ⟨app_yes rfl (sp_indexSl (off := k * 2) (.tmp 33) (.tmp 34) rfl Tryd.underlying50 (by kernel_rfl) (by omega) (by omega) rfl) ⟨I0, I0, T0⟩ T0 T0, ?_⟩
 refine ⟨app_yes rfl (sp_loadElS (z := 2) (.tmp 35) rfl Tryd.underlying54 rfl (by kernel_rfl) (flat_take lenRo rs k (by omega)) rfl) ⟨I0, T0⟩ T0 T0, ?_⟩
 refine ⟨app_yes rfl (sp_call (c := .func 33) (xs := #[.tmp 31, .tmp 36]) [] (SameRow_l (H.rows rs[k] (List.getElem_mem (by omega)))) rfl (by kernel_rfl) rfl (Xs := [.agg (cRo rs[k]), .agg (cRo rs[k])]) rfl rfl rfl) ⟨I0, I0, I0, T0⟩ T0 T0, ?_⟩
 refine ⟨app_yes rfl (sp_not rfl rfl) ⟨I0, T0⟩ T0 T0, ?_⟩
 show ETri J w0 _ _ _
 refine kW 39 [(1, .box 52 (cSy n rs)), (2, .box 52 (cSy n rs))] [(2, .box 1 0), (3, .box 2 0), (5, iv k), (24, bv true), (38, bv false)] ?_
 refine t_then ?_
 refine t_condF rfl ?_
 refine tri_skip ?_
 refine t_block ?_
 refine t_then ?_
 refine tri_region ?_
 refine oA (sp_move (.tmp 5) (iv k) rfl) I0 ?_
 refine oC (sp_add (c := ((k + 1 : Nat) : Int)) rfl (w64 (by omega) (by omega) (by omega))) I0 I0 ?_
 refine oA (sp_assign (.tmp 26) (iv (k + 1 : Nat)) rfl) I0 ?_
 refine kN 39 [(1, .box 52 (cSy n rs)), (2, .box 52 (cSy n rs))] [(2, .box 1 0), (3, .box 2 0), (5, iv (k + 1 : Nat)), (24, bv true), (38, bv false)] ?_
 refine t_then ?_
 refine tri_again ⟨k + 1, by omega⟩ (show rs.length - (k + 1) < rs.length - k by omega) ?_
 exact wk_keep _ _ rfl (by kernel_rfl) (by kernel_rfl)
 refine tri_region ?_
 refine oA (sp_move (.tmp 5) (iv k) rfl) I0 ?_
 refine oA (fB 1 (.tmp 2) rfl Tryd.underlying52 rfl 1 rfl) I0 ?_
 refine oB (lB (.box 52 (cSy n rs)) (slA 2 cRo rs) (.tmp 21) rfl Tryd.underlying50 rfl rfl) I0 rfl ?_
 refine oA (sp_lenSl (.tmp 22) rfl Tryd.underlying50) I0 ?_
 refine oC (sp_lss rfl (dF hs1)) I0 I0 ?_
 refine kN 39 [(1, .box 52 (cSy n rs)), (2, .box 52 (cSy n rs))] [(2, .box 1 0), (3, .box 2 0), (5, iv k), (24, bv false)] ?_
 refine t_then ?_
 refine t_condF rfl ?_
 refine tri_exit ?_
 refine t_then_exit ?_
 refine t_then_exit ?_
 refine t_hit ?_
 refine t_then ?_
 refine tri_seq ?_
 refine tri_region ?_
 refine oA (sp_assign (.const (.bool true)) (bv true) rfl) I0 ?_
 refine kN 39 [] [(4, bv true)] ?_
 refine t_then ?_
 refine tri_ret ?_
 refine tri_end1 Tryd.results31 (.tmp rfl) ?_
 exact rfl
end Go.Proofs.YtpadmggccpgajaaDoor

namespace Go.Proofs.YtpadmggccpgajaaDoor
open Go.RowKit Go.Deep Go.ChangeShapes Go.WideShapes Go.ChangeAt Go.Joins

theorem cells_int : Tryd.prog.cellsOf 3 = 1 := by kernel_rfl
theorem cells_ints : Tryd.prog.cellsOf 24 = 1 := by kernel_rfl
theorem cells_row : Tryd.prog.cellsOf 54 = 2 := by kernel_rfl
theorem cells_rows : Tryd.prog.cellsOf 50 = 1 := by kernel_rfl
theorem cells_sys : Tryd.prog.cellsOf 52 = 2 := by kernel_rfl

section
variable {H : Type} {enc : TypeId × Value → H} {w : World} {base : Nat} {sp : Nat → Bool} {held : Bool}

theorem int_of_trod {n : Nat} {v : Value} {x : DataW H × List MemPlace} (h : DataW.trod enc Tryd.prog w base sp held n 3 [v] = some x) : ∃ c, v = .int .i64 c ∧ I64 c := by
  obtain ⟨c, e1, _, e3⟩ := DataW.trod_int Tryd.underlying3 h
  simp at e1
  exact ⟨c, e1, I64.of_wf e3⟩

set_option maxRecDepth 100000 in
theorem row_of_trod {n : Nat} {cs : List Value} {x : DataW H × List MemPlace} (h : DataW.trod enc Tryd.prog w base sp held n 54 cs = some x) :
    ∃ v c xs, cs = [v, .int .i64 c] ∧ IsInts 0 w v xs ∧ I64 c := by
  obtain ⟨ys, m, _, _, hlen, _, hf⟩ := DataW.trod_struct Tryd.underlying54 h
  rw [cells_row] at hlen
  match cs, hlen with
  | [v0, v1], _ =>
    have h0 : DataW.trod enc Tryd.prog w base sp held m 24 (([v0, v1].drop 0).take (Tryd.prog.cellsOf 24)) = ys[0]? := hf 0 _ rfl
    have h1 : DataW.trod enc Tryd.prog w base sp held m 3 (([v0, v1].drop 1).take (Tryd.prog.cellsOf 3)) = ys[1]? := hf 1 _ rfl
    rw [cells_ints] at h0
    rw [cells_int] at h1
    simp only [List.drop_zero, List.take_succ_cons, List.take_zero] at h0
    simp only [List.drop_succ_cons, List.drop_zero, List.take_succ_cons, List.take_zero] at h1
    have hx : ∀ i, i < 2 → ∃ y, ys[i]? = some y := fun i hi => ⟨ys[i]'(by simp at *; omega), List.getElem?_eq_getElem _⟩
    obtain ⟨y0, e0⟩ := hx 0 (by omega)
    obtain ⟨y1, e1⟩ := hx 1 (by omega)
    rw [e0] at h0
    rw [e1] at h1
    obtain ⟨xs, hxs⟩ := ints_of_trod Tryd.underlying24 Tryd.underlying3 cells_int h0
    obtain ⟨c, rfl, hc⟩ := int_of_trod h1
    exact ⟨v0, c, xs, rfl, hxs, hc⟩

end

end Go.Proofs.YtpadmggccpgajaaDoor

namespace Go.Proofs.YtpadmggccpgajaaDoor
open Go.RowKit Go.Deep Go.ChangeShapes Go.WideShapes Go.ChangeAt Go.Joins
def RoEl (lo : Nat) (w : World) (cs : List Value) (r : Rw) : Prop := ∃ v, cs = [v, .int .i64 r.2] ∧ IsInts lo w v r.1 ∧ I64 r.2
def IsSysX (lo : Nat) (w : World) (v : Value) (n : Int) (rs : List Rw) : Prop := ∃ u, v = .agg #[.int .i64 n, u] ∧ IsSl 2 RoEl lo w u rs ∧ I64 n
section
variable {H : Type} {enc : TypeId × Value → H} {w : World} {base : Nat} {sp : Nat → Bool} {held : Bool}
theorem ro_of_trod {n : Nat} {cs : List Value} {x : DataW H × List MemPlace} (h : DataW.trod enc Tryd.prog w base sp held n 54 cs = some x) : ∃ r, RoEl 0 w cs r := by
  obtain ⟨v, c, xs, e, h1, h2⟩ := row_of_trod h
  exact ⟨(xs, c), v, e, h1, h2⟩
set_option maxRecDepth 100000 in
theorem sysx_of_trod {n : Nat} {cs : List Value} {x : DataW H × List MemPlace} (h : DataW.trod enc Tryd.prog w base sp held n 52 cs = some x) :
    ∃ vars v rs, cs = [.int .i64 vars, v] ∧ IsSl 2 RoEl 0 w v rs ∧ I64 vars := by
  obtain ⟨ys, m, _, _, hlen, _, hf⟩ := DataW.trod_struct Tryd.underlying52 h
  rw [cells_sys] at hlen
  match cs, hlen with
  | [v0, v1], _ =>
    have h0 : DataW.trod enc Tryd.prog w base sp held m 3 (([v0, v1].drop 0).take (Tryd.prog.cellsOf 3)) = ys[0]? := hf 0 _ rfl
    have h1 : DataW.trod enc Tryd.prog w base sp held m 50 (([v0, v1].drop 1).take (Tryd.prog.cellsOf 50)) = ys[1]? := hf 1 _ rfl
    rw [cells_int] at h0
    rw [cells_rows] at h1
    simp only [List.drop_zero, List.take_succ_cons, List.take_zero] at h0
    simp only [List.drop_succ_cons, List.drop_zero, List.take_succ_cons, List.take_zero] at h1
    have hx : ∀ i, i < 2 → ∃ y, ys[i]? = some y := fun i hi => ⟨ys[i]'(by simp at *; omega), List.getElem?_eq_getElem _⟩
    obtain ⟨y0, e0⟩ := hx 0 (by omega)
    obtain ⟨y1, e1⟩ := hx 1 (by omega)
    rw [e0] at h0
    rw [e1] at h1
    obtain ⟨vars, rfl, hc⟩ := int_of_trod h0
    obtain ⟨rs, hrs⟩ := sl_of_trod Tryd.underlying50 cells_row (by omega) (fun _ _ _ hh _ => ro_of_trod hh) h1
    exact ⟨vars, v1, rs, rfl, hrs, hc⟩
end
set_option maxRecDepth 100000 in
theorem arg_sysx {H : Type} {enc : TypeId × Value → H} {w : World} {r : Reach} {b0 : Nat} {v : Value} {d : DataW H} {p : List MemPlace} (hv : Value.okWide Tryd.prog w r b0 52 v) (h : DataW.Trod enc Tryd.prog w 0 (fun _ => true) true 52 v d p) :
    ∃ n rs, IsSysX 0 w v n rs := by
  obtain ⟨cs, rfl, _⟩ := okWide_struct Tryd.underlying52 hv
  obtain ⟨fuel, hf⟩ := h
  obtain ⟨vars, u, rs, e, h1, h2⟩ := sysx_of_trod hf
  have e2 : cs = #[.int .i64 vars, u] := by obtain ⟨l⟩ := cs; simp [Value.cells] at e; simpa using e
  exact ⟨vars, rs, u, by rw [e2], h1, h2⟩
theorem IsSysX.ok {lo : Nat} {w : World} {v : Value} {n : Int} {rs : List Rw} (h : IsSysX lo w v n rs) : SyOk rs := by
  obtain ⟨u, _, h1, _⟩ := h
  exact ⟨h1.all fun cs r hr => by obtain ⟨v, _, a, b⟩ := hr; exact ⟨a.ok, b⟩, h1.bound⟩
section
variable {F ok : Nat → Prop} {lo : Nat} {w : World}
theorem sysx_pu (hok : ∀ b, lo ≤ b → b < w.heap.size → ok b) {v : Value} {n : Int} {rs : List Rw} (h : IsSysX lo w v n rs) : Pu F w ok (.agg (cSy n rs)) v := by
  obtain ⟨u, rfl, h1, _⟩ := h
  refine .agg rfl fun j hj => ?_
  match j, hj with
  | 0, _ => exact .v _
  | 1, _ =>
    refine sl_pu lenRo hok (fun r vs hr j hj => ?_) h1
    obtain ⟨v, rfl, a, _⟩ := hr
    match j, hj with
    | 0, _ => exact ints_pu hok a
    | 1, _ => exact .v _
end
/-- The walk of a law out of its contract. -/
theorem lwalk1 {f : FuncId} {A : AV} {w : World} {v : Value} (h : Ctr Tryd.prog (fun _ => True) f [A] (bv true)) (hA : Pu (fun _ => True) w (fun b => b < w.heap.size) A v) :
    Calls Tryd.prog f #[v] w fun e w' => e = .returned (.bool true) ∧ Below w.heap.size w w' :=
  (h w #[v] (fun _ _ => trivial) rfl fun j hj => (match j, hj with | 0, _ => hA)).mono fun _ _ ⟨_, he, hp, hb⟩ => ⟨by rw [he, hp.v_inv], hb⟩
end Go.Proofs.YtpadmggccpgajaaDoor

namespace Go.Proofs.YtpadmggccpgajaaDoor
open Go.RowKit Go.Deep
variable {J : World → Prop}
set_option linter.unusedSimpArgs false in
set_option linter.unusedVariables false in
set_option maxRecDepth 100000 in
set_option maxHeartbeats 6400000 in
theorem lawNormalizes_c {n : Int} {rs : List Rw} (H : SyOk rs) : Ctr Tryd.prog J 6 [.agg (cSy n rs)] (bv true) := by
 refine ctr_of_tri Tryd.func6 rfl (by intro X hX; simp only [List.mem_cons, List.not_mem_nil, or_false] at hX; rcases hX with rfl; exact plain_agg (plain_sy n rs)) (n := 56) rfl (by simp) (fun w0 => ?_)
 refine kW 56 [] [(0, .agg (cSy n rs))] ?_
 refine tri_seq ?_
 refine tri_region ?_
 refine t_op rfl (sp_box (X := .agg (cSy n rs)) (k := 1) (.tmp 0) rfl rfl) ⟨I0, T0⟩ T0 rfl ?_
 refine oA (sp_assign (.const (.bool false)) (bv false) rfl) I0 ?_
 refine kN 56 [(1, .box 52 (cSy n rs))] [(1, .box 1 0), (2, bv false)] ?_
 refine t_then ?_
 refine tri_seq ?_
 refine tri_seq ?_
 by_cases hs1 : (wideB rs) = true
 refine tri_region ?_
 refine oB (sp_loadBoxS (Y := .box 52 (cSy n rs)) (ds := cSy n rs) (z := 2) (.tmp 1) rfl Tryd.underlying52 rfl (by kernel_rfl) (by decide) (by kernel_rfl) (by kernel_rfl)) I0 rfl ?_
 refine oC (sp_call (c := .func 24) (xs := #[.tmp 10]) [] (ctr_b (wide_c H) hs1) rfl (by kernel_rfl) rfl (Xs := [.agg (cSy n rs)]) rfl rfl rfl) I0 I0 ?_
 refine kN 56 [(1, .box 52 (cSy n rs))] [(1, .box 1 0), (2, bv false), (11, bv true)] ?_
 refine t_then ?_
 refine t_condT rfl ?_
 refine tri_seq ?_
 refine tri_region ?_
 refine oA (sp_call (c := .func 26) (xs := #[]) [] wknown_c rfl (by kernel_rfl) rfl (Xs := []) rfl rfl rfl) I0 ?_
 refine oA (sp_assign (.tmp 12) (bv true) rfl) I0 ?_
 refine kN 56 [(1, .box 52 (cSy n rs))] [(1, .box 1 0), (2, bv true)] ?_
 refine t_then ?_
 refine tri_ret ?_
 refine t_then_ret ?_
 refine tri_end1 Tryd.results6 (.tmp rfl) ?_
 exact rfl
 have hs1f : (wideB rs) = false := by simpa using hs1
 refine tri_region ?_
 refine oB (sp_loadBoxS (Y := .box 52 (cSy n rs)) (ds := cSy n rs) (z := 2) (.tmp 1) rfl Tryd.underlying52 rfl (by kernel_rfl) (by decide) (by kernel_rfl) (by kernel_rfl)) I0 rfl ?_
 refine oC (sp_call (c := .func 24) (xs := #[.tmp 10]) [] (ctr_b (wide_c H) hs1f) rfl (by kernel_rfl) rfl (Xs := [.agg (cSy n rs)]) rfl rfl rfl) I0 I0 ?_
 refine kN 56 [(1, .box 52 (cSy n rs))] [(1, .box 1 0), (2, bv false), (11, bv false)] ?_
 refine t_then ?_
 refine t_condF rfl ?_
 refine tri_skip ?_
 refine t_then ?_
 refine tri_seq ?_
 refine tri_region ?_
 refine oB (sp_loadBoxS (Y := .box 52 (cSy n rs)) (ds := cSy n rs) (z := 2) (.tmp 1) rfl Tryd.underlying52 rfl (by kernel_rfl) (by decide) (by kernel_rfl) (by kernel_rfl)) I0 rfl ?_
 refine t_op rfl (sp_callO (c := .func 27) (xs := #[.tmp 13]) [] (CopySystem_o (n := n) (wideL hs1f).1 (fun x hx => Nat.le_trans ((wideL hs1f).2 x hx) (by decide)) 2) rfl (by kernel_rfl) rfl (Xs := [.agg (cSy n rs)]) rfl rfl rfl) ⟨I0, I0, T0⟩ T0 rfl ?_
 refine t_op rfl (sp_alloc (z := .agg #[.int .i64 0, .slice none 0 0]) (k := 3) rfl (by kernel_rfl)) T0 T0 rfl ?_
 refine t_op rfl (sp_storeBox (T0 := 52) (X := .agg [iv n, .own 2]) (cs := [iv 0, .v (.slice none 0 0)]) (ds := [iv n, .own 2]) (z := 2) (.tmp 3) (.tmp 14) rfl (by kernel_rfl) (by kernel_rfl) (by kernel_rfl) (of_decide_eq_true (by kernel_rfl)) (by kernel_rfl)) ⟨I0, I0, T0⟩ ⟨rfl, T0⟩ rfl ?_
 refine kN 56 [(1, .box 52 (cSy n rs)), (2, .row true 54 2 rs.length (rs.flatMap cRo)), (3, .box 52 [iv n, .own 2])] [(1, .box 1 0), (2, bv false), (3, .box 3 0)] ?_
 refine t_then ?_
 refine tri_seq ?_
 refine tri_rebase [(1, .box 52 (cSy n rs)), (3, .box 52 [iv n, .own 2]), (2, .row true 54 2 rs.length (rs.flatMap cRo))] [(1, .el (cSy n rs) 0), (2, bv false), (3, .el (cSy n rs) 0)] (n := 56) rfl (by kernel_rfl) (by kernel_rfl) rfl (by intro X hX; simp only [List.map_cons, List.map_nil, List.mem_cons, List.not_mem_nil, or_false] at hX; rcases hX with rfl | rfl | rfl; exact .el (plain_all (plain_sy n rs)); exact .v _; exact .el (plain_all (plain_sy n rs))) (fun w1 hw1 => ?_)
 refine kW 56 [] [(1, .old w1.heap.size (.el (cSy n rs) 0)), (2, bv false), (3, .old w1.heap.size (.el (cSy n rs) 0))] ?_
 refine tri_region ?_
 refine t_op rfl (sp_loadElS (z := 2) (.tmp 3) rfl Tryd.underlying52 rfl (by kernel_rfl) rfl rfl) ⟨.inr (.inr (.inr ⟨_, rfl⟩)), T0⟩ T0 T0 ?_
 refine oC (sp_call (c := .func 34) (xs := #[.tmp 16]) [] (lNormalize_c H (wideL hs1f).1 (fun x hx => Nat.le_trans ((wideL hs1f).2 x hx) (by decide))) rfl (by kernel_rfl) rfl (Xs := [.agg (cSy n rs)]) rfl rfl rfl) I0 I0 ?_
 refine oA (sp_move (.tmp 17) (.tup [.fr (.agg (cSy (nmN n rs) (nmR n rs))), iv (nmE n rs)]) rfl) I0 ?_
 refine oA (sp_extract (X := .fr (.agg (cSy (nmN n rs) (nmR n rs)))) (.tmp 15) rfl rfl) I0 ?_
 refine oA (sp_extract (X := iv (nmE n rs)) (.tmp 15) rfl rfl) I0 ?_
 refine t_op rfl (sp_alloc (z := .agg #[.int .i64 0, .slice none 0 0]) (k := 4) rfl (by kernel_rfl)) T0 T0 rfl ?_
 refine t_op rfl (sp_storeBox (T0 := 52) (X := .agg [iv (nmN n rs), .fr (slA 2 cRo (nmR n rs))]) (cs := [iv 0, .v (.slice none 0 0)]) (ds := [iv (nmN n rs), .fr (slA 2 cRo (nmR n rs))]) (z := 2) (.tmp 4) (.tmp 18) rfl (by kernel_rfl) (by kernel_rfl) (by kernel_rfl) (of_decide_eq_true (by kernel_rfl)) (by kernel_rfl)) ⟨I0, .inr (.inr (.inl ⟨_, rfl, rfl⟩)), T0⟩ ⟨rfl, T0⟩ rfl ?_
 refine oA (sp_assign (.tmp 19) (iv (nmE n rs)) rfl) I0 ?_
 refine kN 56 [(4, .box 52 [iv (nmN n rs), .fr (slA 2 cRo (nmR n rs))])] [(1, .old w1.heap.size (.el (cSy n rs) 0)), (2, bv false), (3, .old w1.heap.size (.el (cSy n rs) 0)), (4, .box 4 0), (5, iv (nmE n rs))] ?_
 refine t_then ?_
 refine tri_seq ?_
 refine tri_region ?_
 refine t_op rfl (sp_loadElS (z := 2) (.tmp 1) rfl Tryd.underlying52 rfl (by kernel_rfl) rfl rfl) ⟨.inr (.inr (.inr ⟨_, rfl⟩)), T0⟩ T0 T0 ?_
 refine oC (sp_call (c := .func 35) (xs := #[.tmp 21]) [] (rNormalize_c H (wideL hs1f).1 (fun x hx => Nat.le_trans ((wideL hs1f).2 x hx) (by decide))) rfl (by kernel_rfl) rfl (Xs := [.agg (cSy n rs)]) rfl rfl rfl) I0 I0 ?_
 refine oA (sp_move (.tmp 22) (.tup [.fr (.agg (cSy (nmN n rs) (nmR n rs))), iv (nmE n rs)]) rfl) I0 ?_
 refine oA (sp_extract (X := .fr (.agg (cSy (nmN n rs) (nmR n rs)))) (.tmp 20) rfl rfl) I0 ?_
 refine oA (sp_extract (X := iv (nmE n rs)) (.tmp 20) rfl rfl) I0 ?_
 refine t_op rfl (sp_alloc (z := .agg #[.int .i64 0, .slice none 0 0]) (k := 5) rfl (by kernel_rfl)) T0 T0 rfl ?_
 refine t_op rfl (sp_storeBox (T0 := 52) (X := .agg [iv (nmN n rs), .fr (slA 2 cRo (nmR n rs))]) (cs := [iv 0, .v (.slice none 0 0)]) (ds := [iv (nmN n rs), .fr (slA 2 cRo (nmR n rs))]) (z := 2) (.tmp 6) (.tmp 23) rfl (by kernel_rfl) (by kernel_rfl) (by kernel_rfl) (of_decide_eq_true (by kernel_rfl)) (by kernel_rfl)) ⟨I0, .inr (.inr (.inl ⟨_, rfl, rfl⟩)), T0⟩ ⟨rfl, T0⟩ rfl ?_
 refine oA (sp_assign (.tmp 24) (iv (nmE n rs)) rfl) I0 ?_
 refine kN 56 [(4, .box 52 [iv (nmN n rs), .fr (slA 2 cRo (nmR n rs))]), (5, .box 52 [iv (nmN n rs), .fr (slA 2 cRo (nmR n rs))])] [(1, .old w1.heap.size (.el (cSy n rs) 0)), (2, bv false), (3, .old w1.heap.size (.el (cSy n rs) 0)), (4, .box 4 0), (5, iv (nmE n rs)), (6, .box 5 0), (7, iv (nmE n rs))] ?_
 refine t_then ?_
 refine tri_seq ?_
 refine tri_region ?_
 refine oA (sp_move (.tmp 5) (iv (nmE n rs)) rfl) I0 ?_
 refine oA (sp_move (.tmp 7) (iv (nmE n rs)) rfl) I0 ?_
 refine oC (sp_eql rfl (dT rfl)) I0 I0 ?_
 refine oA (sp_move (.tmp 27) (bv true) rfl) I0 ?_
 refine gB (sp_loadBoxS (Y := .box 52 [iv (nmN n rs), .fr (slA 2 cRo (nmR n rs))]) (ds := [iv (nmN n rs), .fr (slA 2 cRo (nmR n rs))]) (z := 2) (.tmp 4) rfl Tryd.underlying52 rfl (by kernel_rfl) (by decide) (by kernel_rfl) (by kernel_rfl)) I0 rfl ?_
 refine gB (sp_loadBoxS (Y := .box 52 [iv (nmN n rs), .fr (slA 2 cRo (nmR n rs))]) (ds := [iv (nmN n rs), .fr (slA 2 cRo (nmR n rs))]) (z := 2) (.tmp 6) rfl Tryd.underlying52 rfl (by kernel_rfl) (by decide) (by kernel_rfl) (by kernel_rfl)) I0 rfl ?_
 refine gD (sp_call (c := .func 31) (xs := #[.tmp 29, .tmp 30]) [] (SameSystem_l (nmR_ok H)) rfl (by kernel_rfl) rfl (Xs := [.agg [iv (nmN n rs), .fr (slA 2 cRo (nmR n rs))], .agg [iv (nmN n rs), .fr (slA 2 cRo (nmR n rs))]]) rfl rfl rfl) I0 I0 I0 ?_
 refine oD (sp_pick (.tmp 28) (.tmp 31) (.const (.bool false)) true (bv true) (bv false) rfl) I0 I0 I0 ?_
 refine oA (sp_assign (.tmp 32) (bv true) rfl) I0 ?_
 refine kN 56 [(4, .box 52 [iv (nmN n rs), .fr (slA 2 cRo (nmR n rs))])] [(1, .old w1.heap.size (.el (cSy n rs) 0)), (2, bv false), (3, .old w1.heap.size (.el (cSy n rs) 0)), (4, .box 4 0), (8, bv true)] ?_
 refine t_then ?_
 refine tri_seq ?_
 refine tri_seq ?_
 refine tri_region ?_
 refine oA (sp_assign (.const (.int .i64 0)) (iv 0) rfl) I0 ?_
 refine kN 56 [(4, .box 52 [iv (nmN n rs), .fr (slA 2 cRo (nmR n rs))])] [(1, .old w1.heap.size (.el (cSy n rs) 0)), (2, bv false), (3, .old w1.heap.size (.el (cSy n rs) 0)), (4, .box 4 0), (8, bv true), (9, iv 0)] ?_
 refine t_then ?_
 refine tri_block ?_
 have hln := nmR_len (n := n) (wideL hs1f).1
 refine tri_loop (σ := {p : Nat × List Rw // p.1 ≤ (nmR n rs).length ∧ p.2.length = (nmR n rs).length}) (fun s => (ofL [(4, .box 52 [iv (nmN n rs), .fr (slA 2 cRo s.1.2)])], ofT 56 [(1, .old w1.heap.size (.el (cSy n rs) 0)), (2, bv false), (3, .old w1.heap.size (.el (cSy n rs) 0)), (4, .box 4 0), (8, bv true), (9, iv s.1.1)])) (fun s => (nmR n rs).length - s.1.1) ⟨(0, nmR n rs), Nat.zero_le _, rfl⟩ (wk_keep _ _ rfl (by kernel_rfl) (by kernel_rfl)) (fun s => ?_)
 obtain ⟨⟨k, L⟩, hk0, hL⟩ := s
 show ETri J w1 (ofL [(4, .box 52 [iv (nmN n rs), .fr (slA 2 cRo L)])]) (ofT 56 [(1, .old w1.heap.size (.el (cSy n rs) 0)), (2, bv false), (3, .old w1.heap.size (.el (cSy n rs) 0)), (4, .box 4 0), (8, bv true), (9, iv k)]) _
 dsimp only at hk0 hL
 refine tri_seq ?_
 refine tri_seq ?_
 by_cases hs2 : ((k : Nat) : Int) < ((L.length : Nat) : Int)
 refine tri_region ?_
 refine oA (sp_move (.tmp 9) (iv k) rfl) I0 ?_
 refine oA (fB 1 (.tmp 4) rfl Tryd.underlying52 rfl 1 rfl) I0 ?_
 refine oB (lB (.box 52 [iv (nmN n rs), .fr (slA 2 cRo L)]) (.fr (slA 2 cRo L)) (.tmp 34) rfl Tryd.underlying50 rfl rfl) I0 rfl ?_
 refine t_op rfl (sp_lenSl (.tmp 35) rfl Tryd.underlying50) ⟨.inr (.inl rfl), T0⟩ T0 T0 ?_
 refine oC (sp_lss rfl (dT hs2)) I0 I0 ?_
 refine kN 56 [(4, .box 52 [iv (nmN n rs), .fr (slA 2 cRo L)])] [(1, .old w1.heap.size (.el (cSy n rs) 0)), (2, bv false), (3, .old w1.heap.size (.el (cSy n rs) 0)), (4, .box 4 0), (8, bv true), (9, iv k), (37, bv true)] ?_
 refine t_then ?_
 refine t_condT rfl ?_
 refine tri_skip ?_
 refine t_then ?_
 refine tri_seq ?_
 refine tri_block ?_
 refine tri_region ?_
 refine oA (fB 1 (.tmp 4) rfl Tryd.underlying52 rfl 1 rfl) I0 ?_
 refine oB (lB (.box 52 [iv (nmN n rs), .fr (slA 2 cRo L)]) (.fr (slA 2 cRo L)) (.tmp 40) rfl Tryd.underlying50 rfl rfl) I0 rfl ?_
 refine oA (sp_move (.tmp 9) (iv k) rfl) I0 ?_
 refine oC (sp_indexSlF (off := k * 2) (.tmp 41) (.tmp 42) rfl Tryd.underlying50 (by kernel_rfl) (by omega) (by omega) rfl) I0 I0 ?_
 refine oA (sp_fieldElF (off' := k * 2) (.tmp 43) rfl Tryd.underlying54 rfl (z := 1) (by kernel_rfl) (by decide) rfl) I0 ?_
 refine oA (sp_loadEl1F (X := intsA L[k].1) (.tmp 44) rfl Tryd.underlying24 rfl ((eflat_get lenRo L k 0 (by omega) (by decide)).trans rfl)) I0 ?_
 refine kW 56 [(4, .box 52 [iv (nmN n rs), .fr (slA 2 cRo L)])] [(45, .fr (intsA L[k].1)), (4, .box 4 0), (1, .old w1.heap.size (.el (cSy n rs) 0)), (3, .old w1.heap.size (.el (cSy n rs) 0)), (2, bv false), (8, bv true), (9, iv k), (37, bv true), (42, iv k)] ?_
 refine tri_spoilBx (c := .func 32) (.tmp 45) [.int .i64 (nmN n rs)] [4] [(1, .el (cSy n rs) 0), (3, .el (cSy n rs) 0)] [(2, .bool false), (8, .bool true), (9, .int .i64 ((k : Nat) : Int)), (37, .bool true), (42, .int .i64 ((k : Nat) : Int))] spoil_c rfl rfl rfl (by kernel_rfl) rfl rfl (fun l2 hl2 => ?_)
 refine kN 56 [(4, .box 52 [iv (nmN n rs), .fr (slA 2 cRo l2)])] [(1, .old w1.heap.size (.el (cSy n rs) 0)), (2, bv false), (3, .old w1.heap.size (.el (cSy n rs) 0)), (4, .box 4 0), (8, bv true), (9, iv k), (37, bv true)] ?_
 refine t_block ?_
 refine t_then ?_
 refine tri_region ?_
 refine oA (sp_move (.tmp 9) (iv k) rfl) I0 ?_
 refine oC (sp_add (c := ((k + 1 : Nat) : Int)) rfl (w64 (by omega) (by omega) (by omega))) I0 I0 ?_
 refine oA (sp_assign (.tmp 39) (iv (k + 1 : Nat)) rfl) I0 ?_
 refine kN 56 [(4, .box 52 [iv (nmN n rs), .fr (slA 2 cRo l2)])] [(1, .old w1.heap.size (.el (cSy n rs) 0)), (2, bv false), (3, .old w1.heap.size (.el (cSy n rs) 0)), (4, .box 4 0), (8, bv true), (9, iv (k + 1 : Nat)), (37, bv true)] ?_
 refine t_then ?_
 refine tri_again ⟨(k + 1, l2), by dsimp only; omega, by dsimp only; omega⟩ (show (nmR n rs).length - (k + 1) < (nmR n rs).length - k by omega) ?_
 show Wk _ _ (ofL [(4, .box 52 [iv (nmN n rs), .fr (slA 2 cRo l2)])]) (ofT 56 [(1, .old w1.heap.size (.el (cSy n rs) 0)), (2, bv false), (3, .old w1.heap.size (.el (cSy n rs) 0)), (4, .box 4 0), (8, bv true), (9, iv ((k + 1) : Nat))])
 exact wk_keep _ _ rfl (by kernel_rfl) (by kernel_rfl)
 refine tri_region ?_
 refine oA (sp_move (.tmp 9) (iv k) rfl) I0 ?_
 refine oA (fB 1 (.tmp 4) rfl Tryd.underlying52 rfl 1 rfl) I0 ?_
 refine oB (lB (.box 52 [iv (nmN n rs), .fr (slA 2 cRo L)]) (.fr (slA 2 cRo L)) (.tmp 34) rfl Tryd.underlying50 rfl rfl) I0 rfl ?_
 refine t_op rfl (sp_lenSl (.tmp 35) rfl Tryd.underlying50) ⟨.inr (.inl rfl), T0⟩ T0 T0 ?_
 refine oC (sp_lss rfl (dF hs2)) I0 I0 ?_
 refine kN 56 [(4, .box 52 [iv (nmN n rs), .fr (slA 2 cRo L)])] [(1, .old w1.heap.size (.el (cSy n rs) 0)), (2, bv false), (3, .old w1.heap.size (.el (cSy n rs) 0)), (4, .box 4 0), (8, bv true), (9, iv k), (37, bv false)] ?_
 refine t_then ?_
 refine t_condF rfl ?_
 refine tri_exit ?_
 refine t_then_exit ?_
 refine t_then_exit ?_
 refine t_hit ?_
 refine t_then ?_
 refine tri_seq ?_
 refine tri_region ?_
 refine oA (sp_move (.tmp 8) (bv true) rfl) I0 ?_
 refine oA (sp_move (.tmp 47) (bv true) rfl) I0 ?_
 refine t_opG rfl (sp_loadElS (z := 2) (.tmp 3) rfl Tryd.underlying52 rfl (by kernel_rfl) rfl rfl) ⟨.inr (.inr (.inr ⟨_, rfl⟩)), T0⟩ T0 T0 ?_
 refine t_opG rfl (sp_loadElS (z := 2) (.tmp 1) rfl Tryd.underlying52 rfl (by kernel_rfl) rfl rfl) ⟨.inr (.inr (.inr ⟨_, rfl⟩)), T0⟩ T0 T0 ?_
 refine gD (sp_call (c := .func 31) (xs := #[.tmp 49, .tmp 50]) [] (SameSystem_l H) rfl (by kernel_rfl) rfl (Xs := [.agg (cSy n rs), .agg (cSy n rs)]) rfl rfl rfl) I0 I0 I0 ?_
 refine oD (sp_pick (.tmp 48) (.tmp 51) (.const (.bool false)) true (bv true) (bv false) rfl) I0 I0 I0 ?_
 refine oA (sp_move (.tmp 52) (bv true) rfl) I0 ?_
 refine gA (sp_call (c := .func 26) (xs := #[]) [] wknown_c rfl (by kernel_rfl) rfl (Xs := []) rfl rfl rfl) I0 ?_
 refine oD (sp_pick (.tmp 53) (.tmp 54) (.const (.bool false)) true (bv true) (bv false) rfl) I0 I0 I0 ?_
 refine oA (sp_assign (.tmp 55) (bv true) rfl) I0 ?_
 refine kN 56 [] [(2, bv true)] ?_
 refine t_then ?_
 refine tri_ret ?_
 exact tri_endV hw1 Tryd.results6 (.tmp rfl)
theorem walk_Normalizes {v : Value} {n : Int} {rs : List Rw} (w : World) (h : IsSysX 0 w v n rs) :
    Calls Tryd.prog 6 #[v] w fun e w' => e = .returned (.bool true) ∧ Below w.heap.size w w' :=
  lwalk1 (lawNormalizes_c h.ok) (sysx_pu (fun _ _ h => h) h)
end Go.Proofs.YtpadmggccpgajaaDoor
