import Derived.ChangeArms
import Derived.Test.YtbbglendddepfaaDoorGrppagcphge
import Derived.Test.YtbbglendddepfaaDoorGrpigfeloij
import Derived.Test.YtbbglendddepfaaDoorGrpeokkmchn
import Derived.Test.YtbbglendddepfaaDoorGrpomkalice
set_option linter.all false
namespace Go.Proofs.YtbbglendddepfaaDoor
open Go.RowKit Go.Deep
variable {J : World → Prop}
theorem Ichg.ints {K : Nat → Prop} {w w' : World} (h : Ichg K w w') (c j : Nat) (x : Int) (hx : w.cell? ⟨c, j, none⟩ = some (.int .i64 x)) : ∃ y, w'.cell? ⟨c, j, none⟩ = some (.int .i64 y) := by
  rcases h.cell _ _ _ hx with h1 | ⟨k, i, i', e, h1⟩
  · exact ⟨x, h1⟩
  · cases e; exact ⟨i', h1⟩
theorem pu_is_slice {F ok : Nat → Prop} {w : World} {xs : List Int} {v : Value} (h : Pu F w ok (intsA xs) v) : ∃ a m c, v = .slice a m c := pu_slice h
theorem rows_blur {F ok ok' : Nat → Prop} {K : Nat → Prop} {w w' : World} {rs : List Rw} {v : Value} (hI : Ichg K w w') (h : Pu F w ok (slA 2 cRo rs) v) (hok : ∀ b, ok b → ok' b) : ∃ rs' : List Rw, rs'.length = rs.length ∧ Pu F w' ok' (slA 2 cRo rs') v := by
  unfold slA at h
  generalize hcs : rs.flatMap cRo = cs at h
  generalize hn : rs.length = n at h
  cases h with
  | sl0 h2 hz => exact ⟨[], rfl, .sl0 h2 hz⟩
  | sl hc h1 h2 hb hw hf h =>
    rename_i b off cap g
    subst hn
    have H : ∀ i, i < rs.length → ∃ r : Rw, w'.cell? ⟨b, off + i * 2, none⟩ = some (g (i * 2)) ∧ w'.cell? ⟨b, off + (i * 2 + 1), none⟩ = some (.int .i64 r.2) ∧ Pu F w' ok' (intsA r.1) (g (i * 2)) := fun i hi => by
      have hlt : i * 2 + 1 < cs.length := by rw [hc]; omega
      have e0 : cs[i * 2] = intsA rs[i].1 := by
        have := eflat_get lenRo rs i 0 hi (by decide)
        rw [hcs, Nat.add_zero, List.getElem?_eq_getElem (by omega)] at this
        exact Option.some.inj this
      have e1 : cs[i * 2 + 1] = iv rs[i].2 := by
        have := eflat_get lenRo rs i 1 hi (by decide)
        rw [hcs, List.getElem?_eq_getElem hlt] at this
        exact Option.some.inj this
      have h0 := h (i * 2) (by omega)
      have h1 := h (i * 2 + 1) hlt
      rw [e0] at h0
      rw [e1] at h1
      obtain ⟨l', _, q1⟩ := ints_blur (ok' := ok') h0 hI.size hok hI.ints
      have c1 := hf (i * 2 + 1) hlt
      rw [h1.v_inv] at c1
      obtain ⟨y, c2⟩ := hI.ints _ _ _ c1
      refine ⟨(l', y), ?_, c2, q1⟩
      rcases hI.cell _ _ _ (hf (i * 2) (by omega)) with c3 | ⟨k, p, p', e, _⟩
      · exact c3
      · obtain ⟨a, m, c, e'⟩ := pu_is_slice h0
        rw [e'] at e; cases e
    obtain ⟨R, hR⟩ := choose_lt H
    have hl : ((List.range rs.length).map R).length = rs.length := by simp
    refine ⟨(List.range rs.length).map R, hl, ?_⟩
    unfold slA
    rw [hl]
    refine .sl (b := b) (off := off) (f := fun j => if j % 2 = 0 then g j else .int .i64 (R (j / 2)).2) (by rw [flat_length lenRo, hl]) h1 h2 (hok _ hb) (Nat.lt_of_lt_of_le hw hI.size) (fun j hj => ?_) fun j hj => ?_
    · rw [flat_length lenRo, hl] at hj
      have hi : j / 2 < rs.length := by omega
      obtain ⟨c1, c2, _⟩ := hR _ hi
      by_cases e : j % 2 = 0
      · rw [if_pos e]
        rw [show j / 2 * 2 = j by omega] at c1
        exact c1
      · rw [if_neg e]
        rw [show j / 2 * 2 + 1 = j by omega] at c2
        exact c2
    · have hj' := hj
      rw [flat_length lenRo, hl] at hj'
      have hi : j / 2 < rs.length := by omega
      obtain ⟨_, _, c3⟩ := hR _ hi
      have hi' : j / 2 < ((List.range rs.length).map R).length := by simpa using hi
      have eR : ((List.range rs.length).map R)[j / 2] = R (j / 2) := by simp
      have key := eflat_get lenRo ((List.range rs.length).map R) (j / 2) (j % 2) hi' (Nat.mod_lt _ (by decide))
      rw [show j / 2 * 2 + j % 2 = j by omega, List.getElem?_eq_getElem hj, eR] at key
      by_cases e : j % 2 = 0
      · rw [e] at key
        have key := Option.some.inj key
        rw [key, if_pos e]
        rw [show j / 2 * 2 = j by omega] at c3
        exact c3
      · rw [show j % 2 = 1 by omega] at key
        have key := Option.some.inj key
        rw [key, if_neg e]
        exact .v _
/-- The contract of such a helper. -/
def CtrS (P : Program) (f : FuncId) : Prop := ∀ (K : Nat → Prop) (N : Nat) (w : World) (v : Value) (l : List Int), Pu (N ≤ ·) w (fun b => ¬ K b ∧ soft w b) (intsA l) v → Calls P f #[v] w fun e w' => e = .returned (.tuple #[]) ∧ Ichg K w w'
theorem spoil_c : CtrS Tryd.prog 19 := fun K N w v l h => by
  unfold intsA at h
  generalize hcs : l.map iv = cs at h
  generalize hn : l.length = n at h
  cases h with
  | sl0 h2 hz => exact (spoil_z w _ _).mono fun e w' hh => ⟨hh.1, by rw [hh.2]; exact Ichg.refl _ _⟩
  | sl hc h1 h2 hb hw hf h =>
    subst hn hcs
    refine spoil_w _ _ _ _ w (by unfold maxLen at h2; omega) hb.1 hb.2 fun j hj => ?_
    have hj' : j < (l.map iv).length := by simpa using hj
    have h3 := h j hj'
    simp only [List.getElem_map] at h3
    exact ⟨l[j], by rw [hf j hj', h3.v_inv]⟩
section
variable {P : Program} {o : Oper}
theorem sp_fieldElF {S : TypeId} {fs : Array Field} {f off off' z : Nat} {cs : List AV} {fl : Field} (x : Operand) (ho : o.op = .fieldAddr S x f) (hu : P.underlying S = some (.struct fs)) (hf : fs[f]? = some fl) (hz : (P.info? fl.type).map (·.size) = some z) (h0 : 0 < z) (e : off + fl.offset = off') :
    ASpec P J o [(x, .fr (.el cs off))] [] (.fr (.el cs off')) .no :=
  aspec_val fun ρ B a w _ ha _ => by
    have h := ha (x, .fr (.el cs off)) (by simp)
    generalize hx : a.eval x = v at h
    cases h with
    | pu h =>
    cases h with
    | fr h =>
    cases h with
    | el hb hw hfc hr =>
      refine ⟨_, ?_, .pu (.fr (.el (o := off') hb hw hfc hr))⟩
      simp only [execOp, ho, hx]
      exact run_val (by rw [run_field hu hf hz h0, Nat.add_assoc, e])
theorem sp_loadEl1F {T : TypeId} {d : TypeDesc} {off : Nat} {cs : List AV} {X : AV} (x : Operand) (ho : o.op = .load T x) (hu : P.underlying T = some d) (hd : d.isRow = false) (hX : cs[off]? = some X) : ASpec P J o [(x, .fr (.el cs off))] [] (.fr X) .no :=
  aspec_val fun ρ B a w _ ha _ => by
    have h := ha (x, .fr (.el cs off)) (by simp)
    generalize hx : a.eval x = v at h
    obtain ⟨hj, hX⟩ := List.getElem?_eq_some_iff.1 hX
    cases h with
    | pu h =>
    cases h with
    | fr h =>
    cases h with
    | el hb hw hfc hr =>
      rename_i b o1 fc
      refine ⟨fc off, ?_, .pu (.fr (by rw [← hX]; exact hr off hj))⟩
      simp only [execOp, ho, hx]
      exact run_val (run_load1 hu hd (hfc off hj))
end
section
variable {P : Program} {w0 : Wb} {ops : Array Oper} {o : Oper} {rest : List Oper} {Q : Exit → Act → World → Prop}
theorem tri_spoilBx {c : Operand} {ats : Array TypeId} {f : FuncId} {T : TypeId} {kb n ix : Nat} {l : List Int} {rs : List Rw} (x : Operand) (A : List Value) (Lb : List Nat) (Lo : List (Nat × AV)) (Lv : List (Nat × Value)) (hW : CtrS P f) (hg : o.guard = none)
    (ho : o.op = .call { callee := .value c, args := #[x], argTypes := ats }) (hc : aev (ofT n ((ix, .fr (intsA l)) :: ((Lb.map fun i => (i, .box kb 0)) ++ ((Lo.map fun p => (p.1, .old w0.heap.size p.2)) ++ Lv.map fun p => (p.1, .v p.2))))) c = .v (.func (.func f) #[] #[]))
    (hf : (P.funcs[f]?).map (fun fn => (fn.name == "runtime.NumGoroutine") || fn.body.isNone) = some false)
    (hx : aev (ofT n ((ix, .fr (intsA l)) :: ((Lb.map fun i => (i, .box kb 0)) ++ ((Lo.map fun p => (p.1, .old w0.heap.size p.2)) ++ Lv.map fun p => (p.1, .v p.2))))) x = .fr (intsA l))
    (hix : (Lb ++ (Lo.map (·.1) ++ Lv.map (·.1))).all (fun k => !(k == ix)) = true)
    (H : ∀ rs' : List Rw, rs'.length = rs.length → ETri J w0 (ofL [(kb, .box T (A.map .v ++ [.fr (slA 2 cRo rs')]))]) (aput (ofT n ((Lb.map fun i => (i, .box kb 0)) ++ ((Lo.map fun p => (p.1, .old w0.heap.size p.2)) ++ Lv.map fun p => (p.1, .v p.2)))) o.dst (.v (.tuple #[]))) (wpList P ops Q rest)) :
    ETri J w0 (ofL [(kb, .box T (A.map .v ++ [.fr (slA 2 cRo rs)]))]) (ofT n ((ix, .fr (intsA l)) :: ((Lb.map fun i => (i, .box kb 0)) ++ ((Lo.map fun p => (p.1, .old w0.heap.size p.2)) ++ Lv.map fun p => (p.1, .v p.2))))) (wpList P ops Q (o :: rest)) := by
  intro ρ a w s
  refine wpList_plain hg fun K hK => ?_
  have hcv := s.ev c
  rw [hc] at hcv
  have hxv := s.ev x
  rw [hx] at hxv
  refine upon_call ho hcv.v_inv hf ?_
  simp only [List.map_toArray, List.map_cons, List.map_nil, Array.append_empty]
  have hpx : Pu (w0.heap.size ≤ ·) w (fun b => ¬ (¬ okOf ρ b ∨ b < w0.heap.size) ∧ soft w b) (intsA l) (a.eval x) := by
    cases hxv with
    | pu hxv =>
      cases hxv with
      | fr hxv => exact hxv.weak fun b hb => ⟨fun h => h.elim (fun h => h hb.1) (fun h => by have := hb.2.1; omega), hb.2.2⟩
  refine (hW (fun b => ¬ okOf ρ b ∨ b < w0.heap.size) w0.heap.size w _ l hpx).mono fun e w' ⟨he, hI⟩ => ⟨_, he, ?_⟩
  obtain ⟨nm, g1, b, c', n', vs, rfl, g2, g3, g4⟩ := s.hp kb (.box T (A.map .v ++ [.fr (slA 2 cRo rs)])) (by simp [ofL])
  have hr := g4 A.length (by simp)
  simp only [List.getElem_append_right, List.length_map, Nat.le_refl, Nat.sub_self, List.getElem_cons_zero] at hr
  have hblur : ∃ rs' : List Rw, rs'.length = rs.length ∧ Rel ρ w0.heap.size w' (.fr (slA 2 cRo rs')) (vs.getD A.length undef) := by
    cases hr with
    | pu hr =>
      cases hr with
      | fr hr =>
        obtain ⟨rs', q1, q2⟩ := rows_blur (ok' := fun b => okOf ρ b ∧ w0.heap.size ≤ b ∧ soft w' b) hI hr fun b hb => ⟨hb.1, hb.2.1, hI.soft _ hb.2.2⟩
        exact ⟨rs', q1, .pu (.fr q2)⟩
  obtain ⟨rs', q1, q2⟩ := hblur
  have hlo := s.wf.lo _ _ _ _ g1
  have hbel : Bel w0 w' := ⟨hI.os.trans s.bel.os, hI.tape.trans s.bel.tape, hI.output.trans s.bel.output, Nat.le_trans s.bel.size hI.size, fun b hb hH => (hI.keep b (Nat.lt_of_lt_of_le hb s.bel.size) (.inr hb)).trans (s.bel.block b hb hH)⟩
  refine hK _ _ (H rs' q1 ρ _ _ ⟨⟨s.wf.inj, fun k b c n hk => ⟨(s.wf.lo _ _ _ _ hk).1, Nat.lt_of_lt_of_le (s.wf.lo _ _ _ _ hk).2 hI.size⟩⟩, s.hH, hbel, s.inv, fun k X hk => ?_, fun k hl hk => s.dom k hl ?_, s.pin, by rw [put_size, aput_n]; exact s.tl, rel_put _ (show _ = n from s.tl) (fun i hi => ?_) (.pu (.v _)), by rw [put_defers]; exact s.df⟩)
  · simp only [ofL, List.find?_cons, List.find?_nil] at hk
    by_cases e : kb = k
    · subst e
      simp only [beq_self_eq_true, Option.map_some, Option.some.injEq] at hk
      subst hk
      refine ⟨_, g1, b, c', n', vs, rfl, (hI.keep b hlo.2 (.inl fun h => h _ _ _ g1)).trans g2, by rw [g3]; simp, fun j hj => ?_⟩
      by_cases hjA : j < A.length
      · rw [List.getElem_append_left (by simpa using hjA)]
        have := g4 j (by simp; omega)
        rw [List.getElem_append_left (by simpa using hjA)] at this
        simp only [List.getElem_map] at this ⊢
        rw [this.v_inv]; exact .pu (.v _)
      · have : j = A.length := by simp at hj; omega
        subst this
        simp only [List.getElem_append_right, List.length_map, Nat.le_refl, Nat.sub_self, List.getElem_cons_zero]
        exact q2
    · rw [show (kb == k) = false by simpa using e] at hk
      cases hk
  · simp only [ofL, List.find?_cons, List.find?_nil] at hk ⊢
    by_cases e : kb = k
    · subst e; simp at hk
    · rw [show (kb == k) = false by simpa using e]; rfl
  · have hk0 := s.tm i hi
    simp only [ofT, List.find?_cons] at hk0 ⊢
    cases hfi : ((Lb.map fun i => (i, AV.box kb 0)) ++ ((Lo.map fun p => (p.1, AV.old w0.heap.size p.2)) ++ Lv.map fun p => (p.1, AV.v p.2))).find? fun p => p.1 == i with
    | none => exact .anyR
    | some p =>
      have hm := List.mem_of_find?_eq_some hfi
      have hpk : p.1 = i := by simpa using List.find?_some hfi
      have hne : (ix == i) = false := by
        rw [beq_eq_false_iff_ne]
        rintro rfl
        have hall := List.all_eq_true.1 hix
        have hmem : p.1 ∈ Lb ++ (Lo.map (·.1) ++ Lv.map (·.1)) := by
          rcases List.mem_append.1 hm with hm | hm
          · obtain ⟨p', hp', rfl⟩ := List.mem_map.1 hm; exact List.mem_append_left _ hp'
          · rcases List.mem_append.1 hm with hm | hm
            · obtain ⟨p', hp', rfl⟩ := List.mem_map.1 hm; exact List.mem_append_right _ (List.mem_append_left _ (List.mem_map.2 ⟨p', hp', rfl⟩))
            · obtain ⟨p', hp', rfl⟩ := List.mem_map.1 hm; exact List.mem_append_right _ (List.mem_append_right _ (List.mem_map.2 ⟨p', hp', rfl⟩))
        have := hall _ hmem
        simp [hpk] at this
      simp only [hne, hfi, Option.map_some, Option.getD_some] at hk0 ⊢
      rcases List.mem_append.1 hm with hm | hm
      · obtain ⟨p', _, rfl⟩ := List.mem_map.1 hm
        obtain ⟨b2, c2, n2, e1, e2⟩ := hk0.box_inv
        rw [e2]
        exact .box e1
      · rcases List.mem_append.1 hm with hm | hm
        · obtain ⟨p', _, rfl⟩ := List.mem_map.1 hm
          cases hk0 with
          | pu hk0 =>
          cases hk0 with
          | old hk0 => exact .pu (.old (hk0.mono (fun b' hb' hw' => ⟨hb', Nat.lt_of_lt_of_le hw' hI.size, hI.keep b' hw' (.inr hb'.2)⟩) fun _ _ h => h))
        · obtain ⟨p', _, rfl⟩ := List.mem_map.1 hm
          rw [hk0.v_inv]
          exact .pu (.v _)
end
end Go.Proofs.YtbbglendddepfaaDoor

namespace Go.Proofs.YtbbglendddepfaaDoor
open Go.RowKit Go.Deep
variable {J : World → Prop}
section
variable {n : Int} {rs : List Rw} {r : Rw}
theorem wideL (h : wideB rs = false) : rs.length ≤ 250 ∧ ∀ x ∈ rs, x.1.length ≤ 200 := by
  unfold wideB at h
  split at h
  · cases h
  · rename_i h1
    refine ⟨by omega, fun x hx => ?_⟩
    have h2 : rs.all shortB = true := by simpa using h
    have := List.all_eq_true.1 h2 x hx
    unfold shortB longB at this
    simpa using this
end
end Go.Proofs.YtbbglendddepfaaDoor

namespace Go.Proofs.YtbbglendddepfaaDoor
open Go.RowKit Go.Deep
variable {J : World → Prop}
set_option linter.unusedSimpArgs false in
set_option linter.unusedVariables false in
set_option maxRecDepth 100000 in
set_option maxHeartbeats 6400000 in
theorem SameRow_l {r : Rw} (H : RwOk r) : Ctr Tryd.prog J 34 [.agg (cRo r), .agg (cRo r)] (bv true) := by
 refine ctr_of_tri Tryd.func34 rfl (by intro X hX; simp only [List.mem_cons, List.not_mem_nil, or_false] at hX; rcases hX with rfl | rfl; exact plain_agg (plain_ro r); exact plain_agg (plain_ro r)) (n := 17) rfl (by simp) (fun w0 => ?_)
 refine kW 17 [] [(0, .agg (cRo r)), (1, .agg (cRo r))] ?_
 refine tri_seq ?_
 refine tri_region ?_
 refine t_op rfl (sp_box (X := .agg (cRo r)) (k := 1) (.tmp 0) rfl rfl) ⟨I0, T0⟩ T0 rfl ?_
 refine t_op rfl (sp_box (X := .agg (cRo r)) (k := 2) (.tmp 1) rfl rfl) ⟨I0, T0⟩ T0 rfl ?_
 refine oA (sp_assign (.const (.bool false)) (bv false) rfl) I0 ?_
 refine kN 17 [(1, .box 39 (cRo r)), (2, .box 39 (cRo r))] [(2, .box 1 0), (3, .box 2 0), (4, bv false)] ?_
 refine t_then ?_
 refine tri_seq ?_
 refine tri_region ?_
 refine oA (fB 1 (.tmp 2) rfl Tryd.underlying39 rfl 1 rfl) I0 ?_
 refine oB (lB (.box 39 (cRo r)) (iv r.2) (.tmp 5) rfl Tryd.underlying3 rfl rfl) I0 rfl ?_
 refine oA (fB 1 (.tmp 3) rfl Tryd.underlying39 rfl 1 rfl) I0 ?_
 refine oB (lB (.box 39 (cRo r)) (iv r.2) (.tmp 7) rfl Tryd.underlying3 rfl rfl) I0 rfl ?_
 refine oC (sp_eql rfl (dT rfl)) I0 I0 ?_
 refine oA (sp_move (.tmp 9) (bv true) rfl) I0 ?_
 refine gA (fB 0 (.tmp 2) rfl Tryd.underlying39 rfl 1 rfl) I0 ?_
 refine gB (lB (.box 39 (cRo r)) (intsA r.1) (.tmp 11) rfl Tryd.underlying25 rfl rfl) I0 rfl ?_
 refine gA (fB 0 (.tmp 3) rfl Tryd.underlying39 rfl 1 rfl) I0 ?_
 refine gB (lB (.box 39 (cRo r)) (intsA r.1) (.tmp 13) rfl Tryd.underlying25 rfl rfl) I0 rfl ?_
 refine gD (sp_call (c := .func 28) (xs := #[.tmp 12, .tmp 14]) [] (sameIntsL r.1 H.coef) rfl (by kernel_rfl) rfl (Xs := [intsA r.1, intsA r.1]) rfl rfl rfl) I0 I0 I0 ?_
 refine oD (sp_pick (.tmp 10) (.tmp 15) (.const (.bool false)) true (bv true) (bv false) rfl) I0 I0 I0 ?_
 refine oA (sp_assign (.tmp 16) (bv true) rfl) I0 ?_
 refine kN 17 [] [(4, bv true)] ?_
 refine t_then ?_
 refine tri_ret ?_
 refine tri_end1 Tryd.results34 (.tmp rfl) ?_
 exact rfl
set_option linter.unusedSimpArgs false in
set_option linter.unusedVariables false in
set_option maxRecDepth 100000 in
set_option maxHeartbeats 6400000 in
theorem SameSystem_l {n : Int} {rs : List Rw} (H : SyOk rs) : Ctr Tryd.prog J 14 [.agg (cSy n rs), .agg (cSy n rs)] (bv true) := by
 have l1 := H.len
 refine ctr_of_tri Tryd.func14 rfl (by intro X hX; simp only [List.mem_cons, List.not_mem_nil, or_false] at hX; rcases hX with rfl | rfl; exact plain_agg (plain_sy n rs); exact plain_agg (plain_sy n rs)) (n := 39) rfl (by simp) (fun w0 => ?_)
 refine kW 39 [] [(0, .agg (cSy n rs)), (1, .agg (cSy n rs))] ?_
 refine tri_seq ?_
 refine tri_region ?_
 refine t_op rfl (sp_box (X := .agg (cSy n rs)) (k := 1) (.tmp 0) rfl rfl) ⟨I0, T0⟩ T0 rfl ?_
 refine t_op rfl (sp_box (X := .agg (cSy n rs)) (k := 2) (.tmp 1) rfl rfl) ⟨I0, T0⟩ T0 rfl ?_
 refine oA (sp_assign (.const (.bool false)) (bv false) rfl) I0 ?_
 refine kN 39 [(1, .box 24 (cSy n rs)), (2, .box 24 (cSy n rs))] [(2, .box 1 0), (3, .box 2 0), (4, bv false)] ?_
 refine t_then ?_
 refine tri_seq ?_
 refine tri_seq ?_
 refine tri_region ?_
 refine oA (fB 0 (.tmp 2) rfl Tryd.underlying24 rfl 1 rfl) I0 ?_
 refine oB (lB (.box 24 (cSy n rs)) (iv n) (.tmp 6) rfl Tryd.underlying3 rfl rfl) I0 rfl ?_
 refine oA (fB 0 (.tmp 3) rfl Tryd.underlying24 rfl 1 rfl) I0 ?_
 refine oB (lB (.box 24 (cSy n rs)) (iv n) (.tmp 8) rfl Tryd.underlying3 rfl rfl) I0 rfl ?_
 refine oC (sp_neq rfl (dT' rfl)) I0 I0 ?_
 refine oA (sp_move (.tmp 10) (bv false) rfl) I0 ?_
 refine gA (fB 1 (.tmp 2) rfl Tryd.underlying24 rfl 1 rfl) I0 ?_
 refine gB (lB (.box 24 (cSy n rs)) (slA 2 cRo rs) (.tmp 12) rfl Tryd.underlying22 rfl rfl) I0 rfl ?_
 refine gA (sp_lenSl (.tmp 13) rfl Tryd.underlying22) I0 ?_
 refine gA (fB 1 (.tmp 3) rfl Tryd.underlying24 rfl 1 rfl) I0 ?_
 refine gB (lB (.box 24 (cSy n rs)) (slA 2 cRo rs) (.tmp 15) rfl Tryd.underlying22 rfl rfl) I0 rfl ?_
 refine gA (sp_lenSl (.tmp 16) rfl Tryd.underlying22) I0 ?_
 refine gC (sp_neq rfl (dT' rfl)) I0 I0 ?_
 refine oD (sp_pick (.tmp 11) (.const (.bool true)) (.tmp 18) false (bv true) (bv false) rfl) I0 I0 I0 ?_
 refine kN 39 [(1, .box 24 (cSy n rs)), (2, .box 24 (cSy n rs))] [(2, .box 1 0), (3, .box 2 0), (4, bv false), (19, bv false)] ?_
 refine t_then ?_
 refine t_condF rfl ?_
 refine tri_skip ?_
 refine t_then ?_
 refine tri_seq ?_
 refine tri_seq ?_
 refine tri_region ?_
 refine oA (sp_assign (.const (.int .i64 0)) (iv 0) rfl) I0 ?_
 refine kN 39 [(1, .box 24 (cSy n rs)), (2, .box 24 (cSy n rs))] [(2, .box 1 0), (3, .box 2 0), (4, bv false), (5, iv 0)] ?_
 refine t_then ?_
 refine tri_block ?_
 refine tri_loop (σ := {k : Nat // k ≤ rs.length}) (fun s => (ofL [(1, .box 24 (cSy n rs)), (2, .box 24 (cSy n rs))], ofT 39 [(2, .box 1 0), (3, .box 2 0), (5, iv s.1)])) (fun s => rs.length - s.1) ⟨0, Nat.zero_le _⟩ (wk_keep _ _ rfl (by kernel_rfl) (by kernel_rfl)) (fun s => ?_)
 obtain ⟨k, hk0⟩ := s
 show ETri J w0 (ofL [(1, .box 24 (cSy n rs)), (2, .box 24 (cSy n rs))]) (ofT 39 [(2, .box 1 0), (3, .box 2 0), (5, iv k)]) _
 refine tri_seq ?_
 refine tri_seq ?_
 by_cases hs1 : ((k : Nat) : Int) < ((rs.length : Nat) : Int)
 refine tri_region ?_
 refine oA (sp_move (.tmp 5) (iv k) rfl) I0 ?_
 refine oA (fB 1 (.tmp 2) rfl Tryd.underlying24 rfl 1 rfl) I0 ?_
 refine oB (lB (.box 24 (cSy n rs)) (slA 2 cRo rs) (.tmp 21) rfl Tryd.underlying22 rfl rfl) I0 rfl ?_
 refine oA (sp_lenSl (.tmp 22) rfl Tryd.underlying22) I0 ?_
 refine oC (sp_lss rfl (dT hs1)) I0 I0 ?_
 refine kN 39 [(1, .box 24 (cSy n rs)), (2, .box 24 (cSy n rs))] [(2, .box 1 0), (3, .box 2 0), (5, iv k), (24, bv true)] ?_
 refine t_then ?_
 refine t_condT rfl ?_
 refine tri_skip ?_
 refine t_then ?_
 refine tri_seq ?_
 refine tri_block ?_
 refine tri_seq ?_
 refine tri_draw [⟨[(.tmp 2, .box 1 0)], [], .box 1 1, .no⟩, ⟨[(.tmp 27, .box 1 1)], [(1, .box 24 (cSy n rs))], slA 2 cRo rs, .no⟩, ⟨[(.tmp 5, iv k)], [], iv k, .no⟩, ⟨[(.tmp 28, slA 2 cRo rs), (.tmp 29, iv k)], [], .el (rs.flatMap cRo) (k * 2), .no⟩, ⟨[(.tmp 30, .el (rs.flatMap cRo) (k * 2))], [], .agg (cRo rs[k]), .no⟩, ⟨[(.tmp 3, .box 2 0)], [], .box 2 1, .no⟩, ⟨[(.tmp 32, .box 2 1)], [(2, .box 24 (cSy n rs))], slA 2 cRo rs, .no⟩, ⟨[(.tmp 5, iv k)], [], iv k, .no⟩, ⟨[(.tmp 33, slA 2 cRo rs), (.tmp 34, iv k)], [], .el (rs.flatMap cRo) (k * 2), .no⟩, ⟨[(.tmp 35, .el (rs.flatMap cRo) (k * 2))], [], .agg (cRo rs[k]), .no⟩, ⟨[(.func 34, .v (.func (.func 34) #[] #[])), (.tmp 31, .agg (cRo rs[k])), (.tmp 36, .agg (cRo rs[k]))], [], bv true, .no⟩, ⟨[(.tmp 37, bv true)], [], bv false, .no⟩] (by kernel_rfl) (by kernel_rfl) ?_
 refine ⟨app_yes rfl (fB 1 (.tmp 2) rfl Tryd.underlying24 rfl 1 rfl) ⟨I0, T0⟩ T0 T0, ?_⟩
 refine ⟨app_yes rfl (lB (.box 24 (cSy n rs)) (slA 2 cRo rs) (.tmp 27) rfl Tryd.underlying22 rfl rfl) ⟨I0, T0⟩ ⟨rfl, T0⟩ T0, ?_⟩
 refine ⟨app_yes rfl (sp_move (.tmp 5) (iv k) rfl) ⟨I0, T0⟩ T0 T0, ?_⟩
 refine ⟨app_yes rfl (sp_indexSl (off := k * 2) (.tmp 28) (.tmp 29) rfl Tryd.underlying22 (by kernel_rfl) (by omega) (by omega) rfl) ⟨I0, I0, T0⟩ T0 T0, ?_⟩
 refine ⟨app_yes rfl (sp_loadElS (z := 2) (.tmp 30) rfl Tryd.underlying39 rfl (by kernel_rfl) (flat_take lenRo rs k (by omega)) rfl) ⟨I0, T0⟩ T0 T0, ?_⟩
 refine ⟨app_yes rfl (fB 1 (.tmp 3) rfl Tryd.underlying24 rfl 1 rfl) ⟨I0, T0⟩ T0 T0, ?_⟩
 refine ⟨app_yes rfl (lB (.box 24 (cSy n rs)) (slA 2 cRo rs) (.tmp 32) rfl Tryd.underlying22 rfl rfl) ⟨I0, T0⟩ ⟨rfl, T0⟩ T0, ?_⟩
 refine ⟨app_yes rfl (sp_move (.tmp 5) (iv k) rfl) ⟨I0, T0⟩ T0 T0, ?_⟩
 refine ⟨app_yes rfl (sp_indexSl (off := k * 2) (.tmp 33) (.tmp 34) rfl Tryd.underlying22 (by kernel_rfl) (by omega) (by omega) rfl) ⟨I0, I0, T0⟩ T0 T0, ?_⟩
 refine ⟨app_yes rfl (sp_loadElS (z := 2) (.tmp 35) rfl Tryd.underlying39 rfl (by kernel_rfl) (flat_take lenRo rs k (by omega)) rfl) ⟨I0, T0⟩ T0 T0, ?_⟩
 refine ⟨app_yes rfl (sp_call (c := .func 34) (xs := #[.tmp 31, .tmp 36]) [] (SameRow_l (H.rows rs[k] (List.getElem_mem (by omega)))) rfl (by kernel_rfl) rfl (Xs := [.agg (cRo rs[k]), .agg (cRo rs[k])]) rfl rfl rfl) ⟨I0, I0, I0, T0⟩ T0 T0, ?_⟩
 refine ⟨app_yes rfl (sp_not rfl rfl) ⟨I0, T0⟩ T0 T0, ?_⟩
 show ETri J w0 _ _ _
 refine kW 39 [(1, .box 24 (cSy n rs)), (2, .box 24 (cSy n rs))] [(2, .box 1 0), (3, .box 2 0), (5, iv k), (24, bv true), (38, bv false)] ?_
 refine t_then ?_
 refine t_condF rfl ?_
 refine tri_skip ?_
 refine t_block ?_
 refine t_then ?_
 refine tri_region ?_
 refine oA (sp_move (.tmp 5) (iv k) rfl) I0 ?_
 refine oC (sp_add (c := ((k + 1 : Nat) : Int)) rfl (w64 (by omega) (by omega) (by omega))) I0 I0 ?_
 refine oA (sp_assign (.tmp 26) (iv (k + 1 : Nat)) rfl) I0 ?_
 refine kN 39 [(1, .box 24 (cSy n rs)), (2, .box 24 (cSy n rs))] [(2, .box 1 0), (3, .box 2 0), (5, iv (k + 1 : Nat)), (24, bv true), (38, bv false)] ?_
 refine t_then ?_
 refine tri_again ⟨k + 1, by omega⟩ (show rs.length - (k + 1) < rs.length - k by omega) ?_
 exact wk_keep _ _ rfl (by kernel_rfl) (by kernel_rfl)
 refine tri_region ?_
 refine oA (sp_move (.tmp 5) (iv k) rfl) I0 ?_
 refine oA (fB 1 (.tmp 2) rfl Tryd.underlying24 rfl 1 rfl) I0 ?_
 refine oB (lB (.box 24 (cSy n rs)) (slA 2 cRo rs) (.tmp 21) rfl Tryd.underlying22 rfl rfl) I0 rfl ?_
 refine oA (sp_lenSl (.tmp 22) rfl Tryd.underlying22) I0 ?_
 refine oC (sp_lss rfl (dF hs1)) I0 I0 ?_
 refine kN 39 [(1, .box 24 (cSy n rs)), (2, .box 24 (cSy n rs))] [(2, .box 1 0), (3, .box 2 0), (5, iv k), (24, bv false)] ?_
 refine t_then ?_
 refine t_condF rfl ?_
 refine tri_exit ?_
 refine t_then_exit ?_
 refine t_then_exit ?_
 refine t_hit ?_
 refine t_then ?_
 refine tri_seq ?_
 refine tri_region ?_
 refine oA (sp_assign (.const (.bool true)) (bv true) rfl) I0 ?_
 refine kN 39 [] [(4, bv true)] ?_
 refine t_then ?_
 refine tri_ret ?_
 refine tri_end1 Tryd.results14 (.tmp rfl) ?_
 exact rfl
end Go.Proofs.YtbbglendddepfaaDoor

namespace Go.Proofs.YtbbglendddepfaaDoor
open Go.RowKit Go.Deep Go.ChangeShapes Go.WideShapes Go.ChangeAt Go.Joins

theorem cells_int : Tryd.prog.cellsOf 3 = 1 := by kernel_rfl
theorem cells_ints : Tryd.prog.cellsOf 25 = 1 := by kernel_rfl
theorem cells_row : Tryd.prog.cellsOf 39 = 2 := by kernel_rfl
theorem cells_rows : Tryd.prog.cellsOf 22 = 1 := by kernel_rfl
theorem cells_sys : Tryd.prog.cellsOf 24 = 2 := by kernel_rfl

section
variable {H : Type} {enc : TypeId × Value → H} {w : World} {base : Nat} {sp : Nat → Bool} {held : Bool}

theorem int_of_trod {n : Nat} {v : Value} {x : DataW H × List MemPlace} (h : DataW.trod enc Tryd.prog w base sp held n 3 [v] = some x) : ∃ c, v = .int .i64 c ∧ I64 c := by
  obtain ⟨c, e1, _, e3⟩ := DataW.trod_int Tryd.underlying3 h
  simp at e1
  exact ⟨c, e1, I64.of_wf e3⟩

set_option maxRecDepth 100000 in
theorem row_of_trod {n : Nat} {cs : List Value} {x : DataW H × List MemPlace} (h : DataW.trod enc Tryd.prog w base sp held n 39 cs = some x) :
    ∃ v c xs, cs = [v, .int .i64 c] ∧ IsInts 0 w v xs ∧ I64 c := by
  obtain ⟨ys, m, _, _, hlen, _, hf⟩ := DataW.trod_struct Tryd.underlying39 h
  rw [cells_row] at hlen
  match cs, hlen with
  | [v0, v1], _ =>
    have h0 : DataW.trod enc Tryd.prog w base sp held m 25 (([v0, v1].drop 0).take (Tryd.prog.cellsOf 25)) = ys[0]? := hf 0 _ rfl
    have h1 : DataW.trod enc Tryd.prog w base sp held m 3 (([v0, v1].drop 1).take (Tryd.prog.cellsOf 3)) = ys[1]? := hf 1 _ rfl
    rw [cells_ints] at h0
    rw [cells_int] at h1
    simp only [List.drop_zero, List.take_succ_cons, List.take_zero] at h0
    simp only [List.drop_succ_cons, List.drop_zero, List.take_succ_cons, List.take_zero] at h1
    have hx : ∀ i, i < 2 → ∃ y, ys[i]? = some y := fun i hi => ⟨ys[i]'(by simp at *; omega), List.getElem?_eq_getElem _⟩
    obtain ⟨y0, e0⟩ := hx 0 (by omega)
    obtain ⟨y1, e1⟩ := hx 1 (by omega)
    rw [e0] at h0
    rw [e1] at h1
    obtain ⟨xs, hxs⟩ := ints_of_trod Tryd.underlying25 Tryd.underlying3 cells_int h0
    obtain ⟨c, rfl, hc⟩ := int_of_trod h1
    exact ⟨v0, c, xs, rfl, hxs, hc⟩

end

end Go.Proofs.YtbbglendddepfaaDoor

namespace Go.Proofs.YtbbglendddepfaaDoor
open Go.RowKit Go.Deep Go.ChangeShapes Go.WideShapes Go.ChangeAt Go.Joins
def RoEl (lo : Nat) (w : World) (cs : List Value) (r : Rw) : Prop := ∃ v, cs = [v, .int .i64 r.2] ∧ IsInts lo w v r.1 ∧ I64 r.2
def IsSysX (lo : Nat) (w : World) (v : Value) (n : Int) (rs : List Rw) : Prop := ∃ u, v = .agg #[.int .i64 n, u] ∧ IsSl 2 RoEl lo w u rs ∧ I64 n
section
variable {H : Type} {enc : TypeId × Value → H} {w : World} {base : Nat} {sp : Nat → Bool} {held : Bool}
theorem ro_of_trod {n : Nat} {cs : List Value} {x : DataW H × List MemPlace} (h : DataW.trod enc Tryd.prog w base sp held n 39 cs = some x) : ∃ r, RoEl 0 w cs r := by
  obtain ⟨v, c, xs, e, h1, h2⟩ := row_of_trod h
  exact ⟨(xs, c), v, e, h1, h2⟩
set_option maxRecDepth 100000 in
theorem sysx_of_trod {n : Nat} {cs : List Value} {x : DataW H × List MemPlace} (h : DataW.trod enc Tryd.prog w base sp held n 24 cs = some x) :
    ∃ vars v rs, cs = [.int .i64 vars, v] ∧ IsSl 2 RoEl 0 w v rs ∧ I64 vars := by
  obtain ⟨ys, m, _, _, hlen, _, hf⟩ := DataW.trod_struct Tryd.underlying24 h
  rw [cells_sys] at hlen
  match cs, hlen with
  | [v0, v1], _ =>
    have h0 : DataW.trod enc Tryd.prog w base sp held m 3 (([v0, v1].drop 0).take (Tryd.prog.cellsOf 3)) = ys[0]? := hf 0 _ rfl
    have h1 : DataW.trod enc Tryd.prog w base sp held m 22 (([v0, v1].drop 1).take (Tryd.prog.cellsOf 22)) = ys[1]? := hf 1 _ rfl
    rw [cells_int] at h0
    rw [cells_rows] at h1
    simp only [List.drop_zero, List.take_succ_cons, List.take_zero] at h0
    simp only [List.drop_succ_cons, List.drop_zero, List.take_succ_cons, List.take_zero] at h1
    have hx : ∀ i, i < 2 → ∃ y, ys[i]? = some y := fun i hi => ⟨ys[i]'(by simp at *; omega), List.getElem?_eq_getElem _⟩
    obtain ⟨y0, e0⟩ := hx 0 (by omega)
    obtain ⟨y1, e1⟩ := hx 1 (by omega)
    rw [e0] at h0
    rw [e1] at h1
    obtain ⟨vars, rfl, hc⟩ := int_of_trod h0
    obtain ⟨rs, hrs⟩ := sl_of_trod Tryd.underlying22 cells_row (by omega) (fun _ _ _ hh _ => ro_of_trod hh) h1
    exact ⟨vars, v1, rs, rfl, hrs, hc⟩
end
set_option maxRecDepth 100000 in
theorem arg_sysx {H : Type} {enc : TypeId × Value → H} {w : World} {r : Reach} {b0 : Nat} {v : Value} {d : DataW H} {p : List MemPlace} (hv : Value.okWide Tryd.prog w r b0 24 v) (h : DataW.Trod enc Tryd.prog w 0 (fun _ => true) true 24 v d p) :
    ∃ n rs, IsSysX 0 w v n rs := by
  obtain ⟨cs, rfl, _⟩ := okWide_struct Tryd.underlying24 hv
  obtain ⟨fuel, hf⟩ := h
  obtain ⟨vars, u, rs, e, h1, h2⟩ := sysx_of_trod hf
  have e2 : cs = #[.int .i64 vars, u] := by obtain ⟨l⟩ := cs; simp [Value.cells] at e; simpa using e
  exact ⟨vars, rs, u, by rw [e2], h1, h2⟩
theorem IsSysX.ok {lo : Nat} {w : World} {v : Value} {n : Int} {rs : List Rw} (h : IsSysX lo w v n rs) : SyOk rs := by
  obtain ⟨u, _, h1, _⟩ := h
  exact ⟨h1.all fun cs r hr => by obtain ⟨v, _, a, b⟩ := hr; exact ⟨a.ok, b⟩, h1.bound⟩
section
variable {F ok : Nat → Prop} {lo : Nat} {w : World}
theorem sysx_pu (hok : ∀ b, lo ≤ b → b < w.heap.size → ok b) {v : Value} {n : Int} {rs : List Rw} (h : IsSysX lo w v n rs) : Pu F w ok (.agg (cSy n rs)) v := by
  obtain ⟨u, rfl, h1, _⟩ := h
  refine .agg rfl fun j hj => ?_
  match j, hj with
  | 0, _ => exact .v _
  | 1, _ =>
    refine sl_pu lenRo hok (fun r vs hr j hj => ?_) h1
    obtain ⟨v, rfl, a, _⟩ := hr
    match j, hj with
    | 0, _ => exact ints_pu hok a
    | 1, _ => exact .v _
end
theorem lwalk2 {f : FuncId} {A B : AV} {w : World} {v v' : Value} (h : Ctr Tryd.prog (fun _ => True) f [A, B] (bv true)) (hA : Pu (fun _ => True) w (fun b => b < w.heap.size) A v) (hB : Pu (fun _ => True) w (fun b => b < w.heap.size) B v') :
    Calls Tryd.prog f #[v, v'] w fun e w' => e = .returned (.bool true) ∧ Below w.heap.size w w' :=
  (h w #[v, v'] (fun _ _ => trivial) rfl fun j hj => (match j, hj with | 0, _ => hA | 1, _ => hB)).mono fun _ _ ⟨_, he, hp, hb⟩ => ⟨by rw [he, hp.v_inv], hb⟩
end Go.Proofs.YtbbglendddepfaaDoor

namespace Go.Proofs.YtbbglendddepfaaDoor
open Go.RowKit Go.Deep
variable {J : World → Prop}
set_option linter.unusedSimpArgs false in
set_option linter.unusedVariables false in
set_option maxRecDepth 100000 in
set_option maxHeartbeats 6400000 in
theorem lawEliminates_c {n v : Int} {rs : List Rw} (H : SyOk rs) : Ctr Tryd.prog J 6 [.agg (cSy n rs), iv v] (bv true) := by
 refine ctr_of_tri Tryd.func6 rfl (by intro X hX; simp only [List.mem_cons, List.not_mem_nil, or_false] at hX; rcases hX with rfl | rfl; exact plain_agg (plain_sy n rs); exact .v _) (n := 60) rfl (by simp) (fun w0 => ?_)
 refine kW 60 [] [(0, .agg (cSy n rs)), (1, iv v)] ?_
 refine tri_seq ?_
 refine tri_region ?_
 refine t_op rfl (sp_box (X := .agg (cSy n rs)) (k := 1) (.tmp 0) rfl rfl) ⟨I0, T0⟩ T0 rfl ?_
 refine oA (sp_assign (.const (.bool false)) (bv false) rfl) I0 ?_
 refine kN 60 [(1, .box 24 (cSy n rs))] [(1, iv v), (2, .box 1 0), (4, bv false)] ?_
 refine t_then ?_
 refine tri_seq ?_
 refine tri_seq ?_
 by_cases hs1 : (wideB rs) = true
 refine tri_region ?_
 refine oB (sp_loadBoxS (Y := .box 24 (cSy n rs)) (ds := cSy n rs) (z := 2) (.tmp 2) rfl Tryd.underlying24 rfl (by kernel_rfl) (by decide) (by kernel_rfl) (by kernel_rfl)) I0 rfl ?_
 refine oC (sp_call (c := .func 11) (xs := #[.tmp 12]) [] (ctr_b (wide_c H) hs1) rfl (by kernel_rfl) rfl (Xs := [.agg (cSy n rs)]) rfl rfl rfl) I0 I0 ?_
 refine kN 60 [(1, .box 24 (cSy n rs))] [(1, iv v), (2, .box 1 0), (4, bv false), (13, bv true)] ?_
 refine t_then ?_
 refine t_condT rfl ?_
 refine tri_seq ?_
 refine tri_region ?_
 refine oA (sp_call (c := .func 12) (xs := #[]) [] wknown_c rfl (by kernel_rfl) rfl (Xs := []) rfl rfl rfl) I0 ?_
 refine oA (sp_assign (.tmp 14) (bv true) rfl) I0 ?_
 refine kN 60 [(1, .box 24 (cSy n rs))] [(1, iv v), (2, .box 1 0), (4, bv true)] ?_
 refine t_then ?_
 refine tri_ret ?_
 refine t_then_ret ?_
 refine tri_end1 Tryd.results6 (.tmp rfl) ?_
 exact rfl
 have hs1f : (wideB rs) = false := by simpa using hs1
 refine tri_region ?_
 refine oB (sp_loadBoxS (Y := .box 24 (cSy n rs)) (ds := cSy n rs) (z := 2) (.tmp 2) rfl Tryd.underlying24 rfl (by kernel_rfl) (by decide) (by kernel_rfl) (by kernel_rfl)) I0 rfl ?_
 refine oC (sp_call (c := .func 11) (xs := #[.tmp 12]) [] (ctr_b (wide_c H) hs1f) rfl (by kernel_rfl) rfl (Xs := [.agg (cSy n rs)]) rfl rfl rfl) I0 I0 ?_
 refine kN 60 [(1, .box 24 (cSy n rs))] [(1, iv v), (2, .box 1 0), (4, bv false), (13, bv false)] ?_
 refine t_then ?_
 refine t_condF rfl ?_
 refine tri_skip ?_
 refine t_then ?_
 refine tri_seq ?_
 refine tri_region ?_
 refine oB (sp_loadBoxS (Y := .box 24 (cSy n rs)) (ds := cSy n rs) (z := 2) (.tmp 2) rfl Tryd.underlying24 rfl (by kernel_rfl) (by decide) (by kernel_rfl) (by kernel_rfl)) I0 rfl ?_
 refine t_op rfl (sp_callO (c := .func 16) (xs := #[.tmp 15]) [] (CopySystem_o (n := n) (wideL hs1f).1 (fun x hx => Nat.le_trans ((wideL hs1f).2 x hx) (by decide)) 2) rfl (by kernel_rfl) rfl (Xs := [.agg (cSy n rs)]) rfl rfl rfl) ⟨I0, I0, T0⟩ T0 rfl ?_
 refine t_op rfl (sp_alloc (z := .agg #[.int .i64 0, .slice none 0 0]) (k := 3) rfl (by kernel_rfl)) T0 T0 rfl ?_
 refine t_op rfl (sp_storeBox (T0 := 24) (X := .agg [iv n, .own 2]) (cs := [iv 0, .v (.slice none 0 0)]) (ds := [iv n, .own 2]) (z := 2) (.tmp 5) (.tmp 16) rfl (by kernel_rfl) (by kernel_rfl) (by kernel_rfl) (of_decide_eq_true (by kernel_rfl)) (by kernel_rfl)) ⟨I0, I0, T0⟩ ⟨rfl, T0⟩ rfl ?_
 refine kN 60 [(1, .box 24 (cSy n rs)), (2, .row true 39 2 rs.length (rs.flatMap cRo)), (3, .box 24 [iv n, .own 2])] [(1, iv v), (2, .box 1 0), (4, bv false), (5, .box 3 0)] ?_
 refine t_then ?_
 refine tri_seq ?_
 refine tri_rebase [(1, .box 24 (cSy n rs)), (3, .box 24 [iv n, .own 2]), (2, .row true 39 2 rs.length (rs.flatMap cRo))] [(1, iv v), (2, .el (cSy n rs) 0), (4, bv false), (5, .el (cSy n rs) 0)] (n := 60) rfl (by kernel_rfl) (by kernel_rfl) rfl (by intro X hX; simp only [List.map_cons, List.map_nil, List.mem_cons, List.not_mem_nil, or_false] at hX; rcases hX with rfl | rfl | rfl | rfl; exact .v _; exact .el (plain_all (plain_sy n rs)); exact .v _; exact .el (plain_all (plain_sy n rs))) (fun w1 hw1 => ?_)
 refine kW 60 [] [(1, iv v), (2, .old w1.heap.size (.el (cSy n rs) 0)), (4, bv false), (5, .old w1.heap.size (.el (cSy n rs) 0))] ?_
 refine tri_region ?_
 refine t_op rfl (sp_loadElS (z := 2) (.tmp 5) rfl Tryd.underlying24 rfl (by kernel_rfl) rfl rfl) ⟨.inr (.inr (.inr ⟨_, rfl⟩)), T0⟩ T0 T0 ?_
 refine oA (sp_move (.tmp 1) (iv v) rfl) I0 ?_
 refine oD (sp_call (c := .func 21) (xs := #[.tmp 18, .tmp 19]) [] (lEliminate_c H) rfl (by kernel_rfl) rfl (Xs := [.agg (cSy n rs), iv v]) rfl rfl rfl) I0 I0 I0 ?_
 refine oA (sp_move (.tmp 20) (.tup [.fr (.agg (cSy (Elm.EN n v rs) (Elm.ER n v rs))), iv (Elm.EE n v rs)]) rfl) I0 ?_
 refine oA (sp_extract (X := .fr (.agg (cSy (Elm.EN n v rs) (Elm.ER n v rs)))) (.tmp 17) rfl rfl) I0 ?_
 refine oA (sp_extract (X := iv (Elm.EE n v rs)) (.tmp 17) rfl rfl) I0 ?_
 refine t_op rfl (sp_alloc (z := .agg #[.int .i64 0, .slice none 0 0]) (k := 4) rfl (by kernel_rfl)) T0 T0 rfl ?_
 refine t_op rfl (sp_storeBox (T0 := 24) (X := .agg [iv (Elm.EN n v rs), .fr (slA 2 cRo (Elm.ER n v rs))]) (cs := [iv 0, .v (.slice none 0 0)]) (ds := [iv (Elm.EN n v rs), .fr (slA 2 cRo (Elm.ER n v rs))]) (z := 2) (.tmp 6) (.tmp 21) rfl (by kernel_rfl) (by kernel_rfl) (by kernel_rfl) (of_decide_eq_true (by kernel_rfl)) (by kernel_rfl)) ⟨I0, .inr (.inr (.inl ⟨_, rfl, rfl⟩)), T0⟩ ⟨rfl, T0⟩ rfl ?_
 refine oA (sp_assign (.tmp 22) (iv (Elm.EE n v rs)) rfl) I0 ?_
 refine kN 60 [(4, .box 24 [iv (Elm.EN n v rs), .fr (slA 2 cRo (Elm.ER n v rs))])] [(1, iv v), (2, .old w1.heap.size (.el (cSy n rs) 0)), (4, bv false), (5, .old w1.heap.size (.el (cSy n rs) 0)), (6, .box 4 0), (7, iv (Elm.EE n v rs))] ?_
 refine t_then ?_
 refine tri_seq ?_
 refine tri_region ?_
 refine t_op rfl (sp_loadElS (z := 2) (.tmp 2) rfl Tryd.underlying24 rfl (by kernel_rfl) rfl rfl) ⟨.inr (.inr (.inr ⟨_, rfl⟩)), T0⟩ T0 T0 ?_
 refine oA (sp_move (.tmp 1) (iv v) rfl) I0 ?_
 refine oD (sp_call (c := .func 22) (xs := #[.tmp 24, .tmp 25]) [] (rEliminate_c H) rfl (by kernel_rfl) rfl (Xs := [.agg (cSy n rs), iv v]) rfl rfl rfl) I0 I0 I0 ?_
 refine oA (sp_move (.tmp 26) (.tup [.fr (.agg (cSy (Elm.EN n v rs) (Elm.ER n v rs))), iv (Elm.EE n v rs)]) rfl) I0 ?_
 refine oA (sp_extract (X := .fr (.agg (cSy (Elm.EN n v rs) (Elm.ER n v rs)))) (.tmp 23) rfl rfl) I0 ?_
 refine oA (sp_extract (X := iv (Elm.EE n v rs)) (.tmp 23) rfl rfl) I0 ?_
 refine t_op rfl (sp_alloc (z := .agg #[.int .i64 0, .slice none 0 0]) (k := 5) rfl (by kernel_rfl)) T0 T0 rfl ?_
 refine t_op rfl (sp_storeBox (T0 := 24) (X := .agg [iv (Elm.EN n v rs), .fr (slA 2 cRo (Elm.ER n v rs))]) (cs := [iv 0, .v (.slice none 0 0)]) (ds := [iv (Elm.EN n v rs), .fr (slA 2 cRo (Elm.ER n v rs))]) (z := 2) (.tmp 8) (.tmp 27) rfl (by kernel_rfl) (by kernel_rfl) (by kernel_rfl) (of_decide_eq_true (by kernel_rfl)) (by kernel_rfl)) ⟨I0, .inr (.inr (.inl ⟨_, rfl, rfl⟩)), T0⟩ ⟨rfl, T0⟩ rfl ?_
 refine oA (sp_assign (.tmp 28) (iv (Elm.EE n v rs)) rfl) I0 ?_
 refine kN 60 [(4, .box 24 [iv (Elm.EN n v rs), .fr (slA 2 cRo (Elm.ER n v rs))]), (5, .box 24 [iv (Elm.EN n v rs), .fr (slA 2 cRo (Elm.ER n v rs))])] [(2, .old w1.heap.size (.el (cSy n rs) 0)), (4, bv false), (5, .old w1.heap.size (.el (cSy n rs) 0)), (6, .box 4 0), (7, iv (Elm.EE n v rs)), (8, .box 5 0), (9, iv (Elm.EE n v rs))] ?_
 refine t_then ?_
 refine tri_seq ?_
 refine tri_region ?_
 refine oA (sp_move (.tmp 7) (iv (Elm.EE n v rs)) rfl) I0 ?_
 refine oA (sp_move (.tmp 9) (iv (Elm.EE n v rs)) rfl) I0 ?_
 refine oC (sp_eql rfl (dT rfl)) I0 I0 ?_
 refine oA (sp_move (.tmp 31) (bv true) rfl) I0 ?_
 refine gB (sp_loadBoxS (Y := .box 24 [iv (Elm.EN n v rs), .fr (slA 2 cRo (Elm.ER n v rs))]) (ds := [iv (Elm.EN n v rs), .fr (slA 2 cRo (Elm.ER n v rs))]) (z := 2) (.tmp 6) rfl Tryd.underlying24 rfl (by kernel_rfl) (by decide) (by kernel_rfl) (by kernel_rfl)) I0 rfl ?_
 refine gB (sp_loadBoxS (Y := .box 24 [iv (Elm.EN n v rs), .fr (slA 2 cRo (Elm.ER n v rs))]) (ds := [iv (Elm.EN n v rs), .fr (slA 2 cRo (Elm.ER n v rs))]) (z := 2) (.tmp 8) rfl Tryd.underlying24 rfl (by kernel_rfl) (by decide) (by kernel_rfl) (by kernel_rfl)) I0 rfl ?_
 refine gD (sp_call (c := .func 14) (xs := #[.tmp 33, .tmp 34]) [] (SameSystem_l Elm.ER_ok) rfl (by kernel_rfl) rfl (Xs := [.agg [iv (Elm.EN n v rs), .fr (slA 2 cRo (Elm.ER n v rs))], .agg [iv (Elm.EN n v rs), .fr (slA 2 cRo (Elm.ER n v rs))]]) rfl rfl rfl) I0 I0 I0 ?_
 refine oD (sp_pick (.tmp 32) (.tmp 35) (.const (.bool false)) true (bv true) (bv false) rfl) I0 I0 I0 ?_
 refine oA (sp_assign (.tmp 36) (bv true) rfl) I0 ?_
 refine kN 60 [(4, .box 24 [iv (Elm.EN n v rs), .fr (slA 2 cRo (Elm.ER n v rs))])] [(2, .old w1.heap.size (.el (cSy n rs) 0)), (4, bv false), (5, .old w1.heap.size (.el (cSy n rs) 0)), (6, .box 4 0), (10, bv true)] ?_
 refine t_then ?_
 refine tri_seq ?_
 refine tri_seq ?_
 refine tri_region ?_
 refine oA (sp_assign (.const (.int .i64 0)) (iv 0) rfl) I0 ?_
 refine kN 60 [(4, .box 24 [iv (Elm.EN n v rs), .fr (slA 2 cRo (Elm.ER n v rs))])] [(2, .old w1.heap.size (.el (cSy n rs) 0)), (4, bv false), (5, .old w1.heap.size (.el (cSy n rs) 0)), (6, .box 4 0), (10, bv true), (11, iv 0)] ?_
 refine t_then ?_
 refine tri_block ?_
 have hln := Elm.ER_len (n := n) (v := v) (rs := rs)
 refine tri_loop (σ := {q : Nat × List Rw // q.1 ≤ (Elm.ER n v rs).length ∧ q.2.length = (Elm.ER n v rs).length}) (fun s => (ofL [(4, .box 24 [iv (Elm.EN n v rs), .fr (slA 2 cRo s.1.2)])], ofT 60 [(2, .old w1.heap.size (.el (cSy n rs) 0)), (4, bv false), (5, .old w1.heap.size (.el (cSy n rs) 0)), (6, .box 4 0), (10, bv true), (11, iv s.1.1)])) (fun s => (Elm.ER n v rs).length - s.1.1) ⟨(0, (Elm.ER n v rs)), Nat.zero_le _, rfl⟩ (wk_keep _ _ rfl (by kernel_rfl) (by kernel_rfl)) (fun s => ?_)
 obtain ⟨⟨k, L⟩, hk0, hL⟩ := s
 show ETri J w1 (ofL [(4, .box 24 [iv (Elm.EN n v rs), .fr (slA 2 cRo L)])]) (ofT 60 [(2, .old w1.heap.size (.el (cSy n rs) 0)), (4, bv false), (5, .old w1.heap.size (.el (cSy n rs) 0)), (6, .box 4 0), (10, bv true), (11, iv k)]) _
 dsimp only at hk0 hL
 refine tri_seq ?_
 refine tri_seq ?_
 by_cases hs2 : ((k : Nat) : Int) < ((L.length : Nat) : Int)
 refine tri_region ?_
 refine oA (sp_move (.tmp 11) (iv k) rfl) I0 ?_
 refine oA (fB 1 (.tmp 6) rfl Tryd.underlying24 rfl 1 rfl) I0 ?_
 refine oB (lB (.box 24 [iv (Elm.EN n v rs), .fr (slA 2 cRo L)]) (.fr (slA 2 cRo L)) (.tmp 38) rfl Tryd.underlying22 rfl rfl) I0 rfl ?_
 refine t_op rfl (sp_lenSl (.tmp 39) rfl Tryd.underlying22) ⟨.inr (.inl rfl), T0⟩ T0 T0 ?_
 refine oC (sp_lss rfl (dT hs2)) I0 I0 ?_
 refine kN 60 [(4, .box 24 [iv (Elm.EN n v rs), .fr (slA 2 cRo L)])] [(2, .old w1.heap.size (.el (cSy n rs) 0)), (4, bv false), (5, .old w1.heap.size (.el (cSy n rs) 0)), (6, .box 4 0), (10, bv true), (11, iv k), (41, bv true)] ?_
 refine t_then ?_
 refine t_condT rfl ?_
 refine tri_skip ?_
 refine t_then ?_
 refine tri_seq ?_
 refine tri_block ?_
 refine tri_region ?_
 refine oA (fB 1 (.tmp 6) rfl Tryd.underlying24 rfl 1 rfl) I0 ?_
 refine oB (lB (.box 24 [iv (Elm.EN n v rs), .fr (slA 2 cRo L)]) (.fr (slA 2 cRo L)) (.tmp 44) rfl Tryd.underlying22 rfl rfl) I0 rfl ?_
 refine oA (sp_move (.tmp 11) (iv k) rfl) I0 ?_
 refine oC (sp_indexSlF (off := k * 2) (.tmp 45) (.tmp 46) rfl Tryd.underlying22 (by kernel_rfl) (by omega) (by omega) rfl) I0 I0 ?_
 refine oA (sp_fieldElF (off' := k * 2) (.tmp 47) rfl Tryd.underlying39 rfl (z := 1) (by kernel_rfl) (by decide) rfl) I0 ?_
 refine oA (sp_loadEl1F (X := intsA L[k].1) (.tmp 48) rfl Tryd.underlying25 rfl ((eflat_get lenRo L k 0 (by omega) (by decide)).trans rfl)) I0 ?_
 refine kW 60 [(4, .box 24 [iv (Elm.EN n v rs), .fr (slA 2 cRo L)])] [(49, .fr (intsA L[k].1)), (6, .box 4 0), (2, .old w1.heap.size (.el (cSy n rs) 0)), (5, .old w1.heap.size (.el (cSy n rs) 0)), (4, bv false), (10, bv true), (11, iv k), (41, bv true), (46, iv k)] ?_
 refine tri_spoilBx (c := .func 19) (.tmp 49) [.int .i64 (Elm.EN n v rs)] [6] [(2, .el (cSy n rs) 0), (5, .el (cSy n rs) 0)] [(4, .bool false), (10, .bool true), (11, .int .i64 ((k : Nat) : Int)), (41, .bool true), (46, .int .i64 ((k : Nat) : Int))] spoil_c rfl rfl rfl (by kernel_rfl) rfl rfl (fun l2 hl2 => ?_)
 refine kN 60 [(4, .box 24 [iv (Elm.EN n v rs), .fr (slA 2 cRo l2)])] [(2, .old w1.heap.size (.el (cSy n rs) 0)), (4, bv false), (5, .old w1.heap.size (.el (cSy n rs) 0)), (6, .box 4 0), (10, bv true), (11, iv k), (41, bv true)] ?_
 refine t_block ?_
 refine t_then ?_
 refine tri_region ?_
 refine oA (sp_move (.tmp 11) (iv k) rfl) I0 ?_
 refine oC (sp_add (c := ((k + 1 : Nat) : Int)) rfl (w64 (by omega) (by omega) (by omega))) I0 I0 ?_
 refine oA (sp_assign (.tmp 43) (iv (k + 1 : Nat)) rfl) I0 ?_
 refine kN 60 [(4, .box 24 [iv (Elm.EN n v rs), .fr (slA 2 cRo l2)])] [(2, .old w1.heap.size (.el (cSy n rs) 0)), (4, bv false), (5, .old w1.heap.size (.el (cSy n rs) 0)), (6, .box 4 0), (10, bv true), (11, iv (k + 1 : Nat)), (41, bv true)] ?_
 refine t_then ?_
 refine tri_again ⟨(k + 1, l2), by dsimp only; omega, by dsimp only; omega⟩ (show (Elm.ER n v rs).length - (k + 1) < (Elm.ER n v rs).length - k by omega) ?_
 show Wk _ _ (ofL [(4, .box 24 [iv (Elm.EN n v rs), .fr (slA 2 cRo l2)])]) (ofT 60 [(2, .old w1.heap.size (.el (cSy n rs) 0)), (4, bv false), (5, .old w1.heap.size (.el (cSy n rs) 0)), (6, .box 4 0), (10, bv true), (11, iv ((k + 1) : Nat))])
 exact wk_keep _ _ rfl (by kernel_rfl) (by kernel_rfl)
 refine tri_region ?_
 refine oA (sp_move (.tmp 11) (iv k) rfl) I0 ?_
 refine oA (fB 1 (.tmp 6) rfl Tryd.underlying24 rfl 1 rfl) I0 ?_
 refine oB (lB (.box 24 [iv (Elm.EN n v rs), .fr (slA 2 cRo L)]) (.fr (slA 2 cRo L)) (.tmp 38) rfl Tryd.underlying22 rfl rfl) I0 rfl ?_
 refine t_op rfl (sp_lenSl (.tmp 39) rfl Tryd.underlying22) ⟨.inr (.inl rfl), T0⟩ T0 T0 ?_
 refine oC (sp_lss rfl (dF hs2)) I0 I0 ?_
 refine kN 60 [(4, .box 24 [iv (Elm.EN n v rs), .fr (slA 2 cRo L)])] [(2, .old w1.heap.size (.el (cSy n rs) 0)), (4, bv false), (5, .old w1.heap.size (.el (cSy n rs) 0)), (6, .box 4 0), (10, bv true), (11, iv k), (41, bv false)] ?_
 refine t_then ?_
 refine t_condF rfl ?_
 refine tri_exit ?_
 refine t_then_exit ?_
 refine t_then_exit ?_
 refine t_hit ?_
 refine t_then ?_
 refine tri_seq ?_
 refine tri_region ?_
 refine oA (sp_move (.tmp 10) (bv true) rfl) I0 ?_
 refine oA (sp_move (.tmp 51) (bv true) rfl) I0 ?_
 refine t_opG rfl (sp_loadElS (z := 2) (.tmp 5) rfl Tryd.underlying24 rfl (by kernel_rfl) rfl rfl) ⟨.inr (.inr (.inr ⟨_, rfl⟩)), T0⟩ T0 T0 ?_
 refine t_opG rfl (sp_loadElS (z := 2) (.tmp 2) rfl Tryd.underlying24 rfl (by kernel_rfl) rfl rfl) ⟨.inr (.inr (.inr ⟨_, rfl⟩)), T0⟩ T0 T0 ?_
 refine gD (sp_call (c := .func 14) (xs := #[.tmp 53, .tmp 54]) [] (SameSystem_l H) rfl (by kernel_rfl) rfl (Xs := [.agg (cSy n rs), .agg (cSy n rs)]) rfl rfl rfl) I0 I0 I0 ?_
 refine oD (sp_pick (.tmp 52) (.tmp 55) (.const (.bool false)) true (bv true) (bv false) rfl) I0 I0 I0 ?_
 refine oA (sp_move (.tmp 56) (bv true) rfl) I0 ?_
 refine gA (sp_call (c := .func 12) (xs := #[]) [] wknown_c rfl (by kernel_rfl) rfl (Xs := []) rfl rfl rfl) I0 ?_
 refine oD (sp_pick (.tmp 57) (.tmp 58) (.const (.bool false)) true (bv true) (bv false) rfl) I0 I0 I0 ?_
 refine oA (sp_assign (.tmp 59) (bv true) rfl) I0 ?_
 refine kN 60 [] [(4, bv true)] ?_
 refine t_then ?_
 refine tri_ret ?_
 exact tri_endV hw1 Tryd.results6 (.tmp rfl)
theorem walk_Eliminates {u : Value} {n v : Int} {rs : List Rw} (w : World) (h : IsSysX 0 w u n rs) (_ : I64 v) :
    Calls Tryd.prog 6 #[u, .int .i64 v] w fun e w' => e = .returned (.bool true) ∧ Below w.heap.size w w' :=
  lwalk2 (lawEliminates_c h.ok) (sysx_pu (fun _ _ h => h) h) (.v _)
end Go.Proofs.YtbbglendddepfaaDoor
