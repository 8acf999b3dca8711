import Derived.Great.BuildSlice
import Derived.Laws.Small
import Derived.Laws.StructEq
import Derived.Test.YtbbglendddepfaaDoorProg
import Derived.Laws.Tables
import Derived.Test.YtbbglendddepfaaDoorGrpnfjoldjm
set_option linter.all false
namespace Go.Proofs.YtbbglendddepfaaDoor
open Go.RowKit Go.Deep
variable {J : World → Prop}
def FitsL (t : ATm) : List (Operand × AV) → Prop
  | [] => True
  | p :: ps => Fits (aev t p.1) p.2 ∧ FitsL t ps
theorem FitsL.all {t : ATm} : ∀ {l : List (Operand × AV)}, FitsL t l → ∀ p ∈ l, Fits (aev t p.1) p.2
  | [], _, p, hp => by cases hp
  | q :: l, h, p, hp => by
    rcases List.mem_cons.1 hp with rfl | hp
    · exact h.1
    · exact FitsL.all h.2 p hp
def RdL (h : AHeap) : List (Nat × ABlk) → Prop
  | [] => True
  | p :: ps => h p.1 = some p.2 ∧ RdL h ps
theorem RdL.all {h : AHeap} : ∀ {l : List (Nat × ABlk)}, RdL h l → ∀ p ∈ l, h p.1 = some p.2
  | [], _, p, hp => by cases hp
  | q :: l, hh, p, hp => by
    rcases List.mem_cons.1 hp with rfl | hp
    · exact hh.1
    · exact RdL.all hh.2 p hp
def EfOk (h : AHeap) : Ef → Prop
  | .no => True
  | .new k _ => ((h k).isNone && Nat.blt k hand) = true
  | .st k _ => (h k).isSome = true
  | .ap k _ => ((h k).isSome && Nat.blt k hand) = true
theorem EfOk.fresh {h : AHeap} {e : Ef} (H : EfOk h e) : ∀ k X, e = .new k X → h k = none := by
  rintro k X rfl
  have : ((h k).isNone && Nat.blt k hand) = true := H
  rw [Bool.and_eq_true, Option.isNone_iff_eq_none] at this
  exact this.1
theorem EfOk.low {h : AHeap} {e : Ef} (H : EfOk h e) : e.low = true := by
  cases e with
  | no => rfl
  | st k X => rfl
  | new k X => exact (Bool.and_eq_true _ _ ▸ (show ((h k).isNone && Nat.blt k hand) = true from H)).2
  | ap k X => exact (Bool.and_eq_true _ _ ▸ (show ((h k).isSome && Nat.blt k hand) = true from H)).2
theorem EfOk.there {h : AHeap} {e : Ef} (H : EfOk h e) : ∀ k, e.old = some k → (h k).isSome = true := by
  intro k hk
  cases e with
  | no => cases hk
  | new _ _ => cases hk
  | st j X => cases hk; exact H
  | ap j X => cases hk; exact (Bool.and_eq_true _ _ ▸ (show ((h k).isSome && Nat.blt k hand) = true from H)).1
section
variable {P : Program} {w0 : Wb} {h : AHeap} {t : ATm} {Q : Exit → Act → World → Prop} {ops : Array Oper} {o : Oper} {rest : List Oper}
theorem t_op {args : List (Operand × AV)} {rd : List (Nat × ABlk)} {u : AV} {e : Ef} (hg : o.guard = none) (hs : ASpec P J o args rd u e) (hf : FitsL t args) (hr : RdL h rd) (he : EfOk h e)
    (H : ETri J w0 (e.heap h) (aput (e.slots t) o.dst u) (wpList P ops Q rest)) : ETri J w0 h t (wpList P ops Q (o :: rest)) :=
  tri_op hg ⟨args, rd, hs, hf.all, hr.all, he.fresh, he.there, he.low⟩ H
theorem t_opG {args : List (Operand × AV)} {rd : List (Nat × ABlk)} {u : AV} {e : Ef} (hg : awanted ops o t = some true) (hs : ASpec P J o args rd u e) (hf : FitsL t args) (hr : RdL h rd) (he : EfOk h e)
    (H : ETri J w0 (e.heap h) (aput (e.slots t) o.dst u) (wpList P ops Q rest)) : ETri J w0 h t (wpList P ops Q (o :: rest)) := fun ρ a w s => by
  unfold wpList
  rw [awanted_sat s hg, if_pos rfl]
  exact .inl (s.step ⟨args, rd, hs, hf.all, hr.all, he.fresh, he.there, he.low⟩ fun ρ' a' w' s' => H ρ' a' w' s')
theorem t_skip (hg : awanted ops o t = some false) (H : ETri J w0 h (aput t o.dst (.v undef)) (wpList P ops Q rest)) : ETri J w0 h t (wpList P ops Q (o :: rest)) := fun ρ a w s => by
  unfold wpList
  rw [awanted_sat s hg, if_neg (by simp)]
  exact H ρ _ w ⟨s.wf, s.hH, s.bel, s.inv, s.hp, s.dom, s.pin, by rw [put_size, aput_n]; exact s.tl, rel_put _ s.tl s.tm (.pu (.v _)), by rw [put_defers]; exact s.df⟩
/-- An operation of a region that draws its order. -/
theorem app_yes {c : Cl} (hg : awanted ops o t = some true) (hs : ASpec P J o c.args c.rd c.u c.e) (hf : FitsL t c.args) (hr : RdL h c.rd) (he : EfOk h c.e) : App P J ops o c h t := .inl ⟨hg, hs, hf.all, hr.all, he.fresh, he.there, he.low⟩
theorem app_no (hg : awanted ops o t = some false) : App P J ops o ⟨[], [], .v undef, .no⟩ h t := .inr ⟨hg, rfl⟩
theorem t_then {K : Act → World → Prop} (H : ETri J w0 h t K) : ETri J w0 h t (Exit.then K Q .normal) := H
theorem t_then_exit {K : Act → World → Prop} {id : Nat} (H : ETri J w0 h t (Q (.exit id))) : ETri J w0 h t (Exit.then K Q (.exit id)) := H
theorem t_then_ret {K : Act → World → Prop} (H : ETri J w0 h t (Q .ret)) : ETri J w0 h t (Exit.then K Q .ret) := H
theorem t_block {id : Nat} (H : ETri J w0 h t (Q .normal)) : ETri J w0 h t (Exit.inBlock id Q .normal) := H
theorem t_block_ret {id : Nat} (H : ETri J w0 h t (Q .ret)) : ETri J w0 h t (Exit.inBlock id Q .ret) := H
theorem t_hit {id : Nat} (H : ETri J w0 h t (Q .normal)) : ETri J w0 h t (Exit.inBlock id Q (.exit id)) := fun ρ a w s => by
  simp only [Exit.inBlock, if_true]; exact H ρ a w s
theorem t_condT {c : Operand} {x y : Code} (hc : aev t c = .v (.bool true)) (H : ETri J w0 h t (x.wp P Q)) : ETri J w0 h t ((Code.cond c x y).wp P Q) := tri_cond hc H
theorem t_condF {c : Operand} {x y : Code} (hc : aev t c = .v (.bool false)) (H : ETri J w0 h t (y.wp P Q)) : ETri J w0 h t ((Code.cond c x y).wp P Q) := tri_cond hc H
end
/-- Where ways meet again. -/
def CutQ (J : World → Prop) (w0 : Wb) (p : Prop) (h : AHeap) (t : ATm) (Q : Exit → Act → World → Prop) : Exit → Act → World → Prop
  | .normal, a, w => p ∧ ∃ ρ, Sat J w0 ρ h t a w
  | e, a, w => Q e a w
section
variable {P : Program} {w0 : Wb} {h h' : AHeap} {t t' : ATm} {Q : Exit → Act → World → Prop} {p : Prop}
theorem t_cut {x : Code} (p : Prop) (h' : AHeap) (t' : ATm) (H1 : ETri J w0 h t (x.wp P (CutQ J w0 p h' t' Q))) (H2 : p → ETri J w0 h' t' (Q .normal)) : ETri J w0 h t (x.wp P Q) := fun ρ a w s =>
  wp_mono (H1 ρ a w s) fun e a w hq => by
    cases e with
    | normal => obtain ⟨hp, ρ', s'⟩ := hq; exact H2 hp ρ' a w s'
    | exit id => exact hq
    | goto l => exact hq
    | ret => exact hq
    | panic ch => exact hq
    | outgrown => exact hq
theorem t_meet (hp : p) (k : Wk h t h' t') : ETri J w0 h t (CutQ J w0 p h' t' Q .normal) := fun ρ a w s => ⟨hp, k J w0 ρ a w s⟩
end
theorem dT {p : Prop} [Decidable p] (h : p) : decide p = true := decide_eq_true h
theorem dF {p : Prop} [Decidable p] (h : ¬ p) : decide p = false := decide_eq_false h
theorem dF' {p : Prop} [Decidable p] (h : ¬ p) : decide p = !true := decide_eq_false h
theorem dT' {p : Prop} [Decidable p] (h : p) : decide p = !false := decide_eq_true h
/-- Short words for the texts that a program writes. -/
theorem T0 : True := trivial
theorem I0 {X : AV} : Fits X X := .inl rfl
section
variable {P : Program} {w0 : Wb} {h : AHeap} {t : ATm} {Q : Exit → Act → World → Prop} {ops : Array Oper} {o : Oper} {rest : List Oper}
theorem kW {Φ : Act → World → Prop} (n : Nat) (L : List (Nat × ABlk)) (T : List (Nat × AV)) (H : ETri J w0 (ofL L) (ofT n T) Φ) (hn : t.n = n := by rfl) (hL : L.map (fun p => (h p.1).map (ABlk.wk (keepL L) h)) = L.map (fun p => some p.2) := by kernel_rfl) (hT : T.map (fun p => (t.f p.1).wk3 (keepL L) h) = T.map (·.2) := by kernel_rfl) : ETri J w0 h t Φ := tri_wk (wk_keep L T hn hL hT) H
theorem kN (n : Nat) (L : List (Nat × ABlk)) (T : List (Nat × AV)) (H : ETri J w0 (ofL L) (ofT n T) (Q .normal)) (hn : t.n = n := by rfl) (hL : L.map (fun p => (h p.1).map (ABlk.wk (keepL L) h)) = L.map (fun p => some p.2) := by kernel_rfl) (hT : T.map (fun p => (t.f p.1).wk3 (keepL L) h) = T.map (·.2) := by kernel_rfl) : ETri J w0 h t (wpList P ops Q []) := tri_nil (kW n L T H hn hL hT)
variable {p p' p'' : Operand × AV} {q : Nat × ABlk} {u : AV}
theorem oA (hs : ASpec P J o [p] [] u .no) (hf : Fits (aev t p.1) p.2) (H : ETri J w0 h (aput t o.dst u) (wpList P ops Q rest)) (hg : o.guard = none := by rfl) : ETri J w0 h t (wpList P ops Q (o :: rest)) := t_op hg hs ⟨hf, trivial⟩ trivial trivial H
theorem oB (hs : ASpec P J o [p] [q] u .no) (hf : Fits (aev t p.1) p.2) (hr : h q.1 = some q.2) (H : ETri J w0 h (aput t o.dst u) (wpList P ops Q rest)) (hg : o.guard = none := by rfl) : ETri J w0 h t (wpList P ops Q (o :: rest)) := t_op hg hs ⟨hf, trivial⟩ ⟨hr, trivial⟩ trivial H
theorem oC (hs : ASpec P J o [p, p'] [] u .no) (hf : Fits (aev t p.1) p.2) (hf' : Fits (aev t p'.1) p'.2) (H : ETri J w0 h (aput t o.dst u) (wpList P ops Q rest)) (hg : o.guard = none := by rfl) : ETri J w0 h t (wpList P ops Q (o :: rest)) := t_op hg hs ⟨hf, hf', trivial⟩ trivial trivial H
theorem oD (hs : ASpec P J o [p, p', p''] [] u .no) (hf : Fits (aev t p.1) p.2) (hf' : Fits (aev t p'.1) p'.2) (hf'' : Fits (aev t p''.1) p''.2) (H : ETri J w0 h (aput t o.dst u) (wpList P ops Q rest)) (hg : o.guard = none := by rfl) : ETri J w0 h t (wpList P ops Q (o :: rest)) := t_op hg hs ⟨hf, hf', hf'', trivial⟩ trivial trivial H
theorem gA (hs : ASpec P J o [p] [] u .no) (hf : Fits (aev t p.1) p.2) (H : ETri J w0 h (aput t o.dst u) (wpList P ops Q rest)) (hg : awanted ops o t = some true := by rfl) : ETri J w0 h t (wpList P ops Q (o :: rest)) := t_opG hg hs ⟨hf, trivial⟩ trivial trivial H
theorem gB (hs : ASpec P J o [p] [q] u .no) (hf : Fits (aev t p.1) p.2) (hr : h q.1 = some q.2) (H : ETri J w0 h (aput t o.dst u) (wpList P ops Q rest)) (hg : awanted ops o t = some true := by rfl) : ETri J w0 h t (wpList P ops Q (o :: rest)) := t_opG hg hs ⟨hf, trivial⟩ ⟨hr, trivial⟩ trivial H
theorem gC (hs : ASpec P J o [p, p'] [] u .no) (hf : Fits (aev t p.1) p.2) (hf' : Fits (aev t p'.1) p'.2) (H : ETri J w0 h (aput t o.dst u) (wpList P ops Q rest)) (hg : awanted ops o t = some true := by rfl) : ETri J w0 h t (wpList P ops Q (o :: rest)) := t_opG hg hs ⟨hf, hf', trivial⟩ trivial trivial H
theorem gD (hs : ASpec P J o [p, p', p''] [] u .no) (hf : Fits (aev t p.1) p.2) (hf' : Fits (aev t p'.1) p'.2) (hf'' : Fits (aev t p''.1) p''.2) (H : ETri J w0 h (aput t o.dst u) (wpList P ops Q rest)) (hg : awanted ops o t = some true := by rfl) : ETri J w0 h t (wpList P ops Q (o :: rest)) := t_opG hg hs ⟨hf, hf', hf'', trivial⟩ trivial trivial H
theorem fB {S : TypeId} {fs : Array Field} {f k off : Nat} {fl : Field} (off' : Nat) (x : Operand) (ho : o.op = .fieldAddr S x f) (hu : P.underlying S = some (.struct fs)) (hf : fs[f]? = some fl) (z : Nat) (e : off + fl.offset = off') (hz : (P.info? fl.type).map (·.size) = some z := by kernel_rfl) (h0 : 0 < z := by decide) : ASpec P J o [(x, .box k off)] [] (.box k off') .no := sp_fieldBox x ho hu hf hz h0 e
theorem lB {T : TypeId} {d : TypeDesc} {k off : Nat} (Y : ABlk) (X : AV) (x : Operand) (ho : o.op = .load T x) (hu : P.underlying T = some d) (hd : d.isRow = false) (hX : Y.cells[off]? = some X) : ASpec P J o [(x, .box k off)] [(k, Y)] X .no := sp_loadBox1 x ho hu hd hX
end
end Go.Proofs.YtbbglendddepfaaDoor

namespace Go.Proofs.YtbbglendddepfaaDoor
open Go.RowKit Go.Deep
variable {J : World → Prop}
def AV.pu1 : AV → Bool
  | .box _ _ => false
  | .own _ => false
  | .agg _ => false
  | .tup _ => false
  | .clo _ _ => false
  | _ => true
theorem Rel.pu1 {ρ : Names} {B : Nat} {w : World} {X : AV} {x : Value} (h : Rel ρ B w X x) (hp : X.pu1 = true) : Pu (B ≤ ·) w (okOf ρ) X x := by
  cases h with
  | pu h => exact h
  | box h => cases hp
  | own h => cases hp
  | agg hl h => cases hp
  | tup hl h => cases hp
  | clo hl h => cases hp
theorem flatC_get {z : Nat} : ∀ (Xs : List AV), (∀ X ∈ Xs, X.cellsOf.length = z) → ∀ k, (Xs.flatMap AV.cellsOf)[k]? = if k < Xs.length * z then (Xs[k / z]?).bind fun X => X.cellsOf[k % z]? else none
  | [], _, k => by simp
  | X :: Xs, h, k => by
    have hX := h X (by simp)
    simp only [List.flatMap_cons, List.length_cons, Nat.add_mul, Nat.one_mul]
    by_cases hk : k < z
    · rw [List.getElem?_append_left (by omega), if_pos (by omega), Nat.div_eq_of_lt hk, Nat.mod_eq_of_lt hk]; rfl
    · rw [List.getElem?_append_right (by omega), flatC_get Xs (fun X hX => h X (by simp [hX])), hX]
      by_cases hz : z = 0
      · subst hz; simp
      · have e1 : k / z = (k - z) / z + 1 := by rw [← Nat.sub_add_cancel (show z ≤ k by omega), Nat.add_div_right _ (by omega)]; simp
        have e2 : k % z = (k - z) % z := by rw [← Nat.mod_eq_sub_mod (by omega)]
        rw [e1, e2, List.getElem?_cons_succ]
        by_cases hlt : k < Xs.length * z + z
        · rw [if_pos (by omega), if_pos hlt]
        · rw [if_neg (by omega), if_neg hlt]
section
variable {P : Program} {o : Oper}
theorem sp_build0 {t e z k : Nat} (fr : Bool) (ho : o.op = .buildSlice t 0 #[]) (hu : P.underlying t = some (.slice e)) (hi : (P.info? e).map (·.size) = some z) : ASpec P J o [] [] (.own k) (.new k (.row fr e z 0 [])) :=
  aspec_new fun ρ B a w _ hB _ _ hk => by
    obtain ⟨i, hi, hiz⟩ := Option.map_eq_some_iff.1 hi
    refine ⟨_, 0, 0, #[], e, ?_, .own (nm := .at w.heap.size 0 0) (upd_same _ _ _), [], ⟨by simp, .inr ⟨w.heap.size, 0, #[], rfl, rowB_le hB, heap_alloc_new w _, Nat.le_refl _, by simp [maxLen], by simp, by simp⟩⟩, rfl, by simp⟩
    have h0 : Array.map (fun (_ : Nat) => (default : Value)) (Array.range 0) = #[] := by apply Array.eq_empty_of_size_eq_zero; simp
    simp only [execOp, ho]
    exact run_val (by simp [Instr.buildSlice, run_underlying hu, sizeOf, typeInfo, hi, Instr.fill, newRow, Nm.val, h0])
theorem sp_build {t e z n k : Nat} {fr : Bool} {parts : Array (Nat × Operand)} (xs : List Operand) (Xs : List AV) (ho : o.op = .buildSlice t n parts) (hu : P.underlying t = some (.slice e)) (hi : (P.info? e).map (fun i => (i.size, i.zero.map (·.cells.size))) = some (z, some z)) (h0 : 0 < z) (hn0 : 0 < n)
    (hp : parts.toList = xs.zipIdx.map fun p => (p.2, p.1)) (hl : xs.length = n) (hX : Xs.length = n) (hz : Xs.all (fun X => X.cellsOf.length == z && X.cellsOf.all (fun c => c.cell && c.pu1)) = true) (hs : n * z ≤ 16777216)
    (hnew : fr = true → ∀ d ∈ Xs.flatMap AV.cellsOf, d.isNew = true) {cs : List AV} (hcs : rowCells fr (Xs.flatMap AV.cellsOf) = cs) :
    ASpec P J o (xs.zip Xs) [] (.own k) (.new k (.row fr e z n cs)) :=
  aspec_new fun ρ B a w hwf hB ha _ hk => by
    subst hcs
    obtain ⟨i, hi, hj⟩ := Option.map_eq_some_iff.1 hi
    simp only [Prod.mk.injEq] at hj
    obtain ⟨j1, j2⟩ := hj
    obtain ⟨zv, hz1, hz2⟩ := Option.map_eq_some_iff.1 j2
    have hzz : ∀ X ∈ Xs, X.cellsOf.length = z ∧ (∀ c ∈ X.cellsOf, c.cell = true ∧ c.pu1 = true) := fun X hX => by
      have := List.all_eq_true.1 hz X hX
      simp only [Bool.and_eq_true, beq_iff_eq, List.all_eq_true] at this
      exact this
    have hrel : ∀ j (h1 : j < xs.length) (h2 : j < Xs.length), Rel ρ B w Xs[j] (a.eval xs[j]) := fun j h1 h2 => ha (xs[j], Xs[j]) (by rw [List.mem_iff_getElem]; exact ⟨j, by simp; omega, by simp⟩)
    have hcell : ∀ j (h1 : j < xs.length) (h2 : j < Xs.length), (a.eval xs[j]).cells.size = z ∧ ∀ l (hl : l < Xs[j].cellsOf.length), Pu (B ≤ ·) w (okOf ρ) Xs[j].cellsOf[l] ((a.eval xs[j]).cells.getD l undef) := fun j h1 h2 => by
      obtain ⟨q1, q2⟩ := hzz _ (List.getElem_mem h2)
      obtain ⟨r1, r2, r3⟩ := (hrel j h1 h2).cells (List.all_eq_true.2 fun c hc => (q2 c hc).1)
      exact ⟨by omega, fun l hl => (r3 l hl).pu1 (q2 _ (List.getElem_mem hl)).2⟩
    obtain ⟨r, f1, f2, f3⟩ := Great.fill_dense h0 (xs.map a.eval) 0 ((Array.range (n * i.size)).map (zv.cells[· % zv.cells.size]!)) (fun v hv => by
      obtain ⟨x, hx, rfl⟩ := List.mem_map.1 hv
      obtain ⟨j, hj, rfl⟩ := List.getElem_of_mem hx
      exact (hcell j hj (by omega)).1) (by simp [hl, j1])
    have hrun := run_buildSlice (P := P) w t e n (parts.map fun (i, x) => (i, a.eval x)) r i zv hu hi hz1 (by rw [j1]; omega) (by rw [j1]; have := Nat.mul_pos hn0 h0; omega) (by
      rw [← f1, j1]
      congr 1
      rw [Array.toList_map, hp, List.map_map, List.zipIdx_map, List.map_map]
      rfl)
    have hrs : r.size = n * z := by rw [f2]; simp [j1]
    have hfl : (Xs.flatMap AV.cellsOf).length = n * z := by
      have : ∀ (Xs : List AV), (∀ X ∈ Xs, X.cellsOf.length = z) → (Xs.flatMap AV.cellsOf).length = Xs.length * z := by
        intro Xs
        induction Xs with
        | nil => intro _; simp
        | cons X Xs ih => intro h; simp only [List.flatMap_cons, List.length_append, ih fun X hX => h X (by simp [hX]), h X (by simp), List.length_cons, Nat.add_mul]; omega
      rw [this Xs fun X hX => (hzz X hX).1, hX]
    refine ⟨.slice (some ⟨w.heap.size, 0, none⟩) n n, n, n, r, e, ?_, .own (nm := .at w.heap.size n n) (upd_same _ _ _), r.toList, ⟨by simpa using hrs, .inr ⟨w.heap.size, n, r, rfl, rowB_le hB, heap_alloc_new w _, Nat.le_refl _, ?_, hrs, by rw [List.take_of_length_le (by simp [hrs])]⟩⟩, by rw [rowCells_length, hfl]; simpa using hrs, fun j hj => ?_⟩
    · simp only [execOp, ho]
      exact run_val hrun
    · have : n * 1 ≤ n * z := Nat.mul_le_mul_left n h0
      simp only [maxLen]; omega
    · have hj' : j < n * z := by rw [rowCells_length, hfl] at hj; exact hj
      have hd : j / z < n := (Nat.div_lt_iff_lt_mul h0).2 hj'
      have hm : j % z < z := Nat.mod_lt _ h0
      have hx1 : j / z < xs.length := by omega
      have hX1 : j / z < Xs.length := by omega
      obtain ⟨c1, c2⟩ := hcell _ hx1 hX1
      have hcl := (hzz _ (List.getElem_mem hX1)).1
      have hjf : j < (Xs.flatMap AV.cellsOf).length := by omega
      have e1 : (Xs.flatMap AV.cellsOf)[j] = Xs[j / z].cellsOf[j % z]'(by omega) := by
        have := flatC_get Xs (fun X hX => (hzz X hX).1) j
        rw [List.getElem?_eq_getElem hjf, if_pos (by rw [hX]; exact hj'), List.getElem?_eq_getElem hX1, Option.bind_some, List.getElem?_eq_getElem (by omega)] at this
        exact Option.some.inj this
      have e2 : r.toList.getD j undef = (a.eval xs[j / z]).cells.getD (j % z) undef := by
        have := f3 j
        rw [if_pos ⟨by simp, by simp [hl]; exact hj'⟩, Nat.sub_zero, List.getElem?_map, List.getElem?_eq_getElem hx1] at this
        simp only [Option.map_some, Option.bind_some] at this
        rw [List.getD_eq_getElem?_getD, Array.getElem?_toList, this, Array.getD_eq_getD_getElem?]
      have hp := c2 (j % z) (by omega)
      rw [← e1, ← e2] at hp
      have hrow := Pu.row (fr := fr) hnew hj hjf hp
      rw [e2] at hrow ⊢
      have hok : ∀ b, okOf ρ b → b < w.heap.size → okOf (upd ρ k (.at w.heap.size n n)) b ∧ b < (w.alloc (.cells r e)).heap.size ∧ (w.alloc (.cells r e)).heap[b]? = w.heap[b]? := fun b hb hw => ok_new hb hw
      exact hrow.mono (fun b hb hw => ⟨⟨(hok b hb.1 hw).1, fun e => ⟨(hb.2 e).1, soft_eq (hok b hb.1 hw).2.2 (hb.2 e).2⟩⟩, (hok b hb.1 hw).2⟩) fun _ _ h => h
end
section
variable {P : Program} {o : Oper} {t ty : TypeId} {x y : Operand}
end
theorem map_at1 {α : Type} {g : α → AV} (xs : List α) {k : Nat} (h : k < xs.length) : (xs.map g)[k * 1]? = some (g xs[k]) := by rw [Nat.mul_one]; simp [h]
theorem unfr_ints (xs : List Int) (fr : Bool) : rowCells fr (xs.map iv) = xs.map iv := by cases fr <;> simp [rowCells, AV.unfr]
theorem ctr_b {P : Program} {f : FuncId} {args : List AV} {b r : Bool} (h : Ctr P J f args (bv b)) (e : b = r) : Ctr P J f args (bv r) := e ▸ h
end Go.Proofs.YtbbglendddepfaaDoor

namespace Go.Proofs.YtbbglendddepfaaDoor
open Go.RowKit Go.Deep
section
variable {P : Program} {J : World → Prop} {o : Oper}
theorem sp_bld {T : TypeId} {parts : Array (Nat × Operand)} (args : List (Operand × Value)) (cells : Array Value) {cs : List AV} (ho : o.op = .build T parts) (hp : parts.toList.map (·.2) = args.map (·.1))
    (hb : P.built T ((parts.toList.zip args).map fun p => (p.1.1, p.2.2)) = some cells) (hc : cells.toList.map AV.v = cs) : ASpec P J o (args.map fun p => (p.1, .v p.2)) [] (.agg cs) .no :=
  aspec_val fun ρ B a w _ ha _ => by
    subst hc
    have hl : parts.toList.length = args.length := by simpa using congrArg List.length hp
    have e : (parts.map fun (i, x) => (i, a.eval x)).toList = (parts.toList.zip args).map fun p => (p.1.1, p.2.2) := by
      rw [Array.toList_map]
      refine List.ext_getElem (by simp at hl ⊢; omega) fun i h1 h2 => ?_
      have h3 : i < parts.toList.length := by simpa using h1
      have h4 : i < args.length := by omega
      have h5 : parts.toList[i].2 = args[i].1 := by
        have h7 : (parts.toList.map (·.2))[i]'(by simpa using h3) = (args.map (·.1))[i]'(by simpa using h4) := by simp only [hp]
        simpa only [List.getElem_map] using h7
      have h6 := (ha (args[i].1, .v args[i].2) (List.mem_map_of_mem (f := fun p : Operand × Value => (p.1, AV.v p.2)) (List.getElem_mem h4))).v_inv
      simp only [List.getElem_map, List.getElem_zip]
      rw [← h6, ← h5]
    refine ⟨.agg cells, ?_, .pu (.agg (by simp) fun j hj => ?_)⟩
    · simp only [execOp, ho]
      refine run_val (run_build w T _ cells ?_)
      rw [e]; exact hb
    · simp only [List.getElem_map, Array.getElem_toList]
      have : j < cells.size := by simpa using hj
      simp only [Array.getD, this, dif_pos]
      exact .v _
end
end Go.Proofs.YtbbglendddepfaaDoor
