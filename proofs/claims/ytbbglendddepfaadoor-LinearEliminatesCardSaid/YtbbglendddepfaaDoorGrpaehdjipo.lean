import Derived.Deep.OwnRows
import Derived.Test.YtbbglendddepfaaDoorProg
import Derived.WalkSpells
import Derived.WalkLawsBesides
import Derived.Deep.QuietTactic
import Derived.BigQuiet
import Derived.Test.YtbbglendddepfaaDoorGrpgaobocip
import Derived.Test.YtbbglendddepfaaDoorGrpomkalice
set_option linter.all false
namespace Go.Proofs.YtbbglendddepfaaDoor
open Go.RowKit Go.Deep
theorem wk_adoptB {h : AHeap} {t : ATm} (k0 i k : Nat) (fr : Bool) (e z : Nat) {T : TypeId} {cs ds : List AV} (hk : h k = none) (hb : h k0 = some (.box T cs)) (hi : cs[i]? = some (.v (.slice none 0 0))) (hd : cs.set i (.own k) = ds) (hs : k < hand := by decide) :
    Wk h t (fun j => if j = k then some (.row fr e z 0 []) else if j = k0 then some (.box T ds) else h j) t := by
  subst hd
  intro J w0 ρ a w s
  have hρ := s.dom k hs hk
  have hkk : k0 ≠ k := by rintro rfl; rw [hb] at hk; cases hk
  refine ⟨upd ρ k .nil, ?_⟩
  have hok : ∀ b, okOf ρ b → okOf (upd ρ k .nil) b := fun b hb j c n hj => by
    by_cases e : j = k
    · subst e; rw [upd_same] at hj; cases hj
    · rw [upd_other e] at hj; exact hb _ _ _ hj
  have hn : ∀ j nm, ρ j = some nm → upd ρ k .nil j = some nm := fun j nm hj => by rw [upd_other (by rintro rfl; rw [hρ] at hj; cases hj)]; exact hj
  have hp : ∀ X x, Pu (w0.heap.size ≤ ·) w (okOf ρ) X x → Pu (w0.heap.size ≤ ·) w (okOf (upd ρ k .nil)) X x := fun X x hx => hx.weak hok
  have hat : ∀ j b c n, upd ρ k .nil j = some (.at b c n) → ρ j = some (.at b c n) := fun j b c n hj => by
    by_cases e : j = k
    · subst e; rw [upd_same] at hj; cases hj
    · rw [upd_other e] at hj; exact hj
  refine ⟨⟨fun j k b c d m n hj hk => s.wf.inj _ _ _ _ _ _ _ (hat _ _ _ _ hj) (hat _ _ _ _ hk), fun k b c n hk => s.wf.lo _ _ _ _ (hat _ _ _ _ hk)⟩, s.hH, s.bel, s.inv, fun j X hj => ?_, fun j hl hj => ?_, fun j hj => (upd_other (fun e => by omega)).trans (s.pin j hj), s.tl, fun j hj => (s.tm j hj).keep hp hn, s.df⟩
  · by_cases e : j = k
    · subst e
      rw [if_pos rfl] at hj
      cases hj
      exact ⟨.nil, upd_same _ _ _, blk_nil _ _ _ _ _ _⟩
    · rw [if_neg e] at hj
      by_cases e0 : j = k0
      · subst e0
        rw [if_pos rfl] at hj
        cases hj
        obtain ⟨nm, g1, g2⟩ := s.hp j _ hb
        obtain ⟨b, c, n, vs, q0, q1, q2, q3⟩ := g2
        refine ⟨nm, hn _ _ g1, b, c, n, vs, q0, q1, by simpa using q2, fun l hl => ?_⟩
        have hl' : l < cs.length := by simpa using hl
        rw [List.getElem_set]
        split
        · rename_i e1
          subst e1
          have h1 := q3 i hl'
          have h2 : cs[i] = .v (.slice none 0 0) := by
            rw [List.getElem?_eq_getElem hl'] at hi
            exact Option.some.inj hi
          rw [h2] at h1
          rw [h1.v_inv]
          exact .own (nm := .nil) (upd_same _ _ _)
        · exact (q3 l hl').keep hp hn
      · rw [if_neg e0] at hj
        obtain ⟨nm, g1, g2⟩ := s.hp j X hj
        exact ⟨nm, hn _ _ g1, g2.keep (fun fr X x hx => hx.weak fun b hb => ⟨hok _ hb.1, hb.2⟩) hp hn fun _ _ _ _ => rfl⟩
  · by_cases e : j = k
    · rw [if_pos e] at hj; cases hj
    · rw [if_neg e] at hj
      rw [upd_other e]
      by_cases e0 : j = k0
      · rw [if_pos e0] at hj; cases hj
      · rw [if_neg e0] at hj; exact s.dom j hl hj
end Go.Proofs.YtbbglendddepfaaDoor

namespace Go.Proofs.YtbbglendddepfaaDoor
open Go.RowKit Go.Deep
section
variable {P : Program} {J : World → Prop} {o : Oper}
def AV.isSl : AV → Bool
  | .sl _ _ _ => true
  | .fr (.sl _ _ _) => true
  | _ => false
theorem pu_slice {F ok : Nat → Prop} {w : World} {z n : Nat} {cs : List AV} {v : Value} (h : Pu F w ok (.sl z n cs) v) : ∃ a m c, v = .slice a m c := by
  cases h with
  | sl0 _ _ => exact ⟨_, _, _, rfl⟩
  | sl _ _ _ _ _ _ _ => exact ⟨_, _, _, rfl⟩
theorem rel_slice {ρ : Names} {B : Nat} {w : World} {X : AV} {v : Value} (h : Rel ρ B w X v) (hX : X.isSl = true) : ∃ a m c, v = .slice a m c := by
  cases h with
  | pu h =>
    cases h with
    | any _ => cases hX
    | v _ => cases hX
    | agg _ _ => cases hX
    | tup _ _ => cases hX
    | fr h =>
      rename_i X
      cases X with
      | sl z n cs => exact pu_slice h
      | _ => cases hX
    | sl0 h1 h2 => exact ⟨_, _, _, rfl⟩
    | sl _ _ _ _ _ _ _ => exact ⟨_, _, _, rfl⟩
    | el _ _ _ _ => cases hX
    | clo _ _ => cases hX
    | old _ => cases hX
  | _ => cases hX
theorem sp_bldSI {T : TypeId} {x y : Operand} {X : AV} {k : IntKind} {i : Int} (ho : o.op = .build T #[(0, x), (1, y)]) (hX : X.isSl = true) (H : ∀ a n c, P.built T [(0, .slice a n c), (1, .int k i)] = some #[.slice a n c, .int k i]) :
    ASpec P J o [(x, X), (y, .v (.int k i))] [] (.agg [X, .v (.int k i)]) .no :=
  aspec_val fun ρ B a w _ ha _ => by
    have h1 := ha (x, X) (by simp)
    have h2 := (ha (y, .v (.int k i)) (by simp)).v_inv
    obtain ⟨ad, n, c, e⟩ := rel_slice h1 hX
    refine ⟨.agg #[.slice ad n c, .int k i], ?_, .agg rfl fun j hj => ?_⟩
    · simp only [execOp, ho]
      refine run_val (run_build w T _ _ ?_)
      simp only [List.map_toArray, List.map_cons, List.map_nil]
      rw [h2, show a.eval x = _ from e]
      exact H _ _ _
    · match j, hj with
      | 0, _ =>
        show Rel ρ B w X (.slice ad n c)
        rw [← e]; exact h1
      | 1, _ => exact .pu (.v _)
end
end Go.Proofs.YtbbglendddepfaaDoor

namespace Go.Proofs.YtbbglendddepfaaDoor
open Go.RowKit Go.Deep
variable {J : World → Prop}
section
variable {P : Program} {o : Oper}
/-- A store into a row of the call's own. -/
theorem sp_storeRow {T e' : TypeId} {z zz n k off : Nat} {fr : Bool} {X : AV} {cs ds : List AV} (x y : Operand) (ho : o.op = .store T x y) (hz : (P.info? T).map (·.size) = some zz) (hX : X.cellsOf.all (fun c => c.cell && c.pu1) = true) (hn : fr = true → ∀ d ∈ X.cellsOf, d.isNew = true) (hl : X.cellsOf.length = zz) (hr : off + zz ≤ cs.length) (hd : setAll cs off (rowCells fr X.cellsOf) = ds) :
    ASpec P J o [(x, .box k off), (y, X)] [(k, .row fr e' z n cs)] (.v undef) (.st k (.row fr e' z n ds)) := by
  intro ρ B a w K Q hwf hB _ ha hr' _ hk
  obtain ⟨b, c, m, h1, h2⟩ := (ha (x, .box k off) (by simp)).box_inv
  have hy := ha (y, X) (by simp)
  have hX1 : X.cellsOf.all AV.cell = true := List.all_eq_true.2 fun d hd => by have := List.all_eq_true.1 hX d hd; simp only [Bool.and_eq_true] at this; exact this.1
  have hX2 : ∀ d ∈ X.cellsOf, d.pu1 = true := fun d hd => by have := List.all_eq_true.1 hX d hd; simp only [Bool.and_eq_true] at this; exact this.2
  obtain ⟨h3, h4, h5⟩ := hy.cells hX1
  obtain ⟨nm, h1', xs, ⟨h6, h7⟩, hxl, hrel⟩ := hr' (k, .row fr e' z n cs) (by simp)
  rw [h1] at h1'; cases h1'
  rcases h7 with ⟨hv, _⟩ | ⟨g, cap, cur, hv, hBg, hg, hnc, hm, hs, ht⟩
  · cases hv
  simp only [Nm.val, Value.slice.injEq, Option.some.injEq, Addr.mk.injEq, and_true] at hv
  obtain ⟨rfl, rfl, rfl⟩ := hv
  have hsz : (a.eval y).cells.size = zz := h3.trans hl
  have hncur : m * z ≤ cur.size := by rw [hs]; exact Nat.mul_le_mul_right _ hnc
  have hth : w.there b off zz := fun j hj => ⟨by simp only [World.cell?, hg]; simp; omega, frozenB hg _⟩
  obtain ⟨cur', hg', hs', hget⟩ := setCells_block (a.eval y).cells.toList off w cur hg (by simp; omega)
  have hrun := run_storeC (P := P) hz (a.eval y) hsz h4 hth
  unfold Oper.wp
  simp only [execOp, ho, h2, Sem.run_bind, hrun, Result.andThen_ok, Sem.run_pure]
  obtain ⟨q1, q2, q3⟩ := setCells_os b (a.eval y).cells.toList off w
  have hlo := hwf.lo _ _ _ _ h1
  have hkeepP : ∀ {fr : Bool} {X : AV} {x : Value}, Pu (B ≤ ·) w (okR ρ fr B w) X x → Pu (B ≤ ·) (w.setCells b off (a.eval y).cells.toList) (okR ρ fr B (w.setCells b off (a.eval y).cells.toList)) X x := fun h => h.mono (fun _ hb hw => have := okOf_setCells (off := off) (vs := (a.eval y).cells.toList) h1 hb.1 hw; ⟨⟨this.1, fun e => ⟨(hb.2 e).1, soft_eq this.2.2 (hb.2 e).2⟩⟩, this.2⟩) fun _ _ h => h
  refine hk ρ _ undef ⟨rfl, q1, q2, q3, by rw [setCells_size]; exact Nat.le_refl _, fun b' _ hne => setCells_other (fun e => by subst e; exact hne k c m rfl h1) _ _ _, fun _ _ => rfl, fun _ _ _ => rfl, fun k' X' he => ?_, .pu (.v _)⟩
  cases he
  refine ⟨_, h1, fun b' c' n' e => by cases e; exact ⟨by rw [setCells_size]; exact hlo.2, hlo.1, .inr ⟨_, _, h1⟩⟩, cur'.toList.take (m * z), ⟨?_, .inr ⟨b, c, cur', rfl, hBg, hg', hnc, hm, by rw [hs', hs], rfl⟩⟩, ?_, fun j hj => ?_⟩
  · simp; omega
  · subst hd; rw [setAll_length]; simp; omega
  subst hd
  have hjc : j < cs.length := by rw [setAll_length] at hj; exact hj
  have hjm : j < m * z := by omega
  have hcur := hget j
  have hval : (cur'.toList.take (m * z)).getD j undef = (cur'[j]?).getD undef := by
    rw [List.getD_eq_getElem?_getD, List.getElem?_take, if_pos hjm, Array.getElem?_toList]
  rw [hval]
  have hlen : (rowCells fr X.cellsOf).length = X.cellsOf.length := rowCells_length _ _
  rcases setAll_get (rowCells fr X.cellsOf) cs off (by omega) j hj with ⟨e1, e2, e3⟩ | ⟨e1, e2, e3⟩
  · rw [e3, hcur, if_pos ⟨e1, by simp; omega⟩]
    have hj' : j - off < X.cellsOf.length := by omega
    have hp := (h5 (j - off) hj').pu1 (hX2 _ (List.getElem_mem _))
    have := hkeepP (Pu.row hn e2 hj' hp)
    rw [Array.getD_eq_getD_getElem?] at this
    simpa using this
  · rw [e3, hcur, if_neg (by simp; omega)]
    have := hkeepP (hrel j e2)
    have hx : xs.getD j undef = (cur[j]?).getD undef := by
      rw [List.getD_eq_getElem?_getD, ← ht, List.getElem?_take, if_pos hjm, Array.getElem?_toList]
    rw [hx] at this
    exact this
/-- A new row of zeros, of one cell each. -/
theorem sp_make {t e k bytes : Nat} {zv : Value} (fr : Bool) {kl kc : IntKind} {n : Nat} {x y : Operand} (ho : o.op = .makeSlice t x y) (hu : P.underlying t = some (.slice e)) (hi : (P.info? e).map (fun i => (i.size, i.bytes, i.zero)) = some (1, bytes, some zv)) (h1 : zv.cells = #[zv])
    (hb : bytes * n ≤ 281474976710656) (h63 : n ≤ 16777216) {cs : List AV} (hcs : List.replicate n (AV.v zv) = cs) :
    ASpec P J o [(x, .v (.int kl (n : Int))), (y, .v (.int kc (n : Int)))] [] (.own k) (.new k (.row fr e 1 n cs)) :=
  aspec_new fun ρ B a w _ hB ha _ hk => by
    subst hcs
    obtain ⟨i, hi1, hi2⟩ := Option.map_eq_some_iff.1 hi
    simp only [Prod.mk.injEq] at hi2
    obtain ⟨e1, e2, e3⟩ := hi2
    have hx := (ha (x, .v (.int kl (n : Int))) (by simp)).v_inv
    have hy := (ha (y, .v (.int kc (n : Int))) (by simp)).v_inv
    have hsz : (madeCells #[zv] n).size = n := by simp [madeCells]
    have hget : ∀ j, j < n → (madeCells #[zv] n)[j]? = some zv := fun j hj => by simp [madeCells, hj, Nat.mod_one]
    refine ⟨_, n, n, madeCells #[zv] n, e, ?_, .own (nm := .at w.heap.size n n) (upd_same _ _ _), (madeCells #[zv] n).toList, ⟨by simp [hsz], .inr ⟨w.heap.size, n, madeCells #[zv] n, rfl, rowB_le hB, heap_alloc_new w _, Nat.le_refl _, by simp only [maxLen]; omega, by rw [hsz]; omega, by rw [List.take_of_length_le]; simp [hsz]⟩⟩, by simp [hsz], fun j hj => ?_⟩
    · simp only [execOp, ho, hx, hy]
      exact run_val (run_make_row t e i zv hu hi1 e3 e1 h1 kl kc n (by rw [e2]; exact hb) (by omega) w)
    · have hj' : j < n := by simpa using hj
      have : (madeCells #[zv] n).toList.getD j undef = zv := by
        rw [List.getD_eq_getElem?_getD, Array.getElem?_toList, hget j hj']; rfl
      rw [this]
      simp only [List.getElem_replicate]
      exact .v _
/-- A struct is built of numbers, words and slices. -/
def AV.asVal (α : Nat → Option Addr × Nat × Nat) (k : Nat) : AV → Value
  | .v x => x
  | _ => .slice (α k).1 (α k).2.1 (α k).2.2
def AV.solid : AV → Bool
  | .v _ => true
  | .own _ => true
  | X => X.isSl
def pickV (α : Nat → Option Addr × Nat × Nat) (Xs : List AV) : Value ⊕ Nat → Value
  | .inl z => z
  | .inr k => (Xs.getD k .any).asVal α k
def pickA (Xs : List AV) : Value ⊕ Nat → AV
  | .inl z => .v z
  | .inr k => Xs.getD k .any
theorem rel_solid {ρ : Names} {B : Nat} {w : World} {X : AV} {v : Value} (h : Rel ρ B w X v) (hX : X.solid = true) : ∃ a : Option Addr × Nat × Nat, v = X.asVal (fun _ => a) 0 := by
  cases X with
  | v x => exact ⟨(none, 0, 0), h.v_inv⟩
  | sl z n cs => obtain ⟨a, m, c, e⟩ := rel_slice h hX; exact ⟨(a, m, c), e⟩
  | fr X => obtain ⟨a, m, c, e⟩ := rel_slice h hX; exact ⟨(a, m, c), e⟩
  | own k =>
    obtain ⟨nm, _, e⟩ := h.own_inv
    cases nm with
    | nil => exact ⟨(none, 0, 0), e⟩
    | «at» b c n => exact ⟨(some ⟨b, 0, none⟩, n, c), e⟩
  | _ => cases hX
theorem asVal_at {α : Nat → Option Addr × Nat × Nat} {X : AV} {k : Nat} : X.asVal (fun _ => α k) 0 = X.asVal α k := by cases X <;> rfl
theorem sp_bldN {T : TypeId} {parts : Array (Nat × Operand)} (idx : List Nat) (ops : List Operand) (Xs : List AV) (R : List (Value ⊕ Nat)) (ho : o.op = .build T parts) (hp : parts.toList = idx.zip ops) (h1 : idx.length = Xs.length) (h2 : ops.length = Xs.length) (hX : Xs.all AV.solid = true)
    (H : ∀ α, P.built T (idx.zip ((List.range Xs.length).map fun k => (Xs.getD k .any).asVal α k)) = some (R.map (pickV α Xs)).toArray) (hR : R.all (fun r => match r with | .inl _ => true | .inr k => decide (k < Xs.length)) = true) {ds : List AV} (hd : R.map (pickA Xs) = ds) :
    ASpec P J o (ops.zip Xs) [] (.agg ds) .no :=
  aspec_val fun ρ B a w _ ha _ => by
    subst hd
    have hop : ∀ k, k < Xs.length → Rel ρ B w (Xs.getD k .any) (a.eval (ops.getD k (.const undef))) := fun k hk => by
      have hk2 : k < ops.length := by omega
      have hm : (ops[k], Xs[k]) ∈ ops.zip Xs := by
        rw [List.mem_iff_getElem]
        exact ⟨k, by simp; omega, by simp⟩
      have := ha _ hm
      simpa [List.getD_eq_getElem?_getD, hk, hk2] using this
    have hso : ∀ k, k < Xs.length → (Xs.getD k .any).solid = true := fun k hk => by
      have := List.all_eq_true.1 hX _ (List.getElem_mem hk)
      simpa [List.getD_eq_getElem?_getD, hk] using this
    obtain ⟨α, hα⟩ := choose_lt (n := Xs.length) (p := fun k (r : Option Addr × Nat × Nat) => a.eval (ops.getD k (.const undef)) = (Xs.getD k .any).asVal (fun _ => r) 0) fun k hk => rel_solid (hop k hk) (hso k hk)
    refine ⟨.agg (R.map (pickV α Xs)).toArray, ?_, .agg (by simp) fun j hj => ?_⟩
    · simp only [execOp, ho]
      refine run_val (run_build w T _ _ ?_)
      rw [← H α]
      congr 1
      rw [Array.toList_map, hp]
      apply List.ext_getElem
      · simp; omega
      intro k g1 g2
      have hk : k < Xs.length := by simp at g2; omega
      have hk2 : k < ops.length := by omega
      have := hα k hk
      rw [asVal_at] at this
      simp only [List.getElem_map, List.getElem_zip, List.getElem_range, Prod.mk.injEq, true_and]
      rw [← this]
      simp [List.getD_eq_getElem?_getD, hk2]
    · have hj' : j < R.length := by simpa using hj
      simp only [List.getElem_map]
      have e : (R.map (pickV α Xs)).toArray.getD j undef = pickV α Xs R[j] := by simp [Array.getD, hj']
      rw [e]
      have hr := List.all_eq_true.1 hR _ (List.getElem_mem hj')
      generalize R[j] = r at hr
      cases r with
      | inl z => exact .pu (.v z)
      | inr k =>
        have hk : k < Xs.length := by simpa using hr
        have h3 := hα k hk
        rw [asVal_at] at h3
        simp only [pickA, pickV]
        rw [← h3]
        exact hop k hk
end
end Go.Proofs.YtbbglendddepfaaDoor

namespace Go.Proofs.YtbbglendddepfaaDoor
open Go.RowKit Go.Deep
variable {J : World → Prop}
def AV.mkOld (n : Nat) : AV → AV
  | .v x => .v x
  | X => .old n X
theorem Pu.mkOld {F ok ok' : Nat → Prop} {w : World} {n : Nat} {X : AV} {x : Value} (h : Pu F w ok X x) (hk : ∀ b, ok b → ok' b ∧ b < n) : Pu F w ok' (X.mkOld n) x := by
  cases X with
  | v y => exact h.weak fun b hb => (hk b hb).1
  | _ => exact .old (h.weak hk)
section
variable {P : Program} {w0 : Wb} {h : AHeap} {t : ATm}
/-- The rest of a call, as if it began in w1. -/
def Reb (w0 w1 : Wb) : Prop := Bel w0 w1.w ∧ ∀ b, ¬ w1.H b
theorem tri_rebase {Φ : Act → World → Prop} (rd : List (Nat × ABlk)) (L : List (Nat × AV)) {n : Nat} (hn : t.n = n) (hrd : rd.map (fun p => h p.1) = rd.map (fun p => some p.2)) (hL : L.map (fun p => (t.f p.1).viewC rd) = L.map (·.2)) (hf : L.all (fun p => (t.f p.1).flat1) = true) (hp : ∀ X ∈ L.map (·.2), Plain X)
    (H : ∀ w1 : Wb, Reb w0 w1 → ETri J w1 (ofL []) (ofT n (L.map fun p => (p.1, p.2.mkOld w1.heap.size))) Φ) : ETri J w0 h t Φ := by
  subst hn
  intro ρ a w s
  refine H ⟨w, fun _ => False, fun _ => none⟩ ⟨s.bel, fun _ h => h⟩ ⟨fun _ => none, fun _ => False⟩ a w ⟨⟨(fun _ _ _ _ _ _ _ h => by cases h), (fun _ _ _ _ h => by cases h)⟩, rfl, Bel.refl _, fun w' hb => s.inv w' (s.bel.trans (hb.below fun _ h => h)), (fun _ _ h => by cases h), fun _ _ _ => rfl, fun _ _ => rfl, s.tl, fun i hi => ?_, s.df⟩
  simp only [ofT]
  cases hfi : (L.map fun p => (p.1, p.2.mkOld w.heap.size)).find? fun p => p.1 == i with
  | none => exact .anyR
  | some p =>
    have hm := List.mem_of_find?_eq_some hfi
    have hk := List.find?_some hfi
    obtain ⟨q, hq, rfl⟩ := List.mem_map.1 hm
    have hq1 : q.1 = i := by simpa using hk
    obtain ⟨j, hj, e⟩ := List.getElem_of_mem hq
    have h1 : (L.map (fun p => (t.f p.1).viewC rd))[j]? = (L.map (·.2))[j]? := by rw [hL]
    simp only [List.getElem?_map, List.getElem?_eq_getElem hj, Option.map_some, e, Option.some.injEq] at h1
    have hrd' : ∀ p ∈ rd, ∃ nm, ρ p.1 = some nm ∧ BlkR ρ w w0.heap.size nm p.2 := fun p hp => by
      obtain ⟨j, hj, e⟩ := List.getElem_of_mem hp
      have h2 : (rd.map (fun p => h p.1))[j]? = (rd.map (fun p => some p.2))[j]? := by rw [hrd]
      simp only [List.getElem?_map, List.getElem?_eq_getElem hj, Option.map_some, e, Option.some.injEq] at h2
      exact s.hp _ _ h2
    have h3 := (s.tm i hi).viewC s.wf hrd' (by have := List.all_eq_true.1 hf q hq; rw [hq1] at this; exact this)
    rw [← hq1, h1, hq1] at h3
    have h4 := h3.plain (F' := (w.heap.size ≤ ·)) (hp _ (List.mem_map_of_mem hq))
    exact .pu (h4.mkOld fun b hb => ⟨(fun _ _ _ h => by cases h), hb⟩)
theorem tri_endV {w1 : Wb} (hb : Reb w0 w1) {fn : Func} {r : ResultVar} {x : Value} (hr : fn.results = #[r]) (h1 : ResV P h t r (.v x)) : ETri J w1 h t (bodyPost P fn (RetP w0 (.v x)) .ret) := fun ρ a w s => by
  obtain ⟨d, v, r1, v', e, hp, hB⟩ := tri_end1 (J := J) (w0 := w1) (u := .v x) hr h1 rfl ρ a w s
  refine ⟨d, v, r1, v', e, ?_, hb.1.trans (hB.below hb.2)⟩
  cases hp with | v _ => exact .v _
end
section
variable {P : Program} {o : Oper}
theorem sp_indexSlF {t e : TypeId} {z n off : Nat} {cs : List AV} {ik : IntKind} {i : Int} (x y : Operand) (ho : o.op = .indexAddr t x y) (hu : P.underlying t = some (.slice e)) (hz : (P.info? e).map (·.size) = some z) (h0 : 0 ≤ i) (h1 : i < n) (he : i.toNat * z = off) :
    ASpec P J o [(x, .fr (.sl z n cs)), (y, .v (.int ik i))] [] (.fr (.el cs off)) .no :=
  aspec_val fun ρ B a w _ ha _ => by
    have h := ha (x, .fr (.sl z n cs)) (by simp)
    have hy := (ha (y, .v (.int ik i)) (by simp)).v_inv
    generalize hx : a.eval x = v at h
    cases h with
    | pu h =>
    cases h with
    | fr h =>
    cases h with
    | sl0 h2 hz => omega
    | sl hc h1' h2 hb hw hfc hr =>
      refine ⟨_, ?_, .pu (.fr (.el (o := off) hb hw hfc hr))⟩
      simp only [execOp, ho, hx, hy]
      exact run_val (by rw [run_index hu hz _ _ _ _ _ _ h0 h1, he])
end
/-- One cell turned. -/
theorem cell_set1 {w : World} {b o : Nat} {v : Value} {cur : Array Value} {T : TypeId} (hg : w.heap[b]? = some (.cells cur T (0, 0))) (ho : o < cur.size) (c j : Nat) : (w.setCells b o [v]).cell? ⟨c, j, none⟩ = if c = b ∧ j = o then some v else w.cell? ⟨c, j, none⟩ := by
  obtain ⟨cur', hg', hs', hget⟩ := setCells_block [v] o w cur hg (by simp; omega)
  by_cases hc : c = b
  · subst hc
    have h1 := hget j
    simp only [List.length_cons, List.length_nil, Nat.zero_add] at h1
    by_cases hj : j = o
    · subst hj
      rw [if_pos ⟨rfl, rfl⟩]
      rw [if_pos ⟨Nat.le_refl _, by omega⟩] at h1
      exact cellB hg' j (v := v) (by rw [h1]; simp)
    · rw [if_neg (fun h => hj h.2)]
      rw [if_neg (by omega)] at h1
      simp only [World.cell?, hg, hg', h1]
  · rw [if_neg (fun h => hc h.1)]
    exact World.cell?_of_block (w := w) (a := ⟨c, j, none⟩) (setCells_other (fun e => hc e) _ _ _)
theorem soft_set1 {w : World} {b o : Nat} {v : Value} {cur : Array Value} {T : TypeId} (hg : w.heap[b]? = some (.cells cur T (0, 0))) (ho : o < cur.size) {c : Nat} (h : soft w c) : soft (w.setCells b o [v]) c := by
  by_cases hc : c = b
  · subst hc
    obtain ⟨cur', hg', _⟩ := setCells_block [v] o w cur hg (by simp; omega)
    exact ⟨_, _, hg'⟩
  · exact soft_eq (setCells_other (fun e => hc e) _ _ _) h
/-- Numbers that can be read go on to be numbers. -/
theorem ints_blur {F ok ok' : Nat → Prop} {w w' : World} {l : List Int} {v : Value} (h : Pu F w ok (intsA l) v) (hsz : w.heap.size ≤ w'.heap.size) (hok : ∀ b, ok b → ok' b) (hc : ∀ c j x, w.cell? ⟨c, j, none⟩ = some (.int .i64 x) → ∃ y, w'.cell? ⟨c, j, none⟩ = some (.int .i64 y)) :
    ∃ l' : List Int, l'.length = l.length ∧ Pu F w' ok' (intsA l') v := by
  unfold intsA at h ⊢
  generalize hcs : l.map iv = cs at h
  generalize hn : l.length = n at h
  cases h with
  | sl0 h2 hz =>
    exact ⟨[], rfl, .sl0 h2 hz⟩
  | sl hl h1 h2 hb hw hf h =>
    rename_i b off cap f
    subst hn hcs
    have H : ∀ j, j < l.length → ∃ y, w'.cell? ⟨b, off + j, none⟩ = some (.int .i64 y) := fun j hj => by
      have hj' : j < (l.map iv).length := by simpa using hj
      have h3 := h j hj'
      simp only [List.getElem_map] at h3
      refine hc b (off + j) l[j] ?_
      rw [hf j hj', h3.v_inv]
    obtain ⟨g, hg⟩ := choose_lt H
    refine ⟨(List.range l.length).map g, by simp, ?_⟩
    have := Pu.sl (F := F) (w := w') (ok := ok') (z := 1) (n := l.length) (b := b) (off := off) (cap := cap) (cs := ((List.range l.length).map g).map iv) (f := fun j => .int .i64 (g j)) (by simp) h1 h2 (hok _ hb) (Nat.lt_of_lt_of_le hw hsz) (fun j hj => hg j (by simpa using hj)) fun j hj => by simp; exact .v _
    simpa using this
section
variable {P : Program} {w0 : Wb} {ops : Array Oper} {o : Oper} {rest : List Oper} {Q : Exit → Act → World → Prop}
end
end Go.Proofs.YtbbglendddepfaaDoor

namespace Go.Proofs.YtbbglendddepfaaDoor
open Go.RowKit Go.Deep
variable {J : World → Prop}
/-- One name. -/
def single (k : Nat) (nm : Nm) : Names := ⟨fun j => if j = k then some nm else none, fun _ => False⟩
theorem single_same (k : Nat) (nm : Nm) : single k nm k = some nm := if_pos rfl
theorem single_at {k j : Nat} {nm x : Nm} (h : single k nm j = some x) : j = k ∧ x = nm := by
  dsimp only [single] at h
  split at h
  · rename_i e; exact ⟨e, (Option.some.inj h).symm⟩
  · cases h
/-- Made of what is known in every world, of what is new and of named things. -/
def AV.safe1 : AV → Bool
  | .v _ => true
  | .own _ => true
  | .fr _ => true
  | .any => true
  | _ => false
def AV.safe2 : AV → Bool
  | .agg cs => cs.all AV.safe1
  | X => X.safe1
def AV.safe3 : AV → Bool
  | .tup cs => cs.all AV.safe2
  | X => X.safe2
/-- The contract of a function that makes a row of its own and hands it over. -/
def CtrO (P : Program) (J : World → Prop) (f : FuncId) (args : List AV) (k : Nat) (Y : ABlk) (u : AV) : Prop :=
  ∀ (w : World) (vs : Array Value), (∀ w', Below w.heap.size w w' → J w') → vs.size = args.length → (∀ j (hj : j < args.length), Pu (fun _ => True) w (fun b => b < w.heap.size) args[j] (vs.getD j undef)) →
    Calls P f vs w fun e w' => ∃ v nm, e = .returned v ∧ (∀ b c n, nm = .at b c n → w.heap.size ≤ b ∧ b < w'.heap.size) ∧ BlkR (single k nm) w' w.heap.size nm Y ∧ Rel (single k nm) w.heap.size w' u v ∧ Below w.heap.size w w'
section
variable {ρ : Names} {B : Nat} {w w' : World}
theorem rel_safe1 {ρ' : Names} {B' : Nat} (hp : ∀ X x, Pu (B ≤ ·) w' (okOf ρ) (.fr X) x → Pu (B' ≤ ·) w' (okOf ρ') (.fr X) x) (hn : ∀ j nm, ρ j = some nm → ρ' j = some nm) {X : AV} {x : Value} (hs : X.safe1 = true) (h : Rel ρ B w' X x) : Rel ρ' B' w' X x := by
  cases h with
  | pu h =>
    cases h with
    | v _ => exact .pu (.v _)
    | any _ => exact .anyR
    | fr h => exact .pu (hp _ _ (.fr h))
    | _ => cases hs
  | own h => exact .own (hn _ _ h)
  | _ => cases hs
theorem rel_safe2 {ρ' : Names} {B' : Nat} (hp : ∀ X x, Pu (B ≤ ·) w' (okOf ρ) (.fr X) x → Pu (B' ≤ ·) w' (okOf ρ') (.fr X) x) (hn : ∀ j nm, ρ j = some nm → ρ' j = some nm) {X : AV} {x : Value} (hs : X.safe2 = true) (h : Rel ρ B w' X x) : Rel ρ' B' w' X x := by
  cases X with
  | agg cs =>
    obtain ⟨vs, rfl, hl, hc⟩ := h.agg_inv
    exact .agg hl fun j hj => rel_safe1 hp hn (List.all_eq_true.1 hs _ (List.getElem_mem hj)) (hc j hj)
  | _ => exact rel_safe1 hp hn hs h
theorem rel_safe3 {ρ' : Names} {B' : Nat} (hp : ∀ X x, Pu (B ≤ ·) w' (okOf ρ) (.fr X) x → Pu (B' ≤ ·) w' (okOf ρ') (.fr X) x) (hn : ∀ j nm, ρ j = some nm → ρ' j = some nm) {X : AV} {x : Value} (hs : X.safe3 = true) (h : Rel ρ B w' X x) : Rel ρ' B' w' X x := by
  cases X with
  | tup cs =>
    obtain ⟨vs, rfl, hl, hc⟩ := h.tup_inv
    exact .tup hl fun j hj => rel_safe2 hp hn (List.all_eq_true.1 hs _ (List.getElem_mem hj)) (hc j hj)
  | _ => exact rel_safe2 hp hn hs h
theorem owns_mono {e z n B' : Nat} {v : Value} {xs : List Value} (h : w.ownsRow B e z v n xs) (hb : B' ≤ B) : w.ownsRow B' e z v n xs := by
  obtain ⟨h1, h2⟩ := h
  refine ⟨h1, ?_⟩
  rcases h2 with h2 | ⟨g, cap, cur, rfl, h3, h4⟩
  · exact .inl h2
  · exact .inr ⟨g, cap, cur, rfl, Nat.le_trans hb h3, h4⟩
end
section
variable {P : Program} {o : Oper}
theorem sp_callO {c : Operand} {xs : Array Operand} {ats : Array TypeId} {f : FuncId} {Xs Ys : List AV} {u : AV} {k e z n : Nat} {cs : List AV} (rd : List (Nat × ABlk)) (hC : CtrO P J f Ys k (.row true e z n cs) u) (ho : o.op = .call { callee := .value c, args := xs, argTypes := ats })
    (hf : (P.funcs[f]?).map (fun fn => (fn.name == "runtime.NumGoroutine") || fn.body.isNone) = some false) (hl : xs.size = Xs.length) (hv : Xs.map (AV.view rd) = Ys) (hfl : Xs.all AV.flat2 = true) (hs : u.safe3 = true) :
    ASpec P J o ((c, .v (.func (.func f) #[] #[])) :: xs.toList.zip Xs) rd u (.new k (.row true e z n cs)) := by
  subst hv
  intro ρ B a w K Q hwf hB hJ ha hr hnew hk
  refine upon_call ho (ha (c, .v (.func (.func f) #[] #[])) (by simp)).v_inv hf ?_
  rw [Array.append_empty]
  refine (hC w (xs.map a.eval) (fun w' h => hJ w' (below_beyond h)) (by simpa using hl) fun j hj => ?_).mono fun e' w' ⟨v, nm, he, hnm, hblk, hrel, hb⟩ => ⟨v, he, hk (upd ρ k nm) w' v ?_⟩
  · have hj1 : j < Xs.length := by simpa using hj
    have hj2 : j < xs.size := by omega
    rw [List.getElem_map]
    have hm : (xs[j], Xs[j]) ∈ (c, AV.v (.func (.func f) #[] #[])) :: xs.toList.zip Xs := by
      refine List.mem_cons_of_mem _ ?_
      rw [List.mem_iff_getElem]
      exact ⟨j, by simp; omega, by simp⟩
    have := (ha _ hm).view hwf hr (List.all_eq_true.1 hfl _ (List.getElem_mem hj1))
    simpa [Array.getD, hj2] using this
  · have hok : ∀ b, okOf (single k nm) b → w.heap.size ≤ b → okOf (upd ρ k nm) b := fun b hb1 hb2 j c' n' hj => by
      by_cases e1 : j = k
      · subst e1
        rw [upd_same] at hj
        exact hb1 j c' n' (by rw [single_same]; exact hj)
      · rw [upd_other e1] at hj
        have := (hwf.lo _ _ _ _ hj).2
        omega
    have hn : ∀ j x, single k nm j = some x → upd ρ k nm j = some x := fun j x hj => by
      obtain ⟨rfl, rfl⟩ := single_at hj
      exact upd_same _ _ _
    refine ⟨rfl, hb.os, hb.tape, hb.output, hb.size, fun b hb' _ => hb.block b hb', fun j hj => upd_other fun e1 => hj (by rw [e1]; rfl), (fun _ _ h => by cases h), fun k' X he' => ?_, rel_safe3 (fun X x h => ?_) hn hs hrel⟩
    · cases he'
      refine ⟨nm, upd_same _ _ _, fun b c' n' e1 => ⟨(hnm b c' n' e1).2, .inl (Nat.le_trans hB (hnm b c' n' e1).1), .inl (hnm b c' n' e1).1⟩, ?_⟩
      obtain ⟨ys, h1, h2, h3⟩ := hblk
      exact ⟨ys, owns_mono h1 (show rowB true B ≤ rowB true w.heap.size from hB), h2, fun j hj => (h3 j hj).mono (fun b hb1 hw => ⟨⟨hok b hb1.1 (hb1.2 rfl).1, fun _ => ⟨Nat.le_trans hB (hb1.2 rfl).1, (hb1.2 rfl).2⟩⟩, hw, rfl⟩) fun b _ h => Nat.le_trans hB h⟩
    · cases h with
      | fr h => exact .fr (h.mono (fun b hb1 hw => ⟨⟨hok b hb1.1 hb1.2.1, Nat.le_trans hB hb1.2.1, hb1.2.2⟩, hw, rfl⟩) fun b _ h => Nat.le_trans hB h)
end
/-- A result with the name k0 in it, as it is handed over by the name k. -/
def AV.ren1 (k0 k : Nat) : AV → AV
  | .v x => .v x
  | .fr X => .fr X
  | .own j => if j = k0 then .own k else .any
  | _ => .any
def AV.ren2 (k0 k : Nat) : AV → AV
  | .agg cs => .agg (cs.map (AV.ren1 k0 k))
  | X => X.ren1 k0 k
def AV.ren3 (k0 k : Nat) : AV → AV
  | .tup cs => .tup (cs.map (AV.ren2 k0 k))
  | X => X.ren2 k0 k
section
variable {w0 : Wb} {ρ : Names} {h : AHeap} {t : ATm} {a : Act} {w : World} {k0 k : Nat} {nm : Nm}
theorem rel_ren1 (hk : ρ k0 = some nm) {X : AV} {x : Value} (hr : Rel ρ w0.heap.size w X x) : Rel (single k nm) w0.heap.size w (X.ren1 k0 k) x := by
  cases hr with
  | pu hr =>
    cases hr with
    | v x => exact .pu (.v x)
    | fr hr =>
      exact .pu (.fr (hr.weak fun b hb => ⟨fun j c n hj => by
        obtain ⟨rfl, e⟩ := single_at hj
        exact hb.1 k0 c n (by rw [hk, ← e]), hb.2⟩))
    | _ => exact .anyR
  | own hj =>
    rename_i j nm'
    simp only [AV.ren1]
    split
    · rename_i e
      subst e
      rw [hk] at hj; cases hj
      exact .own (single_same _ _)
    · exact .anyR
  | _ => exact .anyR
theorem rel_ren2 (hk : ρ k0 = some nm) {X : AV} {x : Value} (hr : Rel ρ w0.heap.size w X x) : Rel (single k nm) w0.heap.size w (X.ren2 k0 k) x := by
  cases X with
  | agg cs =>
    obtain ⟨vs, rfl, hl, hc⟩ := hr.agg_inv
    exact .agg (by simpa using hl) fun j hj => by rw [List.getElem_map]; exact rel_ren1 hk (hc j (by simpa using hj))
  | _ => exact rel_ren1 hk hr
theorem rel_ren3 (hk : ρ k0 = some nm) {X : AV} {x : Value} (hr : Rel ρ w0.heap.size w X x) : Rel (single k nm) w0.heap.size w (X.ren3 k0 k) x := by
  cases X with
  | tup cs =>
    obtain ⟨vs, rfl, hl, hc⟩ := hr.tup_inv
    exact .tup (by simpa using hl) fun j hj => by rw [List.getElem_map]; exact rel_ren2 hk (hc j (by simpa using hj))
  | _ => exact rel_ren2 hk hr
end
def RetO (w0 : Wb) (k : Nat) (Y : ABlk) (u : AV) (e : Ending) (w' : World) : Prop :=
  ∃ v nm, e = .returned v ∧ (∀ b c n, nm = .at b c n → w0.heap.size ≤ b ∧ b < w'.heap.size) ∧ BlkR (single k nm) w' w0.heap.size nm Y ∧ Rel (single k nm) w0.heap.size w' u v ∧ Bel w0 w'
section
variable {P : Program} {w0 : Wb} {h : AHeap} {t : ATm}
theorem Sat.give {ρ : Names} {a : Act} {w : World} (s : Sat J w0 ρ h t a w) {k0 k e z n : Nat} {cs : List AV} (hk : h k0 = some (.row true e z n cs)) {X u : AV} {x : Value} (hr : Rel ρ w0.heap.size w X x) (hu : X.ren3 k0 k = u) : RetO w0 k (.row true e z n cs) u (.returned x) w := by
  subst hu
  obtain ⟨nm, h1, hb0⟩ := s.hp _ _ hk
  obtain ⟨ys, h2, h3, h4⟩ := hb0
  refine ⟨x, nm, rfl, fun b c n' e => by exact ⟨(show BlkR ρ w w0.heap.size nm (.row true _ z n cs) from ⟨ys, h2, h3, h4⟩).lowR e, by subst e; exact (s.wf.lo _ _ _ _ h1).2⟩, ⟨ys, h2, h3, fun j hj => (h4 j hj).weak fun b hb => ⟨fun j c n hj => ?_, hb.2⟩⟩, rel_ren3 h1 hr, s.bel⟩
  obtain ⟨rfl, e⟩ := single_at hj
  exact hb.1 k0 c n (by rw [h1, ← e])
theorem tri_give1 {fn : Func} {r : ResultVar} {X u : AV} (k0 : Nat) {k e z n : Nat} {cs : List AV} (hr : fn.results = #[r]) (h1 : ResV P h t r X) (hk : h k0 = some (.row true e z n cs)) (hu : X.ren3 k0 k = u) : ETri J w0 h t (bodyPost P fn (RetO w0 k (.row true e z n cs) u) .ret) := fun ρ a w s => by
  obtain ⟨v, g1, g2⟩ := res_one s h1
  refine ⟨s.df, v, ?_, s.give hk g2 hu⟩
  unfold results
  rw [hr, Sem.run_bind, mapM_one (v := v) (by cases r <;> exact g1)]
  rfl
theorem ctrO_of_tri {f : FuncId} {fn : Func} {c : Code} {args : List AV} {k : Nat} {Y : ABlk} {u : AV} (hf : P.funcs[f]? = some fn) (hb : fn.body = some c) (hpl : ∀ X ∈ args, Plain X) {n : Nat} (hnt : fn.ntmps = n) (hna : args.length ≤ n)
    (H : ∀ w0, ETri J w0 (ofL []) (ofT n ((List.range args.length).zip args)) (c.wp P (bodyPost P fn (RetO w0 k Y u)))) : CtrO P J f args k Y u := fun w vs hJ hl hv => by
  refine (calls_of_wp hf hb (H ⟨w, fun _ => False, fun _ => none⟩ ⟨fun _ => none, fun _ => False⟩ _ w ⟨⟨(fun _ _ _ _ _ _ _ h => by cases h), (fun _ _ _ _ h => by cases h)⟩, rfl, Bel.refl _, (fun w' h => hJ w' (h.below fun _ h => h)), (fun _ _ h => by cases h), fun _ _ _ => rfl, fun _ _ => rfl, by simp [hl, hnt, ofT]; omega, fun i hi => ?_, rfl⟩)).mono fun e w' ⟨v, nm, q1, q2, q3, q4, q5⟩ => ⟨v, nm, q1, q2, q3, q4, q5.below fun _ h => h⟩
  simp only [ofT]
  cases hf : ((List.range args.length).zip args).find? fun p => p.1 == i with
  | none => exact .anyR
  | some p =>
    have hm := List.mem_of_find?_eq_some hf
    have hk' : p.1 = i := by have := List.find?_some hf; simpa using this
    obtain ⟨j, hj, e⟩ := List.getElem_of_mem hm
    simp only [List.getElem_zip, List.getElem_range] at e
    subst e
    dsimp only at hk'
    subst hk'
    have hj1 : j < args.length := by simp at hj; omega
    simp only [Option.map_some, Option.getD_some]
    have := (hv j hj1).plain (F' := (w.heap.size ≤ ·)) (hpl _ (List.getElem_mem hj1))
    have hj2 : j < vs.size := by omega
    have e : (vs ++ Array.replicate (fn.ntmps - vs.size) undef).getD j undef = vs.getD j undef := by simp [Array.getD, hj2, Array.getElem_append_left hj2]; omega
    rw [e]
    exact .pu (this.weak fun b _ k c n hk => by cases hk)
end
end Go.Proofs.YtbbglendddepfaaDoor

namespace Go.Proofs.YtbbglendddepfaaDoor
open Go.RowKit Go.Deep
variable {J : World → Prop}
/-- The names of a callee that was handed one block. -/
def lent (k : Nat) (nm : Nm) : Names := ⟨fun j => if j = k then some nm else none, fun b => ∃ c n, nm = .at b c n⟩
def RetW (w0 : Wb) (k : Nat) (Y' : ABlk) (u : AV) (e : Ending) (w' : World) : Prop :=
  ∃ v ρ nm, e = .returned v ∧ (∀ j, j < hand → Names.f ρ j = none) ∧ (∀ j, hand ≤ j → Names.f ρ j = w0.N j) ∧ ρ.H = w0.H ∧ ρ k = some nm ∧ BlkR ρ w' w0.heap.size nm Y' ∧ Rel ρ w0.heap.size w' u v ∧ Bel w0 w'
section
variable {P : Program} {w0 : Wb} {h : AHeap} {t : ATm} {k : Nat} {Y' : ABlk}
theorem Sat.back {ρ : Names} {a : Act} {w : World} (s : Sat J w0 ρ h t a w) (hk : hand ≤ k) (hY : (h k).map (ABlk.wk (keepL []) h) = some Y') {X u : AV} {x : Value} (hr : Rel ρ w0.heap.size w X x) (hu : X.wk3 (keepL []) h = u) : RetW w0 k Y' u (.returned x) w := by
  subst hu
  obtain ⟨Y, hY0, rfl⟩ := Option.map_eq_some_iff.1 hY
  obtain ⟨nm, h1, h2⟩ := s.hp k Y hY0
  have hkb : keepL [] k = true := by unfold keepL; rw [Bool.or_eq_true]; exact .inr (Nat.ble_eq ▸ hk)
  refine ⟨x, kept (keepL []) ρ, nm, rfl, fun j hj => kept_no ?_, fun j hj => (kept_yes (by unfold keepL; rw [Bool.or_eq_true]; exact .inr (Nat.ble_eq ▸ hj))).trans (s.pin j hj), s.hH, (kept_yes hkb).trans h1, ?_, rel_wk3 s.wf s.hp hr, s.bel⟩
  · unfold keepL
    simp only [List.any_nil, Bool.false_or]
    cases e : Nat.ble hand j with
    | false => rfl
    | true => have := Nat.le_of_ble_eq_true e; omega
  · cases Y with
    | box T cs =>
      obtain ⟨b, c, n, vs, rfl, q1, q2, q3⟩ := h2
      exact ⟨b, c, n, vs, rfl, q1, by simpa using q2, fun j hj => by rw [List.getElem_map]; exact rel_wk1 s.wf s.hp (q3 j (by simpa using hj))⟩
    | row fr e z n cs =>
      obtain ⟨xs, q1, q2, q3⟩ := h2
      refine ⟨xs, q1, q2, fun j hj => (q3 j hj).weak fun b hb => ⟨fun k c n hk => ?_, hb.2⟩⟩
      dsimp only [kept] at hk
      split at hk
      · exact hb.1 _ _ _ hk
      · cases hk
end
theorem Rel.viewG {ρ : Names} {B : Nat} {w : World} {rd : List (Nat × ABlk)} {ok : Nat → Prop} (ho : ∀ b, okOf ρ b → b < w.heap.size → ok b) (hr : ∀ p ∈ rd, ∃ nm, ρ p.1 = some nm ∧ BlkR ρ w B nm p.2) (hn : ∀ p ∈ rd, ∀ b c n, ρ p.1 = some (.at b c n) → ok b) {X : AV} {x : Value} (h : Rel ρ B w X x) (hf : X.flat1 = true) : Pu (fun _ => True) w ok (X.view1 rd) x := by
  cases h with
  | pu h =>
    have lift : ∀ {X : AV} {x : Value} {ok' : Nat → Prop}, (∀ b, ok' b → okOf ρ b) → Pu (B ≤ ·) w ok' X x → Pu (fun _ => True) w ok X x := fun hs h => h.mono (fun b hb hw => ⟨ho b (hs b hb) hw, hw, rfl⟩) fun _ _ _ => trivial
    cases h with
    | fr h => exact lift (fun _ h => h.1) h
    | old h => exact lift (fun _ h => h.1) h
    | any x => exact .any x
    | v x => exact .v x
    | agg hl h => exact lift (fun _ h => h) (Pu.agg hl h)
    | tup hl h => exact lift (fun _ h => h) (Pu.tup hl h)
    | clo hl h => exact lift (fun _ h => h) (Pu.clo hl h)
    | sl0 h2 hz => exact .sl0 h2 hz
    | sl hc h1 h2 hb hw hq h => exact lift (fun _ h => h) (Pu.sl hc h1 h2 hb hw hq h)
    | el hb hw hq h => exact lift (fun _ h => h) (Pu.el hb hw hq h)
  | box h => exact .any _
  | own h =>
    rename_i k nm
    simp only [AV.view1]
    split
    · rename_i q fr e z n cs hq
      have hmem := List.mem_of_find?_eq_some hq
      obtain ⟨nm', h1, h2⟩ := hr _ hmem
      have hqk : q = k := by have := List.find?_some hq; simpa using this
      have hn' := hn _ hmem
      rw [hqk, h] at h1
      cases h1
      refine erow_sl h2 (fun b c m e => hn' b c m (by rw [hqk, h, e])) (fun b hb hw => ho b hb.1 hw) fun _ _ _ => trivial
    · exact .any _
  | agg hl h => cases hf
  | tup hl h => cases hf
  | clo hl h => cases hf
section
variable {ρ : Names} {B B' : Nat} {w' : World} {k kc : Nat} {nm : Nm}
end
section
variable {ρ ρ' : Names} {B B' : Nat} {w' : World}
end
end Go.Proofs.YtbbglendddepfaaDoor

namespace Go.Proofs.YtbbglendddepfaaDoor
open Go.RowKit Go.Deep
variable {J : World → Prop}
/-- Plain, or a reference. -/
inductive PlainW : AV → Prop
  | pl {X : AV} (h : Plain X) : PlainW X
  | box (k o : Nat) : PlainW (.box k o)
  | own (k : Nat) : PlainW (.own k)
  | agg {cs : List AV} (h : ∀ j (hj : j < cs.length), PlainW cs[j]) : PlainW (.agg cs)
theorem PlainW.pu {F F' ok : Nat → Prop} {w : World} {Z : AV} (hp : PlainW Z) : ∀ {x : Value}, Pu F w ok Z x → Pu F' w ok Z x := by
  induction hp with
  | pl h => exact fun hx => hx.plain h
  | box k o => intro x hx; cases hx
  | own k => intro x hx; cases hx
  | agg h ih => intro x hx; cases hx with | agg hl hc => exact .agg hl fun j hj => ih j hj (hc j hj)
section
variable {ρ : Names} {B : Nat} {w : World} {rd : List (Nat × ABlk)} {k kc : Nat} {nm : Nm}
end
section
variable {P : Program} {o : Oper}
end
end Go.Proofs.YtbbglendddepfaaDoor

namespace Go.Proofs.YtbbglendddepfaaDoor
open Go.RowKit Go.Deep
variable {J : World → Prop}
/-- The call was handed nothing. -/
def Bare (w0 : Wb) : Prop := (∀ b, ¬ w0.H b) ∧ ∀ k, w0.N k = none
/-- A result with the name k0 in it; what it reads besides. -/
def AV.renA1 (k0 k : Nat) : AV → AV
  | .own j => if j = k0 then .own k else .any
  | .box _ _ => .any
  | .agg _ => .any
  | .tup _ => .any
  | .clo _ _ => .any
  | X => X
def AV.renA2 (k0 k : Nat) : AV → AV
  | .agg cs => .agg (cs.map (AV.renA1 k0 k))
  | X => X.renA1 k0 k
def AV.renA3 (k0 k : Nat) : AV → AV
  | .tup cs => .tup (cs.map (AV.renA2 k0 k))
  | X => X.renA2 k0 k
/-- The call was lent one block. -/
structure One (w0 : Wb) (g : Nat) : Prop where
  H : ∀ b, w0.H b → b = g
  N : w0.N hand = some (.at g 0 0)
/-- Two names: a row of the call's own; the box that it was lent. -/
def two (k : Nat) (nm : Nm) (g : Nat) : Names := ⟨fun j => if j = k then some nm else if j = hand then some (.at g 0 0) else none, fun b => b = g⟩
theorem two_same (k : Nat) (nm : Nm) (g : Nat) : two k nm g k = some nm := if_pos rfl
theorem two_hand {k : Nat} (hk : k < hand) (nm : Nm) (g : Nat) : two k nm g hand = some (.at g 0 0) := (if_neg (by omega)).trans (if_pos rfl)
theorem two_at {k j : Nat} {nm x : Nm} {g : Nat} (h : two k nm g j = some x) : (j = k ∧ x = nm) ∨ (j = hand ∧ x = .at g 0 0) := by
  dsimp only [two] at h
  split at h
  · rename_i e; exact .inl ⟨e, (Option.some.inj h).symm⟩
  · split at h
    · rename_i e; exact .inr ⟨e, (Option.some.inj h).symm⟩
    · cases h
section
variable {ρ : Names} {k0 k g : Nat} {nm : Nm}
theorem ok_two (hk : ρ k0 = some nm) (hg : ρ hand = some (.at g 0 0)) {b : Nat} (hb : okOf ρ b) : okOf (two k nm g) b := fun j c n hj => by
  rcases two_at hj with ⟨rfl, e⟩ | ⟨rfl, e⟩
  · exact hb k0 c n (by rw [hk, ← e])
  · exact hb hand c n (by rw [hg, ← e])
end
section
variable {ρ ρ' : Names} {B B' : Nat} {w : World} {k0 k : Nat} {nm : Nm}
theorem rel_renA1 (hp : ∀ X x, Pu (B ≤ ·) w (okOf ρ) X x → Pu (B' ≤ ·) w (okOf ρ') X x) (hk : ρ k0 = some nm) (hk' : ρ' k = some nm) {X : AV} {x : Value} (hr : Rel ρ B w X x) : Rel ρ' B' w (X.renA1 k0 k) x := by
  cases hr with
  | pu hr =>
    have hw := hp _ _ hr
    cases hr with
    | agg hl h => exact .anyR
    | tup hl h => exact .anyR
    | clo hl h => exact .anyR
    | _ => exact .pu hw
  | own hj =>
    rename_i j nm'
    simp only [AV.renA1]
    split
    · rename_i e
      subst e
      rw [hk] at hj; cases hj
      exact .own hk'
    · exact .anyR
  | _ => exact .anyR
theorem rel_renA2 (hp : ∀ X x, Pu (B ≤ ·) w (okOf ρ) X x → Pu (B' ≤ ·) w (okOf ρ') X x) (hk : ρ k0 = some nm) (hk' : ρ' k = some nm) {X : AV} {x : Value} (hr : Rel ρ B w X x) : Rel ρ' B' w (X.renA2 k0 k) x := by
  cases X with
  | agg cs =>
    obtain ⟨vs, rfl, hl, hc⟩ := hr.agg_inv
    exact .agg (by simpa using hl) fun j hj => by rw [List.getElem_map]; exact rel_renA1 hp hk hk' (hc j (by simpa using hj))
  | _ => exact rel_renA1 hp hk hk' hr
theorem rel_renA3 (hp : ∀ X x, Pu (B ≤ ·) w (okOf ρ) X x → Pu (B' ≤ ·) w (okOf ρ') X x) (hk : ρ k0 = some nm) (hk' : ρ' k = some nm) {X : AV} {x : Value} (hr : Rel ρ B w X x) : Rel ρ' B' w (X.renA3 k0 k) x := by
  cases X with
  | tup cs =>
    obtain ⟨vs, rfl, hl, hc⟩ := hr.tup_inv
    exact .tup (by simpa using hl) fun j hj => by rw [List.getElem_map]; exact rel_renA2 hp hk hk' (hc j (by simpa using hj))
  | _ => exact rel_renA2 hp hk hk' hr
end
/-- The block g holds these values, unmarked. -/
def Holds (w : World) (g : Nat) (T : TypeId) (A : List Value) : Prop := ∃ ws, w.heap[g]? = some (.cells ws T (0, 0)) ∧ ws.toList = A
/-- The contract of a function that leaves a box as it is, reads its arguments, hands over a row of its own. -/
def CtrL (P : Program) (f : FuncId) (args : List AV) (T : TypeId) (A : List Value) (k : Nat) (Y : ABlk) (u : AV) : Prop :=
  ∀ (w : World) (vs : Array Value) (g : Nat), vs.size = args.length → Holds w g T A → (∀ j (hj : j < args.length), Pu (fun _ => True) w (fun b => b < w.heap.size ∧ b ≠ g) args[j] (vs.getD j undef)) →
    Calls P f vs w fun e w' => ∃ v nm, e = .returned v ∧ (∀ b c n, nm = .at b c n → w.heap.size ≤ b ∧ b < w'.heap.size) ∧ BlkR (two k nm g) w' w.heap.size nm Y ∧ Rel (two k nm g) w.heap.size w' u v ∧ Below w.heap.size w w'
def RetL (w0 : Wb) (g : Nat) (T : TypeId) (A : List Value) (k : Nat) (Y : ABlk) (u : AV) (e : Ending) (w' : World) : Prop :=
  ∃ v nm, e = .returned v ∧ (∀ b c n, nm = .at b c n → w0.heap.size ≤ b ∧ b < w'.heap.size) ∧ BlkR (two k nm g) w' w0.heap.size nm Y ∧ Rel (two k nm g) w0.heap.size w' u v ∧ Bel w0 w' ∧ Holds w' g T A
section
variable {P : Program} {w0 : Wb} {h : AHeap} {t : ATm}
theorem Sat.giveL {ρ : Names} {a : Act} {w : World} {g : Nat} {T : TypeId} {A : List Value} (hg : One w0 g) (s : Sat J w0 ρ h t a w) {k0 k e z n : Nat} {fr : Bool} {cs : List AV} (hb : h hand = some (.box T (A.map .v))) (hk : h k0 = some (.row fr e z n cs)) (hk0 : Nat.blt k0 hand = true) {X u : AV} {x : Value} (hr : Rel ρ w0.heap.size w X x) (hu : X.renA3 k0 k = u) : RetL w0 g T A k (.row fr e z n cs) u (.returned x) w := by
  subst hu
  have hk0 := blt_hand hk0
  obtain ⟨nm, h1, hb1⟩ := s.hp _ _ hk
  obtain ⟨ys, h2, h3, h4⟩ := hb1
  have hgN : ρ hand = some (.at g 0 0) := (s.pin hand (Nat.le_refl _)).trans hg.N
  refine ⟨x, nm, rfl, fun b c n' e => ?_, ⟨ys, h2, h3, fun j hj => (h4 j hj).weak fun b hb => ⟨ok_two h1 hgN hb.1, hb.2⟩⟩, rel_renA3 (fun _ _ h => h.weak fun _ hb => ok_two h1 hgN hb) h1 (two_same _ _ _) hr, s.bel, ?_⟩
  · subst e
    have h5 := s.wf.lo _ _ _ _ h1
    refine ⟨h5.1.elim id fun hh => absurd hh ?_, h5.2⟩
    rw [s.hH]
    intro hH
    have e1 := hg.H b hH
    subst e1
    have := s.wf.inj _ _ _ _ _ _ _ h1 hgN
    omega
  · obtain ⟨nm', q1, b, c, n', vs, q2, q3, q4, q5⟩ := s.hp _ _ hb
    rw [hgN] at q1
    cases q1
    cases q2
    refine ⟨vs, q3, List.ext_getElem (by simpa using q4) fun i hi hi' => ?_⟩
    have := q5 i (by simpa using hi')
    simp only [List.getElem_map] at this
    have e1 := this.v_inv
    have hi2 : i < vs.size := by simpa using hi
    simp only [Array.getD, hi2, dif_pos] at e1
    simpa using e1
theorem mapM_three {f : ResultVar → Sem Value} {r r' r'' : ResultVar} {w : World} {v v' v'' : Value} (h : (f r).run P w = .ok v w) (h' : (f r').run P w = .ok v' w) (h'' : (f r'').run P w = .ok v'' w) : (#[r, r', r''].mapM f).run P w = .ok #[v, v', v''] w := by
  rw [Array.mapM_eq_mapM_toList]; simp [List.mapM_cons, h, h', h'']
theorem tri_giveL3 {fn : Func} {r r' r'' : ResultVar} {X X' X'' u : AV} {g : Nat} {T : TypeId} {A : List Value} (hg : One w0 g) (k0 : Nat) {k e z n : Nat} {fr : Bool} {cs : List AV} (hr : fn.results = #[r, r', r'']) (h1 : ResV P h t r X) (h2 : ResV P h t r' X') (h3 : ResV P h t r'' X'') (hb : h hand = some (.box T (A.map .v))) (hk : h k0 = some (.row fr e z n cs)) (hk0 : Nat.blt k0 hand = true) (hu : (AV.tup [X, X', X'']).renA3 k0 k = u) : ETri J w0 h t (bodyPost P fn (RetL w0 g T A k (.row fr e z n cs) u) .ret) := fun ρ a w s => by
  obtain ⟨v, g1, g2⟩ := res_one s h1
  obtain ⟨v', g1', g2'⟩ := res_one s h2
  obtain ⟨v'', g1'', g2''⟩ := res_one s h3
  refine ⟨s.df, .tuple #[v, v', v''], ?_, s.giveL hg hb hk hk0 (.tup rfl fun j hj => ?_) hu⟩
  · unfold results
    rw [hr, Sem.run_bind, mapM_three (v := v) (v' := v') (v'' := v'') (by cases r <;> exact g1) (by cases r' <;> exact g1') (by cases r'' <;> exact g1'')]
    rfl
  · simp only [List.length_cons, List.length_nil] at hj
    match j, hj with
    | 0, _ => exact g2
    | 1, _ => exact g2'
    | 2, _ => exact g2''
theorem start_slots {J : World → Prop} {args : List AV} {n : Nat} {w : World} {vs : Array Value} (hl : vs.size = args.length) (hpl : ∀ X ∈ args, Plain X) (hna : args.length ≤ n)
    (hv : ∀ j (hj : j < args.length), Pu (fun _ => True) w (fun b => b < w.heap.size) args[j] (vs.getD j undef)) (hJ : ∀ w', Below w.heap.size w w' → J w') {m : Nat} (hm : m = n) :
    Sat J ⟨w, fun _ => False, fun _ => none⟩ ⟨fun _ => none, fun _ => False⟩ (ofL []) (ofT n ((List.range args.length).zip args)) ⟨vs ++ Array.replicate (m - vs.size) undef, []⟩ w := by
  subst hm
  refine ⟨⟨(fun _ _ _ _ _ _ _ h => by cases h), (fun _ _ _ _ h => by cases h)⟩, rfl, Bel.refl _, (fun w' h => hJ w' (h.below fun _ h => h)), (fun _ _ h => by cases h), fun _ _ _ => rfl, fun _ _ => rfl, by simp [hl, ofT]; omega, fun i hi => ?_, rfl⟩
  simp only [ofT]
  cases hf : ((List.range args.length).zip args).find? fun p => p.1 == i with
  | none => exact .anyR
  | some p =>
    have hm := List.mem_of_find?_eq_some hf
    have hk' : p.1 = i := by have := List.find?_some hf; simpa using this
    obtain ⟨j, hj, e⟩ := List.getElem_of_mem hm
    simp only [List.getElem_zip, List.getElem_range] at e
    subst e
    dsimp only at hk'
    subst hk'
    have hj1 : j < args.length := by simp at hj; omega
    simp only [Option.map_some, Option.getD_some]
    have := (hv j hj1).plain (F' := (w.heap.size ≤ ·)) (hpl _ (List.getElem_mem hj1))
    have hj2 : j < vs.size := by omega
    have e : (vs ++ Array.replicate (m - vs.size) undef).getD j undef = vs.getD j undef := by simp [Array.getD, hj2, Array.getElem_append_left hj2]; omega
    rw [e]
    exact .pu (this.weak fun b _ k c n hk => by cases hk)
theorem ctrL_of_tri {f : FuncId} {fn : Func} {c : Code} {args : List AV} {T : TypeId} {A : List Value} {k : Nat} {Y : ABlk} {u : AV} (hf : P.funcs[f]? = some fn) (hb : fn.body = some c) (hpl : ∀ X ∈ args, Plain X) {n : Nat} (hnt : fn.ntmps = n) (hna : args.length ≤ n)
    (H : ∀ w0 g, One w0 g → ETri (fun _ => True) w0 (ofL [(hand, .box T (A.map .v))]) (ofT n ((List.range args.length).zip args)) (c.wp P (bodyPost P fn (RetL w0 g T A k Y u)))) : CtrL P f args T A k Y u := fun w vs g hl hh hv => by
  obtain ⟨ws, h1, h2⟩ := hh
  have hgs : g < w.heap.size := (Array.getElem?_eq_some_iff.1 h1).1
  have hat : ∀ j x, (⟨fun j => if j = hand then some (.at g 0 0) else none, fun b => b = g⟩ : Names) j = some x → j = hand ∧ x = .at g 0 0 := fun j x hj => by
    dsimp only at hj
    split at hj
    · rename_i e; exact ⟨e, (Option.some.inj hj).symm⟩
    · cases hj
  refine (calls_of_wp hf hb (H ⟨w, fun b => b = g, fun j => if j = hand then some (.at g 0 0) else none⟩ g ⟨fun _ h => h, show (if hand = hand then some (Nm.at g 0 0) else none) = _ from if_pos rfl⟩ ⟨fun j => if j = hand then some (.at g 0 0) else none, fun b => b = g⟩ _ w ⟨⟨fun j j' b c d m m' q1 q2 => (hat _ _ q1).1.trans (hat _ _ q2).1.symm, fun j b c m hj => ?_⟩, rfl, Bel.refl _, (fun _ _ => trivial), fun j X hj => ?_, fun j hj _ => if_neg (by omega), fun _ _ => rfl, by simp [hl, hnt, ofT]; omega, fun i hi => ?_, rfl⟩)).mono fun e w' ⟨v, nm, q1, q2, q3, q4, q5, q6⟩ => ⟨v, nm, q1, q2, q3, q4, ⟨q5.os, q5.tape, q5.output, q5.size, fun b hb => ?_⟩⟩
  · have := (hat _ _ hj).2
    cases this
    exact ⟨.inr rfl, hgs⟩
  · simp only [ofL, List.find?_cons, List.find?_nil] at hj
    by_cases e : hand = j
    · subst e
      simp only [beq_self_eq_true, Option.map_some, Option.some.injEq] at hj
      subst hj
      refine ⟨.at g 0 0, show (if hand = hand then some (Nm.at g 0 0) else none) = _ from if_pos rfl, g, 0, 0, ws, rfl, h1, by rw [← h2]; simp, fun j hj => ?_⟩
      simp only [List.getElem_map, ← h2, Array.getElem_toList]
      have hj2 : j < ws.size := by rw [← h2] at hj; simpa using hj
      simp only [Array.getD, hj2, dif_pos]
      exact .pu (.v _)
    · rw [show (hand == j) = false by simpa using e] at hj
      cases hj
  · simp only [ofT]
    cases hf : ((List.range args.length).zip args).find? fun p => p.1 == i with
    | none => exact .anyR
    | some p =>
      have hm := List.mem_of_find?_eq_some hf
      have hk' : p.1 = i := by have := List.find?_some hf; simpa using this
      obtain ⟨j, hj, e⟩ := List.getElem_of_mem hm
      simp only [List.getElem_zip, List.getElem_range] at e
      subst e
      dsimp only at hk'
      subst hk'
      have hj1 : j < args.length := by simp at hj; omega
      simp only [Option.map_some, Option.getD_some]
      have := (hv j hj1).plain (F' := (w.heap.size ≤ ·)) (hpl _ (List.getElem_mem hj1))
      have hj2 : j < vs.size := by omega
      have e : (vs ++ Array.replicate (fn.ntmps - vs.size) undef).getD j undef = vs.getD j undef := by simp [Array.getD, hj2, Array.getElem_append_left hj2]; omega
      rw [e]
      exact .pu (this.weak fun b hb k c n hk => by have := (hat _ _ hk).2; cases this; exact hb.2 rfl)
  · by_cases e : b = g
    · subst e
      obtain ⟨ws', r1, r2⟩ := q6
      rw [r1, h1, show ws' = ws from by rw [← Array.toList_inj, r2, h2]]
    · exact q5.block b hb e
theorem ctrB_of_tri {f : FuncId} {fn : Func} {c : Code} {args : List AV} {u : AV} (hf : P.funcs[f]? = some fn) (hb : fn.body = some c) (hpl : ∀ X ∈ args, Plain X) {n : Nat} (hnt : fn.ntmps = n) (hna : args.length ≤ n)
    (H : ∀ w0, Bare w0 → ETri J w0 (ofL []) (ofT n ((List.range args.length).zip args)) (c.wp P (bodyPost P fn (RetP w0 u)))) : Ctr P J f args u := fun w vs hJ hl hv => by
  refine (calls_of_wp hf hb (H ⟨w, fun _ => False, fun _ => none⟩ ⟨fun _ h => h, fun _ => rfl⟩ ⟨fun _ => none, fun _ => False⟩ _ w (start_slots hl hpl hna hv hJ hnt))).mono fun e w' ⟨v, q1, q2, q3⟩ => ⟨v, q1, q2, q3.below fun _ h => h⟩
end
section
variable {P : Program} {o : Oper}
def AV.rdB : AV → Bool
  | .v _ => true
  | .sl _ _ _ => true
  | .el _ _ => true
  | .fr _ => true
  | .old _ _ => true
  | .any => true
  | _ => false
theorem Rel.rd {ρ : Names} {B : Nat} {w : World} {X : AV} {x : Value} (h : Rel ρ B w X x) (hr : X.rdB = true) : Pu (B ≤ ·) w (okOf ρ) X x := by
  cases h with
  | pu h => exact h
  | _ => cases hr
/-- A variable of the call's own that is only read. -/
theorem sp_boxR {T : TypeId} {X : AV} (x : Operand) (ho : o.op = .box T x) (hc : X.cellsOf.all AV.cell = true) (hp : X.cellsOf.all AV.rdB = true) : ASpec P J o [(x, X)] [] (.el X.cellsOf 0) .no := by
  intro ρ B a w K Q hwf hB _ ha hr hn hk
  have h := ha (x, X) (by simp)
  obtain ⟨h1, h2, h3⟩ := h.cells hc
  unfold Oper.wp
  rw [show (execOp a.eval o).run P w = .ok (.value (.pointer (some ⟨w.heap.size, 0, none⟩))) (w.alloc (.cells (a.eval x).cells T)) by
    simp only [execOp, ho]
    exact run_val (by simp [Instr.box, newVar, newRow])]
  have hok : ∀ b, okOf ρ b → b < w.heap.size → okOf ρ b ∧ b < (w.alloc (.cells (a.eval x).cells T)).heap.size ∧ (w.alloc (.cells (a.eval x).cells T)).heap[b]? = w.heap[b]? := fun b hb hw => ⟨hb, by simp; omega, heap_alloc_old w _ hw⟩
  refine hk ρ _ _ ⟨rfl, rfl, rfl, rfl, by simp, fun b hb _ => heap_alloc_old w _ hb, fun _ _ => rfl, (fun _ _ h => by cases h), (fun _ _ h => by cases h), .pu (.el (b := w.heap.size) (off := 0) (f := fun j => (a.eval x).cells.getD j undef) (fun j c n hj => by have := (hwf.lo _ _ _ _ hj).2; omega) (by simp) (fun j hj => ?_) fun j hj => ?_)⟩
  · have hj' : j < (a.eval x).cells.size := by rw [h1]; exact hj
    rw [Nat.zero_add, cellB (heap_alloc_new w _) j (v := (a.eval x).cells.getD j undef) (by simp [Array.getD, hj'])]
  · exact ((h3 j hj).rd (List.all_eq_true.1 hp _ (List.getElem_mem hj))).mono hok fun _ _ h => h
end
section
variable {P : Program} {w0 : Wb} {o : Oper} {ops : Array Oper} {rest : List Oper} {Q : Exit → Act → World → Prop}
def AV.flatA : AV → Bool
  | .agg cs => cs.all AV.flat1
  | .tup _ => false
  | .clo _ _ => false
  | _ => true
/-- What a callee may read that leaves the named blocks alone. -/
theorem Rel.apart {ρ : Names} {B : Nat} {w : World} {ok : Nat → Prop} (ho : ∀ b, okOf ρ b → b < w.heap.size → ok b) {X : AV} {x : Value} (h : Rel ρ B w X x) (hf : X.flatA = true) : Pu (fun _ => True) w ok (X.view []) x := by
  cases X with
  | agg cs =>
    obtain ⟨vs, rfl, hl, hc⟩ := h.agg_inv
    exact .agg (by simpa using hl) fun j hj => by
      rw [List.getElem_map]
      exact (hc j (by simpa using hj)).viewG (rd := []) ho (fun _ h => by cases h) (fun _ h => by cases h) (List.all_eq_true.1 hf _ (List.getElem_mem _))
  | tup cs => cases hf
  | clo f cs => cases hf
  | _ => exact h.viewG (rd := []) ho (fun _ h => by cases h) (fun _ h => by cases h) rfl
theorem tri_callL {c : Operand} {xs : Array Operand} {ats : Array TypeId} {f : FuncId} {Ys : List AV} {u : AV} {kb k e z n m : Nat} {fr : Bool} {cs : List AV} {T0 : TypeId} {T : List (Nat × AV)} (A : List Value) (Xs : List AV) (hb0 : Bare w0) (hC : CtrL P f Ys T0 A k (.row fr e z n cs) u) (hg : o.guard = none)
    (ho : o.op = .call { callee := .value c, args := xs, argTypes := ats }) (hc : aev (ofT m T) c = .v (.func (.func f) #[] #[])) (hf : (P.funcs[f]?).map (fun fn => (fn.name == "runtime.NumGoroutine") || fn.body.isNone) = some false)
    (hX : xs.toList.map (aev (ofT m T)) = Xs) (hv : Xs.map (AV.view []) = Ys) (hfl : Xs.all AV.flatA = true) (hh : Nat.blt k hand = true) (hne : Nat.blt kb k = true) (hu : u.renA3 k k = u)
    (H : ETri J w0 (ofL [(kb, .box T0 (A.map .v)), (k, .row fr e z n cs)]) (aput (ofT m T) o.dst u) (wpList P ops Q rest)) : ETri J w0 (ofL [(kb, .box T0 (A.map .v))]) (ofT m T) (wpList P ops Q (o :: rest)) := by
  subst hv
  intro ρ a w s
  have hk := blt_hand hh
  have hkb : kb < k := by rw [Nat.blt_eq] at hne; exact hne
  have hnone : ∀ j, j ≠ kb → ρ j = none := fun j hj0 => by
    by_cases hj : j < hand
    · exact s.dom j hj (by simp only [ofL, List.find?_cons, List.find?_nil]; rw [show (kb == j) = false by simpa using fun e => hj0 e.symm]; rfl)
    · exact (s.pin j (by omega)).trans (hb0.2 j)
  obtain ⟨nmb, p1, g, c1, n1, ws, rfl, p3, p4, p5⟩ := s.hp kb (.box T0 (A.map .v)) (by simp [ofL])
  have hH : Holds w g T0 A := by
    refine ⟨ws, p3, List.ext_getElem (by simpa using p4) fun i hi hi' => ?_⟩
    have := p5 i (by simpa using hi')
    simp only [List.getElem_map] at this
    have e1 := this.v_inv
    have hi2 : i < ws.size := by simpa using hi
    simp only [Array.getD, hi2, dif_pos] at e1
    simpa using e1
  refine wpList_plain hg fun K hK => ?_
  have hcv := s.ev c
  rw [hc] at hcv
  refine upon_call ho hcv.v_inv hf ?_
  rw [Array.append_empty]
  have hlen : xs.size = Xs.length := by rw [← hX]; simp
  refine (hC w (xs.map a.eval) g (by simpa using hlen) hH fun j hj => ?_).mono fun e' w' ⟨v, nm, he, hnm, hblk, hrel, hb⟩ => ⟨v, he, hK _ _ (H (upd ρ k nm) _ w' ?_)⟩
  · have hj1 : j < Xs.length := by simpa using hj
    have hj2 : j < xs.size := by omega
    rw [List.getElem_map]
    have h1 := s.ev xs[j]
    have e1 : aev (ofT m T) xs[j] = Xs[j] := by
      have : (xs.toList.map (aev (ofT m T)))[j]'(by simpa using hj2) = Xs[j] := by simp only [hX]
      simpa using this
    rw [e1] at h1
    have := h1.apart (ok := fun b => b < w.heap.size ∧ b ≠ g) (fun b hb hw => ⟨hw, fun e2 => hb kb c1 n1 (by rw [p1, e2])⟩) (List.all_eq_true.1 hfl _ (List.getElem_mem hj1))
    simpa [Array.getD, hj2] using this
  · have hgl := s.wf.lo _ _ _ _ p1
    have hat : ∀ j b c' n', upd ρ k nm j = some (.at b c' n') → (j = k ∧ nm = .at b c' n') ∨ (j = kb ∧ b = g) := fun j b c' n' hj => by
      by_cases e1 : j = k
      · subst e1; rw [upd_same] at hj; exact .inl ⟨rfl, Option.some.inj hj⟩
      · rw [upd_other e1] at hj
        by_cases e2 : j = kb
        · subst e2; rw [p1] at hj; cases hj; exact .inr ⟨rfl, rfl⟩
        · rw [hnone j e2] at hj; cases hj
    have hokS : ∀ b, okOf (two k nm g) b → okOf (upd ρ k nm) b := fun b hb1 j c' n' hj => by
      rcases hat _ _ _ _ hj with ⟨rfl, e1⟩ | ⟨rfl, e1⟩
      · exact hb1 j c' n' (by rw [two_same, e1])
      · subst e1; exact hb1 hand 0 0 (two_hand hk _ _)
    have hold : ∀ X x, Pu (w0.heap.size ≤ ·) w (okOf ρ) X x → Pu (w0.heap.size ≤ ·) w' (okOf (upd ρ k nm)) X x := fun X x hx => hx.mono (fun b hb1 hw => ⟨fun j c' n' hj => by
      rcases hat _ _ _ _ hj with ⟨_, e1⟩ | ⟨rfl, e1⟩
      · have := (hnm _ _ _ e1).1
        omega
      · subst e1; exact hb1 _ _ _ p1, Nat.lt_of_lt_of_le hw hb.size, hb.block b hw⟩) fun _ _ h => h
    have hname : ∀ j nm', ρ j = some nm' → upd ρ k nm j = some nm' := fun j nm' hj => by
      rw [upd_other fun e1 => by rw [e1, hnone k (by omega)] at hj; cases hj]; exact hj
    have hBw : w0.heap.size ≤ w.heap.size := s.bel.size
    refine ⟨⟨fun j1 j2 b c1 d1 m1 n1 h1 h2 => ?_, fun j b c1 n1 hj => ?_⟩, s.hH, s.bel.trans hb, s.inv, fun j X hj => ?_, fun j hl hj => ?_, fun j hj => (upd_other (fun e1 => by omega)).trans (s.pin j hj), by rw [put_size, aput_n]; exact s.tl, rel_put _ s.tl (fun i hi => (s.tm i hi).keep hold hname) ?_, by rw [put_defers]; exact s.df⟩
    · rcases hat _ _ _ _ h1 with ⟨e1, e2⟩ | ⟨e1, e2⟩
      · rcases hat _ _ _ _ h2 with ⟨e3, e4⟩ | ⟨e3, e4⟩
        · rw [e1, e3]
        · have := (hnm _ _ _ e2).1; omega
      · rcases hat _ _ _ _ h2 with ⟨e3, e4⟩ | ⟨e3, e4⟩
        · have := (hnm _ _ _ e4).1; omega
        · rw [e1, e3]
    · rcases hat _ _ _ _ hj with ⟨_, e1⟩ | ⟨_, e1⟩
      · have := hnm _ _ _ e1
        exact ⟨.inl (by omega), this.2⟩
      · subst e1
        exact ⟨hgl.1, Nat.lt_of_lt_of_le hgl.2 hb.size⟩
    · simp only [ofL, List.find?_cons, List.find?_nil] at hj
      by_cases e1 : kb = j
      · subst e1
        simp only [beq_self_eq_true, Option.map_some, Option.some.injEq] at hj
        subst hj
        refine ⟨_, hname _ _ p1, g, c1, n1, ws, rfl, (hb.block g hgl.2).trans p3, p4, fun i hi => ?_⟩
        have := p5 i hi
        simp only [List.getElem_map] at this ⊢
        rw [this.v_inv]; exact .pu (.v _)
      · rw [show (kb == j) = false by simpa using e1] at hj
        by_cases e2 : k = j
        · subst e2
          simp only [beq_self_eq_true, Option.map_some, Option.some.injEq] at hj
          subst hj
          refine ⟨nm, upd_same _ _ _, ?_⟩
          obtain ⟨ys, h1, h2, h3⟩ := hblk
          refine ⟨ys, owns_mono h1 ?_, h2, fun j hj => (h3 j hj).mono (fun b hb1 hw => ⟨⟨hokS b hb1.1, fun e2 => ⟨Nat.le_trans hBw (hb1.2 e2).1, (hb1.2 e2).2⟩⟩, hw, rfl⟩) fun b _ h => Nat.le_trans hBw h⟩
          cases fr
          · exact Nat.le_refl _
          · exact hBw
        · rw [show (k == j) = false by simpa using e2] at hj
          cases hj
    · simp only [ofL, List.find?_cons, List.find?_nil] at hj
      by_cases e1 : kb = j
      · subst e1; simp at hj
      · by_cases e2 : k = j
        · subst e2
          rw [show (kb == k) = false by simpa using e1] at hj
          simp at hj
        · rw [upd_other (fun e3 => e2 e3.symm)]; exact hnone j fun e3 => e1 e3.symm
    · rw [← hu]
      exact rel_renA3 (fun X x hx => hx.mono (fun b hb1 hw => ⟨hokS b hb1, hw, rfl⟩) fun b _ h => Nat.le_trans hBw h) (two_same _ _ _) (upd_same _ _ _) hrel
end
end Go.Proofs.YtbbglendddepfaaDoor

namespace Go.Proofs.YtbbglendddepfaaDoor
open Go.RowKit

/-- A small number, a coordinate: as tests. -/
def smB (n : Int) : Bool := decide (-68719476736 ≤ n) && decide (n ≤ 68719476736)
def coB (n : Int) : Bool := decide (0 ≤ n) && decide (n ≤ 1048576)
theorem smB_true {n : Int} : smB n = true ↔ -68719476736 ≤ n ∧ n ≤ 68719476736 := by simp [smB]
theorem coB_true {n : Int} : coB n = true ↔ 0 ≤ n ∧ n ≤ 1048576 := by simp [coB]

theorem take_all {p : Int → Bool} {xs : List Int} {k : Nat} (h : k < xs.length) (hk : (xs.take k).all p = true) (hp : p xs[k] = true) : (xs.take (k + 1)).all p = true := by
  rw [List.take_succ_eq_append_getElem h, List.all_append, hk]; simp [hp]
theorem all_no {p : Int → Bool} {xs : List Int} {k : Nat} (h : k < xs.length) (hp : p xs[k] = false) : xs.all p = false := by
  rw [List.all_eq_false]; exact ⟨xs[k], List.getElem_mem h, by simp [hp]⟩
theorem all_take {p : Int → Bool} {xs : List Int} {k : Nat} (h : k = xs.length) (hk : (xs.take k).all p = true) : xs.all p = true := by
  rw [← List.take_of_length_le (by omega : xs.length ≤ k)]; exact hk

theorem long_any (a : Option Addr) (n cap : Nat) (c : Int) (w : World) :
    Calls Tryd.prog 23 #[.agg #[.slice a n cap, .int .i64 c]] w fun e w' => e = .returned (.bool (decide (200 < (n : Int)))) ∧ Below w.heap.size w w' := by
  go_enter Tryd.func23, Tryd.ntmps23
  go_wp2
  go_ret
  exact ⟨rfl, allocBelow _ _⟩

theorem smallNumber_any (n : Int) (w : World) :
    Calls Tryd.prog 39 #[.int .i64 n] w fun e w' => e = .returned (.bool (smB n)) ∧ w = w' := by
  have e : Hid (smB n = (decide (-68719476736 ≤ n) && decide (n ≤ 68719476736))) := (rfl : smB n = _)
  by_cases h1 : -68719476736 ≤ n
  · by_cases h2 : n ≤ 68719476736
    · go_enter Tryd.func39, Tryd.ntmps39
      go_wp2
      go_ret
      exact ⟨ret_bool (by rw [e.out]; simp; omega), rfl⟩
    · go_enter Tryd.func39, Tryd.ntmps39
      go_wp2
      go_ret
      exact ⟨ret_bool (by rw [e.out]; simp; omega), rfl⟩
  · go_enter Tryd.func39, Tryd.ntmps39
    go_wp2
    go_ret
    exact ⟨ret_bool (by rw [e.out]; simp; omega), rfl⟩


set_option maxHeartbeats 400000 in
theorem small_full (b off n cap : Nat) (c : Int) (w : World) (xs : List Int) (hx : xs.length = n) (hn : n ≤ 9223372036854775807) (hb : b < w.heap.size)
    (hc : ∀ i, i < n → w.cell? ⟨b, off + i, none⟩ = some (.int .i64 (xs.getD i 0))) :
    Calls Tryd.prog 48 #[.agg #[.slice (some ⟨b, off, none⟩) n cap, .int .i64 c]] w fun e w' => e = .returned (.bool (xs.all smB && smB c)) ∧ Below w.heap.size w w' := by
  go_enter Tryd.func48, Tryd.ntmps48
  go_wp2_with fail
  go_loop [8] (fun v => ∃ k : Nat, k ≤ n ∧ v = .int .i64 k ∧ (xs.take k).all smB = true) (fun v => n - (intOf v).toNat)
  case atStart => exact ⟨0, Nat.zero_le _, rfl, rfl⟩
  case round =>
    obtain ⟨k, hk, rfl, hall⟩ := hrel
    have HA : Hid ((xs.take k).all smB = true) := hall
    clear hall
    by_cases h1 : k < n
    · have g1 : (w.alloc (.cells #[.slice (some ⟨b, off, none⟩) n cap, .int .i64 c] 39)).cell? ⟨b, off + k, none⟩ = some (.int .i64 (xs.getD k 0)) := (World.cell?_alloc_past _ _ _ (by simpa using hb)).trans (hc k h1)
      go_wp2_with (go_at_call 39; refine (smallNumber_any _ _).mono ?_; rintro e w' ⟨rfl, rfl⟩)
      · have hp : (!smB xs[k]) = true := by assumption
        go_ret
        exact ⟨ret_bool (by rw [all_no (k := k) (by omega) (by simpa using hp)]; rfl), allocBelow _ _⟩
      · have hp : (!smB xs[k]) = false := by assumption
        go_round
        case rel => exact ⟨k + 1, by omega, by go_num, take_all (by omega) HA.out (by simpa using hp)⟩
        case measure => simp [intOf]; omega
    · go_wp2_with (go_at_call 39; refine (smallNumber_any _ _).mono ?_; rintro e w' ⟨rfl, rfl⟩)
      go_ret
      exact ⟨ret_bool (by rw [all_take (by omega) HA.out]; rfl), allocBelow _ _⟩

theorem small_empty (a : Option Addr) (cap : Nat) (c : Int) (w : World) :
    Calls Tryd.prog 48 #[.agg #[.slice a 0 cap, .int .i64 c]] w fun e w' => e = .returned (.bool (([] : List Int).all smB && smB c)) ∧ Below w.heap.size w w' := by
  go_enter Tryd.func48, Tryd.ntmps48
  go_wp2_with fail
  refine wp_loop_rounds 1 ?_
  rw [rounds_succ]
  go_wp2_with (go_at_call 39; refine (smallNumber_any _ _).mono ?_; rintro e w' ⟨rfl, rfl⟩)
  go_ret
  exact ⟨ret_bool rfl, allocBelow _ _⟩

/-- Every number of a row is small. -/
def smR (r : List Int × Int) : Bool := r.1.all smB && smB r.2
theorem smR_true {xs : List Int} {c : Int} : smR (xs, c) = true ↔ xs.all smB = true ∧ smB c = true := by simp [smR]

theorem small_any {lo : Nat} {w : World} {v : Value} {xs : List Int} (c : Int) (h : IsInts lo w v xs) :
    Calls Tryd.prog 48 #[.agg #[v, .int .i64 c]] w fun e w' => e = .returned (.bool (smR (xs, c))) ∧ Below w.heap.size w w' := by
  obtain ⟨a, cap, rfl, hl, hm, hi, hc⟩ := h
  unfold maxLen at hm
  rcases hc with rfl | ⟨b, off, rfl, _, hb, hc⟩
  · exact small_empty _ _ _ _
  · exact small_full _ _ _ _ _ _ _ rfl (by omega) hb hc

theorem isCoordinate_any (n : Int) (w : World) :
    Calls Tryd.prog 57 #[.int .i64 n] w fun e w' => e = .returned (.bool (coB n)) ∧ w = w' := by
  have e : Hid (coB n = (decide (0 ≤ n) && decide (n ≤ 1048576))) := (rfl : coB n = _)
  by_cases h1 : 0 ≤ n
  · by_cases h2 : n ≤ 1048576
    · go_enter Tryd.func57, Tryd.ntmps57
      go_wp2
      go_ret
      exact ⟨ret_bool (by rw [e.out]; simp; omega), rfl⟩
    · go_enter Tryd.func57, Tryd.ntmps57
      go_wp2
      go_ret
      exact ⟨ret_bool (by rw [e.out]; simp; omega), rfl⟩
  · go_enter Tryd.func57, Tryd.ntmps57
    go_wp2
    go_ret
    exact ⟨ret_bool (by rw [e.out]; simp; omega), rfl⟩

set_option maxHeartbeats 400000 in
theorem isPoint_full (b off n cap : Nat) (w : World) (xs : List Int) (hx : xs.length = n) (hn : n ≤ 9223372036854775807)
    (hc : ∀ i, i < n → w.cell? ⟨b, off + i, none⟩ = some (.int .i64 (xs.getD i 0))) :
    Calls Tryd.prog 35 #[.slice (some ⟨b, off, none⟩) n cap] w fun e w' => e = .returned (.bool (xs.all coB)) ∧ w = w' := by
  go_enter Tryd.func35, Tryd.ntmps35
  go_wp2_with fail
  go_loop [7] (fun v => ∃ k : Nat, k ≤ n ∧ v = .int .i64 k ∧ (xs.take k).all coB = true) (fun v => n - (intOf v).toNat)
  case atStart => exact ⟨0, Nat.zero_le _, rfl, rfl⟩
  case round =>
    obtain ⟨k, hk, rfl, hall⟩ := hrel
    have HA : Hid ((xs.take k).all coB = true) := hall
    clear hall
    by_cases h1 : k < n
    · have g1 : w.cell? ⟨b, off + k, none⟩ = some (.int .i64 (xs.getD k 0)) := hc k h1
      go_wp2_with (go_at_call 57; refine (isCoordinate_any _ _).mono ?_; rintro e w' ⟨rfl, rfl⟩)
      · have hp : (!coB xs[k]) = true := by assumption
        go_ret
        exact ⟨ret_bool (by rw [all_no (k := k) (by omega) (by simpa using hp)]), rfl⟩
      · have hp : (!coB xs[k]) = false := by assumption
        go_round
        case rel => exact ⟨k + 1, by omega, by go_num, take_all (by omega) HA.out (by simpa using hp)⟩
        case measure => simp [intOf]; omega
    · go_wp2_with (go_at_call 57; refine (isCoordinate_any _ _).mono ?_; rintro e w' ⟨rfl, rfl⟩)
      go_ret
      exact ⟨ret_bool (by rw [all_take (by omega) HA.out]), rfl⟩

theorem isPoint_empty (a : Option Addr) (cap : Nat) (w : World) :
    Calls Tryd.prog 35 #[.slice a 0 cap] w fun e w' => e = .returned (.bool (([] : List Int).all coB)) ∧ w = w' := by
  go_enter Tryd.func35, Tryd.ntmps35
  go_wp2_with fail
  refine wp_loop_rounds 1 ?_
  rw [rounds_succ]
  go_wp2_with fail
  go_ret
  exact ⟨ret_bool rfl, rfl⟩

theorem isPoint_any {lo : Nat} {w : World} {v : Value} {xs : List Int} (h : IsInts lo w v xs) :
    Calls Tryd.prog 35 #[v] w fun e w' => e = .returned (.bool (xs.all coB)) ∧ w = w' := by
  obtain ⟨a, cap, rfl, hl, hm, hi, hc⟩ := h
  unfold maxLen at hm
  rcases hc with rfl | ⟨b, off, rfl, _, hb, hc⟩
  · exact isPoint_empty _ _ _
  · exact isPoint_full _ _ _ _ _ _ rfl (by omega) hc

/-- The value of a row at a point. -/
def dot : List Int → List Int → Int
  | x :: xs, y :: ys => x * y + dot xs ys
  | _, _ => 0
theorem dot_snoc : ∀ (xs ys : List Int) (k : Nat) (h : k < xs.length) (h' : k < ys.length), dot (xs.take (k + 1)) (ys.take (k + 1)) = dot (xs.take k) (ys.take k) + xs[k] * ys[k]
  | x :: xs, y :: ys, 0, _, _ => by simp [dot]
  | x :: xs, y :: ys, k + 1, h, h' => by
    have := dot_snoc xs ys k (by simpa using h) (by simpa using h')
    simp only [List.take_succ_cons, dot, List.getElem_cons_succ]
    omega
theorem mul_le {x y : Int} (hx : smB x = true) (hy : coB y = true) : -72057594037927936 ≤ x * y ∧ x * y ≤ 72057594037927936 := by
  rw [smB_true] at hx
  rw [coB_true] at hy
  obtain ⟨a, b⟩ := hx
  obtain ⟨c, d⟩ := hy
  constructor
  · have h1 : -68719476736 * y ≤ x * y := Int.mul_le_mul_of_nonneg_right a c
    omega
  · have h1 : x * y ≤ 68719476736 * y := Int.mul_le_mul_of_nonneg_right b c
    omega
theorem dot_le : ∀ (xs ys : List Int) (k : Nat), xs.all smB = true → ys.all coB = true → -72057594037927936 * k ≤ dot (xs.take k) (ys.take k) ∧ dot (xs.take k) (ys.take k) ≤ 72057594037927936 * k
  | _, _, 0, _, _ => by simp [dot]
  | [], _, k + 1, _, _ => by simp [dot]; omega
  | x :: xs, [], k + 1, _, _ => by simp [dot]; omega
  | x :: xs, y :: ys, k + 1, h, h' => by
    simp only [List.all_cons, Bool.and_eq_true] at h h'
    have := dot_le xs ys k h.2 h'.2
    have := mul_le h.1 h'.1
    simp only [List.take_succ_cons, dot]
    omega

set_option maxHeartbeats 400000 in
theorem valueAt_full (b off n cap b' off' cap' : Nat) (c : Int) (w : World) (xs ys : List Int) (hx : xs.length = n) (hy : ys.length = n) (hn : n ≤ 96) (hb : b < w.heap.size) (hb' : b' < w.heap.size)
    (hs : xs.all smB = true) (hs' : ys.all coB = true) (hsc : smB c = true)
    (hc : ∀ i, i < n → w.cell? ⟨b, off + i, none⟩ = some (.int .i64 (xs.getD i 0))) (hc' : ∀ i, i < n → w.cell? ⟨b', off' + i, none⟩ = some (.int .i64 (ys.getD i 0))) :
    Calls Tryd.prog 36 #[.agg #[.slice (some ⟨b, off, none⟩) n cap, .int .i64 c], .slice (some ⟨b', off', none⟩) n cap'] w fun e w' => e = .returned (.int .i64 (c + dot xs ys)) ∧ Below w.heap.size w w' := by
  go_enter Tryd.func36, Tryd.ntmps36
  go_wp2_with fail
  go_loop [5, 13] (fun u v => ∃ k : Nat, k ≤ n ∧ v = .int .i64 k ∧ u = .int .i64 (c + dot (xs.take k) (ys.take k))) (fun _ v => n - (intOf v).toNat)
  case atStart => exact ⟨0, Nat.zero_le _, rfl, by simp [dot]⟩
  case round =>
    obtain ⟨k, hk, rfl, rfl⟩ := hrel
    by_cases h1 : k < n
    · have g1 : (w.alloc (.cells #[.slice (some ⟨b, off, none⟩) n cap, .int .i64 c] 39)).cell? ⟨b, off + k, none⟩ = some (.int .i64 (xs.getD k 0)) := (World.cell?_alloc_past _ _ _ (by simpa using hb)).trans (hc k h1)
      have g2 : (w.alloc (.cells #[.slice (some ⟨b, off, none⟩) n cap, .int .i64 c] 39)).cell? ⟨b', off' + k, none⟩ = some (.int .i64 (ys.getD k 0)) := (World.cell?_alloc_past _ _ _ (by simpa using hb')).trans (hc' k h1)
      have d0 := dot_le xs ys k hs hs'
      have d1 := dot_le xs ys (k + 1) hs hs'
      have d2 := dot_snoc xs ys k (by omega) (by omega)
      have d3 := mul_le (List.all_eq_true.1 hs _ (List.getElem_mem (by omega : k < xs.length))) (List.all_eq_true.1 hs' _ (List.getElem_mem (by omega : k < ys.length)))
      rw [smB_true] at hsc
      have HD : Hid (c + dot (xs.take (k + 1)) (ys.take (k + 1)) = c + dot (xs.take k) (ys.take k) + xs[k] * ys[k]) := by show _ = _; omega
      have b1 : -9223372036854775808 ≤ c + dot (xs.take k) (ys.take k) + xs[k] * ys[k] := by omega
      have b2 : c + dot (xs.take k) (ys.take k) + xs[k] * ys[k] ≤ 9223372036854775807 := by omega
      clear d1 d2 hs hs'
      go_wp2
      go_round
      case rel => exact ⟨k + 1, by omega, by go_num, by rw [HD.out]⟩
      case measure => simp [intOf]; omega
    · have e1 : Hid (xs.take k = xs) := List.take_of_length_le (by omega)
      have e2 : Hid (ys.take k = ys) := List.take_of_length_le (by omega)
      go_wp2
      go_ret
      exact ⟨ret_int (by rw [e1.out, e2.out]), allocBelow _ _⟩

theorem valueAt_empty (a a' : Option Addr) (cap cap' : Nat) (c : Int) (w : World) :
    Calls Tryd.prog 36 #[.agg #[.slice a 0 cap, .int .i64 c], .slice a' 0 cap'] w fun e w' => e = .returned (.int .i64 (c + dot [] [])) ∧ Below w.heap.size w w' := by
  go_enter Tryd.func36, Tryd.ntmps36
  go_wp2_with fail
  refine wp_loop_rounds 1 ?_
  rw [rounds_succ]
  go_wp2_with fail
  go_ret
  exact ⟨ret_int (by simp [dot]), allocBelow _ _⟩

theorem valueAt_any {lo lo' : Nat} {w : World} {v v' : Value} {xs ys : List Int} (c : Int) (h : IsInts lo w v xs) (h' : IsInts lo' w v' ys) (hl : xs.length = ys.length) (hn : xs.length ≤ 96)
    (hs : xs.all smB = true) (hs' : ys.all coB = true) (hsc : smB c = true) :
    Calls Tryd.prog 36 #[.agg #[v, .int .i64 c], v'] w fun e w' => e = .returned (.int .i64 (c + dot xs ys)) ∧ Below w.heap.size w w' := by
  obtain ⟨a, cap, rfl, _, _, _, hc⟩ := h
  obtain ⟨a', cap', rfl, _, _, _, hc'⟩ := h'
  rcases hc with rfl | ⟨b, off, rfl, _, hb, hc⟩
  · obtain rfl : ys = [] := List.eq_nil_of_length_eq_zero (by simpa using hl.symm)
    exact valueAt_empty _ _ _ _ _ _
  · rcases hc' with rfl | ⟨b', off', rfl, _, hb', hc'⟩
    · obtain rfl : xs = [] := List.eq_nil_of_length_eq_zero (by simpa using hl)
      exact valueAt_empty _ _ _ _ _ _
    · rw [← hl] at hc' ⊢
      exact valueAt_full _ _ _ _ _ _ _ _ _ _ _ rfl hl.symm hn hb hb' hs hs' hsc hc hc'

/-- What Value returns. -/
def valE (xs ys : List Int) (c : Int) : Int := if xs.length ≠ ys.length ∨ 96 < xs.length ∨ ys.all coB = false then 1 else if smR (xs, c) = false then 4 else 0
def valN (xs ys : List Int) (c : Int) : Int := if valE xs ys c = 0 then c + dot xs ys else 0

set_option maxHeartbeats 400000 in
theorem Value_any {lo lo' : Nat} {w : World} {v v' : Value} {xs ys : List Int} (c : Int) (h : IsInts lo w v xs) (h' : IsInts lo' w v' ys) :
    Calls Tryd.prog 31 #[.agg #[v, .int .i64 c], v'] w fun e w' => e = .returned (.tuple #[.int .i64 (valN xs ys c), .int .i64 (valE xs ys c)]) ∧ Below w.heap.size w w' := by
  have H := h
  have H' := h'
  obtain ⟨a, cap, rfl, _, hm, _, _⟩ := h
  obtain ⟨a', cap', rfl, _, hm', _, _⟩ := h'
  unfold maxLen at hm hm'
  have E : Hid (valE xs ys c = if xs.length ≠ ys.length ∨ 96 < xs.length ∨ ys.all coB = false then 1 else if smR (xs, c) = false then 4 else 0) := (rfl : valE xs ys c = _)
  have V : Hid (valN xs ys c = if valE xs ys c = 0 then c + dot xs ys else 0) := (rfl : valN xs ys c = _)
  by_cases h1 : xs.length = ys.length
  · by_cases h2 : 96 < xs.length
    · have e1 : valE xs ys c = 1 := by rw [E.out, if_pos (by omega)]
      have e2 : valN xs ys c = 0 := by rw [V.out, e1]; rfl
      have h3 : ¬ ((xs.length : Int) ≠ ys.length) := by omega
      rw [e1, e2]
      clear E V e1 e2 h1 H H'
      go_enter Tryd.func31, Tryd.ntmps31
      go_wp2_with fail
      go_ret2
      exact ⟨rfl, allocBelow _ _⟩
    · cases hp : ys.all coB with
      | false =>
        have e1 : valE xs ys c = 1 := by rw [E.out, if_pos (by simp [hp])]
        have e2 : valN xs ys c = 0 := by rw [V.out, e1]; rfl
        rw [e1, e2]
        have h3 : ¬ ((xs.length : Int) ≠ ys.length) := by omega
        clear E V e1 e2 h1
        go_enter Tryd.func31, Tryd.ntmps31
        go_wp2_with (go_at_call 35; refine (isPoint_any (H'.below (allocBelow _ _))).mono ?_; rintro e w' ⟨rfl, rfl⟩)
        go_ret2
        exact ⟨rfl, allocBelow _ _⟩
      | true =>
        have h3 : ¬ ((xs.length : Int) ≠ ys.length) := by omega
        cases hs : smR (xs, c) with
        | false =>
          have e1 : valE xs ys c = 4 := by rw [E.out, if_neg (by simp [hp]; omega), if_pos hs]
          have e2 : valN xs ys c = 0 := by rw [V.out, e1]; rfl
          rw [e1, e2]
          clear E V e1 e2 h1
          go_enter Tryd.func31, Tryd.ntmps31
          go_wp2_with (first | (go_at_call 35; refine (isPoint_any (H'.below (allocBelow _ _))).mono ?_; rintro e w' ⟨rfl, rfl⟩) | (go_at_call 48; refine (small_any _ (H.below (allocBelow _ _))).mono ?_; rintro e w1 ⟨rfl, hb1⟩))
          go_ret2
          exact ⟨rfl, (allocBelow _ _).trans (hb1.mono (by simp))⟩
        | true =>
          have e1 : valE xs ys c = 0 := by rw [E.out, if_neg (by simp [hp]; omega), if_neg (by simp [hs])]
          have e2 : Hid (valN xs ys c = c + dot xs ys) := by show _ = _; rw [V.out, e1]; rfl
          rw [e1]
          obtain ⟨hs1, hs2⟩ := smR_true.1 hs
          have L : Hid (xs.length = ys.length) := h1
          have S1 : Hid (xs.all smB = true) := hs1
          have S2 : Hid (smB c = true) := hs2
          have S3 : Hid (ys.all coB = true) := hp
          clear E V e1 h1 hs1 hs2
          go_enter Tryd.func31, Tryd.ntmps31
          go_wp2_with (first | (go_at_call 35; refine (isPoint_any (H'.below (allocBelow _ _))).mono ?_; rintro e w' ⟨rfl, rfl⟩) | (go_at_call 48; refine (small_any _ (H.below (allocBelow _ _))).mono ?_; rintro e w1 ⟨rfl, hb1⟩; obtain ⟨hc1, hf1⟩ := bcell hb1) | (go_at_call 36; refine (valueAt_any _ ((H.below (allocBelow _ _)).below hb1) ((H'.below (allocBelow _ _)).below hb1) L.out (by omega) S1.out S3.out S2.out).mono ?_; rintro e w2 ⟨rfl, hb2⟩))
          go_ret2
          exact ⟨by rw [e2.out]; rfl, (allocBelow _ _).trans ((hb1.trans (hb2.mono hb1.size)).mono (by simp))⟩
  · have e1 : valE xs ys c = 1 := by rw [E.out, if_pos (by simp [h1])]
    have e2 : valN xs ys c = 0 := by rw [V.out, e1]; rfl
    have h3 : ((xs.length : Int) ≠ ys.length) := by omega
    rw [e1, e2]
    clear E V e1 e2 h1 H H'
    go_enter Tryd.func31, Tryd.ntmps31
    go_wp2_with fail
    go_ret2
    exact ⟨rfl, allocBelow _ _⟩
end Go.Proofs.YtbbglendddepfaaDoor
