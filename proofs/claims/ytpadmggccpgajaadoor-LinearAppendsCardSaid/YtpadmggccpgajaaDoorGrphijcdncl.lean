import Derived.Deep.OwnRows
import Derived.Laws.MakeOwn
import Derived.Test.YtpadmggccpgajaaDoorProg
import Derived.WalkSpells
import Derived.WalkLawsBesides
import Derived.Deep.QuietTactic
import Derived.BigQuiet
import Derived.BigRegion
import Derived.Laws.CopyOwn
import Derived.Test.YtpadmggccpgajaaDoorGrpcljkhedm
import Derived.Test.YtpadmggccpgajaaDoorGrpkdocnnlm
set_option linter.all false
namespace Go.Proofs.YtpadmggccpgajaaDoor
open Go.RowKit Go.Deep
theorem wk_adoptB {h : AHeap} {t : ATm} (k0 i k : Nat) (fr : Bool) (e z : Nat) {T : TypeId} {cs ds : List AV} (hk : h k = none) (hb : h k0 = some (.box T cs)) (hi : cs[i]? = some (.v (.slice none 0 0))) (hd : cs.set i (.own k) = ds) :
    Wk h t (fun j => if j = k then some (.row fr e z 0 []) else if j = k0 then some (.box T ds) else h j) t := by
  subst hd
  intro J w0 ρ a w s
  have hρ := s.dom k hk
  have hkk : k0 ≠ k := by rintro rfl; rw [hb] at hk; cases hk
  refine ⟨upd ρ k .nil, ?_⟩
  have hok : ∀ b, okOf ρ b → okOf (upd ρ k .nil) b := fun b hb j c n hj => by
    by_cases e : j = k
    · subst e; rw [upd_same] at hj; cases hj
    · rw [upd_other e] at hj; exact hb _ _ _ hj
  have hn : ∀ j nm, ρ j = some nm → upd ρ k .nil j = some nm := fun j nm hj => by rw [upd_other (by rintro rfl; rw [hρ] at hj; cases hj)]; exact hj
  have hp : ∀ X x, Pu (w0.heap.size ≤ ·) w (okOf ρ) X x → Pu (w0.heap.size ≤ ·) w (okOf (upd ρ k .nil)) X x := fun X x hx => hx.weak hok
  have hat : ∀ j b c n, upd ρ k .nil j = some (.at b c n) → ρ j = some (.at b c n) := fun j b c n hj => by
    by_cases e : j = k
    · subst e; rw [upd_same] at hj; cases hj
    · rw [upd_other e] at hj; exact hj
  refine ⟨⟨fun j k b c d m n hj hk => s.wf.inj _ _ _ _ _ _ _ (hat _ _ _ _ hj) (hat _ _ _ _ hk), fun k b c n hk => s.wf.lo _ _ _ _ (hat _ _ _ _ hk)⟩, s.bel, s.inv, fun j X hj => ?_, fun j hj => ?_, s.tl, fun j hj => (s.tm j hj).keep hp hn, s.df⟩
  · by_cases e : j = k
    · subst e
      rw [if_pos rfl] at hj
      cases hj
      exact ⟨.nil, upd_same _ _ _, blk_nil _ _ _ _ _ _⟩
    · rw [if_neg e] at hj
      by_cases e0 : j = k0
      · subst e0
        rw [if_pos rfl] at hj
        cases hj
        obtain ⟨nm, g1, g2⟩ := s.hp j _ hb
        obtain ⟨b, c, n, vs, q0, q1, q2, q3⟩ := g2
        refine ⟨nm, hn _ _ g1, b, c, n, vs, q0, q1, by simpa using q2, fun l hl => ?_⟩
        have hl' : l < cs.length := by simpa using hl
        rw [List.getElem_set]
        split
        · rename_i e1
          subst e1
          have h1 := q3 i hl'
          have h2 : cs[i] = .v (.slice none 0 0) := by
            rw [List.getElem?_eq_getElem hl'] at hi
            exact Option.some.inj hi
          rw [h2] at h1
          rw [h1.v_inv]
          exact .own (nm := .nil) (upd_same _ _ _)
        · exact (q3 l hl').keep hp hn
      · rw [if_neg e0] at hj
        obtain ⟨nm, g1, g2⟩ := s.hp j X hj
        exact ⟨nm, hn _ _ g1, g2.keep (fun fr X x hx => hx.weak fun b hb => ⟨hok _ hb.1, hb.2⟩) hp hn fun _ _ _ _ => rfl⟩
  · by_cases e : j = k
    · rw [if_pos e] at hj; cases hj
    · rw [if_neg e] at hj
      rw [upd_other e]
      by_cases e0 : j = k0
      · rw [if_pos e0] at hj; cases hj
      · rw [if_neg e0] at hj; exact s.dom j hj
end Go.Proofs.YtpadmggccpgajaaDoor

namespace Go.Proofs.YtpadmggccpgajaaDoor
open Go.RowKit Go.Deep
section
variable {P : Program} {J : World → Prop} {o : Oper}
def AV.isSl : AV → Bool
  | .sl _ _ _ => true
  | .fr (.sl _ _ _) => true
  | _ => false
theorem pu_slice {F ok : Nat → Prop} {w : World} {z n : Nat} {cs : List AV} {v : Value} (h : Pu F w ok (.sl z n cs) v) : ∃ a m c, v = .slice a m c := by
  cases h with
  | sl0 _ _ => exact ⟨_, _, _, rfl⟩
  | sl _ _ _ _ _ _ _ => exact ⟨_, _, _, rfl⟩
theorem rel_slice {ρ : Names} {B : Nat} {w : World} {X : AV} {v : Value} (h : Rel ρ B w X v) (hX : X.isSl = true) : ∃ a m c, v = .slice a m c := by
  cases h with
  | pu h =>
    cases h with
    | any _ => cases hX
    | v _ => cases hX
    | agg _ _ => cases hX
    | tup _ _ => cases hX
    | fr h =>
      rename_i X
      cases X with
      | sl z n cs => exact pu_slice h
      | _ => cases hX
    | sl0 h1 h2 => exact ⟨_, _, _, rfl⟩
    | sl _ _ _ _ _ _ _ => exact ⟨_, _, _, rfl⟩
    | el _ _ _ _ => cases hX
    | clo _ _ => cases hX
    | old _ => cases hX
  | _ => cases hX
theorem sp_bldSI {T : TypeId} {x y : Operand} {X : AV} {k : IntKind} {i : Int} (ho : o.op = .build T #[(0, x), (1, y)]) (hX : X.isSl = true) (H : ∀ a n c, P.built T [(0, .slice a n c), (1, .int k i)] = some #[.slice a n c, .int k i]) :
    ASpec P J o [(x, X), (y, .v (.int k i))] [] (.agg [X, .v (.int k i)]) .no :=
  aspec_val fun ρ B a w _ ha _ => by
    have h1 := ha (x, X) (by simp)
    have h2 := (ha (y, .v (.int k i)) (by simp)).v_inv
    obtain ⟨ad, n, c, e⟩ := rel_slice h1 hX
    refine ⟨.agg #[.slice ad n c, .int k i], ?_, .agg rfl fun j hj => ?_⟩
    · simp only [execOp, ho]
      refine run_val (run_build w T _ _ ?_)
      simp only [List.map_toArray, List.map_cons, List.map_nil]
      rw [h2, show a.eval x = _ from e]
      exact H _ _ _
    · match j, hj with
      | 0, _ =>
        show Rel ρ B w X (.slice ad n c)
        rw [← e]; exact h1
      | 1, _ => exact .pu (.v _)
end
end Go.Proofs.YtpadmggccpgajaaDoor

namespace Go.Proofs.YtpadmggccpgajaaDoor
open Go.RowKit Go.Deep
variable {J : World → Prop}
section
variable {P : Program} {o : Oper}
/-- A store into a row of the call's own. -/
theorem sp_storeRow {T e' : TypeId} {z zz n k off : Nat} {fr : Bool} {X : AV} {cs ds : List AV} (x y : Operand) (ho : o.op = .store T x y) (hz : (P.info? T).map (·.size) = some zz) (hX : X.cellsOf.all (fun c => c.cell && c.pu1) = true) (hn : fr = true → ∀ d ∈ X.cellsOf, d.isNew = true) (hl : X.cellsOf.length = zz) (hr : off + zz ≤ cs.length) (hd : setAll cs off (rowCells fr X.cellsOf) = ds) :
    ASpec P J o [(x, .box k off), (y, X)] [(k, .row fr e' z n cs)] (.v undef) (.st k (.row fr e' z n ds)) := by
  intro ρ B a w K Q hwf hB _ ha hr' _ hk
  obtain ⟨b, c, m, h1, h2⟩ := (ha (x, .box k off) (by simp)).box_inv
  have hy := ha (y, X) (by simp)
  have hX1 : X.cellsOf.all AV.cell = true := List.all_eq_true.2 fun d hd => by have := List.all_eq_true.1 hX d hd; simp only [Bool.and_eq_true] at this; exact this.1
  have hX2 : ∀ d ∈ X.cellsOf, d.pu1 = true := fun d hd => by have := List.all_eq_true.1 hX d hd; simp only [Bool.and_eq_true] at this; exact this.2
  obtain ⟨h3, h4, h5⟩ := hy.cells hX1
  obtain ⟨nm, h1', xs, ⟨h6, h7⟩, hxl, hrel⟩ := hr' (k, .row fr e' z n cs) (by simp)
  rw [h1] at h1'; cases h1'
  rcases h7 with ⟨hv, _⟩ | ⟨g, cap, cur, hv, hBg, hg, hnc, hm, hs, ht⟩
  · cases hv
  simp only [Nm.val, Value.slice.injEq, Option.some.injEq, Addr.mk.injEq, and_true] at hv
  obtain ⟨rfl, rfl, rfl⟩ := hv
  have hsz : (a.eval y).cells.size = zz := h3.trans hl
  have hncur : m * z ≤ cur.size := by rw [hs]; exact Nat.mul_le_mul_right _ hnc
  have hth : w.there b off zz := fun j hj => ⟨by simp only [World.cell?, hg]; simp; omega, frozenB hg _⟩
  obtain ⟨cur', hg', hs', hget⟩ := setCells_block (a.eval y).cells.toList off w cur hg (by simp; omega)
  have hrun := run_storeC (P := P) hz (a.eval y) hsz h4 hth
  unfold Oper.wp
  simp only [execOp, ho, h2, Sem.run_bind, hrun, Result.andThen_ok, Sem.run_pure]
  obtain ⟨q1, q2, q3⟩ := setCells_os b (a.eval y).cells.toList off w
  have hlo := hwf.lo _ _ _ _ h1
  have hkeepP : ∀ {fr : Bool} {X : AV} {x : Value}, Pu (B ≤ ·) w (okR ρ fr B w) X x → Pu (B ≤ ·) (w.setCells b off (a.eval y).cells.toList) (okR ρ fr B (w.setCells b off (a.eval y).cells.toList)) X x := fun h => h.mono (fun _ hb hw => have := okOf_setCells (off := off) (vs := (a.eval y).cells.toList) h1 hb.1 hw; ⟨⟨this.1, fun e => ⟨(hb.2 e).1, soft_eq this.2.2 (hb.2 e).2⟩⟩, this.2⟩) fun _ _ h => h
  refine hk ρ _ undef ⟨q1, q2, q3, by rw [setCells_size]; exact Nat.le_refl _, fun b' _ hne => setCells_other (fun e => by subst e; exact hne k c m rfl h1) _ _ _, fun _ _ => rfl, fun _ _ _ => rfl, fun k' X' he => ?_, .pu (.v _)⟩
  cases he
  refine ⟨_, h1, fun b' c' n' e => by cases e; exact ⟨by rw [setCells_size]; exact hlo.2, hlo.1, .inr ⟨_, _, h1⟩⟩, cur'.toList.take (m * z), ⟨?_, .inr ⟨b, c, cur', rfl, hBg, hg', hnc, hm, by rw [hs', hs], rfl⟩⟩, ?_, fun j hj => ?_⟩
  · simp; omega
  · subst hd; rw [setAll_length]; simp; omega
  subst hd
  have hjc : j < cs.length := by rw [setAll_length] at hj; exact hj
  have hjm : j < m * z := by omega
  have hcur := hget j
  have hval : (cur'.toList.take (m * z)).getD j undef = (cur'[j]?).getD undef := by
    rw [List.getD_eq_getElem?_getD, List.getElem?_take, if_pos hjm, Array.getElem?_toList]
  rw [hval]
  have hlen : (rowCells fr X.cellsOf).length = X.cellsOf.length := rowCells_length _ _
  rcases setAll_get (rowCells fr X.cellsOf) cs off (by omega) j hj with ⟨e1, e2, e3⟩ | ⟨e1, e2, e3⟩
  · rw [e3, hcur, if_pos ⟨e1, by simp; omega⟩]
    have hj' : j - off < X.cellsOf.length := by omega
    have hp := (h5 (j - off) hj').pu1 (hX2 _ (List.getElem_mem _))
    have := hkeepP (Pu.row hn e2 hj' hp)
    rw [Array.getD_eq_getD_getElem?] at this
    simpa using this
  · rw [e3, hcur, if_neg (by simp; omega)]
    have := hkeepP (hrel j e2)
    have hx : xs.getD j undef = (cur[j]?).getD undef := by
      rw [List.getD_eq_getElem?_getD, ← ht, List.getElem?_take, if_pos hjm, Array.getElem?_toList]
    rw [hx] at this
    exact this
/-- A struct is built of numbers, words and slices. -/
def AV.asVal (α : Nat → Option Addr × Nat × Nat) (k : Nat) : AV → Value
  | .v x => x
  | _ => .slice (α k).1 (α k).2.1 (α k).2.2
def AV.solid : AV → Bool
  | .v _ => true
  | .own _ => true
  | X => X.isSl
def pickV (α : Nat → Option Addr × Nat × Nat) (Xs : List AV) : Value ⊕ Nat → Value
  | .inl z => z
  | .inr k => (Xs.getD k .any).asVal α k
def pickA (Xs : List AV) : Value ⊕ Nat → AV
  | .inl z => .v z
  | .inr k => Xs.getD k .any
theorem rel_solid {ρ : Names} {B : Nat} {w : World} {X : AV} {v : Value} (h : Rel ρ B w X v) (hX : X.solid = true) : ∃ a : Option Addr × Nat × Nat, v = X.asVal (fun _ => a) 0 := by
  cases X with
  | v x => exact ⟨(none, 0, 0), h.v_inv⟩
  | sl z n cs => obtain ⟨a, m, c, e⟩ := rel_slice h hX; exact ⟨(a, m, c), e⟩
  | fr X => obtain ⟨a, m, c, e⟩ := rel_slice h hX; exact ⟨(a, m, c), e⟩
  | own k =>
    obtain ⟨nm, _, e⟩ := h.own_inv
    cases nm with
    | nil => exact ⟨(none, 0, 0), e⟩
    | «at» b c n => exact ⟨(some ⟨b, 0, none⟩, n, c), e⟩
  | _ => cases hX
theorem asVal_at {α : Nat → Option Addr × Nat × Nat} {X : AV} {k : Nat} : X.asVal (fun _ => α k) 0 = X.asVal α k := by cases X <;> rfl
theorem sp_bldN {T : TypeId} {parts : Array (Nat × Operand)} (idx : List Nat) (ops : List Operand) (Xs : List AV) (R : List (Value ⊕ Nat)) (ho : o.op = .build T parts) (hp : parts.toList = idx.zip ops) (h1 : idx.length = Xs.length) (h2 : ops.length = Xs.length) (hX : Xs.all AV.solid = true)
    (H : ∀ α, P.built T (idx.zip ((List.range Xs.length).map fun k => (Xs.getD k .any).asVal α k)) = some (R.map (pickV α Xs)).toArray) (hR : R.all (fun r => match r with | .inl _ => true | .inr k => decide (k < Xs.length)) = true) {ds : List AV} (hd : R.map (pickA Xs) = ds) :
    ASpec P J o (ops.zip Xs) [] (.agg ds) .no :=
  aspec_val fun ρ B a w _ ha _ => by
    subst hd
    have hop : ∀ k, k < Xs.length → Rel ρ B w (Xs.getD k .any) (a.eval (ops.getD k (.const undef))) := fun k hk => by
      have hk2 : k < ops.length := by omega
      have hm : (ops[k], Xs[k]) ∈ ops.zip Xs := by
        rw [List.mem_iff_getElem]
        exact ⟨k, by simp; omega, by simp⟩
      have := ha _ hm
      simpa [List.getD_eq_getElem?_getD, hk, hk2] using this
    have hso : ∀ k, k < Xs.length → (Xs.getD k .any).solid = true := fun k hk => by
      have := List.all_eq_true.1 hX _ (List.getElem_mem hk)
      simpa [List.getD_eq_getElem?_getD, hk] using this
    obtain ⟨α, hα⟩ := choose_lt (n := Xs.length) (p := fun k (r : Option Addr × Nat × Nat) => a.eval (ops.getD k (.const undef)) = (Xs.getD k .any).asVal (fun _ => r) 0) fun k hk => rel_solid (hop k hk) (hso k hk)
    refine ⟨.agg (R.map (pickV α Xs)).toArray, ?_, .agg (by simp) fun j hj => ?_⟩
    · simp only [execOp, ho]
      refine run_val (run_build w T _ _ ?_)
      rw [← H α]
      congr 1
      rw [Array.toList_map, hp]
      apply List.ext_getElem
      · simp; omega
      intro k g1 g2
      have hk : k < Xs.length := by simp at g2; omega
      have hk2 : k < ops.length := by omega
      have := hα k hk
      rw [asVal_at] at this
      simp only [List.getElem_map, List.getElem_zip, List.getElem_range, Prod.mk.injEq, true_and]
      rw [← this]
      simp [List.getD_eq_getElem?_getD, hk2]
    · have hj' : j < R.length := by simpa using hj
      simp only [List.getElem_map]
      have e : (R.map (pickV α Xs)).toArray.getD j undef = pickV α Xs R[j] := by simp [Array.getD, hj']
      rw [e]
      have hr := List.all_eq_true.1 hR _ (List.getElem_mem hj')
      generalize R[j] = r at hr
      cases r with
      | inl z => exact .pu (.v z)
      | inr k =>
        have hk : k < Xs.length := by simpa using hr
        have h3 := hα k hk
        rw [asVal_at] at h3
        simp only [pickA, pickV]
        rw [← h3]
        exact hop k hk
end
end Go.Proofs.YtpadmggccpgajaaDoor

namespace Go.Proofs.YtpadmggccpgajaaDoor
open Go.RowKit Go.Deep
variable {J : World → Prop}
def AV.mkOld (n : Nat) : AV → AV
  | .v x => .v x
  | X => .old n X
theorem Pu.mkOld {F ok ok' : Nat → Prop} {w : World} {n : Nat} {X : AV} {x : Value} (h : Pu F w ok X x) (hk : ∀ b, ok b → ok' b ∧ b < n) : Pu F w ok' (X.mkOld n) x := by
  cases X with
  | v y => exact h.weak fun b hb => (hk b hb).1
  | _ => exact .old (h.weak hk)
section
variable {P : Program} {w0 : World} {h : AHeap} {t : ATm}
theorem tri_rebase {Φ : Act → World → Prop} (rd : List (Nat × ABlk)) (L : List (Nat × AV)) {n : Nat} (hn : t.n = n) (hrd : rd.map (fun p => h p.1) = rd.map (fun p => some p.2)) (hL : L.map (fun p => (t.f p.1).viewC rd) = L.map (·.2)) (hf : L.all (fun p => (t.f p.1).flat1) = true) (hp : ∀ X ∈ L.map (·.2), Plain X)
    (H : ∀ w1, Below w0.heap.size w0 w1 → ETri J w1 (ofL []) (ofT n (L.map fun p => (p.1, p.2.mkOld w1.heap.size))) Φ) : ETri J w0 h t Φ := by
  subst hn
  intro ρ a w s
  refine H w s.bel (fun _ => none) a w ⟨⟨(fun _ _ _ _ _ _ _ h => by cases h), (fun _ _ _ _ h => by cases h)⟩, Below.refl _ _, fun w' hb => s.inv w' (s.bel.trans (hb.mono s.bel.size)), (fun _ _ h => by cases h), fun _ _ => rfl, s.tl, fun i hi => ?_, s.df⟩
  simp only [ofT]
  cases hfi : (L.map fun p => (p.1, p.2.mkOld w.heap.size)).find? fun p => p.1 == i with
  | none => exact .anyR
  | some p =>
    have hm := List.mem_of_find?_eq_some hfi
    have hk := List.find?_some hfi
    obtain ⟨q, hq, rfl⟩ := List.mem_map.1 hm
    have hq1 : q.1 = i := by simpa using hk
    obtain ⟨j, hj, e⟩ := List.getElem_of_mem hq
    have h1 : (L.map (fun p => (t.f p.1).viewC rd))[j]? = (L.map (·.2))[j]? := by rw [hL]
    simp only [List.getElem?_map, List.getElem?_eq_getElem hj, Option.map_some, e, Option.some.injEq] at h1
    have hrd' : ∀ p ∈ rd, ∃ nm, ρ p.1 = some nm ∧ BlkR ρ w w0.heap.size nm p.2 := fun p hp => by
      obtain ⟨j, hj, e⟩ := List.getElem_of_mem hp
      have h2 : (rd.map (fun p => h p.1))[j]? = (rd.map (fun p => some p.2))[j]? := by rw [hrd]
      simp only [List.getElem?_map, List.getElem?_eq_getElem hj, Option.map_some, e, Option.some.injEq] at h2
      exact s.hp _ _ h2
    have h3 := (s.tm i hi).viewC s.wf hrd' (by have := List.all_eq_true.1 hf q hq; rw [hq1] at this; exact this)
    rw [← hq1, h1, hq1] at h3
    have h4 := h3.plain (F' := (w.heap.size ≤ ·)) (hp _ (List.mem_map_of_mem hq))
    exact .pu (h4.mkOld fun b hb => ⟨(fun _ _ _ h => by cases h), hb⟩)
theorem tri_endV {w1 : World} (hb : Below w0.heap.size w0 w1) {fn : Func} {r : ResultVar} {x : Value} (hr : fn.results = #[r]) (h1 : ResV P h t r (.v x)) : ETri J w1 h t (bodyPost P fn (RetP w0 (.v x)) .ret) := fun ρ a w s => by
  obtain ⟨d, v, r1, v', e, hp, hB⟩ := tri_end1 (J := J) (w0 := w1) (u := .v x) hr h1 rfl ρ a w s
  refine ⟨d, v, r1, v', e, ?_, hb.trans (hB.mono hb.size)⟩
  cases hp with | v _ => exact .v _
end
section
variable {P : Program} {o : Oper}
theorem sp_indexSlF {t e : TypeId} {z n off : Nat} {cs : List AV} {ik : IntKind} {i : Int} (x y : Operand) (ho : o.op = .indexAddr t x y) (hu : P.underlying t = some (.slice e)) (hz : (P.info? e).map (·.size) = some z) (h0 : 0 ≤ i) (h1 : i < n) (he : i.toNat * z = off) :
    ASpec P J o [(x, .fr (.sl z n cs)), (y, .v (.int ik i))] [] (.fr (.el cs off)) .no :=
  aspec_val fun ρ B a w _ ha _ => by
    have h := ha (x, .fr (.sl z n cs)) (by simp)
    have hy := (ha (y, .v (.int ik i)) (by simp)).v_inv
    generalize hx : a.eval x = v at h
    cases h with
    | pu h =>
    cases h with
    | fr h =>
    cases h with
    | sl0 h2 hz => omega
    | sl hc h1' h2 hb hw hfc hr =>
      refine ⟨_, ?_, .pu (.fr (.el (o := off) hb hw hfc hr))⟩
      simp only [execOp, ho, hx, hy]
      exact run_val (by rw [run_index hu hz _ _ _ _ _ _ h0 h1, he])
end
/-- One cell turned. -/
theorem cell_set1 {w : World} {b o : Nat} {v : Value} {cur : Array Value} {T : TypeId} (hg : w.heap[b]? = some (.cells cur T (0, 0))) (ho : o < cur.size) (c j : Nat) : (w.setCells b o [v]).cell? ⟨c, j, none⟩ = if c = b ∧ j = o then some v else w.cell? ⟨c, j, none⟩ := by
  obtain ⟨cur', hg', hs', hget⟩ := setCells_block [v] o w cur hg (by simp; omega)
  by_cases hc : c = b
  · subst hc
    have h1 := hget j
    simp only [List.length_cons, List.length_nil, Nat.zero_add] at h1
    by_cases hj : j = o
    · subst hj
      rw [if_pos ⟨rfl, rfl⟩]
      rw [if_pos ⟨Nat.le_refl _, by omega⟩] at h1
      exact cellB hg' j (v := v) (by rw [h1]; simp)
    · rw [if_neg (fun h => hj h.2)]
      rw [if_neg (by omega)] at h1
      simp only [World.cell?, hg, hg', h1]
  · rw [if_neg (fun h => hc h.1)]
    exact World.cell?_of_block (w := w) (a := ⟨c, j, none⟩) (setCells_other (fun e => hc e) _ _ _)
theorem soft_set1 {w : World} {b o : Nat} {v : Value} {cur : Array Value} {T : TypeId} (hg : w.heap[b]? = some (.cells cur T (0, 0))) (ho : o < cur.size) {c : Nat} (h : soft w c) : soft (w.setCells b o [v]) c := by
  by_cases hc : c = b
  · subst hc
    obtain ⟨cur', hg', _⟩ := setCells_block [v] o w cur hg (by simp; omega)
    exact ⟨_, _, hg'⟩
  · exact soft_eq (setCells_other (fun e => hc e) _ _ _) h
/-- Numbers that can be read go on to be numbers. -/
theorem ints_blur {F ok ok' : Nat → Prop} {w w' : World} {l : List Int} {v : Value} (h : Pu F w ok (intsA l) v) (hsz : w.heap.size ≤ w'.heap.size) (hok : ∀ b, ok b → ok' b) (hc : ∀ c j x, w.cell? ⟨c, j, none⟩ = some (.int .i64 x) → ∃ y, w'.cell? ⟨c, j, none⟩ = some (.int .i64 y)) :
    ∃ l' : List Int, l'.length = l.length ∧ Pu F w' ok' (intsA l') v := by
  unfold intsA at h ⊢
  generalize hcs : l.map iv = cs at h
  generalize hn : l.length = n at h
  cases h with
  | sl0 h2 hz =>
    exact ⟨[], rfl, .sl0 h2 hz⟩
  | sl hl h1 h2 hb hw hf h =>
    rename_i b off cap f
    subst hn hcs
    have H : ∀ j, j < l.length → ∃ y, w'.cell? ⟨b, off + j, none⟩ = some (.int .i64 y) := fun j hj => by
      have hj' : j < (l.map iv).length := by simpa using hj
      have h3 := h j hj'
      simp only [List.getElem_map] at h3
      refine hc b (off + j) l[j] ?_
      rw [hf j hj', h3.v_inv]
    obtain ⟨g, hg⟩ := choose_lt H
    refine ⟨(List.range l.length).map g, by simp, ?_⟩
    have := Pu.sl (F := F) (w := w') (ok := ok') (z := 1) (n := l.length) (b := b) (off := off) (cap := cap) (cs := ((List.range l.length).map g).map iv) (f := fun j => .int .i64 (g j)) (by simp) h1 h2 (hok _ hb) (Nat.lt_of_lt_of_le hw hsz) (fun j hj => hg j (by simpa using hj)) fun j hj => by simp; exact .v _
    simpa using this
section
variable {P : Program} {w0 : World} {ops : Array Oper} {o : Oper} {rest : List Oper} {Q : Exit → Act → World → Prop}
end
end Go.Proofs.YtpadmggccpgajaaDoor

namespace Go.Proofs.YtpadmggccpgajaaDoor
open Go.RowKit Go.Deep
variable {J : World → Prop}
/-- One name. -/
def single (k : Nat) (nm : Nm) : Names := fun j => if j = k then some nm else none
theorem single_same (k : Nat) (nm : Nm) : single k nm k = some nm := if_pos rfl
theorem single_at {k j : Nat} {nm x : Nm} (h : single k nm j = some x) : j = k ∧ x = nm := by
  unfold single at h
  split at h
  · rename_i e; exact ⟨e, (Option.some.inj h).symm⟩
  · cases h
/-- Made of what is known in every world, of what is new and of named things. -/
def AV.safe1 : AV → Bool
  | .v _ => true
  | .own _ => true
  | .fr _ => true
  | .any => true
  | _ => false
def AV.safe2 : AV → Bool
  | .agg cs => cs.all AV.safe1
  | X => X.safe1
def AV.safe3 : AV → Bool
  | .tup cs => cs.all AV.safe2
  | X => X.safe2
/-- The contract of a function that makes a row of its own and hands it over. -/
def CtrO (P : Program) (J : World → Prop) (f : FuncId) (args : List AV) (k : Nat) (Y : ABlk) (u : AV) : Prop :=
  ∀ (w : World) (vs : Array Value), (∀ w', Below w.heap.size w w' → J w') → vs.size = args.length → (∀ j (hj : j < args.length), Pu (fun _ => True) w (fun b => b < w.heap.size) args[j] (vs.getD j undef)) →
    Calls P f vs w fun e w' => ∃ v nm, e = .returned v ∧ (∀ b c n, nm = .at b c n → w.heap.size ≤ b ∧ b < w'.heap.size) ∧ BlkR (single k nm) w' w.heap.size nm Y ∧ Rel (single k nm) w.heap.size w' u v ∧ Below w.heap.size w w'
section
variable {ρ : Names} {B : Nat} {w w' : World}
theorem rel_safe1 {ρ' : Names} {B' : Nat} (hp : ∀ X x, Pu (B ≤ ·) w' (okOf ρ) (.fr X) x → Pu (B' ≤ ·) w' (okOf ρ') (.fr X) x) (hn : ∀ j nm, ρ j = some nm → ρ' j = some nm) {X : AV} {x : Value} (hs : X.safe1 = true) (h : Rel ρ B w' X x) : Rel ρ' B' w' X x := by
  cases h with
  | pu h =>
    cases h with
    | v _ => exact .pu (.v _)
    | any _ => exact .anyR
    | fr h => exact .pu (hp _ _ (.fr h))
    | _ => cases hs
  | own h => exact .own (hn _ _ h)
  | _ => cases hs
theorem rel_safe2 {ρ' : Names} {B' : Nat} (hp : ∀ X x, Pu (B ≤ ·) w' (okOf ρ) (.fr X) x → Pu (B' ≤ ·) w' (okOf ρ') (.fr X) x) (hn : ∀ j nm, ρ j = some nm → ρ' j = some nm) {X : AV} {x : Value} (hs : X.safe2 = true) (h : Rel ρ B w' X x) : Rel ρ' B' w' X x := by
  cases X with
  | agg cs =>
    obtain ⟨vs, rfl, hl, hc⟩ := h.agg_inv
    exact .agg hl fun j hj => rel_safe1 hp hn (List.all_eq_true.1 hs _ (List.getElem_mem hj)) (hc j hj)
  | _ => exact rel_safe1 hp hn hs h
theorem rel_safe3 {ρ' : Names} {B' : Nat} (hp : ∀ X x, Pu (B ≤ ·) w' (okOf ρ) (.fr X) x → Pu (B' ≤ ·) w' (okOf ρ') (.fr X) x) (hn : ∀ j nm, ρ j = some nm → ρ' j = some nm) {X : AV} {x : Value} (hs : X.safe3 = true) (h : Rel ρ B w' X x) : Rel ρ' B' w' X x := by
  cases X with
  | tup cs =>
    obtain ⟨vs, rfl, hl, hc⟩ := h.tup_inv
    exact .tup hl fun j hj => rel_safe2 hp hn (List.all_eq_true.1 hs _ (List.getElem_mem hj)) (hc j hj)
  | _ => exact rel_safe2 hp hn hs h
theorem owns_mono {e z n B' : Nat} {v : Value} {xs : List Value} (h : w.ownsRow B e z v n xs) (hb : B' ≤ B) : w.ownsRow B' e z v n xs := by
  obtain ⟨h1, h2⟩ := h
  refine ⟨h1, ?_⟩
  rcases h2 with h2 | ⟨g, cap, cur, rfl, h3, h4⟩
  · exact .inl h2
  · exact .inr ⟨g, cap, cur, rfl, Nat.le_trans hb h3, h4⟩
end
section
variable {P : Program} {o : Oper}
theorem sp_callO {c : Operand} {xs : Array Operand} {ats : Array TypeId} {f : FuncId} {Xs Ys : List AV} {u : AV} {k e z n : Nat} {cs : List AV} (rd : List (Nat × ABlk)) (hC : CtrO P J f Ys k (.row true e z n cs) u) (ho : o.op = .call { callee := .value c, args := xs, argTypes := ats })
    (hf : (P.funcs[f]?).map (fun fn => (fn.name == "runtime.NumGoroutine") || fn.body.isNone) = some false) (hl : xs.size = Xs.length) (hv : Xs.map (AV.view rd) = Ys) (hfl : Xs.all AV.flat2 = true) (hs : u.safe3 = true) :
    ASpec P J o ((c, .v (.func (.func f) #[] #[])) :: xs.toList.zip Xs) rd u (.new k (.row true e z n cs)) := by
  subst hv
  intro ρ B a w K Q hwf hB hJ ha hr hnew hk
  refine upon_call ho (ha (c, .v (.func (.func f) #[] #[])) (by simp)).v_inv hf ?_
  rw [Array.append_empty]
  refine (hC w (xs.map a.eval) hJ (by simpa using hl) fun j hj => ?_).mono fun e' w' ⟨v, nm, he, hnm, hblk, hrel, hb⟩ => ⟨v, he, hk (upd ρ k nm) w' v ?_⟩
  · have hj1 : j < Xs.length := by simpa using hj
    have hj2 : j < xs.size := by omega
    rw [List.getElem_map]
    have hm : (xs[j], Xs[j]) ∈ (c, AV.v (.func (.func f) #[] #[])) :: xs.toList.zip Xs := by
      refine List.mem_cons_of_mem _ ?_
      rw [List.mem_iff_getElem]
      exact ⟨j, by simp; omega, by simp⟩
    have := (ha _ hm).view hwf hr (List.all_eq_true.1 hfl _ (List.getElem_mem hj1))
    simpa [Array.getD, hj2] using this
  · have hok : ∀ b, okOf (single k nm) b → w.heap.size ≤ b → okOf (upd ρ k nm) b := fun b hb1 hb2 j c' n' hj => by
      by_cases e1 : j = k
      · subst e1
        rw [upd_same] at hj
        exact hb1 j c' n' (by rw [single_same]; exact hj)
      · rw [upd_other e1] at hj
        have := (hwf.lo _ _ _ _ hj).2
        omega
    have hn : ∀ j x, single k nm j = some x → upd ρ k nm j = some x := fun j x hj => by
      obtain ⟨rfl, rfl⟩ := single_at hj
      exact upd_same _ _ _
    refine ⟨hb.os, hb.tape, hb.output, hb.size, fun b hb' _ => hb.block b hb', fun j hj => upd_other fun e1 => hj (by rw [e1]; rfl), (fun _ _ h => by cases h), fun k' X he' => ?_, rel_safe3 (fun X x h => ?_) hn hs hrel⟩
    · cases he'
      refine ⟨nm, upd_same _ _ _, fun b c' n' e1 => ⟨(hnm b c' n' e1).2, Nat.le_trans hB (hnm b c' n' e1).1, .inl (hnm b c' n' e1).1⟩, ?_⟩
      obtain ⟨ys, h1, h2, h3⟩ := hblk
      exact ⟨ys, owns_mono h1 hB, h2, fun j hj => (h3 j hj).mono (fun b hb1 hw => ⟨⟨hok b hb1.1 (hb1.2 rfl).1, fun _ => ⟨Nat.le_trans hB (hb1.2 rfl).1, (hb1.2 rfl).2⟩⟩, hw, rfl⟩) fun b _ h => Nat.le_trans hB h⟩
    · cases h with
      | fr h => exact .fr (h.mono (fun b hb1 hw => ⟨⟨hok b hb1.1 hb1.2.1, Nat.le_trans hB hb1.2.1, hb1.2.2⟩, hw, rfl⟩) fun b _ h => Nat.le_trans hB h)
end
/-- A result with the name k0 in it, as it is handed over by the name k. -/
def AV.ren1 (k0 k : Nat) : AV → AV
  | .v x => .v x
  | .fr X => .fr X
  | .own j => if j = k0 then .own k else .any
  | _ => .any
def AV.ren2 (k0 k : Nat) : AV → AV
  | .agg cs => .agg (cs.map (AV.ren1 k0 k))
  | X => X.ren1 k0 k
def AV.ren3 (k0 k : Nat) : AV → AV
  | .tup cs => .tup (cs.map (AV.ren2 k0 k))
  | X => X.ren2 k0 k
section
variable {w0 : World} {ρ : Names} {h : AHeap} {t : ATm} {a : Act} {w : World} {k0 k : Nat} {nm : Nm}
theorem rel_ren1 (hk : ρ k0 = some nm) {X : AV} {x : Value} (hr : Rel ρ w0.heap.size w X x) : Rel (single k nm) w0.heap.size w (X.ren1 k0 k) x := by
  cases hr with
  | pu hr =>
    cases hr with
    | v x => exact .pu (.v x)
    | fr hr =>
      exact .pu (.fr (hr.weak fun b hb => ⟨fun j c n hj => by
        obtain ⟨rfl, e⟩ := single_at hj
        exact hb.1 k0 c n (by rw [hk, ← e]), hb.2⟩))
    | _ => exact .anyR
  | own hj =>
    rename_i j nm'
    simp only [AV.ren1]
    split
    · rename_i e
      subst e
      rw [hk] at hj; cases hj
      exact .own (single_same _ _)
    · exact .anyR
  | _ => exact .anyR
theorem rel_ren2 (hk : ρ k0 = some nm) {X : AV} {x : Value} (hr : Rel ρ w0.heap.size w X x) : Rel (single k nm) w0.heap.size w (X.ren2 k0 k) x := by
  cases X with
  | agg cs =>
    obtain ⟨vs, rfl, hl, hc⟩ := hr.agg_inv
    exact .agg (by simpa using hl) fun j hj => by rw [List.getElem_map]; exact rel_ren1 hk (hc j (by simpa using hj))
  | _ => exact rel_ren1 hk hr
theorem rel_ren3 (hk : ρ k0 = some nm) {X : AV} {x : Value} (hr : Rel ρ w0.heap.size w X x) : Rel (single k nm) w0.heap.size w (X.ren3 k0 k) x := by
  cases X with
  | tup cs =>
    obtain ⟨vs, rfl, hl, hc⟩ := hr.tup_inv
    exact .tup (by simpa using hl) fun j hj => by rw [List.getElem_map]; exact rel_ren2 hk (hc j (by simpa using hj))
  | _ => exact rel_ren2 hk hr
end
def RetO (w0 : World) (k : Nat) (Y : ABlk) (u : AV) (e : Ending) (w' : World) : Prop :=
  ∃ v nm, e = .returned v ∧ (∀ b c n, nm = .at b c n → w0.heap.size ≤ b ∧ b < w'.heap.size) ∧ BlkR (single k nm) w' w0.heap.size nm Y ∧ Rel (single k nm) w0.heap.size w' u v ∧ Below w0.heap.size w0 w'
section
variable {P : Program} {w0 : World} {h : AHeap} {t : ATm}
theorem Sat.give {ρ : Names} {a : Act} {w : World} (s : Sat J w0 ρ h t a w) {k0 k e z n : Nat} {cs : List AV} (hk : h k0 = some (.row true e z n cs)) {X u : AV} {x : Value} (hr : Rel ρ w0.heap.size w X x) (hu : X.ren3 k0 k = u) : RetO w0 k (.row true e z n cs) u (.returned x) w := by
  subst hu
  obtain ⟨nm, h1, ys, h2, h3, h4⟩ := s.hp _ _ hk
  refine ⟨x, nm, rfl, fun b c n' e => by subst e; exact s.wf.lo _ _ _ _ h1, ⟨ys, h2, h3, fun j hj => (h4 j hj).weak fun b hb => ⟨fun j c n hj => ?_, hb.2⟩⟩, rel_ren3 h1 hr, s.bel⟩
  obtain ⟨rfl, e⟩ := single_at hj
  exact hb.1 k0 c n (by rw [h1, ← e])
theorem tri_give1 {fn : Func} {r : ResultVar} {X u : AV} (k0 : Nat) {k e z n : Nat} {cs : List AV} (hr : fn.results = #[r]) (h1 : ResV P h t r X) (hk : h k0 = some (.row true e z n cs)) (hu : X.ren3 k0 k = u) : ETri J w0 h t (bodyPost P fn (RetO w0 k (.row true e z n cs) u) .ret) := fun ρ a w s => by
  obtain ⟨v, g1, g2⟩ := res_one s h1
  refine ⟨s.df, v, ?_, s.give hk g2 hu⟩
  unfold results
  rw [hr, Sem.run_bind, mapM_one (v := v) (by cases r <;> exact g1)]
  rfl
theorem ctrO_of_tri {f : FuncId} {fn : Func} {c : Code} {args : List AV} {k : Nat} {Y : ABlk} {u : AV} (hf : P.funcs[f]? = some fn) (hb : fn.body = some c) (hpl : ∀ X ∈ args, Plain X) {n : Nat} (hnt : fn.ntmps = n) (hna : args.length ≤ n)
    (H : ∀ w0, ETri J w0 (ofL []) (ofT n ((List.range args.length).zip args)) (c.wp P (bodyPost P fn (RetO w0 k Y u)))) : CtrO P J f args k Y u := fun w vs hJ hl hv => by
  refine calls_of_wp hf hb (H w (fun _ => none) _ w ⟨⟨(fun _ _ _ _ _ _ _ h => by cases h), (fun _ _ _ _ h => by cases h)⟩, Below.refl _ _, hJ, (fun _ _ h => by cases h), fun _ _ => rfl, by simp [hl, hnt, ofT]; omega, fun i hi => ?_, rfl⟩)
  simp only [ofT]
  cases hf : ((List.range args.length).zip args).find? fun p => p.1 == i with
  | none => exact .anyR
  | some p =>
    have hm := List.mem_of_find?_eq_some hf
    have hk' : p.1 = i := by have := List.find?_some hf; simpa using this
    obtain ⟨j, hj, e⟩ := List.getElem_of_mem hm
    simp only [List.getElem_zip, List.getElem_range] at e
    subst e
    dsimp only at hk'
    subst hk'
    have hj1 : j < args.length := by simp at hj; omega
    simp only [Option.map_some, Option.getD_some]
    have := (hv j hj1).plain (F' := (w.heap.size ≤ ·)) (hpl _ (List.getElem_mem hj1))
    have hj2 : j < vs.size := by omega
    have e : (vs ++ Array.replicate (fn.ntmps - vs.size) undef).getD j undef = vs.getD j undef := by simp [Array.getD, hj2, Array.getElem_append_left hj2]; omega
    rw [e]
    exact .pu (this.weak fun b _ k c n hk => by cases hk)
end
end Go.Proofs.YtpadmggccpgajaaDoor

namespace Go.Proofs.YtpadmggccpgajaaDoor
open Go.RowKit Go.Deep
variable {J : World → Prop}
section
variable {P : Program} {o : Oper}
theorem sp_makeZ {t e k bytes z : Nat} {zv : Value} (fr : Bool) {kl kc : IntKind} {n : Nat} {x y : Operand} (ho : o.op = .makeSlice t x y) (hu : P.underlying t = some (.slice e)) (hi : (P.info? e).map (fun i => (i.size, i.bytes, i.zero)) = some (z, bytes, some zv)) (hz : zv.cells.size = z) (h0 : 0 < z)
    (hb : bytes * n ≤ 281474976710656) (h63 : n ≤ maxLen) {cs : List AV} (hcs : (List.range (n * z)).map (fun j => AV.v (zv.cells.getD (j % z) undef)) = cs) :
    ASpec P J o [(x, .v (.int kl (n : Int))), (y, .v (.int kc (n : Int)))] [] (.own k) (.new k (.row fr e z n cs)) :=
  aspec_new fun ρ B a w _ hB ha _ hk => by
    subst hcs
    obtain ⟨i, hi1, hi2⟩ := Option.map_eq_some_iff.1 hi
    simp only [Prod.mk.injEq] at hi2
    obtain ⟨e1, e2, e3⟩ := hi2
    have hx := (ha (x, .v (.int kl (n : Int))) (by simp)).v_inv
    have hy := (ha (y, .v (.int kc (n : Int))) (by simp)).v_inv
    have hsz : (madeCells zv.cells (n * z)).size = n * z := size_madeCells _ _
    have hget : ∀ j, j < n * z → (madeCells zv.cells (n * z))[j]? = some (zv.cells.getD (j % z) undef) := fun j hj => by
      have hlt : j % zv.cells.size < zv.cells.size := Nat.mod_lt _ (by omega)
      have hlt' : j % z < zv.cells.size := by rw [← hz]; exact hlt
      subst hz
      simp [madeCells, hj, Array.getD, hlt]
    have hrun := run_make (P := P) w t e i zv hu hi1 e3 kl kc n n (by omega) (by omega) (by rw [e2]; have := hb; omega) (by have := h63; simp only [maxLen] at this; omega)
    simp only [Int.toNat_natCast, e1] at hrun
    refine ⟨_, n, n, madeCells zv.cells (n * z), e, ?_, .own (nm := .at w.heap.size n n) (upd_same _ _ _), (madeCells zv.cells (n * z)).toList, ⟨by simp [hsz], .inr ⟨w.heap.size, n, madeCells zv.cells (n * z), rfl, hB, heap_alloc_new w _, Nat.le_refl _, h63, hsz, by rw [List.take_of_length_le]; simp [hsz]⟩⟩, by simp [hsz], fun j hj => ?_⟩
    · simp only [execOp, ho, hx, hy]
      exact run_val hrun
    · have hj' : j < n * z := by simpa using hj
      have : (madeCells zv.cells (n * z)).toList.getD j undef = zv.cells.getD (j % z) undef := by
        rw [List.getD_eq_getElem?_getD, Array.getElem?_toList, hget j hj']; rfl
      rw [this]
      simp only [List.getElem_map, List.getElem_range]
      exact .v _
end
theorem setAll_mid (ds : List AV) : ∀ (A C D : List AV), C.length = ds.length → setAll (A ++ C ++ D) A.length ds = A ++ ds ++ D := by
  induction ds with
  | nil => intro A C D h; rw [List.eq_nil_of_length_eq_zero h]; rfl
  | cons d ds ih =>
    intro A C D h
    cases C with
    | nil => cases h
    | cons c C =>
      rw [setAll]
      have e : (A ++ c :: C ++ D).set A.length d = (A ++ [d]) ++ C ++ D := by
        rw [List.append_assoc, List.set_append_right _ _ (Nat.le_refl _)]
        simp
      rw [e]
      have := ih (A ++ [d]) C D (by simpa using h)
      simp only [List.length_append, List.length_cons, List.length_nil, Nat.zero_add] at this
      rw [this]
      simp
end Go.Proofs.YtpadmggccpgajaaDoor

namespace Go.Proofs.YtpadmggccpgajaaDoor
open Go.RowKit Go.Deep
variable {J : World → Prop}
def LnOk (l : Ln) : Prop := I64 l.c ∧ I64 l.n ∧ I64 l.t ∧ I64 l.f
def ThOk (g : Th) : Prop := I64 g.msg ∧ I64 g.coef ∧ I64 g.bd.c ∧ I64 g.bd.n ∧ I64 g.bd.t ∧ I64 g.bd.f
def InOk (xs : List Int) : Prop := ∀ x ∈ xs, I64 x
structure RuOk (r : Ru) : Prop where
  nm : r.nm.size ≤ maxLen
  kind : I64 r.kind
  frm : I64 r.frm
  to : I64 r.to
  pf : I64 r.pf
  pt : I64 r.pt
  resp : InOk r.resp
  guards : ∀ g ∈ r.guards, ThOk g
  ex : InOk r.ex
  fa : InOk r.fa
  rd : I64 r.rd
  wr : I64 r.wr
  send : InOk r.send
  pos : I64 r.pos
  left : InOk r.left
  right : InOk r.right
  parent : InOk r.parent
  dir : I64 r.dir
  lresp : r.resp.length ≤ 9223372036854775807
  lguards : r.guards.length ≤ 9223372036854775807
structure FmOk (q : Fm) : Prop where
  nm : q.nm.size ≤ maxLen
  top : I64 q.top
  states : ∀ s ∈ q.states, s.size ≤ maxLen
  msgs : ∀ s ∈ q.msgs, s.size ≤ maxLen
  vals : ∀ s ∈ q.vals, s.size ≤ maxLen
  fault : I64 q.fault
  res : ∀ l ∈ q.res, LnOk l
  init : InOk q.init
  leader : InOk q.leader
  rules : ∀ r ∈ q.rules, RuOk r
  lstates : q.states.length ≤ 9223372036854775807
  lmsgs : q.msgs.length ≤ 9223372036854775807
  lvals : q.vals.length ≤ 9223372036854775807
  lres : q.res.length ≤ 9223372036854775807
  linit : q.init.length ≤ 9223372036854775807
  lleader : q.leader.length ≤ 9223372036854775807
  lrules : q.rules.length ≤ 9223372036854775807
theorem IsSl.all {α : Type} {z : Nat} {Q : Nat → World → List Value → α → Prop} {lo : Nat} {w : World} {v : Value} {xs : List α} (h : IsSl z Q lo w v xs) {R : α → Prop} (hR : ∀ cs x, Q lo w cs x → R x) : ∀ x ∈ xs, R x := by
  intro x hx
  obtain ⟨i, hi, rfl⟩ := List.getElem_of_mem hx
  obtain ⟨a, cap, rfl⟩ := h.shape
  obtain ⟨_, _, cs, _, _, _, _, _, hq⟩ := h.at i hi
  exact hR _ _ hq
theorem IsInts.ok {lo : Nat} {w : World} {v : Value} {xs : List Int} (h : IsInts lo w v xs) : InOk xs := by
  obtain ⟨_, _, _, _, _, ⟨h1, _⟩, _⟩ := h; exact h1
theorem IsInts.len {lo : Nat} {w : World} {v : Value} {xs : List Int} (h : IsInts lo w v xs) : xs.length ≤ 9223372036854775807 := by
  obtain ⟨_, _, _, h1, h2, _⟩ := h; unfold maxLen at h2; omega
theorem RuEl.ok {lo : Nat} {w : World} {cs : List Value} {r : Ru} (h : RuEl lo w cs r) : RuOk r := by
  obtain ⟨v6, v7, v8, v9, v12, v14, v15, v16, rfl, h0, h1, h2, h3, h4, h5, h6, h7, h8, h9, h10, h11, h12, h13, h14, h15, h16, h17⟩ := h
  exact ⟨h0, h1, h2, h3, h4, h5, h6.ok, h7.all fun cs g hg => hg.2, h8.ok, h9.ok, h10, h11, h12.ok, h13, h14.ok, h15.ok, h16.ok, h17, h6.len, h7.bound⟩
theorem IsFam.ok {lo : Nat} {w : World} {v : Value} {q : Fm} (h : IsFam lo w v q) : FmOk q := by
  obtain ⟨v2, v3, v4, v6, v7, v8, v9, e, h0, h1, h2, h3, h4, h5, h6, h7, h8, h9⟩ := h
  exact ⟨h0, h1, h2.all fun _ _ h => h.2, h3.all fun _ _ h => h.2, h4.all fun _ _ h => h.2, h5, h6.all fun _ _ h => h.2, h7.ok, h8.ok, h9.all fun _ _ h => h.ok, h2.bound, h3.bound, h4.bound, h6.bound, h7.len, h8.len, h9.bound⟩
/-- Cells, one by one. -/
theorem agg_cells {F ok : Nat → Prop} {w : World} {cs : List AV} {v : Value} (h : Pu F w ok (.agg cs) v) : ∃ vs : List Value, v = .agg vs.toArray ∧ vs.length = cs.length ∧ ∀ j (hj : j < cs.length), Pu F w ok cs[j] (vs.getD j undef) := by
  cases h with
  | agg hl h =>
    rename_i vs
    exact ⟨vs.toList, rfl, by simpa using hl, fun j hj => by have := h j hj; simpa [Array.getD_eq_getD_getElem?, List.getD_eq_getElem?_getD] using this⟩
section
variable {F ok : Nat → Prop} {w : World} {lo : Nat}
end
section
variable {P : Program} {f : FuncId}
/-- From an elder contract to one of the new form. -/
theorem ctr1 {A u : AV} (H : ∀ (w : World) (v : Value), (∀ w', Below w.heap.size w w' → J w') → Pu (fun _ => True) w (fun b => b < w.heap.size) A v → Calls P f #[v] w fun e w' => ∃ v, e = .returned v ∧ Pu (w.heap.size ≤ ·) w' (nw w' w.heap.size) u v ∧ Below w.heap.size w w') : Ctr P J f [A] u := fun w vs hJ hl hv => by
  obtain ⟨v, rfl⟩ : ∃ v, vs = #[v] := by
    match vs, hl with
    | ⟨[v]⟩, _ => exact ⟨v, rfl⟩
  exact H w v hJ (hv 0 (by simp))
theorem ctr2 {A B u : AV} (H : ∀ (w : World) (v v' : Value), (∀ w', Below w.heap.size w w' → J w') → Pu (fun _ => True) w (fun b => b < w.heap.size) A v → Pu (fun _ => True) w (fun b => b < w.heap.size) B v' → Calls P f #[v, v'] w fun e w' => ∃ v, e = .returned v ∧ Pu (w.heap.size ≤ ·) w' (nw w' w.heap.size) u v ∧ Below w.heap.size w w') : Ctr P J f [A, B] u := fun w vs hJ hl hv => by
  obtain ⟨v, v', rfl⟩ : ∃ v v', vs = #[v, v'] := by
    match vs, hl with
    | ⟨[v, v']⟩, _ => exact ⟨v, v', rfl⟩
  exact H w v v' hJ (hv 0 (by simp)) (hv 1 (by simp))
theorem ret_sc {w : World} {r : Value} {e : Ending} {w' : World} (h : e = .returned r ∧ Below w.heap.size w w') : ∃ v, e = .returned v ∧ Pu (w.heap.size ≤ ·) w' (nw w' w.heap.size) (.v r) v ∧ Below w.heap.size w w' := ⟨r, h.1, .v r, h.2⟩
end
end Go.Proofs.YtpadmggccpgajaaDoor

namespace Go.Proofs.YtpadmggccpgajaaDoor
open Go.RowKit Go.Deep
variable {J : World → Prop}
set_option linter.unusedSimpArgs false in
set_option linter.unusedVariables false in
set_option maxRecDepth 100000 in
set_option maxHeartbeats 6400000 in
theorem CopyInts_c (xs : List Int) (hx : xs.length ≤ 17592186044416) : Ctr Tryd.prog J 39 [intsA xs] (intsA xs) := by
 refine ctr_of_tri Tryd.func39 rfl (by intro X hX; simp at hX; subst hX; exact plain_ints _) (n := 6) rfl (by simp) (fun w0 => ?_)
 refine kW 6 [] [(0, intsA xs)] ?_
 refine tri_seq ?_
 refine tri_region ?_
 refine oA (sp_assign (.const (.slice none 0 0)) (.v (.slice none 0 0)) rfl) I0 ?_
 refine kN 6 [] [(0, intsA xs), (2, .v (.slice none 0 0))] ?_
 refine t_then ?_
 refine tri_seq ?_
 refine tri_region ?_
 refine t_op rfl (sp_build0 (z := 1) (k := 1) true rfl Tryd.underlying24 (by kernel_rfl)) T0 T0 rfl ?_
 refine oA (sp_move (.tmp 0) (intsA xs) rfl) I0 ?_
 refine t_op rfl (sp_append (n := 0) (cs := []) (fr := true) (m := xs.length) (ds := (xs.map iv)) (⟨Tryd.underlying24, by kernel_rfl, by decide⟩ : Elt Tryd.prog 24 3 1 8) (.tmp 3) (.tmp 4) rfl (fun _ d hd => by obtain ⟨x, _, rfl⟩ := List.mem_map.1 hd; rfl) (by unfold maxLen; omega) (by omega) (fun d hd => by obtain ⟨x, _, rfl⟩ := List.mem_map.1 hd; rfl) (es := (xs.map iv)) (by rw [unfr_ints]; rfl)) ⟨I0, I0, T0⟩ ⟨rfl, T0⟩ rfl ?_
 refine oA (sp_assign (.tmp 5) (.own 1) rfl) I0 ?_
 refine kN 6 [(1, .row true 3 1 (0 + xs.length) (xs.map iv))] [(2, .own 1)] ?_
 refine t_then ?_
 refine tri_ret ?_
 refine tri_end1 Tryd.results39 (.tmp rfl) ?_
 show AV.sl 1 (0 + xs.length) (xs.map iv) = intsA xs
 rw [Nat.zero_add]; rfl
end Go.Proofs.YtpadmggccpgajaaDoor

namespace Go.Proofs.YtpadmggccpgajaaDoor
open Go.RowKit

/-- A small number, a coordinate: as tests. -/
def smB (n : Int) : Bool := decide (-68719476736 ≤ n) && decide (n ≤ 68719476736)
def coB (n : Int) : Bool := decide (0 ≤ n) && decide (n ≤ 1048576)
theorem smB_true {n : Int} : smB n = true ↔ -68719476736 ≤ n ∧ n ≤ 68719476736 := by simp [smB]
theorem coB_true {n : Int} : coB n = true ↔ 0 ≤ n ∧ n ≤ 1048576 := by simp [coB]

theorem take_all {p : Int → Bool} {xs : List Int} {k : Nat} (h : k < xs.length) (hk : (xs.take k).all p = true) (hp : p xs[k] = true) : (xs.take (k + 1)).all p = true := by
  rw [List.take_succ_eq_append_getElem h, List.all_append, hk]; simp [hp]
theorem all_no {p : Int → Bool} {xs : List Int} {k : Nat} (h : k < xs.length) (hp : p xs[k] = false) : xs.all p = false := by
  rw [List.all_eq_false]; exact ⟨xs[k], List.getElem_mem h, by simp [hp]⟩
theorem all_take {p : Int → Bool} {xs : List Int} {k : Nat} (h : k = xs.length) (hk : (xs.take k).all p = true) : xs.all p = true := by
  rw [← List.take_of_length_le (by omega : xs.length ≤ k)]; exact hk

theorem long_any (a : Option Addr) (n cap : Nat) (c : Int) (w : World) :
    Calls Tryd.prog 25 #[.agg #[.slice a n cap, .int .i64 c]] w fun e w' => e = .returned (.bool (decide (200 < (n : Int)))) ∧ Below w.heap.size w w' := by
  go_enter Tryd.func25, Tryd.ntmps25
  go_wp2
  go_ret
  exact ⟨rfl, allocBelow _ _⟩

theorem smallNumber_any (n : Int) (w : World) :
    Calls Tryd.prog 73 #[.int .i64 n] w fun e w' => e = .returned (.bool (smB n)) ∧ w = w' := by
  have e : Hid (smB n = (decide (-68719476736 ≤ n) && decide (n ≤ 68719476736))) := (rfl : smB n = _)
  by_cases h1 : -68719476736 ≤ n
  · by_cases h2 : n ≤ 68719476736
    · go_enter Tryd.func73, Tryd.ntmps73
      go_wp2
      go_ret
      exact ⟨ret_bool (by rw [e.out]; simp; omega), rfl⟩
    · go_enter Tryd.func73, Tryd.ntmps73
      go_wp2
      go_ret
      exact ⟨ret_bool (by rw [e.out]; simp; omega), rfl⟩
  · go_enter Tryd.func73, Tryd.ntmps73
    go_wp2
    go_ret
    exact ⟨ret_bool (by rw [e.out]; simp; omega), rfl⟩


set_option maxHeartbeats 400000 in
theorem small_full (b off n cap : Nat) (c : Int) (w : World) (xs : List Int) (hx : xs.length = n) (hn : n ≤ 9223372036854775807) (hb : b < w.heap.size)
    (hc : ∀ i, i < n → w.cell? ⟨b, off + i, none⟩ = some (.int .i64 (xs.getD i 0))) :
    Calls Tryd.prog 80 #[.agg #[.slice (some ⟨b, off, none⟩) n cap, .int .i64 c]] w fun e w' => e = .returned (.bool (xs.all smB && smB c)) ∧ Below w.heap.size w w' := by
  go_enter Tryd.func80, Tryd.ntmps80
  go_wp2_with fail
  go_loop [8] (fun v => ∃ k : Nat, k ≤ n ∧ v = .int .i64 k ∧ (xs.take k).all smB = true) (fun v => n - (intOf v).toNat)
  case atStart => exact ⟨0, Nat.zero_le _, rfl, rfl⟩
  case round =>
    obtain ⟨k, hk, rfl, hall⟩ := hrel
    have HA : Hid ((xs.take k).all smB = true) := hall
    clear hall
    by_cases h1 : k < n
    · have g1 : (w.alloc (.cells #[.slice (some ⟨b, off, none⟩) n cap, .int .i64 c] 54)).cell? ⟨b, off + k, none⟩ = some (.int .i64 (xs.getD k 0)) := (World.cell?_alloc_past _ _ _ (by simpa using hb)).trans (hc k h1)
      go_wp2_with (go_at_call 73; refine (smallNumber_any _ _).mono ?_; rintro e w' ⟨rfl, rfl⟩)
      · have hp : (!smB xs[k]) = true := by assumption
        go_ret
        exact ⟨ret_bool (by rw [all_no (k := k) (by omega) (by simpa using hp)]; rfl), allocBelow _ _⟩
      · have hp : (!smB xs[k]) = false := by assumption
        go_round
        case rel => exact ⟨k + 1, by omega, by go_num, take_all (by omega) HA.out (by simpa using hp)⟩
        case measure => simp [intOf]; omega
    · go_wp2_with (go_at_call 73; refine (smallNumber_any _ _).mono ?_; rintro e w' ⟨rfl, rfl⟩)
      go_ret
      exact ⟨ret_bool (by rw [all_take (by omega) HA.out]; rfl), allocBelow _ _⟩

theorem small_empty (a : Option Addr) (cap : Nat) (c : Int) (w : World) :
    Calls Tryd.prog 80 #[.agg #[.slice a 0 cap, .int .i64 c]] w fun e w' => e = .returned (.bool (([] : List Int).all smB && smB c)) ∧ Below w.heap.size w w' := by
  go_enter Tryd.func80, Tryd.ntmps80
  go_wp2_with fail
  refine wp_loop_rounds 1 ?_
  rw [rounds_succ]
  go_wp2_with (go_at_call 73; refine (smallNumber_any _ _).mono ?_; rintro e w' ⟨rfl, rfl⟩)
  go_ret
  exact ⟨ret_bool rfl, allocBelow _ _⟩

/-- Every number of a row is small. -/
def smR (r : List Int × Int) : Bool := r.1.all smB && smB r.2
theorem smR_true {xs : List Int} {c : Int} : smR (xs, c) = true ↔ xs.all smB = true ∧ smB c = true := by simp [smR]

theorem small_any {lo : Nat} {w : World} {v : Value} {xs : List Int} (c : Int) (h : IsInts lo w v xs) :
    Calls Tryd.prog 80 #[.agg #[v, .int .i64 c]] w fun e w' => e = .returned (.bool (smR (xs, c))) ∧ Below w.heap.size w w' := by
  obtain ⟨a, cap, rfl, hl, hm, hi, hc⟩ := h
  unfold maxLen at hm
  rcases hc with rfl | ⟨b, off, rfl, _, hb, hc⟩
  · exact small_empty _ _ _ _
  · exact small_full _ _ _ _ _ _ _ rfl (by omega) hb hc

theorem isCoordinate_any (n : Int) (w : World) :
    Calls Tryd.prog 130 #[.int .i64 n] w fun e w' => e = .returned (.bool (coB n)) ∧ w = w' := by
  have e : Hid (coB n = (decide (0 ≤ n) && decide (n ≤ 1048576))) := (rfl : coB n = _)
  by_cases h1 : 0 ≤ n
  · by_cases h2 : n ≤ 1048576
    · go_enter Tryd.func130, Tryd.ntmps130
      go_wp2
      go_ret
      exact ⟨ret_bool (by rw [e.out]; simp; omega), rfl⟩
    · go_enter Tryd.func130, Tryd.ntmps130
      go_wp2
      go_ret
      exact ⟨ret_bool (by rw [e.out]; simp; omega), rfl⟩
  · go_enter Tryd.func130, Tryd.ntmps130
    go_wp2
    go_ret
    exact ⟨ret_bool (by rw [e.out]; simp; omega), rfl⟩

set_option maxHeartbeats 400000 in
theorem isPoint_full (b off n cap : Nat) (w : World) (xs : List Int) (hx : xs.length = n) (hn : n ≤ 9223372036854775807)
    (hc : ∀ i, i < n → w.cell? ⟨b, off + i, none⟩ = some (.int .i64 (xs.getD i 0))) :
    Calls Tryd.prog 71 #[.slice (some ⟨b, off, none⟩) n cap] w fun e w' => e = .returned (.bool (xs.all coB)) ∧ w = w' := by
  go_enter Tryd.func71, Tryd.ntmps71
  go_wp2_with fail
  go_loop [7] (fun v => ∃ k : Nat, k ≤ n ∧ v = .int .i64 k ∧ (xs.take k).all coB = true) (fun v => n - (intOf v).toNat)
  case atStart => exact ⟨0, Nat.zero_le _, rfl, rfl⟩
  case round =>
    obtain ⟨k, hk, rfl, hall⟩ := hrel
    have HA : Hid ((xs.take k).all coB = true) := hall
    clear hall
    by_cases h1 : k < n
    · have g1 : w.cell? ⟨b, off + k, none⟩ = some (.int .i64 (xs.getD k 0)) := hc k h1
      go_wp2_with (go_at_call 130; refine (isCoordinate_any _ _).mono ?_; rintro e w' ⟨rfl, rfl⟩)
      · have hp : (!coB xs[k]) = true := by assumption
        go_ret
        exact ⟨ret_bool (by rw [all_no (k := k) (by omega) (by simpa using hp)]), rfl⟩
      · have hp : (!coB xs[k]) = false := by assumption
        go_round
        case rel => exact ⟨k + 1, by omega, by go_num, take_all (by omega) HA.out (by simpa using hp)⟩
        case measure => simp [intOf]; omega
    · go_wp2_with (go_at_call 130; refine (isCoordinate_any _ _).mono ?_; rintro e w' ⟨rfl, rfl⟩)
      go_ret
      exact ⟨ret_bool (by rw [all_take (by omega) HA.out]), rfl⟩

theorem isPoint_empty (a : Option Addr) (cap : Nat) (w : World) :
    Calls Tryd.prog 71 #[.slice a 0 cap] w fun e w' => e = .returned (.bool (([] : List Int).all coB)) ∧ w = w' := by
  go_enter Tryd.func71, Tryd.ntmps71
  go_wp2_with fail
  refine wp_loop_rounds 1 ?_
  rw [rounds_succ]
  go_wp2_with fail
  go_ret
  exact ⟨ret_bool rfl, rfl⟩

theorem isPoint_any {lo : Nat} {w : World} {v : Value} {xs : List Int} (h : IsInts lo w v xs) :
    Calls Tryd.prog 71 #[v] w fun e w' => e = .returned (.bool (xs.all coB)) ∧ w = w' := by
  obtain ⟨a, cap, rfl, hl, hm, hi, hc⟩ := h
  unfold maxLen at hm
  rcases hc with rfl | ⟨b, off, rfl, _, hb, hc⟩
  · exact isPoint_empty _ _ _
  · exact isPoint_full _ _ _ _ _ _ rfl (by omega) hc

/-- The value of a row at a point. -/
def dot : List Int → List Int → Int
  | x :: xs, y :: ys => x * y + dot xs ys
  | _, _ => 0
theorem dot_snoc : ∀ (xs ys : List Int) (k : Nat) (h : k < xs.length) (h' : k < ys.length), dot (xs.take (k + 1)) (ys.take (k + 1)) = dot (xs.take k) (ys.take k) + xs[k] * ys[k]
  | x :: xs, y :: ys, 0, _, _ => by simp [dot]
  | x :: xs, y :: ys, k + 1, h, h' => by
    have := dot_snoc xs ys k (by simpa using h) (by simpa using h')
    simp only [List.take_succ_cons, dot, List.getElem_cons_succ]
    omega
theorem mul_le {x y : Int} (hx : smB x = true) (hy : coB y = true) : -72057594037927936 ≤ x * y ∧ x * y ≤ 72057594037927936 := by
  rw [smB_true] at hx
  rw [coB_true] at hy
  obtain ⟨a, b⟩ := hx
  obtain ⟨c, d⟩ := hy
  constructor
  · have h1 : -68719476736 * y ≤ x * y := Int.mul_le_mul_of_nonneg_right a c
    omega
  · have h1 : x * y ≤ 68719476736 * y := Int.mul_le_mul_of_nonneg_right b c
    omega
theorem dot_le : ∀ (xs ys : List Int) (k : Nat), xs.all smB = true → ys.all coB = true → -72057594037927936 * k ≤ dot (xs.take k) (ys.take k) ∧ dot (xs.take k) (ys.take k) ≤ 72057594037927936 * k
  | _, _, 0, _, _ => by simp [dot]
  | [], _, k + 1, _, _ => by simp [dot]; omega
  | x :: xs, [], k + 1, _, _ => by simp [dot]; omega
  | x :: xs, y :: ys, k + 1, h, h' => by
    simp only [List.all_cons, Bool.and_eq_true] at h h'
    have := dot_le xs ys k h.2 h'.2
    have := mul_le h.1 h'.1
    simp only [List.take_succ_cons, dot]
    omega

set_option maxHeartbeats 400000 in
theorem valueAt_full (b off n cap b' off' cap' : Nat) (c : Int) (w : World) (xs ys : List Int) (hx : xs.length = n) (hy : ys.length = n) (hn : n ≤ 96) (hb : b < w.heap.size) (hb' : b' < w.heap.size)
    (hs : xs.all smB = true) (hs' : ys.all coB = true) (hsc : smB c = true)
    (hc : ∀ i, i < n → w.cell? ⟨b, off + i, none⟩ = some (.int .i64 (xs.getD i 0))) (hc' : ∀ i, i < n → w.cell? ⟨b', off' + i, none⟩ = some (.int .i64 (ys.getD i 0))) :
    Calls Tryd.prog 72 #[.agg #[.slice (some ⟨b, off, none⟩) n cap, .int .i64 c], .slice (some ⟨b', off', none⟩) n cap'] w fun e w' => e = .returned (.int .i64 (c + dot xs ys)) ∧ Below w.heap.size w w' := by
  go_enter Tryd.func72, Tryd.ntmps72
  go_wp2_with fail
  go_loop [5, 13] (fun u v => ∃ k : Nat, k ≤ n ∧ v = .int .i64 k ∧ u = .int .i64 (c + dot (xs.take k) (ys.take k))) (fun _ v => n - (intOf v).toNat)
  case atStart => exact ⟨0, Nat.zero_le _, rfl, by simp [dot]⟩
  case round =>
    obtain ⟨k, hk, rfl, rfl⟩ := hrel
    by_cases h1 : k < n
    · have g1 : (w.alloc (.cells #[.slice (some ⟨b, off, none⟩) n cap, .int .i64 c] 54)).cell? ⟨b, off + k, none⟩ = some (.int .i64 (xs.getD k 0)) := (World.cell?_alloc_past _ _ _ (by simpa using hb)).trans (hc k h1)
      have g2 : (w.alloc (.cells #[.slice (some ⟨b, off, none⟩) n cap, .int .i64 c] 54)).cell? ⟨b', off' + k, none⟩ = some (.int .i64 (ys.getD k 0)) := (World.cell?_alloc_past _ _ _ (by simpa using hb')).trans (hc' k h1)
      have d0 := dot_le xs ys k hs hs'
      have d1 := dot_le xs ys (k + 1) hs hs'
      have d2 := dot_snoc xs ys k (by omega) (by omega)
      have d3 := mul_le (List.all_eq_true.1 hs _ (List.getElem_mem (by omega : k < xs.length))) (List.all_eq_true.1 hs' _ (List.getElem_mem (by omega : k < ys.length)))
      rw [smB_true] at hsc
      have HD : Hid (c + dot (xs.take (k + 1)) (ys.take (k + 1)) = c + dot (xs.take k) (ys.take k) + xs[k] * ys[k]) := by show _ = _; omega
      have b1 : -9223372036854775808 ≤ c + dot (xs.take k) (ys.take k) + xs[k] * ys[k] := by omega
      have b2 : c + dot (xs.take k) (ys.take k) + xs[k] * ys[k] ≤ 9223372036854775807 := by omega
      clear d1 d2 hs hs'
      go_wp2
      go_round
      case rel => exact ⟨k + 1, by omega, by go_num, by rw [HD.out]⟩
      case measure => simp [intOf]; omega
    · have e1 : Hid (xs.take k = xs) := List.take_of_length_le (by omega)
      have e2 : Hid (ys.take k = ys) := List.take_of_length_le (by omega)
      go_wp2
      go_ret
      exact ⟨ret_int (by rw [e1.out, e2.out]), allocBelow _ _⟩

theorem valueAt_empty (a a' : Option Addr) (cap cap' : Nat) (c : Int) (w : World) :
    Calls Tryd.prog 72 #[.agg #[.slice a 0 cap, .int .i64 c], .slice a' 0 cap'] w fun e w' => e = .returned (.int .i64 (c + dot [] [])) ∧ Below w.heap.size w w' := by
  go_enter Tryd.func72, Tryd.ntmps72
  go_wp2_with fail
  refine wp_loop_rounds 1 ?_
  rw [rounds_succ]
  go_wp2_with fail
  go_ret
  exact ⟨ret_int (by simp [dot]), allocBelow _ _⟩

theorem valueAt_any {lo lo' : Nat} {w : World} {v v' : Value} {xs ys : List Int} (c : Int) (h : IsInts lo w v xs) (h' : IsInts lo' w v' ys) (hl : xs.length = ys.length) (hn : xs.length ≤ 96)
    (hs : xs.all smB = true) (hs' : ys.all coB = true) (hsc : smB c = true) :
    Calls Tryd.prog 72 #[.agg #[v, .int .i64 c], v'] w fun e w' => e = .returned (.int .i64 (c + dot xs ys)) ∧ Below w.heap.size w w' := by
  obtain ⟨a, cap, rfl, _, _, _, hc⟩ := h
  obtain ⟨a', cap', rfl, _, _, _, hc'⟩ := h'
  rcases hc with rfl | ⟨b, off, rfl, _, hb, hc⟩
  · obtain rfl : ys = [] := List.eq_nil_of_length_eq_zero (by simpa using hl.symm)
    exact valueAt_empty _ _ _ _ _ _
  · rcases hc' with rfl | ⟨b', off', rfl, _, hb', hc'⟩
    · obtain rfl : xs = [] := List.eq_nil_of_length_eq_zero (by simpa using hl)
      exact valueAt_empty _ _ _ _ _ _
    · rw [← hl] at hc' ⊢
      exact valueAt_full _ _ _ _ _ _ _ _ _ _ _ rfl hl.symm hn hb hb' hs hs' hsc hc hc'

/-- What Value returns. -/
def valE (xs ys : List Int) (c : Int) : Int := if xs.length ≠ ys.length ∨ 96 < xs.length ∨ ys.all coB = false then 1 else if smR (xs, c) = false then 4 else 0
def valN (xs ys : List Int) (c : Int) : Int := if valE xs ys c = 0 then c + dot xs ys else 0

set_option maxHeartbeats 400000 in
theorem Value_any {lo lo' : Nat} {w : World} {v v' : Value} {xs ys : List Int} (c : Int) (h : IsInts lo w v xs) (h' : IsInts lo' w v' ys) :
    Calls Tryd.prog 64 #[.agg #[v, .int .i64 c], v'] w fun e w' => e = .returned (.tuple #[.int .i64 (valN xs ys c), .int .i64 (valE xs ys c)]) ∧ Below w.heap.size w w' := by
  have H := h
  have H' := h'
  obtain ⟨a, cap, rfl, _, hm, _, _⟩ := h
  obtain ⟨a', cap', rfl, _, hm', _, _⟩ := h'
  unfold maxLen at hm hm'
  have E : Hid (valE xs ys c = if xs.length ≠ ys.length ∨ 96 < xs.length ∨ ys.all coB = false then 1 else if smR (xs, c) = false then 4 else 0) := (rfl : valE xs ys c = _)
  have V : Hid (valN xs ys c = if valE xs ys c = 0 then c + dot xs ys else 0) := (rfl : valN xs ys c = _)
  by_cases h1 : xs.length = ys.length
  · by_cases h2 : 96 < xs.length
    · have e1 : valE xs ys c = 1 := by rw [E.out, if_pos (by omega)]
      have e2 : valN xs ys c = 0 := by rw [V.out, e1]; rfl
      have h3 : ¬ ((xs.length : Int) ≠ ys.length) := by omega
      rw [e1, e2]
      clear E V e1 e2 h1 H H'
      go_enter Tryd.func64, Tryd.ntmps64
      go_wp2_with fail
      go_ret2
      exact ⟨rfl, allocBelow _ _⟩
    · cases hp : ys.all coB with
      | false =>
        have e1 : valE xs ys c = 1 := by rw [E.out, if_pos (by simp [hp])]
        have e2 : valN xs ys c = 0 := by rw [V.out, e1]; rfl
        rw [e1, e2]
        have h3 : ¬ ((xs.length : Int) ≠ ys.length) := by omega
        clear E V e1 e2 h1
        go_enter Tryd.func64, Tryd.ntmps64
        go_wp2_with (go_at_call 71; refine (isPoint_any (H'.below (allocBelow _ _))).mono ?_; rintro e w' ⟨rfl, rfl⟩)
        go_ret2
        exact ⟨rfl, allocBelow _ _⟩
      | true =>
        have h3 : ¬ ((xs.length : Int) ≠ ys.length) := by omega
        cases hs : smR (xs, c) with
        | false =>
          have e1 : valE xs ys c = 4 := by rw [E.out, if_neg (by simp [hp]; omega), if_pos hs]
          have e2 : valN xs ys c = 0 := by rw [V.out, e1]; rfl
          rw [e1, e2]
          clear E V e1 e2 h1
          go_enter Tryd.func64, Tryd.ntmps64
          go_wp2_with (first | (go_at_call 71; refine (isPoint_any (H'.below (allocBelow _ _))).mono ?_; rintro e w' ⟨rfl, rfl⟩) | (go_at_call 80; refine (small_any _ (H.below (allocBelow _ _))).mono ?_; rintro e w1 ⟨rfl, hb1⟩))
          go_ret2
          exact ⟨rfl, (allocBelow _ _).trans (hb1.mono (by simp))⟩
        | true =>
          have e1 : valE xs ys c = 0 := by rw [E.out, if_neg (by simp [hp]; omega), if_neg (by simp [hs])]
          have e2 : Hid (valN xs ys c = c + dot xs ys) := by show _ = _; rw [V.out, e1]; rfl
          rw [e1]
          obtain ⟨hs1, hs2⟩ := smR_true.1 hs
          have L : Hid (xs.length = ys.length) := h1
          have S1 : Hid (xs.all smB = true) := hs1
          have S2 : Hid (smB c = true) := hs2
          have S3 : Hid (ys.all coB = true) := hp
          clear E V e1 h1 hs1 hs2
          go_enter Tryd.func64, Tryd.ntmps64
          go_wp2_with (first | (go_at_call 71; refine (isPoint_any (H'.below (allocBelow _ _))).mono ?_; rintro e w' ⟨rfl, rfl⟩) | (go_at_call 80; refine (small_any _ (H.below (allocBelow _ _))).mono ?_; rintro e w1 ⟨rfl, hb1⟩; obtain ⟨hc1, hf1⟩ := bcell hb1) | (go_at_call 72; refine (valueAt_any _ ((H.below (allocBelow _ _)).below hb1) ((H'.below (allocBelow _ _)).below hb1) L.out (by omega) S1.out S3.out S2.out).mono ?_; rintro e w2 ⟨rfl, hb2⟩))
          go_ret2
          exact ⟨by rw [e2.out]; rfl, (allocBelow _ _).trans ((hb1.trans (hb2.mono hb1.size)).mono (by simp))⟩
  · have e1 : valE xs ys c = 1 := by rw [E.out, if_pos (by simp [h1])]
    have e2 : valN xs ys c = 0 := by rw [V.out, e1]; rfl
    have h3 : ((xs.length : Int) ≠ ys.length) := by omega
    rw [e1, e2]
    clear E V e1 e2 h1 H H'
    go_enter Tryd.func64, Tryd.ntmps64
    go_wp2_with fail
    go_ret2
    exact ⟨rfl, allocBelow _ _⟩
end Go.Proofs.YtpadmggccpgajaaDoor

namespace Go.Proofs.YtpadmggccpgajaaDoor
open Go.RowKit Go.Deep

set_option maxHeartbeats 400000 in
theorem gcd_any (x y : Int) (w : World) (hx : smB x = true) (hy : smB y = true) :
    Calls Tryd.prog 132 #[.int .i64 x, .int .i64 y] w fun e w' => e = .returned (.int .i64 (Int.gcd x y)) ∧ Below w.heap.size w w' := by
  go_enter Tryd.func132, Tryd.ntmps132
  go_wp2_with fail
  go_loopw [0, 1] (fun u v wr => ∃ a b : Int, u = .int .i64 a ∧ v = .int .i64 b ∧ smB a = true ∧ smB b = true ∧ Int.gcd a b = Int.gcd x y ∧ Below w.heap.size w wr) (fun _ v _ => (intOf v).natAbs)
  case atStart => exact ⟨x, y, rfl, rfl, hx, hy, rfl, Below.refl _ _⟩
  case round =>
    obtain ⟨a, b, rfl, rfl, ha, hb, hg, hB⟩ := hrel
    have HG : Hid (Int.gcd a b = Int.gcd x y) := hg
    have HB : Hid (Below w.heap.size w wr) := hB
    have HA : Hid (smB a = true) := ha
    have HA' : Hid (smB b = true) := hb
    rw [smB_true] at ha hb
    obtain ⟨ha1, ha2⟩ := ha
    obtain ⟨hb1, hb2⟩ := hb
    clear hg hB hx hy
    by_cases h0 : b = 0
    · subst h0
      have e : Hid ((x.gcd y : Int) = a.natAbs) := by show _ = _; rw [← HG.out]; simp
      go_wp2
      all_goals (go_ret; exact ⟨ret_int (by rw [e.out]; omega), HB.out⟩)
    · have hm1 : (a.tmod b).natAbs < b.natAbs := by rw [Int.natAbs_tmod]; exact Nat.mod_lt _ (by omega)
      have hm2 : Hid (smB (a.tmod b) = true) := by show _ = _; rw [smB_true]; omega
      have hm3 : Hid (Int.gcd b (a.tmod b) = x.gcd y) := by
        show _ = _
        rw [← HG.out]
        simp only [Int.gcd, Int.natAbs_tmod]
        rw [Nat.gcd_comm, ← Nat.gcd_rec, Nat.gcd_comm]
      go_wp2
      go_region
      go_wp2
      go_roundw
      case rel => exact ⟨b, a.tmod b, rfl, rfl, HA'.out, hm2.out, hm3.out, HB.out.drew⟩
      case measure => simpa [intOf] using hm1

theorem tdiv_small {x y : Int} (hx : smB x = true) : -68719476736 ≤ x.tdiv y ∧ x.tdiv y ≤ 68719476736 := by
  rw [smB_true] at hx
  have h1 : (x.tdiv y).natAbs ≤ x.natAbs := by rw [Int.natAbs_tdiv]; exact Nat.div_le_self _ _
  omega
theorem div_of_neg {x y : Int} (hy : 1 ≤ y) (h : x.tmod y < 0) : x / y = x.tdiv y - 1 := by
  have e1 := Int.mul_tdiv_add_tmod x y
  have h2 : (x.tmod y).natAbs < y.natAbs := by rw [Int.natAbs_tmod]; exact Nat.mod_lt _ (by omega)
  have e2 : x = (x.tmod y + y) + y * (x.tdiv y - 1) := by rw [Int.mul_sub]; omega
  rw [e2, Int.add_mul_ediv_left _ _ (by omega), Int.ediv_eq_zero_of_lt (by omega) (by omega)]
  rw [← e2]; omega
theorem div_of_nonneg {x y : Int} (hy : 1 ≤ y) (h : ¬ x.tmod y < 0) : x / y = x.tdiv y := by
  have e1 := Int.mul_tdiv_add_tmod x y
  have h2 : (x.tmod y).natAbs < y.natAbs := by rw [Int.natAbs_tmod]; exact Nat.mod_lt _ (by omega)
  have e2 : x = x.tmod y + y * x.tdiv y := by omega
  rw [e2, Int.add_mul_ediv_left _ _ (by omega), Int.ediv_eq_zero_of_lt (by omega) (by omega)]
  rw [← e2]; omega

theorem floorDiv_any (x y : Int) (w : World) (hx : smB x = true) (hy : 1 ≤ y) (hy' : y ≤ 68719476736) :
    Calls Tryd.prog 121 #[.int .i64 x, .int .i64 y] w fun e w' => e = .returned (.int .i64 (x / y)) ∧ w = w' := by
  have D := hid0 (tdiv_small (y := y) hx)
  have e1 : x.tmod y < 0 → Hid (x / y = x.tdiv y - 1) := fun h => div_of_neg hy h
  have e2 : ¬ x.tmod y < 0 → Hid (x / y = x.tdiv y) := fun h => div_of_nonneg hy h
  have hx0 := hx
  rw [smB_true] at hx
  obtain ⟨h1, h2⟩ := hx
  by_cases h : x.tmod y < 0
  · have E := e1 h
    clear e1 e2
    go_enter Tryd.func121, Tryd.ntmps121
    go_wp2
    go_ret
    have d := D.out
    exact ⟨ret_int (by rw [E.out]; try exact IntWalk.wrap64_in _ (by omega)), rfl⟩
  · have E := e2 h
    clear e1 e2
    go_enter Tryd.func121, Tryd.ntmps121
    go_wp2
    go_ret
    have d := D.out
    exact ⟨ret_int (by rw [E.out]; try exact IntWalk.wrap64_in _ (by omega)), rfl⟩

theorem info_int : (Tryd.prog.info? 3).map (fun i => (i.zero, i.size, i.bytes)) = some (some (.int .i64 0), 1, 8) := by kernel_rfl

/-- copy into a row of the call's own, whatever the source: all other blocks stay. -/
theorem copy_but {P : Program} {w : World} {ops : Array Oper} {rest : List Oper} {o : Oper} {a : Act} {Q : Exit → Act → World → Prop} (hgd : o.guard = none) (d s : Operand) (dT sT : TypeId)
    (ho : o.op = .call { callee := .builtin .copy, args := #[d, s], argTypes := #[dT, sT] }) (elem : TypeId) (hu : P.underlying dT = some (.slice elem)) (hsz : (P.info? elem).map (·.size) = some 1)
    (dp sp : Option Addr) (dLen dCap sLen sCap : Nat) (hd : a.eval d = .slice dp dLen dCap) (hs : a.eval s = .slice sp sLen sCap)
    (g : Nat) (cur : Array Value) (t : TypeId) (hg : w.heap[g]? = some (.cells cur t (0, 0))) (cs : List Value) (hn : cs.length = Nat.min sLen dLen)
    (hpos : 0 < cs.length → dp = some ⟨g, 0, none⟩ ∧ ∃ ad, sp = some ad ∧ ∀ j v, cs[j]? = some v → w.cell? (ad.add j) = some v)
    (hfit : cs.length ≤ cur.size) (h1 : ∀ v ∈ cs, v.oneCell' = true)
    (h : ∀ w', Hid (∃ cur', w'.heap[g]? = some (.cells cur' t (0, 0)) ∧ ∀ i, i < cs.length → cur'[i]? = cs[i]?) → Hid (∀ k, k ≠ g → w'.heap[k]? = w.heap[k]?) → Below g w w' → wpList P ops Q rest (a.put o.dst (goInt cs.length)) w') :
    wpList P ops Q (o :: rest) a w := by
  by_cases h0 : cs.length = 0
  · obtain rfl : cs = [] := List.eq_nil_of_length_eq_zero h0
    refine wpList_copy_nothing hgd d s dT sT ho elem hu hsz dp sp dLen dCap sLen sCap hd hs (by simpa using hn.symm) ?_
    exact h w ⟨cur, hg, by simp⟩ (hid0 fun _ _ => rfl) (Below.refl _ _)
  · obtain ⟨rfl, ad, rfl, hsrc⟩ := hpos (by omega)
    refine wpList_copy_own hgd d s dT sT ho elem hu hsz g 0 dLen dCap ad sLen sCap hd hs cur t hg cs hn hsrc (by omega) h1 ?_
    refine h _ ⟨_, setRow_heap w g cur _ t (0, 0) hg, fun i hi => ?_⟩ (hid0 fun k hk => setRow_other w g k _ hk) (below_setRow (Below.refl _ _) (Nat.le_refl _) _)
    simp only [List.take_zero, List.nil_append, Nat.zero_add, List.getElem?_toArray]
    rw [List.getElem?_append_left hi]

theorem size_int : (Tryd.prog.info? 3).map (·.size) = some 1 := by kernel_rfl

set_option maxRecDepth 100000 in
theorem cloneRow_any {lo : Nat} {w : World} {v : Value} {xs : List Int} (c : Int) (h : IsInts lo w v xs) (hn : xs.length ≤ 1000) :
    Calls Tryd.prog 67 #[.agg #[v, .int .i64 c]] w fun e w' => ∃ g, e = .returned (.agg #[.slice (some ⟨g, 0, none⟩) xs.length xs.length, .int .i64 c]) ∧ OwnInts w.heap.size w' g xs ∧ Below w.heap.size w w' := by
  obtain ⟨a, cap, rfl, hl, hm, hi, hc⟩ := h
  have HS : Hid (∀ w', Below w.heap.size w w' → 0 < xs.length → ∃ ad, a = some ad ∧ ∀ j v, (xs.map (Value.int .i64))[j]? = some v → w'.cell? (ad.add j) = some v) := hid0 fun w' hb h0 => by
    obtain ⟨ad, h1, h2⟩ := IsInts.src (lo := lo) (xs := xs) ⟨a, cap, rfl, hl, hm, hi, hc⟩ h0
    exact ⟨ad, h1, h2 w' hb⟩
  have HI := hid0 hi.1
  unfold maxLen at hm
  clear hc hi
  have hmk := run_make_row' (P := Tryd.prog) 24 3 (.int .i64 0) 8 Tryd.underlying24 info_int rfl .i64 .i64 xs.length (by omega) (by omega)
  go_enter Tryd.func67, Tryd.ntmps67
  go_wp2_with fail
  go_region
  · go_wp2_with (refine copy_but rfl (.tmp 12) (.tmp 14) 24 24 rfl 3 Tryd.underlying24 size_int _ _ _ _ _ _ rfl rfl (w.heap.size + 1 + 1) (madeCells #[.int .i64 0] xs.length) 3 ((heap_old _ _ (by simp)).trans (heap_new _ _ (by simp))) (xs.map (Value.int .i64)) (by simp) (fun h0 => ⟨rfl, HS.out _ (by go_grown) (by simpa using h0)⟩) (by simp [madeCells]) (by simp [Value.oneCell']) ?_; intro w1 hG hBut hb1; have hs1 : w.heap.size + 4 ≤ w1.heap.size := (by have := hb1.size; simpa using this); have HB1 : Hid (Below w.heap.size w w1) := (Below.trans (by go_grown) (hb1.mono (by omega))); clear hb1; obtain ⟨c1, c2⟩ := but_cell hBut.out)
    obtain ⟨c1, c2⟩ := but_cell hBut.out
    have d1 := c1 (w.heap.size + 1) 0 (by omega)
    have d2 := c1 (w.heap.size + 1) 1 (by omega)
    obtain ⟨cur, hg, hcur⟩ := hG.out
    refine bodyPost_ret (v := .agg #[.slice (some ⟨w.heap.size + 1 + 1, 0, none⟩) xs.length xs.length, .int .i64 c]) (by simp [results, Tryd.results67, go_sem, d1, d2]) rfl ⟨_, rfl, ?_, (HB1.out.setCell (by simp) _).setCell (by simp) _⟩
    refine ⟨by omega, by unfold maxLen; omega, HI.out, cur, 3, ?_, fun i hi => ?_⟩
    · rw [Below.heap_setCell _ _ _ _ (by simp <;> omega), Below.heap_setCell _ _ _ _ (by simp <;> omega)]; exact hg
    · rw [hcur i (by simpa using hi)]; simp [hi]
  · go_wp2_with (refine copy_but rfl (.tmp 12) (.tmp 14) 24 24 rfl 3 Tryd.underlying24 size_int _ _ _ _ _ _ rfl rfl (w.heap.size + 1 + 1 + 1) (madeCells #[.int .i64 0] xs.length) 3 (heap_new _ _ (by simp)) (xs.map (Value.int .i64)) (by simp) (fun h0 => ⟨rfl, HS.out _ (by go_grown) (by simpa using h0)⟩) (by simp [madeCells]) (by simp [Value.oneCell']) ?_; intro w1 hG hBut hb1; have hs1 : w.heap.size + 4 ≤ w1.heap.size := (by have := hb1.size; simpa using this); have HB1 : Hid (Below w.heap.size w w1) := (Below.trans (by go_grown) (hb1.mono (by omega))); clear hb1; obtain ⟨c1, c2⟩ := but_cell hBut.out)
    obtain ⟨c1, c2⟩ := but_cell hBut.out
    have d1 := c1 (w.heap.size + 1) 0 (by omega)
    have d2 := c1 (w.heap.size + 1) 1 (by omega)
    obtain ⟨cur, hg, hcur⟩ := hG.out
    refine bodyPost_ret (v := .agg #[.slice (some ⟨w.heap.size + 1 + 1 + 1, 0, none⟩) xs.length xs.length, .int .i64 c]) (by simp [results, Tryd.results67, go_sem, d1, d2]) rfl ⟨_, rfl, ?_, (HB1.out.setCell (by simp) _).setCell (by simp) _⟩
    refine ⟨by omega, by unfold maxLen; omega, HI.out, cur, 3, ?_, fun i hi => ?_⟩
    · rw [Below.heap_setCell _ _ _ _ (by simp <;> omega), Below.heap_setCell _ _ _ _ (by simp <;> omega)]; exact hg
    · rw [hcur i (by simpa using hi)]; simp [hi]

/-- The content of a list of numbers. -/
def gcdL : List Int → Nat → Nat
  | [], g => g
  | x :: xs, g => gcdL xs (Int.gcd g x)
theorem gcdL_snoc : ∀ (xs : List Int) (g k : Nat) (h : k < xs.length), gcdL (xs.take (k + 1)) g = Int.gcd (gcdL (xs.take k) g) xs[k]
  | x :: xs, g, 0, _ => by simp [gcdL]
  | x :: xs, g, k + 1, h => by
    have := gcdL_snoc xs (Int.gcd g x) k (by simpa using h)
    simpa [gcdL] using this
theorem gcd_small {g : Nat} {x : Int} (hg : g ≤ 68719476736) (hx : smB x = true) : Int.gcd g x ≤ 68719476736 := by
  rw [smB_true] at hx
  by_cases h : g = 0
  · subst h; simp; omega
  · have : Int.gcd g x ≤ g := by
      have := Nat.le_of_dvd (by omega) (Nat.gcd_dvd_left g x.natAbs)
      simpa [Int.gcd] using this
    omega
theorem gcdL_small : ∀ (xs : List Int) (g : Nat), g ≤ 68719476736 → xs.all smB = true → gcdL xs g ≤ 68719476736
  | [], g, hg, _ => hg
  | x :: xs, g, hg, h => by
    simp only [List.all_cons, Bool.and_eq_true] at h
    exact gcdL_small xs _ (gcd_small hg h.1) h.2
theorem all_take_of {p : Int → Bool} {xs : List Int} (k : Nat) (h : xs.all p = true) : (xs.take k).all p = true := by
  rw [List.all_eq_true] at h ⊢
  exact fun x hx => h x (List.mem_of_mem_take hx)
theorem smB_nat {g : Nat} (h : g ≤ 68719476736) : smB g = true := by rw [smB_true]; omega

set_option maxHeartbeats 400000 in
theorem contentOf_full (b off n cap : Nat) (c : Int) (w : World) (xs : List Int) (hx : xs.length = n) (hn : n ≤ 9223372036854775807) (hb : b < w.heap.size) (hs : xs.all smB = true)
    (hc : ∀ i, i < n → w.cell? ⟨b, off + i, none⟩ = some (.int .i64 (xs.getD i 0))) :
    Calls Tryd.prog 120 #[.agg #[.slice (some ⟨b, off, none⟩) n cap, .int .i64 c]] w fun e w' => e = .returned (.int .i64 (gcdL xs 0)) ∧ Below w.heap.size w w' := by
  go_enter Tryd.func120, Tryd.ntmps120
  go_wp2_with fail
  go_loopw [3, 9] (fun u v wr => ∃ k : Nat, k ≤ n ∧ v = .int .i64 k ∧ u = .int .i64 (gcdL (xs.take k) 0) ∧ Below w.heap.size w wr) (fun _ v _ => n - (intOf v).toNat)
  case atStart => exact ⟨0, Nat.zero_le _, rfl, rfl, allocBelow _ _⟩
  case round =>
    obtain ⟨k, hk, rfl, rfl, hB⟩ := hrel
    have HB : Hid (Below w.heap.size w wr) := hB
    by_cases h1 : k < n
    · have g1 : wr.cell? ⟨b, off + k, none⟩ = some (.int .i64 (xs.getD k 0)) := (hB.cell (p := ⟨b, off + k, none⟩) hb).trans (hc k h1)
      have s1 : Hid (smB (gcdL (xs.take k) 0) = true) := smB_nat (gcdL_small _ _ (by omega) (all_take_of k hs))
      have s2 : Hid (smB (xs[k]'(by omega)) = true) := List.all_eq_true.1 hs _ (List.getElem_mem _)
      have s3 : Hid (gcdL (xs.take (k + 1)) 0 = Int.gcd (gcdL (xs.take k) 0) (xs[k]'(by omega))) := gcdL_snoc xs 0 k (by omega)
      clear hB hs
      go_wp2_with (go_at_call 132; refine (gcd_any _ _ _ s1.out s2.out).mono ?_; rintro e w1 ⟨rfl, hb1⟩)
      go_roundw
      case rel => exact ⟨k + 1, by omega, by go_num, by rw [s3.out], HB.out.trans (hb1.mono HB.out.size)⟩
      case measure => simp [intOf]; omega
    · have e1 : Hid (xs.take k = xs) := List.take_of_length_le (by omega)
      clear hB hs
      go_wp2_with fail
      go_ret
      exact ⟨ret_int (by rw [e1.out]), HB.out⟩

theorem contentOf_empty (a : Option Addr) (cap : Nat) (c : Int) (w : World) :
    Calls Tryd.prog 120 #[.agg #[.slice a 0 cap, .int .i64 c]] w fun e w' => e = .returned (.int .i64 (gcdL [] 0)) ∧ Below w.heap.size w w' := by
  go_enter Tryd.func120, Tryd.ntmps120
  go_wp2_with fail
  refine wp_loop_rounds 1 ?_
  rw [rounds_succ]
  go_wp2_with fail
  go_ret
  exact ⟨ret_int rfl, allocBelow _ _⟩

theorem contentOf_any {lo : Nat} {w : World} {v : Value} {xs : List Int} (c : Int) (h : IsInts lo w v xs) (hs : xs.all smB = true) :
    Calls Tryd.prog 120 #[.agg #[v, .int .i64 c]] w fun e w' => e = .returned (.int .i64 (gcdL xs 0)) ∧ Below w.heap.size w w' := by
  obtain ⟨a, cap, rfl, hl, hm, hi, hc⟩ := h
  unfold maxLen at hm
  rcases hc with rfl | ⟨b, off, rfl, _, hb, hc⟩
  · exact contentOf_empty _ _ _ _
  · exact contentOf_full _ _ _ _ _ _ _ rfl (by omega) hb hs hc

/-- The row after k rounds of a division in place. -/
def midL (f : Int → Int) (xs : List Int) (k : Nat) : List Int := (xs.take k).map f ++ xs.drop k
theorem midL_length (f : Int → Int) (xs : List Int) (k : Nat) : (midL f xs k).length = xs.length := by simp [midL]; omega
theorem midL_get (f : Int → Int) (xs : List Int) (k : Nat) (h : k < xs.length) : (midL f xs k).getD k 0 = xs[k] := by
  have h1 : k ≤ xs.length := by omega
  simp [midL, List.getD, h1, h]
theorem midL_set (f : Int → Int) (xs : List Int) (k : Nat) (h : k < xs.length) : (midL f xs k).set k (f xs[k]) = midL f xs (k + 1) := by
  have h1 : min k xs.length = k := by omega
  simp only [midL]
  rw [List.set_append_right _ _ (by simp; omega), List.drop_eq_getElem_cons h, List.take_succ_eq_append_getElem h, List.map_append, List.append_assoc]
  have e : k - ((xs.take k).map f).length = 0 := by simp; omega
  rw [e]; rfl
theorem midL_end (f : Int → Int) (xs : List Int) (k : Nat) (h : xs.length ≤ k) : midL f xs k = xs.map f := by
  simp [midL, List.take_of_length_le h, List.drop_eq_nil_of_le h]

set_option maxHeartbeats 400000 in
theorem Tighten_any {lo : Nat} {w : World} {v : Value} {xs : List Int} (c : Int) (h : IsInts lo w v xs) (hn : xs.length ≤ 1000) (hs : smR (xs, c) = true) (g0 : gcdL xs 0 ≠ 0) :
    Calls Tryd.prog 63 #[.agg #[v, .int .i64 c]] w fun e w' => ∃ g, e = .returned (.agg #[.slice (some ⟨g, 0, none⟩) xs.length xs.length, .int .i64 (c / gcdL xs 0)]) ∧ OwnInts w.heap.size w' g (xs.map fun x => x.tdiv (gcdL xs 0)) ∧ Below w.heap.size w w' := by
  have H := h
  obtain ⟨a, cap, rfl, _, hm, _, _⟩ := h
  unfold maxLen at hm
  go_enter Tryd.func63, Tryd.ntmps63
  have HS := hid0 hs
  have HS1 := hid0 (smR_true.1 hs).1
  have hs3 : smR (xs, c) = true := HS.out
  have hg0 : ((gcdL xs 0 : Int) == 0) = false := by simp; omega
  clear hs
  go_wp2_with (first | (go_at_call 67; refine (cloneRow_any c (H.below (by go_grown)) hn).mono ?_; rintro e w1 ⟨g, rfl, hO, hb1⟩; have hB1 : Below w.heap.size w w1 := (Below.trans (by go_grown) (hb1.mono (by go_size))); have hs1 := hb1.size; simp only [World.size_alloc] at hs1; have hz0 : w.heap.size < w1.heap.size := (by omega); have hz1 : w.heap.size + 1 < w1.heap.size := (by omega); have hzg := hO.lt; obtain ⟨p1, p2⟩ := blk hb1 (n := w.heap.size) (by go_size); obtain ⟨p3, p4⟩ := blk hb1 (n := w.heap.size + 1) (by go_size)) | (go_at_call 80; refine (small_any c (H.below (by go_grown))).mono ?_; rintro e w2 ⟨rfl, hb2⟩; have hB2 : Below w.heap.size w w2 := (Below.trans (by go_grown) (hb2.mono (by go_size))); have hs2 := hb2.size; simp only [World.size_alloc] at hs2; obtain ⟨q1, q2⟩ := blk hb2 (n := w.heap.size) (by go_size); obtain ⟨q3, q4⟩ := blk hb2 (n := w.heap.size + 1) (by go_size); obtain ⟨q5, q6⟩ := blk hb2 (n := w1.heap.size) (by go_size)) | (go_at_call 120; refine (contentOf_any c (H.below (by go_grown)) HS1.out).mono ?_; rintro e w3 ⟨rfl, hb3⟩; have hB3 : Below w.heap.size w w3 := (hB2.trans (hb3.mono (by go_size))); have hs3' := hb3.size; obtain ⟨q7, q8⟩ := blk hb3 (n := w.heap.size) (by go_size); obtain ⟨q9, q10⟩ := blk hb3 (n := w.heap.size + 1) (by go_size); obtain ⟨q11, q12⟩ := blk hb3 (n := w1.heap.size) (by go_size)))
  have HO3 := hid0 (((hO.below ((allocBelow _ _).trans (hb2.mono (by go_size)))).below hb3).mono (lo' := w.heap.size) (by go_size))
  have HB := hid0 hB3
  have x1 : w3.cell? ⟨w1.heap.size, 0, none⟩ = some (.slice (some ⟨g, 0, none⟩) xs.length xs.length) := by
    rw [(blk hb3 (n := w1.heap.size) (by go_size)).1, (blk hb2 (n := w1.heap.size) (by go_size)).1]; simp
  have x2 : w3.cell? ⟨w1.heap.size, 1, none⟩ = some (.int .i64 c) := by
    rw [(blk hb3 (n := w1.heap.size) (by go_size)).1, (blk hb2 (n := w1.heap.size) (by go_size)).1]; simp
  have x3 : ∀ o, w3.frozen? ⟨w1.heap.size, o, none⟩ = false := fun o => by
    rw [(blk hb3 (n := w1.heap.size) (by go_size)).2, (blk hb2 (n := w1.heap.size) (by go_size)).2]; simp
  have hB13 := (allocBelow w1 _).trans ((hb2.mono (by go_size)).trans (hb3.mono (by go_size)))
  have hB03 := hb1.trans (hB13.mono hb1.size)
  have x4' : Hid (∃ u, w3.cell? ⟨w.heap.size + 1, 0, none⟩ = some u) := ⟨.slice none 0 0, by rw [(blk hB03 (n := w.heap.size + 1) (by go_size)).1]; simp⟩
  have x4'' : Hid (∃ u, w3.cell? ⟨w.heap.size + 1, 1, none⟩ = some u) := ⟨.int .i64 0, by rw [(blk hB03 (n := w.heap.size + 1) (by go_size)).1]; simp⟩
  have x5 : ∀ o, w3.frozen? ⟨w.heap.size + 1, o, none⟩ = false := fun o => by
    rw [(blk hB03 (n := w.heap.size + 1) (by go_size)).2]; simp
  have hzg3 : g ≠ w1.heap.size := by omega
  have hz3 : w.heap.size + 1 ≠ w1.heap.size := by omega
  have hgs : w.heap.size ≤ g ∧ g ≠ w.heap.size + 1 := by have := hO.1; simp only [World.size_alloc] at this; omega
  have hL1 : w1.heap.size < w3.heap.size := by omega
  clear p1 p2 p3 p4 q1 q2 q3 q4 q5 q6 q7 q8 q9 q10 q11 q12 hO hb1 hb2 hb3 hB1 hB2 hB3 hB13 hB03 hs1 hs2 hs3 hs3'
  go_loopw [20] (fun v wr => ∃ k : Nat, k ≤ xs.length ∧ v = .int .i64 k ∧ OwnInts w.heap.size wr g (midL (fun x => x.tdiv (gcdL xs 0)) xs k) ∧ (∀ b, b ≠ g → wr.heap[b]? = w3.heap[b]?) ∧ Below w.heap.size w wr) (fun v _ => xs.length - (intOf v).toNat)
  case atStart => exact ⟨0, Nat.zero_le _, rfl, by simpa [midL] using HO3.out, fun _ _ => rfl, HB.out⟩
  case round =>
    obtain ⟨k, hk, rfl, hO, hBut, hB⟩ := hrel
    have HOr := hid0 hO
    have HBut := hid0 hBut
    have HBr := hid0 hB
    obtain ⟨c1, c2⟩ := but_cell hBut
    have y1 : wr.cell? ⟨w1.heap.size, 0, none⟩ = some (.slice (some ⟨g, 0, none⟩) xs.length xs.length) := (c1 _ _ (by omega)).trans x1
    have y2 : wr.cell? ⟨w1.heap.size, 1, none⟩ = some (.int .i64 c) := (c1 _ _ (by omega)).trans x2
    by_cases h1 : k < xs.length
    · have g1 : wr.cell? ⟨g, k, none⟩ = some (.int .i64 (xs[k]'h1)) := by
        rw [hO.cell k (by rw [midL_length]; exact h1), midL_get _ _ _ h1]
      have g2 : wr.frozen? ⟨g, k, none⟩ = false := hO.frozen k
      have b0 := List.all_eq_true.1 HS1.out _ (List.getElem_mem h1)
      rw [smB_true] at b0
      obtain ⟨b1, b2⟩ := b0
      have b3 : (1 : Int) ≤ gcdL xs 0 := by omega
      have b4 : ¬ ((gcdL xs 0 : Int) = 0) := by omega
      clear hO hBut hB c1 c2 x1 x2 x3 x5
      go_wp2
      go_roundw
      case rel =>
        refine ⟨k + 1, by omega, by go_num, ?_, fun b hb => (Below.heap_setCell _ _ _ _ hb).trans (HBut.out b hb), HBr.out.setCell hgs.1 _⟩
        rw [← midL_set _ _ _ h1]
        refine HOr.out.set k _ ?_
        have e := tdiv_small (y := gcdL xs 0) (List.all_eq_true.1 HS1.out _ (List.getElem_mem h1))
        constructor <;> omega
      case measure => simp [intOf]; omega
    · obtain rfl : k = xs.length := by omega
      have s2 : Hid (smB c = true) := by
        exact (smR_true.1 HS.out).2
      have b3 : (1 : Int) ≤ gcdL xs 0 := by omega
      have b5 : (gcdL xs 0 : Int) ≤ 68719476736 := by
        have := gcdL_small xs 0 (by omega) HS1.out
        omega
      obtain ⟨u4, hu4⟩ := x4'.out
      obtain ⟨u5, hu5⟩ := x4''.out
      have y3 : ∀ o, wr.frozen? ⟨w1.heap.size, o, none⟩ = false := fun o => (c2 _ _ (by omega)).trans (x3 o)
      have y4 : wr.cell? ⟨w.heap.size + 1, 0, none⟩ = some u4 := (c1 _ _ (by omega)).trans hu4
      have y5 : wr.cell? ⟨w.heap.size + 1, 1, none⟩ = some u5 := (c1 _ _ (by omega)).trans hu5
      have y6 : ∀ o, wr.frozen? ⟨w.heap.size + 1, o, none⟩ = false := fun o => (c2 _ _ (by omega)).trans (x5 o)
      clear hO hBut hB c1 c2 x1 x2 x3 x5 hu4 hu5 h1 hk
      go_wp2_with (go_at_call 121; refine (floorDiv_any _ _ _ s2.out b3 b5).mono ?_; rintro e w' ⟨rfl, rfl⟩)
      have z1 : w.heap.size ≤ w1.heap.size := by omega
      refine bodyPost_ret (v := .agg #[.slice (some ⟨g, 0, none⟩) xs.length xs.length, .int .i64 (c / gcdL xs 0)]) (by simp [results, Tryd.results63, go_sem, y4, y5]) rfl ⟨g, rfl, ?_, ((HBr.out.setCell z1 _).setCell (by simp) _).setCell (by simp) _⟩
      have hO := HOr.out
      rw [midL_end _ _ _ (Nat.le_refl _)] at hO
      exact ((hO.setOther _ _ (by simp; omega)).setOther _ _ (by simp; omega)).setOther _ _ (by simp; omega)

set_option maxHeartbeats 400000 in
theorem Tighten_large {lo : Nat} {w : World} {v : Value} {xs : List Int} (c : Int) (h : IsInts lo w v xs) (hn : xs.length ≤ 1000) (hs : smR (xs, c) = false) :
    Calls Tryd.prog 63 #[.agg #[v, .int .i64 c]] w fun e w' => ∃ g, e = .returned (.agg #[.slice (some ⟨g, 0, none⟩) xs.length xs.length, .int .i64 c]) ∧ OwnInts w.heap.size w' g xs ∧ Below w.heap.size w w' := by
  have H := h
  obtain ⟨a, cap, rfl, _, hm, _, _⟩ := h
  unfold maxLen at hm
  go_enter Tryd.func63, Tryd.ntmps63
  go_wp2_with (first | (go_at_call 67; refine (cloneRow_any c (H.below (by go_grown)) hn).mono ?_; rintro e w1 ⟨g, rfl, hO, hb1⟩; have hB1 : Below w.heap.size w w1 := (Below.trans (by go_grown) (hb1.mono (by go_size))); have hs1 := hb1.size; simp only [World.size_alloc] at hs1; have hz0 : w.heap.size < w1.heap.size := (by omega); have hz1 : w.heap.size + 1 < w1.heap.size := (by omega); have hzg := hO.lt; obtain ⟨p1, p2⟩ := blk hb1 (n := w.heap.size) (by go_size); obtain ⟨p3, p4⟩ := blk hb1 (n := w.heap.size + 1) (by go_size)) | (go_at_call 80; refine (small_any c (H.below (by go_grown))).mono ?_; rintro e w2 ⟨rfl, hb2⟩; have hB2 : Below w.heap.size w w2 := (Below.trans (by go_grown) (hb2.mono (by go_size))); have hs2 := hb2.size; simp only [World.size_alloc] at hs2; obtain ⟨q1, q2⟩ := blk hb2 (n := w.heap.size) (by go_size); obtain ⟨q3, q4⟩ := blk hb2 (n := w.heap.size + 1) (by go_size); obtain ⟨q5, q6⟩ := blk hb2 (n := w1.heap.size) (by go_size)))
  have hB02 := hb1.trans (((allocBelow w1 _).trans (hb2.mono (by go_size))).mono hb1.size)
  have d1 : w2.cell? ⟨w.heap.size + 1, 0, none⟩ = some (.slice none 0 0) := by rw [(blk hB02 (n := w.heap.size + 1) (by go_size)).1]; simp
  have d2 : w2.cell? ⟨w.heap.size + 1, 1, none⟩ = some (.int .i64 0) := by rw [(blk hB02 (n := w.heap.size + 1) (by go_size)).1]; simp
  have hgs : g ≠ w.heap.size + 1 := by have := hO.1; simp only [World.size_alloc] at this; omega
  refine bodyPost_ret (v := .agg #[.slice (some ⟨g, 0, none⟩) xs.length xs.length, .int .i64 c]) (by simp [results, Tryd.results63, go_sem, d1, d2]) rfl ⟨g, rfl, ?_, (hB2.setCell (by simp) _).setCell (by simp) _⟩
  have hO2 := ((hO.below (allocBelow _ _)).below hb2).mono (lo' := w.heap.size) (by go_size)
  exact (hO2.setOther _ _ (by simp; omega)).setOther _ _ (by simp; omega)

set_option maxHeartbeats 400000 in
theorem Tighten_zero {lo : Nat} {w : World} {v : Value} {xs : List Int} (c : Int) (h : IsInts lo w v xs) (hn : xs.length ≤ 1000) (hs : smR (xs, c) = true) (g0 : gcdL xs 0 = 0) :
    Calls Tryd.prog 63 #[.agg #[v, .int .i64 c]] w fun e w' => ∃ g, e = .returned (.agg #[.slice (some ⟨g, 0, none⟩) xs.length xs.length, .int .i64 c]) ∧ OwnInts w.heap.size w' g xs ∧ Below w.heap.size w w' := by
  have H := h
  obtain ⟨a, cap, rfl, _, hm, _, _⟩ := h
  unfold maxLen at hm
  have HS := hid0 hs
  have HS1 := hid0 (smR_true.1 hs).1
  have hs3 : smR (xs, c) = true := HS.out
  have hg0 : ((gcdL xs 0 : Int) == 0) = true := by simp [g0]
  clear hs g0
  go_enter Tryd.func63, Tryd.ntmps63
  go_wp2_with (first | (go_at_call 67; refine (cloneRow_any c (H.below (by go_grown)) hn).mono ?_; rintro e w1 ⟨g, rfl, hO, hb1⟩; have hB1 : Below w.heap.size w w1 := (Below.trans (by go_grown) (hb1.mono (by go_size))); have hs1 := hb1.size; simp only [World.size_alloc] at hs1; have hz0 : w.heap.size < w1.heap.size := (by omega); have hz1 : w.heap.size + 1 < w1.heap.size := (by omega); have hzg := hO.lt; obtain ⟨p1, p2⟩ := blk hb1 (n := w.heap.size) (by go_size); obtain ⟨p3, p4⟩ := blk hb1 (n := w.heap.size + 1) (by go_size)) | (go_at_call 80; refine (small_any c (H.below (by go_grown))).mono ?_; rintro e w2 ⟨rfl, hb2⟩; have hB2 : Below w.heap.size w w2 := (Below.trans (by go_grown) (hb2.mono (by go_size))); have hs2 := hb2.size; simp only [World.size_alloc] at hs2; obtain ⟨q1, q2⟩ := blk hb2 (n := w.heap.size) (by go_size); obtain ⟨q3, q4⟩ := blk hb2 (n := w.heap.size + 1) (by go_size); obtain ⟨q5, q6⟩ := blk hb2 (n := w1.heap.size) (by go_size)) | (go_at_call 120; refine (contentOf_any c (H.below (by go_grown)) HS1.out).mono ?_; rintro e w3 ⟨rfl, hb3⟩; have hB3 : Below w.heap.size w w3 := (hB2.trans (hb3.mono (by go_size))); have hs3' := hb3.size; obtain ⟨q7, q8⟩ := blk hb3 (n := w.heap.size) (by go_size); obtain ⟨q9, q10⟩ := blk hb3 (n := w.heap.size + 1) (by go_size); obtain ⟨q11, q12⟩ := blk hb3 (n := w1.heap.size) (by go_size)))
  have hB02 := hb1.trans (((allocBelow w1 _).trans ((hb2.mono (by go_size)).trans (hb3.mono (by go_size)))).mono hb1.size)
  have d1 : w3.cell? ⟨w.heap.size + 1, 0, none⟩ = some (.slice none 0 0) := by rw [(blk hB02 (n := w.heap.size + 1) (by go_size)).1]; simp
  have d2 : w3.cell? ⟨w.heap.size + 1, 1, none⟩ = some (.int .i64 0) := by rw [(blk hB02 (n := w.heap.size + 1) (by go_size)).1]; simp
  have hgs : g ≠ w.heap.size + 1 := by have := hO.1; simp only [World.size_alloc] at this; omega
  refine bodyPost_ret (v := .agg #[.slice (some ⟨g, 0, none⟩) xs.length xs.length, .int .i64 c]) (by simp [results, Tryd.results63, go_sem, d1, d2]) rfl ⟨g, rfl, ?_, (hB3.setCell (by simp) _).setCell (by simp) _⟩
  have hO2 := (((hO.below (allocBelow _ _)).below hb2).below hb3).mono (lo' := w.heap.size) (by go_size)
  exact (hO2.setOther _ _ (by simp; omega)).setOther _ _ (by simp; omega)

/-- What Tighten returns. -/
def tX (xs : List Int) (c : Int) : List Int := if smR (xs, c) = true ∧ gcdL xs 0 ≠ 0 then xs.map fun x => x.tdiv (gcdL xs 0) else xs
def tC (xs : List Int) (c : Int) : Int := if smR (xs, c) = true ∧ gcdL xs 0 ≠ 0 then c / gcdL xs 0 else c
theorem Tighten_every {lo : Nat} {w : World} {v : Value} {xs : List Int} (c : Int) (h : IsInts lo w v xs) (hn : xs.length ≤ 1000) :
    Calls Tryd.prog 63 #[.agg #[v, .int .i64 c]] w fun e w' => ∃ g, e = .returned (.agg #[.slice (some ⟨g, 0, none⟩) xs.length xs.length, .int .i64 (tC xs c)]) ∧ OwnInts w.heap.size w' g (tX xs c) ∧ Below w.heap.size w w' := by
  cases hs : smR (xs, c) with
  | false =>
    rw [show tC xs c = c by simp [tC, hs], show tX xs c = xs by simp [tX, hs]]
    exact Tighten_large c h hn hs
  | true =>
    by_cases g0 : gcdL xs 0 = 0
    · rw [show tC xs c = c by simp [tC, g0], show tX xs c = xs by simp [tX, g0]]
      exact Tighten_zero c h hn hs g0
    · rw [show tC xs c = c / gcdL xs 0 by simp [tC, g0, hs], show tX xs c = xs.map fun x => x.tdiv (gcdL xs 0) by simp [tX, g0, hs]]
      exact Tighten_any c h hn hs g0
end Go.Proofs.YtpadmggccpgajaaDoor

namespace Go.Proofs.YtpadmggccpgajaaDoor
open Go.RowKit Go.Deep

/-- A row: its coefficients and its constant. -/
abbrev Rw := List Int × Int
/-- The value v is a slice of rows that reads as rs. -/
def IsRows (lo : Nat) (w : World) (v : Value) (rs : List Rw) : Prop :=
  ∃ (a : Option Addr) (cap : Nat), v = .slice a rs.length cap ∧ rs.length ≤ cap ∧ cap ≤ maxLen ∧
    (rs = [] ∨ ∃ b off, a = some ⟨b, off, none⟩ ∧ lo ≤ b ∧ b < w.heap.size ∧
      ∀ i (hi : i < rs.length), ∃ sv, w.cell? ⟨b, off + i * 2, none⟩ = some sv ∧ w.cell? ⟨b, off + i * 2 + 1, none⟩ = some (.int .i64 rs[i].2) ∧ IsInts lo w sv rs[i].1 ∧ I64 rs[i].2)

theorem IsRows.below {lo : Nat} {w w' : World} {v : Value} {rs : List Rw} (h : IsRows lo w v rs) (hb : Below w.heap.size w w') : IsRows lo w' v rs := by
  obtain ⟨a, cap, hv, hl, hm, hc⟩ := h
  refine ⟨a, cap, hv, hl, hm, ?_⟩
  rcases hc with hc | ⟨b, off, ha, hlo, hbk, hcell⟩
  · exact .inl hc
  · refine .inr ⟨b, off, ha, hlo, Nat.lt_of_lt_of_le hbk hb.size, fun i hi => ?_⟩
    obtain ⟨sv, h1, h2, h3, h4⟩ := hcell i hi
    exact ⟨sv, (hb.cell (p := ⟨b, off + i * 2, none⟩) hbk).trans h1, (hb.cell (p := ⟨b, off + i * 2 + 1, none⟩) hbk).trans h2, h3.below hb, h4⟩

theorem take_allR {p : Rw → Bool} {xs : List Rw} {k : Nat} (h : k < xs.length) (hk : (xs.take k).all p = true) (hp : p xs[k] = true) : (xs.take (k + 1)).all p = true := by
  rw [List.take_succ_eq_append_getElem h, List.all_append, hk]; simp [hp]
theorem all_noR {p : Rw → Bool} {xs : List Rw} {k : Nat} (h : k < xs.length) (hp : p xs[k] = false) : xs.all p = false := by
  rw [List.all_eq_false]; exact ⟨xs[k], List.getElem_mem h, by simp [hp]⟩
theorem all_takeR {p : Rw → Bool} {xs : List Rw} {k : Nat} (h : k = xs.length) (hk : (xs.take k).all p = true) : xs.all p = true := by
  rw [← List.take_of_length_le (by omega : xs.length ≤ k)]; exact hk

theorem IsRows.mono {lo lo' : Nat} {w : World} {v : Value} {rs : List Rw} (h : IsRows lo w v rs) (hl : lo' ≤ lo) : IsRows lo' w v rs := by
  obtain ⟨a, cap, hv, h1, hm, hc⟩ := h
  refine ⟨a, cap, hv, h1, hm, ?_⟩
  rcases hc with hc | ⟨b, off, ha, hlo, hbk, r⟩
  · exact .inl hc
  · exact .inr ⟨b, off, ha, Nat.le_trans hl hlo, hbk, fun i hi => by obtain ⟨sv, h1, h2, h3, h4⟩ := r i hi; exact ⟨sv, h1, h2, h3.mono hl, h4⟩⟩
theorem IsRows.shape {lo : Nat} {w : World} {v : Value} {rs : List Rw} (h : IsRows lo w v rs) : ∃ a cap, v = .slice a rs.length cap := by
  obtain ⟨a, cap, hv, _⟩ := h
  exact ⟨a, cap, hv⟩
theorem IsRows.bound {lo : Nat} {w : World} {v : Value} {rs : List Rw} (h : IsRows lo w v rs) : rs.length ≤ 9223372036854775807 := by
  obtain ⟨a, cap, _, h1, hm, _⟩ := h
  unfold maxLen at hm; omega
theorem IsRows.at {lo : Nat} {w : World} {a : Option Addr} {n cap : Nat} {rs : List Rw} (h : IsRows lo w (.slice a n cap) rs) (k : Nat) (hk : k < rs.length) :
    ∃ b off sv, a = some ⟨b, off, none⟩ ∧ b < w.heap.size ∧ w.cell? ⟨b, off + k * 2, none⟩ = some sv ∧ w.cell? ⟨b, off + k * 2 + 1, none⟩ = some (.int .i64 rs[k].2) ∧ IsInts lo w sv rs[k].1 ∧ I64 rs[k].2 := by
  obtain ⟨a', cap', hv, _, _, hc⟩ := h
  simp only [Value.slice.injEq] at hv
  rcases hc with rfl | ⟨b, off, ha, _, hb, hc⟩
  · simp at hk
  · obtain ⟨sv, h1, h2, h3, h4⟩ := hc k hk
    exact ⟨b, off, sv, hv.1.trans ha, hb, h1, h2, h3, h4⟩
end Go.Proofs.YtpadmggccpgajaaDoor
