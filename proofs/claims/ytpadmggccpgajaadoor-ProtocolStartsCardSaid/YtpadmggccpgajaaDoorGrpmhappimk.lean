import Derived.Deep.OwnRows
import Derived.WalkSpells
import Derived.WalkLawsBesides
import Derived.Deep.QuietTactic
import Derived.BigQuiet
import Derived.LoopTactic
import Derived.Lib.Hide
import Derived.ChangeArms
import Derived.ChangeMaps5
import Derived.Test.YtpadmggccpgajaaDoorProg
import Derived.Test.YtpadmggccpgajaaDoorGrpdkblhleg
import Derived.Test.YtpadmggccpgajaaDoorGrpbebeilmb
import Derived.Test.YtpadmggccpgajaaDoorGrpnjlkfimo
import Derived.Test.YtpadmggccpgajaaDoorGrphfdclkag
import Derived.Test.YtpadmggccpgajaaDoorGrpmnljgbga
import Derived.Test.YtpadmggccpgajaaDoorGrpljjobnhb
import Derived.Test.YtpadmggccpgajaaDoorGrpfibfgldm
set_option linter.all false
namespace Go.Proofs.YtpadmggccpgajaaDoor
open Go.RowKit Go.Deep
theorem wk_adoptB {h : AHeap} {t : ATm} (k0 i k : Nat) (fr : Bool) (e z : Nat) {T : TypeId} {cs ds : List AV} (hk : h k = none) (hb : h k0 = some (.box T cs)) (hi : cs[i]? = some (.v (.slice none 0 0))) (hd : cs.set i (.own k) = ds) :
    Wk h t (fun j => if j = k then some (.row fr e z 0 []) else if j = k0 then some (.box T ds) else h j) t := by
  subst hd
  intro J w0 ρ a w s
  have hρ := s.dom k hk
  have hkk : k0 ≠ k := by rintro rfl; rw [hb] at hk; cases hk
  refine ⟨upd ρ k .nil, ?_⟩
  have hok : ∀ b, okOf ρ b → okOf (upd ρ k .nil) b := fun b hb j c n hj => by
    by_cases e : j = k
    · subst e; rw [upd_same] at hj; cases hj
    · rw [upd_other e] at hj; exact hb _ _ _ hj
  have hn : ∀ j nm, ρ j = some nm → upd ρ k .nil j = some nm := fun j nm hj => by rw [upd_other (by rintro rfl; rw [hρ] at hj; cases hj)]; exact hj
  have hp : ∀ X x, Pu (w0.heap.size ≤ ·) w (okOf ρ) X x → Pu (w0.heap.size ≤ ·) w (okOf (upd ρ k .nil)) X x := fun X x hx => hx.weak hok
  have hat : ∀ j b c n, upd ρ k .nil j = some (.at b c n) → ρ j = some (.at b c n) := fun j b c n hj => by
    by_cases e : j = k
    · subst e; rw [upd_same] at hj; cases hj
    · rw [upd_other e] at hj; exact hj
  refine ⟨⟨fun j k b c d m n hj hk => s.wf.inj _ _ _ _ _ _ _ (hat _ _ _ _ hj) (hat _ _ _ _ hk), fun k b c n hk => s.wf.lo _ _ _ _ (hat _ _ _ _ hk)⟩, s.bel, s.inv, fun j X hj => ?_, fun j hj => ?_, s.tl, fun j hj => (s.tm j hj).keep hp hn, s.df⟩
  · by_cases e : j = k
    · subst e
      rw [if_pos rfl] at hj
      cases hj
      exact ⟨.nil, upd_same _ _ _, blk_nil _ _ _ _ _ _⟩
    · rw [if_neg e] at hj
      by_cases e0 : j = k0
      · subst e0
        rw [if_pos rfl] at hj
        cases hj
        obtain ⟨nm, g1, g2⟩ := s.hp j _ hb
        obtain ⟨b, c, n, vs, q0, q1, q2, q3⟩ := g2
        refine ⟨nm, hn _ _ g1, b, c, n, vs, q0, q1, by simpa using q2, fun l hl => ?_⟩
        have hl' : l < cs.length := by simpa using hl
        rw [List.getElem_set]
        split
        · rename_i e1
          subst e1
          have h1 := q3 i hl'
          have h2 : cs[i] = .v (.slice none 0 0) := by
            rw [List.getElem?_eq_getElem hl'] at hi
            exact Option.some.inj hi
          rw [h2] at h1
          rw [h1.v_inv]
          exact .own (nm := .nil) (upd_same _ _ _)
        · exact (q3 l hl').keep hp hn
      · rw [if_neg e0] at hj
        obtain ⟨nm, g1, g2⟩ := s.hp j X hj
        exact ⟨nm, hn _ _ g1, g2.keep (fun fr X x hx => hx.weak fun b hb => ⟨hok _ hb.1, hb.2⟩) hp hn fun _ _ _ _ => rfl⟩
  · by_cases e : j = k
    · rw [if_pos e] at hj; cases hj
    · rw [if_neg e] at hj
      rw [upd_other e]
      by_cases e0 : j = k0
      · rw [if_pos e0] at hj; cases hj
      · rw [if_neg e0] at hj; exact s.dom j hj
end Go.Proofs.YtpadmggccpgajaaDoor

namespace Go.Proofs.YtpadmggccpgajaaDoor
open Go.RowKit Go.Deep
section
variable {P : Program} {J : World → Prop} {o : Oper}
def AV.isSl : AV → Bool
  | .sl _ _ _ => true
  | .fr (.sl _ _ _) => true
  | _ => false
theorem pu_slice {F ok : Nat → Prop} {w : World} {z n : Nat} {cs : List AV} {v : Value} (h : Pu F w ok (.sl z n cs) v) : ∃ a m c, v = .slice a m c := by
  cases h with
  | sl0 _ _ => exact ⟨_, _, _, rfl⟩
  | sl _ _ _ _ _ _ _ => exact ⟨_, _, _, rfl⟩
theorem rel_slice {ρ : Names} {B : Nat} {w : World} {X : AV} {v : Value} (h : Rel ρ B w X v) (hX : X.isSl = true) : ∃ a m c, v = .slice a m c := by
  cases h with
  | pu h =>
    cases h with
    | any _ => cases hX
    | v _ => cases hX
    | agg _ _ => cases hX
    | tup _ _ => cases hX
    | fr h =>
      rename_i X
      cases X with
      | sl z n cs => exact pu_slice h
      | _ => cases hX
    | sl0 h1 h2 => exact ⟨_, _, _, rfl⟩
    | sl _ _ _ _ _ _ _ => exact ⟨_, _, _, rfl⟩
    | el _ _ _ _ => cases hX
    | clo _ _ => cases hX
    | old _ => cases hX
  | _ => cases hX
theorem sp_bldSI {T : TypeId} {x y : Operand} {X : AV} {k : IntKind} {i : Int} (ho : o.op = .build T #[(0, x), (1, y)]) (hX : X.isSl = true) (H : ∀ a n c, P.built T [(0, .slice a n c), (1, .int k i)] = some #[.slice a n c, .int k i]) :
    ASpec P J o [(x, X), (y, .v (.int k i))] [] (.agg [X, .v (.int k i)]) .no :=
  aspec_val fun ρ B a w _ ha _ => by
    have h1 := ha (x, X) (by simp)
    have h2 := (ha (y, .v (.int k i)) (by simp)).v_inv
    obtain ⟨ad, n, c, e⟩ := rel_slice h1 hX
    refine ⟨.agg #[.slice ad n c, .int k i], ?_, .agg rfl fun j hj => ?_⟩
    · simp only [execOp, ho]
      refine run_val (run_build w T _ _ ?_)
      simp only [List.map_toArray, List.map_cons, List.map_nil]
      rw [h2, show a.eval x = _ from e]
      exact H _ _ _
    · match j, hj with
      | 0, _ =>
        show Rel ρ B w X (.slice ad n c)
        rw [← e]; exact h1
      | 1, _ => exact .pu (.v _)
end
end Go.Proofs.YtpadmggccpgajaaDoor

namespace Go.Proofs.YtpadmggccpgajaaDoor
open Go.RowKit Go.Deep
variable {J : World → Prop}
section
variable {P : Program} {o : Oper}
end
end Go.Proofs.YtpadmggccpgajaaDoor

namespace Go.Proofs.YtpadmggccpgajaaDoor
open Go.RowKit Go.Deep
variable {J : World → Prop}
def AV.mkOld (n : Nat) : AV → AV
  | .v x => .v x
  | X => .old n X
theorem Pu.mkOld {F ok ok' : Nat → Prop} {w : World} {n : Nat} {X : AV} {x : Value} (h : Pu F w ok X x) (hk : ∀ b, ok b → ok' b ∧ b < n) : Pu F w ok' (X.mkOld n) x := by
  cases X with
  | v y => exact h.weak fun b hb => (hk b hb).1
  | _ => exact .old (h.weak hk)
section
variable {P : Program} {w0 : World} {h : AHeap} {t : ATm}
theorem tri_rebase {Φ : Act → World → Prop} (rd : List (Nat × ABlk)) (L : List (Nat × AV)) {n : Nat} (hn : t.n = n) (hrd : rd.map (fun p => h p.1) = rd.map (fun p => some p.2)) (hL : L.map (fun p => (t.f p.1).viewC rd) = L.map (·.2)) (hf : L.all (fun p => (t.f p.1).flat1) = true) (hp : ∀ X ∈ L.map (·.2), Plain X)
    (H : ∀ w1, Below w0.heap.size w0 w1 → ETri J w1 (ofL []) (ofT n (L.map fun p => (p.1, p.2.mkOld w1.heap.size))) Φ) : ETri J w0 h t Φ := by
  subst hn
  intro ρ a w s
  refine H w s.bel (fun _ => none) a w ⟨⟨(fun _ _ _ _ _ _ _ h => by cases h), (fun _ _ _ _ h => by cases h)⟩, Below.refl _ _, fun w' hb => s.inv w' (s.bel.trans (hb.mono s.bel.size)), (fun _ _ h => by cases h), fun _ _ => rfl, s.tl, fun i hi => ?_, s.df⟩
  simp only [ofT]
  cases hfi : (L.map fun p => (p.1, p.2.mkOld w.heap.size)).find? fun p => p.1 == i with
  | none => exact .anyR
  | some p =>
    have hm := List.mem_of_find?_eq_some hfi
    have hk := List.find?_some hfi
    obtain ⟨q, hq, rfl⟩ := List.mem_map.1 hm
    have hq1 : q.1 = i := by simpa using hk
    obtain ⟨j, hj, e⟩ := List.getElem_of_mem hq
    have h1 : (L.map (fun p => (t.f p.1).viewC rd))[j]? = (L.map (·.2))[j]? := by rw [hL]
    simp only [List.getElem?_map, List.getElem?_eq_getElem hj, Option.map_some, e, Option.some.injEq] at h1
    have hrd' : ∀ p ∈ rd, ∃ nm, ρ p.1 = some nm ∧ BlkR ρ w w0.heap.size nm p.2 := fun p hp => by
      obtain ⟨j, hj, e⟩ := List.getElem_of_mem hp
      have h2 : (rd.map (fun p => h p.1))[j]? = (rd.map (fun p => some p.2))[j]? := by rw [hrd]
      simp only [List.getElem?_map, List.getElem?_eq_getElem hj, Option.map_some, e, Option.some.injEq] at h2
      exact s.hp _ _ h2
    have h3 := (s.tm i hi).viewC s.wf hrd' (by have := List.all_eq_true.1 hf q hq; rw [hq1] at this; exact this)
    rw [← hq1, h1, hq1] at h3
    have h4 := h3.plain (F' := (w.heap.size ≤ ·)) (hp _ (List.mem_map_of_mem hq))
    exact .pu (h4.mkOld fun b hb => ⟨(fun _ _ _ h => by cases h), hb⟩)
theorem tri_endV {w1 : World} (hb : Below w0.heap.size w0 w1) {fn : Func} {r : ResultVar} {x : Value} (hr : fn.results = #[r]) (h1 : ResV P h t r (.v x)) : ETri J w1 h t (bodyPost P fn (RetP w0 (.v x)) .ret) := fun ρ a w s => by
  obtain ⟨d, v, r1, v', e, hp, hB⟩ := tri_end1 (J := J) (w0 := w1) (u := .v x) hr h1 rfl ρ a w s
  refine ⟨d, v, r1, v', e, ?_, hb.trans (hB.mono hb.size)⟩
  cases hp with | v _ => exact .v _
end
section
variable {P : Program} {o : Oper}
theorem sp_indexSlF {t e : TypeId} {z n off : Nat} {cs : List AV} {ik : IntKind} {i : Int} (x y : Operand) (ho : o.op = .indexAddr t x y) (hu : P.underlying t = some (.slice e)) (hz : (P.info? e).map (·.size) = some z) (h0 : 0 ≤ i) (h1 : i < n) (he : i.toNat * z = off) :
    ASpec P J o [(x, .fr (.sl z n cs)), (y, .v (.int ik i))] [] (.fr (.el cs off)) .no :=
  aspec_val fun ρ B a w _ ha _ => by
    have h := ha (x, .fr (.sl z n cs)) (by simp)
    have hy := (ha (y, .v (.int ik i)) (by simp)).v_inv
    generalize hx : a.eval x = v at h
    cases h with
    | pu h =>
    cases h with
    | fr h =>
    cases h with
    | sl0 h2 hz => omega
    | sl hc h1' h2 hb hw hfc hr =>
      refine ⟨_, ?_, .pu (.fr (.el (o := off) hb hw hfc hr))⟩
      simp only [execOp, ho, hx, hy]
      exact run_val (by rw [run_index hu hz _ _ _ _ _ _ h0 h1, he])
end
/-- One cell turned. -/
theorem cell_set1 {w : World} {b o : Nat} {v : Value} {cur : Array Value} {T : TypeId} (hg : w.heap[b]? = some (.cells cur T (0, 0))) (ho : o < cur.size) (c j : Nat) : (w.setCells b o [v]).cell? ⟨c, j, none⟩ = if c = b ∧ j = o then some v else w.cell? ⟨c, j, none⟩ := by
  obtain ⟨cur', hg', hs', hget⟩ := setCells_block [v] o w cur hg (by simp; omega)
  by_cases hc : c = b
  · subst hc
    have h1 := hget j
    simp only [List.length_cons, List.length_nil, Nat.zero_add] at h1
    by_cases hj : j = o
    · subst hj
      rw [if_pos ⟨rfl, rfl⟩]
      rw [if_pos ⟨Nat.le_refl _, by omega⟩] at h1
      exact cellB hg' j (v := v) (by rw [h1]; simp)
    · rw [if_neg (fun h => hj h.2)]
      rw [if_neg (by omega)] at h1
      simp only [World.cell?, hg, hg', h1]
  · rw [if_neg (fun h => hc h.1)]
    exact World.cell?_of_block (w := w) (a := ⟨c, j, none⟩) (setCells_other (fun e => hc e) _ _ _)
theorem soft_set1 {w : World} {b o : Nat} {v : Value} {cur : Array Value} {T : TypeId} (hg : w.heap[b]? = some (.cells cur T (0, 0))) (ho : o < cur.size) {c : Nat} (h : soft w c) : soft (w.setCells b o [v]) c := by
  by_cases hc : c = b
  · subst hc
    obtain ⟨cur', hg', _⟩ := setCells_block [v] o w cur hg (by simp; omega)
    exact ⟨_, _, hg'⟩
  · exact soft_eq (setCells_other (fun e => hc e) _ _ _) h
/-- Numbers that can be read go on to be numbers. -/
theorem ints_blur {F ok ok' : Nat → Prop} {w w' : World} {l : List Int} {v : Value} (h : Pu F w ok (intsA l) v) (hsz : w.heap.size ≤ w'.heap.size) (hok : ∀ b, ok b → ok' b) (hc : ∀ c j x, w.cell? ⟨c, j, none⟩ = some (.int .i64 x) → ∃ y, w'.cell? ⟨c, j, none⟩ = some (.int .i64 y)) :
    ∃ l' : List Int, l'.length = l.length ∧ Pu F w' ok' (intsA l') v := by
  unfold intsA at h ⊢
  generalize hcs : l.map iv = cs at h
  generalize hn : l.length = n at h
  cases h with
  | sl0 h2 hz =>
    exact ⟨[], rfl, .sl0 h2 hz⟩
  | sl hl h1 h2 hb hw hf h =>
    rename_i b off cap f
    subst hn hcs
    have H : ∀ j, j < l.length → ∃ y, w'.cell? ⟨b, off + j, none⟩ = some (.int .i64 y) := fun j hj => by
      have hj' : j < (l.map iv).length := by simpa using hj
      have h3 := h j hj'
      simp only [List.getElem_map] at h3
      refine hc b (off + j) l[j] ?_
      rw [hf j hj', h3.v_inv]
    obtain ⟨g, hg⟩ := choose_lt H
    refine ⟨(List.range l.length).map g, by simp, ?_⟩
    have := Pu.sl (F := F) (w := w') (ok := ok') (z := 1) (n := l.length) (b := b) (off := off) (cap := cap) (cs := ((List.range l.length).map g).map iv) (f := fun j => .int .i64 (g j)) (by simp) h1 h2 (hok _ hb) (Nat.lt_of_lt_of_le hw hsz) (fun j hj => hg j (by simpa using hj)) fun j hj => by simp; exact .v _
    simpa using this
section
variable {P : Program} {w0 : World} {ops : Array Oper} {o : Oper} {rest : List Oper} {Q : Exit → Act → World → Prop}
/-- A number is stored into new memory without a name: of all that is neither old nor at hand nothing is known then, but that the numbers of one slice are still numbers. -/
theorem tri_spoilSt {T : TypeId} {cs : List AV} {off n q ix : Nat} {i j : Int} {l : List Int} (x y : Operand) (Lo : List (Nat × AV)) (Lv : List (Nat × Value)) (hg : o.guard = none) (ho : o.op = .store T x y) (hz : (P.info? T).map (·.size) = some 1)
    (hx : aev (ofT n ((q, .fr (intsA l)) :: (ix, .fr (.el cs off)) :: ((Lo.map fun p => (p.1, .old w0.heap.size p.2)) ++ Lv.map fun p => (p.1, .v p.2)))) x = .fr (.el cs off))
    (hy : aev (ofT n ((q, .fr (intsA l)) :: (ix, .fr (.el cs off)) :: ((Lo.map fun p => (p.1, .old w0.heap.size p.2)) ++ Lv.map fun p => (p.1, .v p.2)))) y = .v (.int .i64 j)) (hc : cs[off]? = some (.v (.int .i64 i))) (hd : o.dst = none) (hix : (Lo.map (·.1) ++ Lv.map (·.1)).all (fun k => !(k == ix)) = true)
    (H : ∀ l' : List Int, l'.length = l.length → ETri J w0 (ofL []) (ofT n ((q, .fr (intsA l')) :: ((Lo.map fun p => (p.1, .old w0.heap.size p.2)) ++ Lv.map fun p => (p.1, .v p.2)))) (wpList P ops Q rest)) :
    ETri J w0 (ofL []) (ofT n ((q, .fr (intsA l)) :: (ix, .fr (.el cs off)) :: ((Lo.map fun p => (p.1, .old w0.heap.size p.2)) ++ Lv.map fun p => (p.1, .v p.2)))) (wpList P ops Q (o :: rest)) := by
  intro ρ a w s
  refine wpList_plain hg fun K hK => ?_
  have h1 := s.ev x
  rw [hx] at h1
  have h2 := s.ev y
  rw [hy] at h2
  have h2 := h2.v_inv
  generalize hxe : a.eval x = vx at h1
  cases h1 with
  | pu h1 =>
  cases h1 with
  | fr h1 =>
  cases h1 with
  | el hb hw hf hr =>
  rename_i b o0 f
  obtain ⟨_, hB, cur, Tb, hgb⟩ := hb
  obtain ⟨hoff, hce⟩ := List.getElem?_eq_some_iff.1 hc
  have hcell := hf off hoff
  have hrv := hr off hoff
  rw [hce] at hrv
  have hfv := hrv.v_inv
  rw [hfv] at hcell
  have hsz : o0 + off < cur.size := by
    simp only [World.cell?, hgb] at hcell
    have := (Array.getElem?_eq_some_iff.1 (by simpa using hcell)).1
    exact this
  have hth : w.there b (o0 + off) 1 := fun j hj => ⟨by simp only [World.cell?, hgb]; simp; omega, frozenB hgb _⟩
  have hrun := run_storeC (P := P) hz (w := w) (b := b) (off := o0 + off) (.int .i64 j) rfl (fun v hv => by simp [Value.cells] at hv; rw [hv]; rfl) hth
  unfold Oper.wp
  simp only [execOp, ho, hxe, h2, Sem.run_bind, hrun, Result.andThen_ok, Sem.run_pure]
  have hcl : (Value.int IntKind.i64 j).cells.toList = [.int .i64 j] := rfl
  rw [hcl]
  obtain ⟨q1, q2, q3⟩ := setCells_os b [.int .i64 j] (o0 + off) w
  have hother : ∀ c, c ≠ b → (w.setCells b (o0 + off) [.int .i64 j]).heap[c]? = w.heap[c]? := fun c hc => setCells_other (fun e => hc e) _ _ _
  have hok : ∀ b, okOf ρ b := fun b k c n hk => by rw [s.dom k rfl] at hk; cases hk
  -- the slice
  have hl : ∃ l' : List Int, l'.length = l.length ∧ (q < n → Rel ρ w0.heap.size (w.setCells b (o0 + off) [.int .i64 j]) (.fr (intsA l')) (a.tmps.getD q undef)) := by
    by_cases hq : q < n
    · have hqr := s.tm q hq
      simp only [ofT, List.find?_cons, beq_self_eq_true, if_true, Option.map_some, Option.getD_some] at hqr
      cases hqr with
      | pu hqr =>
      cases hqr with
      | fr hqr =>
      obtain ⟨l', e1, e2⟩ := ints_blur (w' := w.setCells b (o0 + off) [.int .i64 j]) (ok' := fun b' => okOf ρ b' ∧ w0.heap.size ≤ b' ∧ soft (w.setCells b (o0 + off) [.int .i64 j]) b') hqr (Nat.le_of_eq (setCells_size _ _ _ _).symm) (fun b' hb' => ⟨hb'.1, hb'.2.1, soft_set1 hgb hsz hb'.2.2⟩) fun c k y hy => by
        rw [cell_set1 hgb hsz]
        split
        · exact ⟨_, rfl⟩
        · exact ⟨y, hy⟩
      exact ⟨l', e1, fun _ => .pu (.fr e2)⟩
    · exact ⟨l, rfl, fun h => absurd h hq⟩
  obtain ⟨l', hl1, hl2⟩ := hl
  refine hK _ _ (H l' hl1 ρ _ _ ⟨⟨s.wf.inj, fun k b' c n' hk => by rw [s.dom k rfl] at hk; cases hk⟩, s.bel.trans ⟨q1, q2, q3, by rw [setCells_size]; exact Nat.le_refl _, fun b' hb' => hother b' (by omega)⟩, s.inv, (fun _ _ h => by cases h), fun k _ => s.dom k rfl, by rw [put_size]; exact s.tl, fun k hk => ?_, by rw [put_defers]; exact s.df⟩)
  rw [hd]
  simp only [Act.put]
  have hk0 := s.tm k hk
  simp only [ofT, List.find?_cons] at hk0 ⊢
  by_cases hkq : q = k
  · subst hkq
    simp only [beq_self_eq_true, if_true, Option.map_some, Option.getD_some]
    exact hl2 hk
  · have e1 : (q == k) = false := by simpa using hkq
    simp only [e1] at hk0 ⊢
    by_cases hkx : ix = k
    · -- whatever the place was
      cases hfi : ((Lo.map fun p => (p.1, AV.old w0.heap.size p.2)) ++ Lv.map fun p => (p.1, AV.v p.2)).find? fun p => p.1 == k with
      | none => exact .anyR
      | some p =>
        have hm := List.mem_of_find?_eq_some hfi
        have hpk : p.1 = k := by simpa using List.find?_some hfi
        have hall := List.all_eq_true.1 hix
        rcases List.mem_append.1 hm with hm | hm
        · obtain ⟨p', hp', rfl⟩ := List.mem_map.1 hm
          have := hall p'.1 (List.mem_append_left _ (List.mem_map_of_mem hp'))
          simp only [Bool.not_eq_true', beq_eq_false_iff_ne] at this
          exact absurd (hpk.trans hkx.symm) this
        · obtain ⟨p', hp', rfl⟩ := List.mem_map.1 hm
          have := hall p'.1 (List.mem_append_right _ (List.mem_map_of_mem hp'))
          simp only [Bool.not_eq_true', beq_eq_false_iff_ne] at this
          exact absurd (hpk.trans hkx.symm) this
    · have e2 : (ix == k) = false := by simpa using hkx
      simp only [e2] at hk0
      cases hfi : ((Lo.map fun p => (p.1, AV.old w0.heap.size p.2)) ++ Lv.map fun p => (p.1, AV.v p.2)).find? fun p => p.1 == k with
      | none => exact .anyR
      | some p =>
        rw [hfi] at hk0
        have hm := List.mem_of_find?_eq_some hfi
        simp only [Option.map_some, Option.getD_some] at hk0 ⊢
        rcases List.mem_append.1 hm with hm | hm
        · obtain ⟨p', _, rfl⟩ := List.mem_map.1 hm
          cases hk0 with
          | pu hk0 =>
          cases hk0 with
          | old hk0 => exact .pu (.old (hk0.mono (fun b' hb' hw' => ⟨hb', Nat.lt_of_lt_of_eq hw' (setCells_size _ _ _ _).symm, hother b' (by have := hb'.2; omega)⟩) fun _ _ h => h))
        · obtain ⟨p', _, rfl⟩ := List.mem_map.1 hm
          rw [hk0.v_inv]
          exact .pu (.v _)
end
end Go.Proofs.YtpadmggccpgajaaDoor

namespace Go.Proofs.YtpadmggccpgajaaDoor
open Go.RowKit Go.Deep
set_option maxHeartbeats 800000 in
theorem Clone_any {lo : Nat} {w : World} {v : Value} {xs : List Int} (h : IsInts lo w v xs) (hn : xs.length ≤ 1000) :
    Calls Tryd.prog 50 #[v] w fun e w' => ∃ v', e = .returned v' ∧ OwnV w.heap.size w' v' xs ∧ Below w.heap.size w w' := by
  have H := h
  obtain ⟨a, cap, rfl, hl, hm, hi, hc⟩ := h
  obtain ⟨i0, hi0, hz0, hz1, hz2⟩ := info_int4
  have HI := hid0 hi.1
  cases a with
  | none =>
    obtain rfl : cap = 0 := hi.2 rfl
    have h0 : xs.length = 0 := by omega
    obtain rfl : xs = [] := List.eq_nil_of_length_eq_zero h0
    clear hc hi hl hm h0 H
    have q22 : ∀ (w : World) (a : Option Addr) (n c n' c' : Nat), (binOp .eql 24 (.slice a n c) (.slice none n' c')).run Tryd.prog w = .ok (.bool a.isNone) w := fun w a n c n' c' => Lib.run_eql_slice_nil w _ _ a n c n' c' Tryd.underlying24
    go_enter Tryd.func50, Tryd.ntmps50
    go_wp2_with fail
    go_ret
    exact ⟨_, rfl, .inl ⟨rfl, rfl⟩, Below.refl _ _⟩
  | some ad =>
    have HS : Hid (∀ w', Below w.heap.size w w' → ∀ j u, (xs.map (Value.int .i64))[j]? = some u → w'.cell? (ad.add j) = some u) := hid0 fun w' hb j u hj => by
      have h0 : 0 < xs.length := by have := (List.getElem?_eq_some_iff.1 hj).1; simp at this; omega
      obtain ⟨ad', e, hS⟩ := H.src h0
      cases e
      exact hS w' hb j u hj
    have hown := World.ownsRow_lit (base := w.heap.size) (e := 3) (size := 1) w #[] 0 (Nat.le_refl _) (by simp) (by simp)
    have HO := hid0 hown
    clear hown hc hi
    have q22 : ∀ (w : World) (a : Option Addr) (n c n' c' : Nat), (binOp .eql 24 (.slice a n c) (.slice none n' c')).run Tryd.prog w = .ok (.bool a.isNone) w := fun w a n c n' c' => Lib.run_eql_slice_nil w _ _ a n c n' c' Tryd.underlying24
    go_enter Tryd.func50, Tryd.ntmps50
    go_wp2_with (refine wpList_append_own _ rfl (.tmp 5) (.tmp 6) 24 rfl w.heap.size 3 i0 (.int .i64 0) 1 8 Tryd.underlying24 hi0 hz0 hz1 hz2 rfl (by decide) _ _ _ rfl HO.out ad xs.length cap (xs.map (Value.int .i64)) rfl (by simp) (HS.out _ (by go_grown)) (by simp [Value.oneCell']) (by unfold maxLen; omega) (by omega) (by simp) ?_; intro v' w1 hown1 hgrow1 _)
    go_ret
    have hown2 : w1.ownsRow w.heap.size 3 1 v' xs.length (xs.map (Value.int .i64)) := by simpa using hown1
    refine ⟨v', rfl, own_of_row hown2 HI.out, (allocBelow w _).grown hgrow1 (by simp) fun k hk => ?_⟩
    have hk' : some w.heap.size = some k := hk
    injection hk' with hk'
    omega
end Go.Proofs.YtpadmggccpgajaaDoor

namespace Go.Proofs.YtpadmggccpgajaaDoor
open Go.RowKit Go.Deep

end Go.Proofs.YtpadmggccpgajaaDoor

namespace Go.Proofs.YtpadmggccpgajaaDoor
open Go.RowKit Go.Deep

/-- A row: its coefficients and its constant. -/
abbrev Rw := List Int × Int
/-- The value v is a slice of rows that reads as rs. -/
def IsRows (lo : Nat) (w : World) (v : Value) (rs : List Rw) : Prop :=
  ∃ (a : Option Addr) (cap : Nat), v = .slice a rs.length cap ∧ rs.length ≤ cap ∧ cap ≤ maxLen ∧
    (rs = [] ∨ ∃ b off, a = some ⟨b, off, none⟩ ∧ lo ≤ b ∧ b < w.heap.size ∧
      ∀ i (hi : i < rs.length), ∃ sv, w.cell? ⟨b, off + i * 2, none⟩ = some sv ∧ w.cell? ⟨b, off + i * 2 + 1, none⟩ = some (.int .i64 rs[i].2) ∧ IsInts lo w sv rs[i].1 ∧ I64 rs[i].2)

theorem IsRows.below {lo : Nat} {w w' : World} {v : Value} {rs : List Rw} (h : IsRows lo w v rs) (hb : Below w.heap.size w w') : IsRows lo w' v rs := by
  obtain ⟨a, cap, hv, hl, hm, hc⟩ := h
  refine ⟨a, cap, hv, hl, hm, ?_⟩
  rcases hc with hc | ⟨b, off, ha, hlo, hbk, hcell⟩
  · exact .inl hc
  · refine .inr ⟨b, off, ha, hlo, Nat.lt_of_lt_of_le hbk hb.size, fun i hi => ?_⟩
    obtain ⟨sv, h1, h2, h3, h4⟩ := hcell i hi
    exact ⟨sv, (hb.cell (p := ⟨b, off + i * 2, none⟩) hbk).trans h1, (hb.cell (p := ⟨b, off + i * 2 + 1, none⟩) hbk).trans h2, h3.below hb, h4⟩

theorem IsRows.mono {lo lo' : Nat} {w : World} {v : Value} {rs : List Rw} (h : IsRows lo w v rs) (hl : lo' ≤ lo) : IsRows lo' w v rs := by
  obtain ⟨a, cap, hv, h1, hm, hc⟩ := h
  refine ⟨a, cap, hv, h1, hm, ?_⟩
  rcases hc with hc | ⟨b, off, ha, hlo, hbk, r⟩
  · exact .inl hc
  · exact .inr ⟨b, off, ha, Nat.le_trans hl hlo, hbk, fun i hi => by obtain ⟨sv, h1, h2, h3, h4⟩ := r i hi; exact ⟨sv, h1, h2, h3.mono hl, h4⟩⟩
theorem IsRows.shape {lo : Nat} {w : World} {v : Value} {rs : List Rw} (h : IsRows lo w v rs) : ∃ a cap, v = .slice a rs.length cap := by
  obtain ⟨a, cap, hv, _⟩ := h
  exact ⟨a, cap, hv⟩
theorem IsRows.bound {lo : Nat} {w : World} {v : Value} {rs : List Rw} (h : IsRows lo w v rs) : rs.length ≤ 9223372036854775807 := by
  obtain ⟨a, cap, _, h1, hm, _⟩ := h
  unfold maxLen at hm; omega
theorem IsRows.at {lo : Nat} {w : World} {a : Option Addr} {n cap : Nat} {rs : List Rw} (h : IsRows lo w (.slice a n cap) rs) (k : Nat) (hk : k < rs.length) :
    ∃ b off sv, a = some ⟨b, off, none⟩ ∧ b < w.heap.size ∧ w.cell? ⟨b, off + k * 2, none⟩ = some sv ∧ w.cell? ⟨b, off + k * 2 + 1, none⟩ = some (.int .i64 rs[k].2) ∧ IsInts lo w sv rs[k].1 ∧ I64 rs[k].2 := by
  obtain ⟨a', cap', hv, _, _, hc⟩ := h
  simp only [Value.slice.injEq] at hv
  rcases hc with rfl | ⟨b, off, ha, _, hb, hc⟩
  · simp at hk
  · obtain ⟨sv, h1, h2, h3, h4⟩ := hc k hk
    exact ⟨b, off, sv, hv.1.trans ha, hb, h1, h2, h3, h4⟩
end Go.Proofs.YtpadmggccpgajaaDoor

namespace Go.Proofs.YtpadmggccpgajaaDoor
open Go.RowKit Go.Deep

end Go.Proofs.YtpadmggccpgajaaDoor

namespace Go.Proofs.YtpadmggccpgajaaDoor
open Go.RowKit Go.Deep

/-- A property, by its fields. -/
structure Pq where
  nm : ByteArray
  kind : Int
  start : List Int
  bad : List Rw
  adj : List Int
  goal : List Int
/-- The value v is a property that reads as q. -/
def IsProp (lo : Nat) (w : World) (v : Value) (q : Pq) : Prop :=
  ∃ v2 v3 v4 v5, v = .agg #[.string q.nm, .int .i64 q.kind, v2, v3, v4, v5] ∧ IsInts lo w v2 q.start ∧ IsRows lo w v3 q.bad ∧ IsInts lo w v4 q.adj ∧ IsInts lo w v5 q.goal ∧ q.nm.size ≤ maxLen ∧ I64 q.kind
theorem IsProp.below {lo : Nat} {w w' : World} {v : Value} {q : Pq} (h : IsProp lo w v q) (hb : Below w.heap.size w w') : IsProp lo w' v q := by
  obtain ⟨v2, v3, v4, v5, e, h2, h3, h4, h5, h6⟩ := h
  exact ⟨v2, v3, v4, v5, e, h2.below hb, h3.below hb, h4.below hb, h5.below hb, h6⟩
theorem IsProp.mono {lo lo' : Nat} {w : World} {v : Value} {q : Pq} (h : IsProp lo w v q) (hl : lo' ≤ lo) : IsProp lo' w v q := by
  obtain ⟨v2, v3, v4, v5, e, h2, h3, h4, h5, h6⟩ := h
  exact ⟨v2, v3, v4, v5, e, h2.mono hl, h3.mono hl, h4.mono hl, h5.mono hl, h6⟩
end Go.Proofs.YtpadmggccpgajaaDoor

namespace Go.Proofs.YtpadmggccpgajaaDoor
open Go.RowKit Go.Deep Go.ChangeShapes Go.WideShapes Go.ChangeAt Go.Joins

theorem cells_string : Tryd.prog.cellsOf 9 = 1 := by kernel_rfl
theorem cells_prop : Tryd.prog.cellsOf 30 = 6 := by kernel_rfl
theorem cells_ints : Tryd.prog.cellsOf 24 = 1 := by kernel_rfl
theorem cells_row : Tryd.prog.cellsOf 84 = 2 := by kernel_rfl
theorem cells_rows : Tryd.prog.cellsOf 28 = 1 := by kernel_rfl

section
variable {H : Type} {enc : TypeId × Value → H} {w : World} {base : Nat} {sp : Nat → Bool} {held : Bool}

set_option maxRecDepth 100000 in
theorem row_of_trod {n : Nat} {cs : List Value} {x : DataW H × List MemPlace} (h : DataW.trod enc Tryd.prog w base sp held n 84 cs = some x) :
    ∃ v c xs, cs = [v, .int .i64 c] ∧ IsInts 0 w v xs ∧ I64 c := by
  obtain ⟨ys, m, _, _, hlen, _, hf⟩ := DataW.trod_struct Tryd.underlying84 h
  rw [cells_row] at hlen
  match cs, hlen with
  | [v0, v1], _ =>
    have h0 : DataW.trod enc Tryd.prog w base sp held m 24 (([v0, v1].drop 0).take (Tryd.prog.cellsOf 24)) = ys[0]? := hf 0 _ rfl
    have h1 : DataW.trod enc Tryd.prog w base sp held m 3 (([v0, v1].drop 1).take (Tryd.prog.cellsOf 3)) = ys[1]? := hf 1 _ rfl
    rw [cells_ints] at h0
    rw [cells_int] at h1
    simp only [List.drop_zero, List.take_succ_cons, List.take_zero] at h0
    simp only [List.drop_succ_cons, List.drop_zero, List.take_succ_cons, List.take_zero] at h1
    have hx : ∀ i, i < 2 → ∃ y, ys[i]? = some y := fun i hi => ⟨ys[i]'(by simp at *; omega), List.getElem?_eq_getElem _⟩
    obtain ⟨y0, e0⟩ := hx 0 (by omega)
    obtain ⟨y1, e1⟩ := hx 1 (by omega)
    rw [e0] at h0
    rw [e1] at h1
    obtain ⟨xs, hxs⟩ := ints_of_trod Tryd.underlying24 Tryd.underlying3 cells_int h0
    obtain ⟨c, rfl, hc⟩ := int_of_trod h1
    exact ⟨v0, c, xs, rfl, hxs, hc⟩

end
end Go.Proofs.YtpadmggccpgajaaDoor

namespace Go.Proofs.YtpadmggccpgajaaDoor
open Go.RowKit Go.Deep

def longC (bad : List Rw) (k : Nat) : Bool := (bad.take k).any fun r => decide (60 < r.1.length)
theorem longC_succ {bad : List Rw} {k : Nat} (h : k < bad.length) (hk : longC bad k = false) (hp : ¬ 60 < bad[k].1.length) : longC bad (k + 1) = false := by
  unfold longC at *; rw [List.take_succ_eq_append_getElem h, List.any_append, hk]; simp; omega
theorem longC_yes {bad : List Rw} {k : Nat} (h : k < bad.length) (hp : 60 < bad[k].1.length) : longC bad bad.length = true := by
  unfold longC; rw [List.take_length, List.any_eq_true]; exact ⟨bad[k], List.getElem_mem h, by simpa using hp⟩
def bigQ (q : Pq) : Bool := decide (500 < q.nm.size) || decide (60 < q.start.length) || decide (60 < q.bad.length) || decide (60 < q.adj.length) || decide (60 < q.goal.length) || longC q.bad q.bad.length
theorem bigQ_no {q : Pq} (h : bigQ q = false) : q.start.length ≤ 60 ∧ q.bad.length ≤ 60 ∧ (∀ r ∈ q.bad, r.1.length ≤ 60) ∧ q.adj.length ≤ 60 ∧ q.goal.length ≤ 60 := by
  unfold bigQ longC at h
  simp only [Bool.or_eq_false_iff, decide_eq_false_iff_not, List.take_length, List.any_eq_false, decide_eq_true_eq] at h
  obtain ⟨⟨⟨⟨⟨h0, h1⟩, h2⟩, h3⟩, h4⟩, h5⟩ := h
  exact ⟨by omega, by omega, fun r hr => by have := h5 r hr; omega, by omega, by omega⟩

set_option maxHeartbeats 3200000 in
theorem BigProperty_any {lo : Nat} {w : World} {v : Value} {q : Pq} (h : IsProp lo w v q) :
    Calls Tryd.prog 13 #[v] w fun e w' => e = .returned (.bool (bigQ q)) ∧ Below w.heap.size w w' := by
  obtain ⟨v2, v3, v4, v5, rfl, H2, H3, H4, H5, hnm, _⟩ := h
  obtain ⟨nm, kind, start, bad, adj, goal⟩ := q
  dsimp only at H2 H3 H4 H5 hnm ⊢
  obtain ⟨a0, c0, rfl⟩ := H2.shape
  obtain ⟨a1, c1, rfl⟩ := H3.shape
  obtain ⟨a2, c2, rfl⟩ := H4.shape
  obtain ⟨a3, c3, rfl⟩ := H5.shape
  have GH3 := Lib.hid H3
  have E : Hid (bigQ ⟨nm, kind, start, bad, adj, goal⟩ = (decide (500 < nm.size) || decide (60 < start.length) || decide (60 < bad.length) || decide (60 < adj.length) || decide (60 < goal.length) || longC bad bad.length)) := (rfl : bigQ _ = _)
  unfold maxLen at hnm
  clear H2 H3 H4 H5
  by_cases t0 : 500 < nm.size
  · have i0 : (500 : Int) < (nm.size : Nat) := by omega
    go_enter Tryd.func13, Tryd.ntmps13
    go_wp2_with fail
    go_ret
    exact ⟨ret_bool (by rw [E.out, decide_eq_true t0]; simp), allocBelow _ _⟩
  · have i0 : ¬ (500 : Int) < (nm.size : Nat) := by omega
    by_cases t1 : 60 < start.length
    · have i1 : (60 : Int) < (start.length : Nat) := by omega
      go_enter Tryd.func13, Tryd.ntmps13
      go_wp2_with fail
      go_ret
      exact ⟨ret_bool (by rw [E.out, decide_eq_true t1]; simp), allocBelow _ _⟩
    · have i1 : ¬ (60 : Int) < (start.length : Nat) := by omega
      by_cases t2 : 60 < bad.length
      · have i2 : (60 : Int) < (bad.length : Nat) := by omega
        go_enter Tryd.func13, Tryd.ntmps13
        go_wp2_with fail
        go_ret
        exact ⟨ret_bool (by rw [E.out, decide_eq_true t2]; simp), allocBelow _ _⟩
      · have i2 : ¬ (60 : Int) < (bad.length : Nat) := by omega
        by_cases t3 : 60 < adj.length
        · have i3 : (60 : Int) < (adj.length : Nat) := by omega
          go_enter Tryd.func13, Tryd.ntmps13
          go_wp2_with fail
          go_ret
          exact ⟨ret_bool (by rw [E.out, decide_eq_true t3]; simp), allocBelow _ _⟩
        · have i3 : ¬ (60 : Int) < (adj.length : Nat) := by omega
          by_cases t4 : 60 < goal.length
          · have i4 : (60 : Int) < (goal.length : Nat) := by omega
            go_enter Tryd.func13, Tryd.ntmps13
            go_wp2_with fail
            go_ret
            exact ⟨ret_bool (by rw [E.out, decide_eq_true t4]; simp), allocBelow _ _⟩
          · have i4 : ¬ (60 : Int) < (goal.length : Nat) := by omega
            have E' := Lib.hid (show bigQ ⟨nm, kind, start, bad, adj, goal⟩ = longC bad bad.length by rw [E.out, decide_eq_false t0, decide_eq_false t1, decide_eq_false t2, decide_eq_false t3, decide_eq_false t4]; rfl)
            clear E
            go_enter Tryd.func13, Tryd.ntmps13
            go_wp2_with fail
            obtain ⟨W, hW⟩ : ∃ W, W = w.alloc (.cells #[.string nm, .int .i64 kind, .slice a0 start.length c0, .slice a1 bad.length c1, .slice a2 adj.length c2, .slice a3 goal.length c3] 30) := ⟨_, rfl⟩
            rw [← hW]
            have HA3 := Lib.hid (show W.cell? ⟨w.heap.size, 3, none⟩ = some (.slice a1 bad.length c1) by rw [hW]; exact (new_cell _ _ _ 3 rfl).trans rfl)
            have HBW := Lib.hid (show Below w.heap.size w W by rw [hW]; exact allocBelow _ _)
            clear hW
            have A3 : W.cell? ⟨w.heap.size, 3, none⟩ = some (.slice a1 bad.length c1) := HA3.out
            go_loop [3] (fun v => ∃ k : Nat, k ≤ bad.length ∧ v = .int .i64 k ∧ longC bad k = false) (fun v => bad.length - (intOf v).toNat)
            case atStart => exact ⟨0, Nat.zero_le _, rfl, rfl⟩
            case round =>
              obtain ⟨k, hk, rfl, hs⟩ := hrel
              have HS := Lib.hid hs
              clear hs
              by_cases h1 : k < bad.length
              · obtain ⟨b, off, sv, rfl, hb, q1, q2, q3, _⟩ := GH3.out.at k h1
                obtain ⟨x1, d1, rfl⟩ := q3.shape
                have g1 := keep1 q1 HBW.out
                by_cases h2 : 60 < (bad[k]'h1).1.length
                · have h2' : (60 : Int) < (((bad[k]'h1).1.length : Nat) : Int) := by omega
                  go_wp2_with fail
                  go_ret
                  exact ⟨ret_bool (by rw [E'.out, longC_yes h1 h2]), HBW.out⟩
                · have h2' : ¬ (60 : Int) < (((bad[k]'h1).1.length : Nat) : Int) := by omega
                  go_wp2_with fail
                  go_round
                  case rel => exact ⟨k + 1, by omega, by go_num, longC_succ h1 HS.out h2⟩
                  case measure => simp [intOf]; omega
              · go_wp2_with fail
                go_ret
                exact ⟨ret_bool (by rw [E'.out]; have : k = bad.length := by omega
                                    rw [← this, HS.out]), HBW.out⟩
end Go.Proofs.YtpadmggccpgajaaDoor

namespace Go.Proofs.YtpadmggccpgajaaDoor
open Go.RowKit Go.Deep
variable {J : World → Prop}
set_option linter.unusedSimpArgs false in
set_option linter.unusedVariables false in
set_option maxRecDepth 100000 in
set_option maxHeartbeats 6400000 in
theorem CopyInts_c (xs : List Int) (hx : xs.length ≤ 17592186044416) : Ctr Tryd.prog J 39 [intsA xs] (intsA xs) := by
 refine ctr_of_tri Tryd.func39 rfl (by intro X hX; simp at hX; subst hX; exact plain_ints _) (n := 6) rfl (by simp) (fun w0 => ?_)
 refine kW 6 [] [(0, intsA xs)] ?_
 refine tri_seq ?_
 refine tri_region ?_
 refine oA (sp_assign (.const (.slice none 0 0)) (.v (.slice none 0 0)) rfl) I0 ?_
 refine kN 6 [] [(0, intsA xs), (2, .v (.slice none 0 0))] ?_
 refine t_then ?_
 refine tri_seq ?_
 refine tri_region ?_
 refine t_op rfl (sp_build0 (z := 1) (k := 1) true rfl Tryd.underlying24 (by kernel_rfl)) T0 T0 rfl ?_
 refine oA (sp_move (.tmp 0) (intsA xs) rfl) I0 ?_
 refine t_op rfl (sp_append (n := 0) (cs := []) (fr := true) (m := xs.length) (ds := (xs.map iv)) (⟨Tryd.underlying24, by kernel_rfl, by decide⟩ : Elt Tryd.prog 24 3 1 8) (.tmp 3) (.tmp 4) rfl (fun _ d hd => by obtain ⟨x, _, rfl⟩ := List.mem_map.1 hd; rfl) (by unfold maxLen; omega) (by omega) (fun d hd => by obtain ⟨x, _, rfl⟩ := List.mem_map.1 hd; rfl) (es := (xs.map iv)) (by rw [unfr_ints]; rfl)) ⟨I0, I0, T0⟩ ⟨rfl, T0⟩ rfl ?_
 refine oA (sp_assign (.tmp 5) (.own 1) rfl) I0 ?_
 refine kN 6 [(1, .row true 3 1 (0 + xs.length) (xs.map iv))] [(2, .own 1)] ?_
 refine t_then ?_
 refine tri_ret ?_
 refine tri_end1 Tryd.results39 (.tmp rfl) ?_
 show AV.sl 1 (0 + xs.length) (xs.map iv) = intsA xs
 rw [Nat.zero_add]; rfl
/-- The lists of a rule, of a family, are not longer than memory. -/
structure RuLen (r : Ru) : Prop where
  resp : r.resp.length ≤ 17592186044416
  guards : r.guards.length ≤ 1000000000
  ex : r.ex.length ≤ 17592186044416
  fa : r.fa.length ≤ 17592186044416
  send : r.send.length ≤ 17592186044416
  left : r.left.length ≤ 17592186044416
  right : r.right.length ≤ 17592186044416
  parent : r.parent.length ≤ 17592186044416
set_option linter.unusedSimpArgs false in
set_option linter.unusedVariables false in
set_option maxRecDepth 100000 in
set_option maxHeartbeats 6400000 in
theorem CopyRule_c (r : Ru) (H : RuLen r) : Ctr Tryd.prog J 48 [.agg (cRu r)] (.agg (cRu r)) := by
 have hg := H.guards
 refine ctr_of_tri Tryd.func48 rfl (by intro X hX; simp at hX; subst hX; exact plain_agg (plain_ru r)) (n := 39) rfl (by simp) (fun w0 => ?_)
 refine kW 39 [] [(0, .agg (cRu r))] ?_
 refine tri_seq ?_
 refine tri_region ?_
 refine t_op rfl (sp_box (X := .agg (cRu r)) (k := 1) (.tmp 0) rfl rfl) ⟨I0, T0⟩ T0 rfl ?_
 refine t_op rfl (sp_alloc (z := .agg #[.string (⟨#[]⟩), .int .i64 0, .int .i64 0, .int .i64 0, .int .i64 0, .int .i64 0, .slice none 0 0, .slice none 0 0, .slice none 0 0, .slice none 0 0, .int .i64 0, .int .i64 0, .slice none 0 0, .int .i64 0, .slice none 0 0, .slice none 0 0, .slice none 0 0, .int .i64 0]) (k := 2) rfl (by kernel_rfl)) T0 T0 rfl ?_
 refine kN 39 [(1, .box 81 (cRu r)), (2, .box 81 [sv (⟨#[]⟩), iv 0, iv 0, iv 0, iv 0, iv 0, .v (.slice none 0 0), .v (.slice none 0 0), .v (.slice none 0 0), .v (.slice none 0 0), iv 0, iv 0, .v (.slice none 0 0), iv 0, .v (.slice none 0 0), .v (.slice none 0 0), .v (.slice none 0 0), iv 0])] [(1, .box 1 0), (2, .box 2 0)] ?_
 refine t_then ?_
 refine tri_seq ?_
 refine tri_region ?_
 refine oB (sp_loadBoxS (Y := .box 81 (cRu r)) (ds := cRu r) (z := 18) (.tmp 1) rfl Tryd.underlying81 rfl (by kernel_rfl) (by decide) (by kernel_rfl) (by kernel_rfl)) I0 rfl ?_
 refine t_op rfl (sp_alloc (z := .agg #[.string (⟨#[]⟩), .int .i64 0, .int .i64 0, .int .i64 0, .int .i64 0, .int .i64 0, .slice none 0 0, .slice none 0 0, .slice none 0 0, .slice none 0 0, .int .i64 0, .int .i64 0, .slice none 0 0, .int .i64 0, .slice none 0 0, .slice none 0 0, .slice none 0 0, .int .i64 0]) (k := 3) rfl (by kernel_rfl)) T0 T0 rfl ?_
 refine t_op rfl (sp_storeBox (T0 := 81) (X := .agg (cRu r)) (cs := [sv (⟨#[]⟩), iv 0, iv 0, iv 0, iv 0, iv 0, .v (.slice none 0 0), .v (.slice none 0 0), .v (.slice none 0 0), .v (.slice none 0 0), iv 0, iv 0, .v (.slice none 0 0), iv 0, .v (.slice none 0 0), .v (.slice none 0 0), .v (.slice none 0 0), iv 0]) (ds := cRu r) (z := 18) (.tmp 3) (.tmp 4) rfl (by kernel_rfl) (by kernel_rfl) (by kernel_rfl) (of_decide_eq_true (by kernel_rfl)) (by kernel_rfl)) ⟨I0, I0, T0⟩ ⟨rfl, T0⟩ rfl ?_
 refine kN 39 [(1, .box 81 (cRu r)), (2, .box 81 [sv (⟨#[]⟩), iv 0, iv 0, iv 0, iv 0, iv 0, .v (.slice none 0 0), .v (.slice none 0 0), .v (.slice none 0 0), .v (.slice none 0 0), iv 0, iv 0, .v (.slice none 0 0), iv 0, .v (.slice none 0 0), .v (.slice none 0 0), .v (.slice none 0 0), iv 0]), (3, .box 81 (cRu r))] [(1, .box 1 0), (2, .box 2 0), (3, .box 3 0)] ?_
 refine t_then ?_
 refine tri_seq ?_
 refine tri_region ?_
 refine oA (fB 6 (.tmp 1) rfl Tryd.underlying81 rfl 1 rfl) I0 ?_
 refine oB (lB (.box 81 (cRu r)) (intsA r.resp) (.tmp 5) rfl Tryd.underlying24 rfl rfl) I0 rfl ?_
 refine oC (sp_call (c := .func 39) (xs := #[.tmp 6]) [] (CopyInts_c r.resp H.resp) rfl (by kernel_rfl) rfl (Xs := [intsA r.resp]) rfl rfl rfl) I0 I0 ?_
 refine oA (fB 6 (.tmp 3) rfl Tryd.underlying81 rfl 1 rfl) I0 ?_
 refine t_op rfl (sp_storeBox (T0 := 81) (X := .fr (intsA r.resp)) (cs := cRu r) (ds := [sv r.nm, iv r.kind, iv r.frm, iv r.to, iv r.pf, iv r.pt, .fr (intsA r.resp), slA 6 cTh r.guards, intsA r.ex, intsA r.fa, iv r.rd, iv r.wr, intsA r.send, iv r.pos, intsA r.left, intsA r.right, intsA r.parent, iv r.dir]) (z := 1) (.tmp 8) (.tmp 7) rfl (by kernel_rfl) (by kernel_rfl) (by kernel_rfl) (of_decide_eq_true (by kernel_rfl)) (by kernel_rfl)) ⟨I0, I0, T0⟩ ⟨rfl, T0⟩ rfl ?_
 refine kN 39 [(1, .box 81 (cRu r)), (2, .box 81 [sv (⟨#[]⟩), iv 0, iv 0, iv 0, iv 0, iv 0, .v (.slice none 0 0), .v (.slice none 0 0), .v (.slice none 0 0), .v (.slice none 0 0), iv 0, iv 0, .v (.slice none 0 0), iv 0, .v (.slice none 0 0), .v (.slice none 0 0), .v (.slice none 0 0), iv 0]), (3, .box 81 [sv r.nm, iv r.kind, iv r.frm, iv r.to, iv r.pf, iv r.pt, .fr (intsA r.resp), slA 6 cTh r.guards, intsA r.ex, intsA r.fa, iv r.rd, iv r.wr, intsA r.send, iv r.pos, intsA r.left, intsA r.right, intsA r.parent, iv r.dir])] [(1, .box 1 0), (2, .box 2 0), (3, .box 3 0)] ?_
 refine t_then ?_
 refine tri_seq ?_
 refine tri_region ?_
 refine t_op rfl (sp_build0 (z := 6) (k := 4) true rfl Tryd.underlying79 (by kernel_rfl)) T0 T0 rfl ?_
 refine oA (fB 7 (.tmp 1) rfl Tryd.underlying81 rfl 1 rfl) I0 ?_
 refine oB (lB (.box 81 (cRu r)) (slA 6 cTh r.guards) (.tmp 10) rfl Tryd.underlying79 rfl rfl) I0 rfl ?_
 refine t_op rfl (sp_append (n := 0) (cs := []) (fr := true) (m := r.guards.length) (ds := (r.guards.flatMap cTh)) (⟨Tryd.underlying79, by kernel_rfl, by decide⟩ : Elt Tryd.prog 79 135 6 48) (.tmp 9) (.tmp 11) rfl (fun _ => new_cTh _) (by unfold maxLen; omega) (by omega) (cell_cTh _) (es := (r.guards.flatMap cTh)) (by rw [unfr_cTh]; rfl)) ⟨I0, I0, T0⟩ ⟨rfl, T0⟩ rfl ?_
 refine oA (fB 7 (.tmp 3) rfl Tryd.underlying81 rfl 1 rfl) I0 ?_
 refine t_op rfl (sp_storeBox (T0 := 81) (X := .own 4) (cs := [sv r.nm, iv r.kind, iv r.frm, iv r.to, iv r.pf, iv r.pt, .fr (intsA r.resp), slA 6 cTh r.guards, intsA r.ex, intsA r.fa, iv r.rd, iv r.wr, intsA r.send, iv r.pos, intsA r.left, intsA r.right, intsA r.parent, iv r.dir]) (ds := [sv r.nm, iv r.kind, iv r.frm, iv r.to, iv r.pf, iv r.pt, .fr (intsA r.resp), .own 4, intsA r.ex, intsA r.fa, iv r.rd, iv r.wr, intsA r.send, iv r.pos, intsA r.left, intsA r.right, intsA r.parent, iv r.dir]) (z := 1) (.tmp 13) (.tmp 12) rfl (by kernel_rfl) (by kernel_rfl) (by kernel_rfl) (of_decide_eq_true (by kernel_rfl)) (by kernel_rfl)) ⟨I0, I0, T0⟩ ⟨rfl, T0⟩ rfl ?_
 refine kN 39 [(1, .box 81 (cRu r)), (2, .box 81 [sv (⟨#[]⟩), iv 0, iv 0, iv 0, iv 0, iv 0, .v (.slice none 0 0), .v (.slice none 0 0), .v (.slice none 0 0), .v (.slice none 0 0), iv 0, iv 0, .v (.slice none 0 0), iv 0, .v (.slice none 0 0), .v (.slice none 0 0), .v (.slice none 0 0), iv 0]), (3, .box 81 [sv r.nm, iv r.kind, iv r.frm, iv r.to, iv r.pf, iv r.pt, .fr (intsA r.resp), .own 4, intsA r.ex, intsA r.fa, iv r.rd, iv r.wr, intsA r.send, iv r.pos, intsA r.left, intsA r.right, intsA r.parent, iv r.dir]), (4, .row true 135 6 (0 + r.guards.length) (r.guards.flatMap cTh))] [(1, .box 1 0), (2, .box 2 0), (3, .box 3 0)] ?_
 refine t_then ?_
 refine tri_seq ?_
 refine tri_region ?_
 refine oA (fB 8 (.tmp 1) rfl Tryd.underlying81 rfl 1 rfl) I0 ?_
 refine oB (lB (.box 81 (cRu r)) (intsA r.ex) (.tmp 14) rfl Tryd.underlying24 rfl rfl) I0 rfl ?_
 refine oC (sp_call (c := .func 39) (xs := #[.tmp 15]) [] (CopyInts_c r.ex H.ex) rfl (by kernel_rfl) rfl (Xs := [intsA r.ex]) rfl rfl rfl) I0 I0 ?_
 refine oA (fB 8 (.tmp 3) rfl Tryd.underlying81 rfl 1 rfl) I0 ?_
 refine t_op rfl (sp_storeBox (T0 := 81) (X := .fr (intsA r.ex)) (cs := [sv r.nm, iv r.kind, iv r.frm, iv r.to, iv r.pf, iv r.pt, .fr (intsA r.resp), .own 4, intsA r.ex, intsA r.fa, iv r.rd, iv r.wr, intsA r.send, iv r.pos, intsA r.left, intsA r.right, intsA r.parent, iv r.dir]) (ds := [sv r.nm, iv r.kind, iv r.frm, iv r.to, iv r.pf, iv r.pt, .fr (intsA r.resp), .own 4, .fr (intsA r.ex), intsA r.fa, iv r.rd, iv r.wr, intsA r.send, iv r.pos, intsA r.left, intsA r.right, intsA r.parent, iv r.dir]) (z := 1) (.tmp 17) (.tmp 16) rfl (by kernel_rfl) (by kernel_rfl) (by kernel_rfl) (of_decide_eq_true (by kernel_rfl)) (by kernel_rfl)) ⟨I0, I0, T0⟩ ⟨rfl, T0⟩ rfl ?_
 refine kN 39 [(1, .box 81 (cRu r)), (2, .box 81 [sv (⟨#[]⟩), iv 0, iv 0, iv 0, iv 0, iv 0, .v (.slice none 0 0), .v (.slice none 0 0), .v (.slice none 0 0), .v (.slice none 0 0), iv 0, iv 0, .v (.slice none 0 0), iv 0, .v (.slice none 0 0), .v (.slice none 0 0), .v (.slice none 0 0), iv 0]), (3, .box 81 [sv r.nm, iv r.kind, iv r.frm, iv r.to, iv r.pf, iv r.pt, .fr (intsA r.resp), .own 4, .fr (intsA r.ex), intsA r.fa, iv r.rd, iv r.wr, intsA r.send, iv r.pos, intsA r.left, intsA r.right, intsA r.parent, iv r.dir]), (4, .row true 135 6 (0 + r.guards.length) (r.guards.flatMap cTh))] [(1, .box 1 0), (2, .box 2 0), (3, .box 3 0)] ?_
 refine t_then ?_
 refine tri_seq ?_
 refine tri_region ?_
 refine oA (fB 9 (.tmp 1) rfl Tryd.underlying81 rfl 1 rfl) I0 ?_
 refine oB (lB (.box 81 (cRu r)) (intsA r.fa) (.tmp 18) rfl Tryd.underlying24 rfl rfl) I0 rfl ?_
 refine oC (sp_call (c := .func 39) (xs := #[.tmp 19]) [] (CopyInts_c r.fa H.fa) rfl (by kernel_rfl) rfl (Xs := [intsA r.fa]) rfl rfl rfl) I0 I0 ?_
 refine oA (fB 9 (.tmp 3) rfl Tryd.underlying81 rfl 1 rfl) I0 ?_
 refine t_op rfl (sp_storeBox (T0 := 81) (X := .fr (intsA r.fa)) (cs := [sv r.nm, iv r.kind, iv r.frm, iv r.to, iv r.pf, iv r.pt, .fr (intsA r.resp), .own 4, .fr (intsA r.ex), intsA r.fa, iv r.rd, iv r.wr, intsA r.send, iv r.pos, intsA r.left, intsA r.right, intsA r.parent, iv r.dir]) (ds := [sv r.nm, iv r.kind, iv r.frm, iv r.to, iv r.pf, iv r.pt, .fr (intsA r.resp), .own 4, .fr (intsA r.ex), .fr (intsA r.fa), iv r.rd, iv r.wr, intsA r.send, iv r.pos, intsA r.left, intsA r.right, intsA r.parent, iv r.dir]) (z := 1) (.tmp 21) (.tmp 20) rfl (by kernel_rfl) (by kernel_rfl) (by kernel_rfl) (of_decide_eq_true (by kernel_rfl)) (by kernel_rfl)) ⟨I0, I0, T0⟩ ⟨rfl, T0⟩ rfl ?_
 refine kN 39 [(1, .box 81 (cRu r)), (2, .box 81 [sv (⟨#[]⟩), iv 0, iv 0, iv 0, iv 0, iv 0, .v (.slice none 0 0), .v (.slice none 0 0), .v (.slice none 0 0), .v (.slice none 0 0), iv 0, iv 0, .v (.slice none 0 0), iv 0, .v (.slice none 0 0), .v (.slice none 0 0), .v (.slice none 0 0), iv 0]), (3, .box 81 [sv r.nm, iv r.kind, iv r.frm, iv r.to, iv r.pf, iv r.pt, .fr (intsA r.resp), .own 4, .fr (intsA r.ex), .fr (intsA r.fa), iv r.rd, iv r.wr, intsA r.send, iv r.pos, intsA r.left, intsA r.right, intsA r.parent, iv r.dir]), (4, .row true 135 6 (0 + r.guards.length) (r.guards.flatMap cTh))] [(1, .box 1 0), (2, .box 2 0), (3, .box 3 0)] ?_
 refine t_then ?_
 refine tri_seq ?_
 refine tri_region ?_
 refine oA (fB 12 (.tmp 1) rfl Tryd.underlying81 rfl 1 rfl) I0 ?_
 refine oB (lB (.box 81 (cRu r)) (intsA r.send) (.tmp 22) rfl Tryd.underlying24 rfl rfl) I0 rfl ?_
 refine oC (sp_call (c := .func 39) (xs := #[.tmp 23]) [] (CopyInts_c r.send H.send) rfl (by kernel_rfl) rfl (Xs := [intsA r.send]) rfl rfl rfl) I0 I0 ?_
 refine oA (fB 12 (.tmp 3) rfl Tryd.underlying81 rfl 1 rfl) I0 ?_
 refine t_op rfl (sp_storeBox (T0 := 81) (X := .fr (intsA r.send)) (cs := [sv r.nm, iv r.kind, iv r.frm, iv r.to, iv r.pf, iv r.pt, .fr (intsA r.resp), .own 4, .fr (intsA r.ex), .fr (intsA r.fa), iv r.rd, iv r.wr, intsA r.send, iv r.pos, intsA r.left, intsA r.right, intsA r.parent, iv r.dir]) (ds := [sv r.nm, iv r.kind, iv r.frm, iv r.to, iv r.pf, iv r.pt, .fr (intsA r.resp), .own 4, .fr (intsA r.ex), .fr (intsA r.fa), iv r.rd, iv r.wr, .fr (intsA r.send), iv r.pos, intsA r.left, intsA r.right, intsA r.parent, iv r.dir]) (z := 1) (.tmp 25) (.tmp 24) rfl (by kernel_rfl) (by kernel_rfl) (by kernel_rfl) (of_decide_eq_true (by kernel_rfl)) (by kernel_rfl)) ⟨I0, I0, T0⟩ ⟨rfl, T0⟩ rfl ?_
 refine kN 39 [(1, .box 81 (cRu r)), (2, .box 81 [sv (⟨#[]⟩), iv 0, iv 0, iv 0, iv 0, iv 0, .v (.slice none 0 0), .v (.slice none 0 0), .v (.slice none 0 0), .v (.slice none 0 0), iv 0, iv 0, .v (.slice none 0 0), iv 0, .v (.slice none 0 0), .v (.slice none 0 0), .v (.slice none 0 0), iv 0]), (3, .box 81 [sv r.nm, iv r.kind, iv r.frm, iv r.to, iv r.pf, iv r.pt, .fr (intsA r.resp), .own 4, .fr (intsA r.ex), .fr (intsA r.fa), iv r.rd, iv r.wr, .fr (intsA r.send), iv r.pos, intsA r.left, intsA r.right, intsA r.parent, iv r.dir]), (4, .row true 135 6 (0 + r.guards.length) (r.guards.flatMap cTh))] [(1, .box 1 0), (2, .box 2 0), (3, .box 3 0)] ?_
 refine t_then ?_
 refine tri_seq ?_
 refine tri_region ?_
 refine oA (fB 14 (.tmp 1) rfl Tryd.underlying81 rfl 1 rfl) I0 ?_
 refine oB (lB (.box 81 (cRu r)) (intsA r.left) (.tmp 26) rfl Tryd.underlying24 rfl rfl) I0 rfl ?_
 refine oC (sp_call (c := .func 39) (xs := #[.tmp 27]) [] (CopyInts_c r.left H.left) rfl (by kernel_rfl) rfl (Xs := [intsA r.left]) rfl rfl rfl) I0 I0 ?_
 refine oA (fB 14 (.tmp 3) rfl Tryd.underlying81 rfl 1 rfl) I0 ?_
 refine t_op rfl (sp_storeBox (T0 := 81) (X := .fr (intsA r.left)) (cs := [sv r.nm, iv r.kind, iv r.frm, iv r.to, iv r.pf, iv r.pt, .fr (intsA r.resp), .own 4, .fr (intsA r.ex), .fr (intsA r.fa), iv r.rd, iv r.wr, .fr (intsA r.send), iv r.pos, intsA r.left, intsA r.right, intsA r.parent, iv r.dir]) (ds := [sv r.nm, iv r.kind, iv r.frm, iv r.to, iv r.pf, iv r.pt, .fr (intsA r.resp), .own 4, .fr (intsA r.ex), .fr (intsA r.fa), iv r.rd, iv r.wr, .fr (intsA r.send), iv r.pos, .fr (intsA r.left), intsA r.right, intsA r.parent, iv r.dir]) (z := 1) (.tmp 29) (.tmp 28) rfl (by kernel_rfl) (by kernel_rfl) (by kernel_rfl) (of_decide_eq_true (by kernel_rfl)) (by kernel_rfl)) ⟨I0, I0, T0⟩ ⟨rfl, T0⟩ rfl ?_
 refine kN 39 [(1, .box 81 (cRu r)), (2, .box 81 [sv (⟨#[]⟩), iv 0, iv 0, iv 0, iv 0, iv 0, .v (.slice none 0 0), .v (.slice none 0 0), .v (.slice none 0 0), .v (.slice none 0 0), iv 0, iv 0, .v (.slice none 0 0), iv 0, .v (.slice none 0 0), .v (.slice none 0 0), .v (.slice none 0 0), iv 0]), (3, .box 81 [sv r.nm, iv r.kind, iv r.frm, iv r.to, iv r.pf, iv r.pt, .fr (intsA r.resp), .own 4, .fr (intsA r.ex), .fr (intsA r.fa), iv r.rd, iv r.wr, .fr (intsA r.send), iv r.pos, .fr (intsA r.left), intsA r.right, intsA r.parent, iv r.dir]), (4, .row true 135 6 (0 + r.guards.length) (r.guards.flatMap cTh))] [(1, .box 1 0), (2, .box 2 0), (3, .box 3 0)] ?_
 refine t_then ?_
 refine tri_seq ?_
 refine tri_region ?_
 refine oA (fB 15 (.tmp 1) rfl Tryd.underlying81 rfl 1 rfl) I0 ?_
 refine oB (lB (.box 81 (cRu r)) (intsA r.right) (.tmp 30) rfl Tryd.underlying24 rfl rfl) I0 rfl ?_
 refine oC (sp_call (c := .func 39) (xs := #[.tmp 31]) [] (CopyInts_c r.right H.right) rfl (by kernel_rfl) rfl (Xs := [intsA r.right]) rfl rfl rfl) I0 I0 ?_
 refine oA (fB 15 (.tmp 3) rfl Tryd.underlying81 rfl 1 rfl) I0 ?_
 refine t_op rfl (sp_storeBox (T0 := 81) (X := .fr (intsA r.right)) (cs := [sv r.nm, iv r.kind, iv r.frm, iv r.to, iv r.pf, iv r.pt, .fr (intsA r.resp), .own 4, .fr (intsA r.ex), .fr (intsA r.fa), iv r.rd, iv r.wr, .fr (intsA r.send), iv r.pos, .fr (intsA r.left), intsA r.right, intsA r.parent, iv r.dir]) (ds := [sv r.nm, iv r.kind, iv r.frm, iv r.to, iv r.pf, iv r.pt, .fr (intsA r.resp), .own 4, .fr (intsA r.ex), .fr (intsA r.fa), iv r.rd, iv r.wr, .fr (intsA r.send), iv r.pos, .fr (intsA r.left), .fr (intsA r.right), intsA r.parent, iv r.dir]) (z := 1) (.tmp 33) (.tmp 32) rfl (by kernel_rfl) (by kernel_rfl) (by kernel_rfl) (of_decide_eq_true (by kernel_rfl)) (by kernel_rfl)) ⟨I0, I0, T0⟩ ⟨rfl, T0⟩ rfl ?_
 refine kN 39 [(1, .box 81 (cRu r)), (2, .box 81 [sv (⟨#[]⟩), iv 0, iv 0, iv 0, iv 0, iv 0, .v (.slice none 0 0), .v (.slice none 0 0), .v (.slice none 0 0), .v (.slice none 0 0), iv 0, iv 0, .v (.slice none 0 0), iv 0, .v (.slice none 0 0), .v (.slice none 0 0), .v (.slice none 0 0), iv 0]), (3, .box 81 [sv r.nm, iv r.kind, iv r.frm, iv r.to, iv r.pf, iv r.pt, .fr (intsA r.resp), .own 4, .fr (intsA r.ex), .fr (intsA r.fa), iv r.rd, iv r.wr, .fr (intsA r.send), iv r.pos, .fr (intsA r.left), .fr (intsA r.right), intsA r.parent, iv r.dir]), (4, .row true 135 6 (0 + r.guards.length) (r.guards.flatMap cTh))] [(1, .box 1 0), (2, .box 2 0), (3, .box 3 0)] ?_
 refine t_then ?_
 refine tri_seq ?_
 refine tri_region ?_
 refine oA (fB 16 (.tmp 1) rfl Tryd.underlying81 rfl 1 rfl) I0 ?_
 refine oB (lB (.box 81 (cRu r)) (intsA r.parent) (.tmp 34) rfl Tryd.underlying24 rfl rfl) I0 rfl ?_
 refine oC (sp_call (c := .func 39) (xs := #[.tmp 35]) [] (CopyInts_c r.parent H.parent) rfl (by kernel_rfl) rfl (Xs := [intsA r.parent]) rfl rfl rfl) I0 I0 ?_
 refine oA (fB 16 (.tmp 3) rfl Tryd.underlying81 rfl 1 rfl) I0 ?_
 refine t_op rfl (sp_storeBox (T0 := 81) (X := .fr (intsA r.parent)) (cs := [sv r.nm, iv r.kind, iv r.frm, iv r.to, iv r.pf, iv r.pt, .fr (intsA r.resp), .own 4, .fr (intsA r.ex), .fr (intsA r.fa), iv r.rd, iv r.wr, .fr (intsA r.send), iv r.pos, .fr (intsA r.left), .fr (intsA r.right), intsA r.parent, iv r.dir]) (ds := [sv r.nm, iv r.kind, iv r.frm, iv r.to, iv r.pf, iv r.pt, .fr (intsA r.resp), .own 4, .fr (intsA r.ex), .fr (intsA r.fa), iv r.rd, iv r.wr, .fr (intsA r.send), iv r.pos, .fr (intsA r.left), .fr (intsA r.right), .fr (intsA r.parent), iv r.dir]) (z := 1) (.tmp 37) (.tmp 36) rfl (by kernel_rfl) (by kernel_rfl) (by kernel_rfl) (of_decide_eq_true (by kernel_rfl)) (by kernel_rfl)) ⟨I0, I0, T0⟩ ⟨rfl, T0⟩ rfl ?_
 refine kN 39 [(2, .box 81 [sv (⟨#[]⟩), iv 0, iv 0, iv 0, iv 0, iv 0, .v (.slice none 0 0), .v (.slice none 0 0), .v (.slice none 0 0), .v (.slice none 0 0), iv 0, iv 0, .v (.slice none 0 0), iv 0, .v (.slice none 0 0), .v (.slice none 0 0), .v (.slice none 0 0), iv 0]), (3, .box 81 [sv r.nm, iv r.kind, iv r.frm, iv r.to, iv r.pf, iv r.pt, .fr (intsA r.resp), .own 4, .fr (intsA r.ex), .fr (intsA r.fa), iv r.rd, iv r.wr, .fr (intsA r.send), iv r.pos, .fr (intsA r.left), .fr (intsA r.right), .fr (intsA r.parent), iv r.dir]), (4, .row true 135 6 (0 + r.guards.length) (r.guards.flatMap cTh))] [(2, .box 2 0), (3, .box 3 0)] ?_
 refine t_then ?_
 refine tri_seq ?_
 refine tri_region ?_
 refine oB (sp_loadBoxS (Y := .box 81 [sv r.nm, iv r.kind, iv r.frm, iv r.to, iv r.pf, iv r.pt, .fr (intsA r.resp), .own 4, .fr (intsA r.ex), .fr (intsA r.fa), iv r.rd, iv r.wr, .fr (intsA r.send), iv r.pos, .fr (intsA r.left), .fr (intsA r.right), .fr (intsA r.parent), iv r.dir]) (ds := [sv r.nm, iv r.kind, iv r.frm, iv r.to, iv r.pf, iv r.pt, .fr (intsA r.resp), .own 4, .fr (intsA r.ex), .fr (intsA r.fa), iv r.rd, iv r.wr, .fr (intsA r.send), iv r.pos, .fr (intsA r.left), .fr (intsA r.right), .fr (intsA r.parent), iv r.dir]) (z := 18) (.tmp 3) rfl Tryd.underlying81 rfl (by kernel_rfl) (by decide) (by kernel_rfl) (by kernel_rfl)) I0 rfl ?_
 refine t_op rfl (sp_storeBox (T0 := 81) (X := .agg [sv r.nm, iv r.kind, iv r.frm, iv r.to, iv r.pf, iv r.pt, .fr (intsA r.resp), .own 4, .fr (intsA r.ex), .fr (intsA r.fa), iv r.rd, iv r.wr, .fr (intsA r.send), iv r.pos, .fr (intsA r.left), .fr (intsA r.right), .fr (intsA r.parent), iv r.dir]) (cs := [sv (⟨#[]⟩), iv 0, iv 0, iv 0, iv 0, iv 0, .v (.slice none 0 0), .v (.slice none 0 0), .v (.slice none 0 0), .v (.slice none 0 0), iv 0, iv 0, .v (.slice none 0 0), iv 0, .v (.slice none 0 0), .v (.slice none 0 0), .v (.slice none 0 0), iv 0]) (ds := [sv r.nm, iv r.kind, iv r.frm, iv r.to, iv r.pf, iv r.pt, .fr (intsA r.resp), .own 4, .fr (intsA r.ex), .fr (intsA r.fa), iv r.rd, iv r.wr, .fr (intsA r.send), iv r.pos, .fr (intsA r.left), .fr (intsA r.right), .fr (intsA r.parent), iv r.dir]) (z := 18) (.tmp 2) (.tmp 38) rfl (by kernel_rfl) (by kernel_rfl) (by kernel_rfl) (of_decide_eq_true (by kernel_rfl)) (by kernel_rfl)) ⟨I0, I0, T0⟩ ⟨rfl, T0⟩ rfl ?_
 refine kN 39 [(2, .box 81 [sv r.nm, iv r.kind, iv r.frm, iv r.to, iv r.pf, iv r.pt, .fr (intsA r.resp), .own 4, .fr (intsA r.ex), .fr (intsA r.fa), iv r.rd, iv r.wr, .fr (intsA r.send), iv r.pos, .fr (intsA r.left), .fr (intsA r.right), .fr (intsA r.parent), iv r.dir]), (4, .row true 135 6 (0 + r.guards.length) (r.guards.flatMap cTh))] [(2, .box 2 0)] ?_
 refine t_then ?_
 refine tri_ret ?_
 refine tri_end1 Tryd.results48 (.cellS rfl rfl Tryd.underlying81 rfl (z := 18) (by kernel_rfl) rfl (by decide)) ?_
 show AV.agg [sv r.nm, iv r.kind, iv r.frm, iv r.to, iv r.pf, iv r.pt, intsA r.resp, .sl 6 (0 + r.guards.length) (r.guards.flatMap cTh), intsA r.ex, intsA r.fa, iv r.rd, iv r.wr, intsA r.send, iv r.pos, intsA r.left, intsA r.right, intsA r.parent, iv r.dir] = .agg (cRu r)
 rw [Nat.zero_add]; rfl
end Go.Proofs.YtpadmggccpgajaaDoor

namespace Go.Proofs.YtpadmggccpgajaaDoor
open Go.RowKit Go.Deep
/-- What is not big. -/
structure FamLen (q : Fm) : Prop where
  states : q.states.length ≤ 60
  msgs : q.msgs.length ≤ 60
  vals : q.vals.length ≤ 60
  res : q.res.length ≤ 60
  init : q.init.length ≤ 60
  leader : q.leader.length ≤ 60
  lrules : q.rules.length ≤ 30
  rules : ∀ r ∈ q.rules, RuLen r
theorem famLen {q : Fm} (h : bigF q = false) : FamLen q := by
  unfold bigF at h
  simp only [Bool.or_eq_false_iff, decide_eq_false_iff_not] at h
  obtain ⟨⟨⟨⟨⟨⟨⟨⟨⟨⟨⟨h0, h1⟩, h2⟩, h3⟩, h4⟩, h5⟩, h6⟩, h7⟩, h8⟩, _⟩, _⟩, _⟩ := h
  refine ⟨by omega, by omega, by omega, by omega, by omega, by omega, by omega, fun r hr => ?_⟩
  unfold bigRk at h8
  rw [List.take_length, List.any_eq_false] at h8
  have h9 := h8 r hr
  have h10 : bigR r = false := by simpa using h9
  unfold bigR at h10
  simp only [Bool.or_eq_false_iff, decide_eq_false_iff_not] at h10
  obtain ⟨⟨⟨⟨⟨⟨⟨⟨_, a1⟩, a2⟩, a3⟩, a4⟩, a5⟩, a6⟩, a7⟩, a8⟩ := h10
  exact ⟨by omega, by omega, by omega, by omega, by omega, by omega, by omega, by omega⟩
theorem newRu (r : Ru) : ∀ d ∈ (cRu r).map AV.mkFr, d.isNew = true := fun d hd => by
  obtain ⟨x, _, rfl⟩ := List.mem_map.1 hd
  cases x <;> rfl
theorem cellRu (r : Ru) : ∀ d ∈ (cRu r).map AV.mkFr, d.cell = true := fun d hd => by
  simp only [cRu, List.map_cons, List.map_nil, List.mem_cons, List.not_mem_nil, or_false] at hd
  rcases hd with rfl | rfl | rfl | rfl | rfl | rfl | rfl | rfl | rfl | rfl | rfl | rfl | rfl | rfl | rfl | rfl | rfl | rfl <;> rfl
theorem snocRu {rs : List Ru} {k : Nat} (h : k < rs.length) : (rs.take k).flatMap cRu ++ rowCells true ((cRu rs[k]).map AV.mkFr) = (rs.take (k + 1)).flatMap cRu := by
  rw [List.take_succ_eq_append_getElem h, List.flatMap_append]
  congr 1
end Go.Proofs.YtpadmggccpgajaaDoor

namespace Go.Proofs.YtpadmggccpgajaaDoor
open Go.RowKit Go.Deep
variable {J : World → Prop}
theorem eqI_self (xs : List Int) : eqI xs xs = true := by unfold eqI; simp
theorem sameInts_c (xs : List Int) (hx : InOk xs) : Ctr Tryd.prog J 19 [intsA xs, intsA xs] (bv true) := ctr2 fun w v v' _ h h' => by
  have := SameInts_any (pu_ints hx lo0 h) (pu_ints hx lo0 h')
  rw [eqI_self] at this
  exact this.mono fun _ _ => ret_sc
theorem sameTh_c (g : Th) : Ctr Tryd.prog J 102 [.agg (cTh g), .agg (cTh g)] (bv true) := ctr2 fun w v v' _ h h' => by
  have e : ∀ {v : Value}, Pu (fun _ => True) w (fun b => b < w.heap.size) (.agg (cTh g)) v → v = .agg #[.int .i64 g.msg, .int .i64 g.coef, .int .i64 g.bd.c, .int .i64 g.bd.n, .int .i64 g.bd.t, .int .i64 g.bd.f] := fun h => by
    obtain ⟨vs, rfl, hl, hv⟩ := agg_cells h
    rw [cells6 hl, (hv 0 (by simp [cTh])).v_inv, (hv 1 (by simp [cTh])).v_inv, (hv 2 (by simp [cTh])).v_inv, (hv 3 (by simp [cTh])).v_inv, (hv 4 (by simp [cTh])).v_inv, (hv 5 (by simp [cTh])).v_inv]
  rw [e h, e h']
  have := SameTh_any g.msg g.coef g.bd.c g.bd.n g.bd.t g.bd.f g.msg g.coef g.bd.c g.bd.n g.bd.t g.bd.f w
  rw [decide_eq_true rfl] at this
  exact this.mono fun _ _ => ret_sc
theorem ruInts {r : Ru} (h : RuOk r) : InOk [r.kind, r.frm, r.to, r.pf, r.pt, r.rd, r.wr, r.pos, r.dir] := fun x hx => by
  simp only [List.mem_cons, List.not_mem_nil, or_false] at hx
  rcases hx with rfl | rfl | rfl | rfl | rfl | rfl | rfl | rfl | rfl
  · exact h.kind
  · exact h.frm
  · exact h.to
  · exact h.pf
  · exact h.pt
  · exact h.rd
  · exact h.wr
  · exact h.pos
  · exact h.dir
theorem eqn_ln (a b c d : Int) (w : World) : (Op.equalIn 10000 87 (.agg #[.int .i64 a, .int .i64 b, .int .i64 c, .int .i64 d]) (.agg #[.int .i64 a, .int .i64 b, .int .i64 c, .int .i64 d])).run Tryd.prog w = .ok true w := by
  rw [run_equalIn_agg w 9999 _ _ _ (by kernel_rfl) (by kernel_rfl)]
  rw [show (Program.fieldsOf Tryd.prog 87).toList = _ from by unfold Program.fieldsOf; rw [Tryd.underlying87]]
  simp [go_sem, Op.eqFields, part, asAgg, isAgg, Tryd.underlying3, run_underlying]
end Go.Proofs.YtpadmggccpgajaaDoor

namespace Go.Proofs.YtpadmggccpgajaaDoor
open Go.RowKit Go.Deep Go.ChangeShapes Go.WideShapes Go.ChangeAt Go.Joins
def RwEl (lo : Nat) (w : World) (cs : List Value) (r : Rw) : Prop := ∃ v, cs = [v, .int .i64 r.2] ∧ IsInts lo w v r.1 ∧ I64 r.2
def IsPropX (lo : Nat) (w : World) (v : Value) (q : Pq) : Prop :=
  ∃ v2 v3 v4 v5, v = .agg #[.string q.nm, .int .i64 q.kind, v2, v3, v4, v5] ∧ IsInts lo w v2 q.start ∧ IsSl 2 RwEl lo w v3 q.bad ∧ IsInts lo w v4 q.adj ∧ IsInts lo w v5 q.goal ∧ q.nm.size ≤ maxLen ∧ I64 q.kind
section
variable {H : Type} {enc : TypeId × Value → H} {w : World} {base : Nat} {sp : Nat → Bool} {held : Bool}
theorem rw_of_trod {n : Nat} {cs : List Value} {x : DataW H × List MemPlace} (h : DataW.trod enc Tryd.prog w base sp held n 84 cs = some x) : ∃ r, RwEl 0 w cs r := by
  obtain ⟨v, c, xs, e, h1, h2⟩ := row_of_trod h
  exact ⟨(xs, c), v, e, h1, h2⟩
set_option maxRecDepth 100000 in
theorem propx_of_trod {n : Nat} {cs : List Value} {x : DataW H × List MemPlace} (h : DataW.trod enc Tryd.prog w base sp held n 30 cs = some x) :
    ∃ v q, v = .agg cs.toArray ∧ IsPropX 0 w v q := by
  obtain ⟨ys, m, _, _, hlen, _, hf⟩ := DataW.trod_struct Tryd.underlying30 h
  rw [cells_prop] at hlen
  match cs, hlen with
  | [v0, v1, v2, v3, v4, v5], _ =>
    have h0 : DataW.trod enc Tryd.prog w base sp held m 9 (([v0, v1, v2, v3, v4, v5].drop 0).take (Tryd.prog.cellsOf 9)) = ys[0]? := hf 0 _ rfl
    rw [cells_string] at h0
    have h1 : DataW.trod enc Tryd.prog w base sp held m 3 (([v0, v1, v2, v3, v4, v5].drop 1).take (Tryd.prog.cellsOf 3)) = ys[1]? := hf 1 _ rfl
    rw [cells_int] at h1
    have h2 : DataW.trod enc Tryd.prog w base sp held m 24 (([v0, v1, v2, v3, v4, v5].drop 2).take (Tryd.prog.cellsOf 24)) = ys[2]? := hf 2 _ rfl
    rw [cells_ints] at h2
    have h3 : DataW.trod enc Tryd.prog w base sp held m 28 (([v0, v1, v2, v3, v4, v5].drop 3).take (Tryd.prog.cellsOf 28)) = ys[3]? := hf 3 _ rfl
    rw [cells_rows] at h3
    have h4 : DataW.trod enc Tryd.prog w base sp held m 24 (([v0, v1, v2, v3, v4, v5].drop 4).take (Tryd.prog.cellsOf 24)) = ys[4]? := hf 4 _ rfl
    rw [cells_ints] at h4
    have h5 : DataW.trod enc Tryd.prog w base sp held m 24 (([v0, v1, v2, v3, v4, v5].drop 5).take (Tryd.prog.cellsOf 24)) = ys[5]? := hf 5 _ rfl
    rw [cells_ints] at h5
    simp only [List.drop_zero, List.take_succ_cons, List.take_zero] at h0
    simp only [List.drop_succ_cons, List.drop_zero, List.take_succ_cons, List.take_zero] at h1 h2 h3 h4 h5
    have hx : ∀ i, i < 6 → ∃ y, ys[i]? = some y := fun i hi => ⟨ys[i]'(by simp at *; omega), List.getElem?_eq_getElem _⟩
    obtain ⟨y0, e0⟩ := hx 0 (by omega)
    rw [e0] at h0
    obtain ⟨y1, e1⟩ := hx 1 (by omega)
    rw [e1] at h1
    obtain ⟨y2, e2⟩ := hx 2 (by omega)
    rw [e2] at h2
    obtain ⟨y3, e3⟩ := hx 3 (by omega)
    rw [e3] at h3
    obtain ⟨y4, e4⟩ := hx 4 (by omega)
    rw [e4] at h4
    obtain ⟨y5, e5⟩ := hx 5 (by omega)
    rw [e5] at h5
    obtain ⟨nm, hs, _, hnm⟩ := DataW.trod_string Tryd.underlying9 h0
    simp at hs
    subst hs
    obtain ⟨kind, rfl, hk⟩ := int_of_trod h1
    obtain ⟨start, H2⟩ := ints_of_trod Tryd.underlying24 Tryd.underlying3 cells_int h2
    obtain ⟨bad, H3⟩ := sl_of_trod Tryd.underlying28 cells_row (by omega) (fun _ _ _ hh _ => rw_of_trod hh) h3
    obtain ⟨adj, H4⟩ := ints_of_trod Tryd.underlying24 Tryd.underlying3 cells_int h4
    obtain ⟨goal, H5⟩ := ints_of_trod Tryd.underlying24 Tryd.underlying3 cells_int h5
    exact ⟨_, ⟨nm, kind, start, bad, adj, goal⟩, rfl, v2, v3, v4, v5, rfl, H2, H3, H4, H5, hnm, hk⟩
end
set_option maxRecDepth 100000 in
theorem arg_propx {H : Type} {enc : TypeId × Value → H} {w : World} {r : Reach} {b0 : Nat} {v : Value} {d : DataW H} {p : List MemPlace} (hv : Value.okWide Tryd.prog w r b0 30 v) (h : DataW.Trod enc Tryd.prog w 0 (fun _ => true) true 30 v d p) :
    ∃ q, IsPropX 0 w v q := by
  obtain ⟨cs, rfl, _⟩ := okWide_struct Tryd.underlying30 hv
  obtain ⟨fuel, hf⟩ := h
  obtain ⟨v', q, e, hq⟩ := propx_of_trod hf
  have e2 : v' = .agg cs := by rw [e]; simp [Value.cells]
  exact ⟨q, e2 ▸ hq⟩
def cRw (r : Rw) : List AV := [intsA r.1, iv r.2]
theorem lenRw (r : Rw) : (cRw r).length = 2 := rfl
def cPq (q : Pq) : List AV := [sv q.nm, iv q.kind, intsA q.start, slA 2 cRw q.bad, intsA q.adj, intsA q.goal]
theorem plain_rw (r : Rw) : ∀ X ∈ cRw r, Plain X := by
  intro X hX; simp only [cRw, List.mem_cons, List.not_mem_nil, or_false] at hX
  rcases hX with rfl | rfl
  · exact plain_ints _
  · exact .v _
theorem plain_pq (q : Pq) : ∀ X ∈ cPq q, Plain X := by
  intro X hX; simp only [cPq, List.mem_cons, List.not_mem_nil, or_false] at hX
  rcases hX with rfl | rfl | rfl | rfl | rfl | rfl <;> first | exact .v _ | exact plain_ints _ | exact plain_sl plain_rw _
structure PqOk (q : Pq) : Prop where
  nm : q.nm.size ≤ maxLen
  kind : I64 q.kind
  start : InOk q.start
  bad : ∀ r ∈ q.bad, InOk r.1 ∧ I64 r.2 ∧ r.1.length ≤ 9223372036854775807
  adj : InOk q.adj
  goal : InOk q.goal
  lstart : q.start.length ≤ 9223372036854775807
  lbad : q.bad.length ≤ 9223372036854775807
  ladj : q.adj.length ≤ 9223372036854775807
  lgoal : q.goal.length ≤ 9223372036854775807
theorem IsPropX.ok {lo : Nat} {w : World} {v : Value} {q : Pq} (h : IsPropX lo w v q) : PqOk q := by
  obtain ⟨v2, v3, v4, v5, _, h2, h3, h4, h5, h6, h7⟩ := h
  exact ⟨h6, h7, h2.ok, h3.all fun cs r hr => by obtain ⟨v, _, a, b⟩ := hr; exact ⟨a.ok, b, a.len⟩, h4.ok, h5.ok, h2.len, h3.bound, h4.len, h5.len⟩
section
variable {F ok : Nat → Prop} {lo : Nat} {w : World}
theorem prop_pu (hok : ∀ b, lo ≤ b → b < w.heap.size → ok b) {v : Value} {q : Pq} (h : IsPropX lo w v q) : Pu F w ok (.agg (cPq q)) v := by
  obtain ⟨v2, v3, v4, v5, rfl, h2, h3, h4, h5, _, _⟩ := h
  refine .agg rfl fun j hj => ?_
  match j, hj with
  | 0, _ => exact .v _
  | 1, _ => exact .v _
  | 2, _ => exact ints_pu hok h2
  | 3, _ =>
    refine sl_pu lenRw hok (fun r vs hr j hj => ?_) h3
    obtain ⟨v, rfl, a, _⟩ := hr
    match j, hj with
    | 0, _ => exact ints_pu hok a
    | 1, _ => exact .v _
  | 4, _ => exact ints_pu hok h4
  | 5, _ => exact ints_pu hok h5
theorem cells2 {vs : List Value} (h : vs.length = 2) : vs = [vs.getD 0 undef, vs.getD 1 undef] := by
  match vs, h with
  | [_, _], _ => rfl
theorem prop_of {q : Pq} {v : Value} (hq : PqOk q) (hlo : ∀ b, ok b → lo ≤ b) (h : Pu F w ok (.agg (cPq q)) v) : IsProp lo w v q := by
  obtain ⟨vs, rfl, hl, h⟩ := agg_cells h
  have hz : (cPq q).length = 6 := rfl
  have h3 : IsSl 2 RwEl lo w (vs.getD 3 undef) q.bad := pu_slm lenRw hlo (fun r => InOk r.1 ∧ I64 r.2) (fun r hr => ⟨(hq.bad r hr).1, (hq.bad r hr).2.1⟩) (fun r ws hr hl hp => ⟨ws.getD 0 undef, by
    have e := cells2 hl
    rw [show ws.getD 1 undef = .int .i64 r.2 from (hp 1 (by rw [lenRw]; omega)).v_inv] at e
    exact e, pu_ints hr.1 hlo (hp 0 (by rw [lenRw]; omega)), hr.2⟩) (h 3 (by omega))
  have h3' : IsRows lo w (vs.getD 3 undef) q.bad := by
    obtain ⟨a, cap, hv, a1, a2, a3, a4⟩ := h3
    refine ⟨a, cap, hv, a1, a2, ?_⟩
    rcases a4 with a4 | ⟨b, off, b1, b2, b3, b4⟩
    · exact .inl a4
    · refine .inr ⟨b, off, b1, b2, b3, fun i hi => ?_⟩
      obtain ⟨cs, c1, c2, v, rfl, c4, c5⟩ := b4 i hi
      exact ⟨v, (c2 0 (by omega)), (c2 1 (by omega)), c4, c5⟩
  refine ⟨vs.getD 2 undef, vs.getD 3 undef, vs.getD 4 undef, vs.getD 5 undef, ?_, pu_ints hq.start hlo (h 2 (by omega)), h3', pu_ints hq.adj hlo (h 4 (by omega)), pu_ints hq.goal hlo (h 5 (by omega)), hq.nm, hq.kind⟩
  have e := cells6 (hl.trans hz)
  rw [show vs.getD 0 undef = .string q.nm from (h 0 (by omega)).v_inv, show vs.getD 1 undef = .int .i64 q.kind from (h 1 (by omega)).v_inv] at e
  exact congrArg (fun l : List Value => Value.agg l.toArray) e
end
section
variable {J : World → Prop}
theorem BigProperty_c {q : Pq} (hq : PqOk q) : Ctr Tryd.prog J 13 [.agg (cPq q)] (bv (bigQ q)) := ctr1 fun w v _ h => (BigProperty_any (prop_of hq lo0 h)).mono fun _ _ => ret_sc
theorem setError_c (n : Nat) (hn : n ≤ 9223372036854775807) (xs : List Int) (hx : InOk xs) : Ctr Tryd.prog J 94 [intsA xs, iv n] (iv (setE n xs)) := ctr2 fun w v v' _ h h' => by
  rw [h'.v_inv]; exact (setError_any n hn (pu_ints hx lo0 h)).mono fun _ _ => ret_sc
theorem someSetError_c (n : Nat) (hn : n ≤ 9223372036854775807) (xs : List Int) (hx : InOk xs) : Ctr Tryd.prog J 96 [intsA xs, iv n] (iv (someE n xs)) := ctr2 fun w v v' _ h h' => by
  rw [h'.v_inv]; exact (someSetError_any n hn (pu_ints hx lo0 h)).mono fun _ _ => ret_sc
theorem between_c (n lo hi : Int) : Ctr Tryd.prog J 103 [iv n, iv lo, iv hi] (bv (inB lo hi n)) := ctr3 fun w v v' v'' _ h h' h'' => by
  rw [h.v_inv, h'.v_inv, h''.v_inv]; exact (between_any n lo hi w).mono fun _ _ => ret_eq
theorem isIndex_c (x : Int) (n : Nat) (hn : n ≤ 9223372036854775807) : Ctr Tryd.prog J 139 [iv x, iv n] (bv (ixB n x)) := ctr2 fun w v v' _ h h' => by
  rw [h.v_inv, h'.v_inv]; exact (isIndex_any x n hn w).mono fun _ _ => ret_eq
theorem qValidName_c (s : ByteArray) (hs : s.size ≤ maxLen) : Ctr Tryd.prog J 47 [sv s] (bv (nameB s.toList)) := ctr1 fun w v _ h => by
  rw [h.v_inv]; exact (ValidName_any s w hs).mono fun _ _ => ret_sc
end
end Go.Proofs.YtpadmggccpgajaaDoor

namespace Go.Proofs.YtpadmggccpgajaaDoor
open Go.RowKit Go.Deep
def noI (xs : List Int) (x : Int) (k : Nat) : Prop := ∀ j (h : j < xs.length), j < k → xs[j] ≠ x
theorem noI_zero (xs : List Int) (x : Int) : noI xs x 0 := fun _ _ h => absurd h (by omega)
theorem noI_succ {xs : List Int} {x : Int} {k : Nat} (hk : k < xs.length) (h : noI xs x k) (e : ¬ x = xs[k]) : noI xs x (k + 1) := fun j hj h' => by
  by_cases c : j = k
  · subst c; exact fun h => e h.symm
  · exact h j hj (by omega)
theorem noI_succ' {xs : List Int} {x : Int} {k : Nat} (hk : k < xs.length) (h : noI xs x k) (e : ¬ xs[k] = x) : noI xs x (k + 1) := noI_succ hk h (fun c => e c.symm)
def idxI (xs : List Int) (x : Int) : Int := if x ∈ xs then ((xs.findIdx (· == x) : Nat) : Int) else -1
theorem idx_yes {xs : List Int} {x : Int} {k : Nat} (hk : k < xs.length) (h : noI xs x k) (e : x = xs[k]) : ((k : Nat) : Int) = idxI xs x := by
  have hm : x ∈ xs := by rw [e]; exact List.getElem_mem hk
  have : xs.findIdx (· == x) = k := (List.findIdx_eq hk).2 ⟨by simp [← e], fun j hj => by simpa using h j (by omega) hj⟩
  unfold idxI; rw [if_pos hm, this]
theorem has_no {xs : List Int} {x : Int} {k : Nat} (hk : ¬ k < xs.length) (h : noI xs x k) : decide (x ∈ xs) = false := by
  rw [decide_eq_false_iff_not]; intro hm
  obtain ⟨j, hj, e⟩ := List.getElem_of_mem hm
  exact h j hj (by omega) e
theorem has_yes {xs : List Int} {x : Int} {k : Nat} (hk : k < xs.length) (e : xs[k] = x) : decide (x ∈ xs) = true := by
  rw [decide_eq_true_eq, ← e]; exact List.getElem_mem hk
theorem idx_no {xs : List Int} {x : Int} {k : Nat} (hk : ¬ k < xs.length) (h : noI xs x k) : (-1 : Int) = idxI xs x := by
  have := has_no hk h
  unfold idxI; rw [if_neg (by simpa using this)]
theorem idx_has (xs : List Int) (x : Int) : decide (0 ≤ idxI xs x) = decide (x ∈ xs) := by
  unfold idxI
  by_cases h : x ∈ xs
  · rw [if_pos h]; simp [h]
  · rw [if_neg h]; simp [h]
/-- The starts are all initial. -/
def subB (init xs : List Int) (k : Nat) : Bool := (xs.take k).all fun x => decide (x ∈ init)
theorem subB_succ {init xs : List Int} {k : Nat} (hk : k < xs.length) (h : subB init xs k = true) (e : decide (xs[k] ∈ init) = true) : subB init xs (k + 1) = true := all_succ hk h e
theorem subB_no {init xs : List Int} {k : Nat} (hk : k < xs.length) (e : decide (xs[k] ∈ init) = false) : subB init xs xs.length = false := by
  unfold subB; rw [List.take_length]; exact all_no hk e
def cntE (n : Nat) (c : Rw) : Int := if setE n c.1 = 0 then (if ((c.1.length : Nat) : Int) = 0 then 1 else if inB 1 3 c.2 = true then 0 else 1) else setE n c.1
def cntsE (n : Nat) : List Rw → Int
  | [] => 0
  | c :: cs => if cntE n c = 0 then cntsE n cs else cntE n c
def cntOk (n : Nat) (cs : List Rw) (k : Nat) : Prop := ∀ j (h : j < cs.length), j < k → cntE n cs[j] = 0
theorem cntOk_zero (n : Nat) (cs : List Rw) : cntOk n cs 0 := fun _ _ h => absurd h (by omega)
theorem cntOk_succ {n : Nat} {cs : List Rw} {k : Nat} (hk : k < cs.length) (h : cntOk n cs k) (e : cntE n cs[k] = 0) : cntOk n cs (k + 1) := fun j hj h' => by
  by_cases c : j = k
  · subst c; exact e
  · exact h j hj (by omega)
theorem cnts_first {n : Nat} : ∀ {cs : List Rw} {k : Nat} (hk : k < cs.length), cntOk n cs k → cntE n cs[k] ≠ 0 → cntsE n cs = cntE n cs[k]
  | c :: cs, 0, _, _, e => by
    have e' : ¬ cntE n c = 0 := e
    unfold cntsE; rw [if_neg e']; rfl
  | c :: cs, k + 1, hk, h, e => by
    have h0 : cntE n c = 0 := h 0 (by simp) (by omega)
    unfold cntsE
    rw [if_pos h0]
    exact cnts_first (cs := cs) (k := k) (by simpa using hk) (fun j hj h' => h (j + 1) (by simpa using hj) (by omega)) e
theorem cnts_zero {n : Nat} : ∀ {cs : List Rw}, cntOk n cs cs.length → cntsE n cs = 0
  | [], _ => rfl
  | c :: cs, h => by
    have h0 : cntE n c = 0 := h 0 (by simp) (by simp)
    unfold cntsE
    rw [if_pos h0]
    exact cnts_zero (cs := cs) (fun j hj h' => h (j + 1) (by simpa using hj) (by simpa using h'))
def adjB (n : Nat) (xs : List Int) (k : Nat) : Bool := (xs.take k).all fun x => ixB n x
theorem adjB_succ {n : Nat} {xs : List Int} {k : Nat} (hk : k < xs.length) (h : adjB n xs k = true) (e : ixB n xs[k] = true) : adjB n xs (k + 1) = true := all_succ hk h e
theorem adjB_no {n : Nat} {xs : List Int} {k : Nat} (hk : k < xs.length) (e : ixB n xs[k] = false) : adjB n xs xs.length = false := by
  unfold adjB; rw [List.take_length]; exact all_no hk e
def adjE (p : Fm) (xs : List Int) : Int :=
  if ((xs.length : Nat) : Int) = 0 then 0 else if p.top = 1 then 6 else if ((xs.length : Nat) : Int) = 2 then (if adjB p.states.length xs xs.length = true then 0 else 5) else 1
theorem adj_two {n : Nat} {xs : List Int} (h : ((xs.length : Nat) : Int) = 2) (h0 : ixB n (xs[0]'(by omega)) = true) (h1 : ixB n (xs[1]'(by omega)) = true) : adjB n xs xs.length = true := by
  have : xs.length = 2 := by omega
  match xs, this with
  | [a, b], _ => simp [adjB] at *; exact ⟨h0, h1⟩
def badE (p : Fm) (q : Pq) : Int :=
  if ((q.bad.length : Nat) : Int) = 0 ∧ ((q.adj.length : Nat) : Int) = 0 then 1
  else if (3 : Int) < ((q.bad.length : Nat) : Int) then 4
  else if cntsE p.states.length q.bad = 0 then adjE p q.adj else cntsE p.states.length q.bad
def vp3 (p : Fm) (q : Pq) (z : Int) : Int := if setE p.states.length q.start = 0 then (if subB p.init q.start q.start.length = true then z else 5) else setE p.states.length q.start
def vp2 (p : Fm) (q : Pq) : Int :=
  if q.kind = 1 then (if (0 : Int) < ((q.goal.length : Nat) : Int) then 1 else vp3 p q (badE p q))
  else if q.kind = 2 then (if (0 : Int) < ((q.bad.length : Nat) : Int) then 1 else if (0 : Int) < ((q.adj.length : Nat) : Int) then 1 else vp3 p q (someE p.states.length q.goal)) else 1
def vpE (p : Fm) (q : Pq) : Int := if valE p = 0 then (if nameB q.nm.toList = true then vp2 p q else 2) else valE p
theorem vp_v {p : Fm} {q : Pq} (h : ¬ valE p = 0) : vpE p q = valE p := if_neg h
theorem vp_n {p : Fm} {q : Pq} (h : valE p = 0) (h2 : nameB q.nm.toList = false) : vpE p q = 2 := by unfold vpE; rw [if_pos h, if_neg (by rw [h2]; simp)]
theorem vp_2 {p : Fm} {q : Pq} (h : valE p = 0) (h2 : nameB q.nm.toList = true) : vpE p q = vp2 p q := by unfold vpE; rw [if_pos h, if_pos h2]
theorem v2_k {p : Fm} {q : Pq} (h : ¬ q.kind = 1) (h2 : ¬ q.kind = 2) : vp2 p q = 1 := by unfold vp2; rw [if_neg h, if_neg h2]
theorem v2_g {p : Fm} {q : Pq} (h : q.kind = 1) (h2 : (0 : Int) < ((q.goal.length : Nat) : Int)) : vp2 p q = 1 := by unfold vp2; rw [if_pos h, if_pos h2]
theorem v2_1 {p : Fm} {q : Pq} (h : q.kind = 1) (h2 : ¬ (0 : Int) < ((q.goal.length : Nat) : Int)) : vp2 p q = vp3 p q (badE p q) := by unfold vp2; rw [if_pos h, if_neg h2]
theorem v2_b {p : Fm} {q : Pq} (h : ¬ q.kind = 1) (h2 : q.kind = 2) (h3 : (0 : Int) < ((q.bad.length : Nat) : Int)) : vp2 p q = 1 := by unfold vp2; rw [if_neg h, if_pos h2, if_pos h3]
theorem v2_a {p : Fm} {q : Pq} (h : ¬ q.kind = 1) (h2 : q.kind = 2) (h3 : ¬ (0 : Int) < ((q.bad.length : Nat) : Int)) (h4 : (0 : Int) < ((q.adj.length : Nat) : Int)) : vp2 p q = 1 := by unfold vp2; rw [if_neg h, if_pos h2, if_neg h3, if_pos h4]
theorem v2_2 {p : Fm} {q : Pq} (h : ¬ q.kind = 1) (h2 : q.kind = 2) (h3 : ¬ (0 : Int) < ((q.bad.length : Nat) : Int)) (h4 : ¬ (0 : Int) < ((q.adj.length : Nat) : Int)) : vp2 p q = vp3 p q (someE p.states.length q.goal) := by unfold vp2; rw [if_neg h, if_pos h2, if_neg h3, if_neg h4]
theorem v3_s {p : Fm} {q : Pq} {z : Int} (h : ¬ setE p.states.length q.start = 0) : vp3 p q z = setE p.states.length q.start := if_neg h
theorem v3_i {p : Fm} {q : Pq} {z : Int} (h : setE p.states.length q.start = 0) {k : Nat} (hk : k < q.start.length) (e : decide (q.start[k] ∈ p.init) = false) : vp3 p q z = 5 := by
  unfold vp3; rw [if_pos h, if_neg (by rw [subB_no hk e]; simp)]
theorem v3_z {p : Fm} {q : Pq} {z : Int} (h : setE p.states.length q.start = 0) (e : subB p.init q.start q.start.length = true) : vp3 p q z = z := by
  unfold vp3; rw [if_pos h, if_pos e]
theorem some_e {n : Nat} {xs : List Int} (h : ¬ setE n xs = 0) : someE n xs = setE n xs := by
  unfold someE; rw [if_neg]; intro e; rw [List.eq_nil_of_length_eq_zero e, setE_nil] at h; exact h rfl
theorem some_l {n : Nat} {xs : List Int} (h : ((xs.length : Nat) : Int) = 0) : someE n xs = 1 := by unfold someE; rw [if_pos (by omega)]
theorem some_0 {n : Nat} {xs : List Int} (h : setE n xs = 0) (h2 : ¬ ((xs.length : Nat) : Int) = 0) : someE n xs = 0 := by unfold someE; rw [if_neg (by omega), h]
theorem bad_0 {p : Fm} {q : Pq} (h : ((q.bad.length : Nat) : Int) = 0) (h2 : ((q.adj.length : Nat) : Int) = 0) : badE p q = 1 := if_pos ⟨h, h2⟩
theorem bad_4 {p : Fm} {q : Pq} (h : ¬ (((q.bad.length : Nat) : Int) = 0 ∧ ((q.adj.length : Nat) : Int) = 0)) (h2 : (3 : Int) < ((q.bad.length : Nat) : Int)) : badE p q = 4 := by unfold badE; rw [if_neg h, if_pos h2]
structure BP (q : Pq) : Prop where
  a : ¬ (((q.bad.length : Nat) : Int) = 0 ∧ ((q.adj.length : Nat) : Int) = 0)
  b : ¬ (3 : Int) < ((q.bad.length : Nat) : Int)
theorem bad_c {p : Fm} {q : Pq} (h : BP q) {k : Nat} (hk : k < q.bad.length) (ho : cntOk p.states.length q.bad k) {u : Int} (e : cntE p.states.length q.bad[k] = u) (hu : u ≠ 0) : badE p q = u := by
  have := cnts_first hk ho (by rw [e]; exact hu)
  unfold badE; rw [if_neg h.a, if_neg h.b, if_neg (by rw [this, e]; exact hu), this, e]
theorem bad_z {p : Fm} {q : Pq} (h : BP q) (ho : cntOk p.states.length q.bad q.bad.length) : badE p q = adjE p q.adj := by
  unfold badE; rw [if_neg h.a, if_neg h.b, if_pos (cnts_zero ho)]
theorem cnt_s {n : Nat} {c : Rw} (h : ¬ setE n c.1 = 0) : cntE n c = setE n c.1 := if_neg h
theorem cnt_l {n : Nat} {c : Rw} (h : setE n c.1 = 0) (h2 : ((c.1.length : Nat) : Int) = 0) : cntE n c = 1 := by unfold cntE; rw [if_pos h, if_pos h2]
theorem cnt_b {n : Nat} {c : Rw} (h : setE n c.1 = 0) (h2 : ¬ ((c.1.length : Nat) : Int) = 0) (h3 : inB 1 3 c.2 = false) : cntE n c = 1 := by unfold cntE; rw [if_pos h, if_neg h2, if_neg (by rw [h3]; simp)]
theorem cnt_0 {n : Nat} {c : Rw} (h : setE n c.1 = 0) (h2 : ¬ ((c.1.length : Nat) : Int) = 0) (h3 : inB 1 3 c.2 = true) : cntE n c = 0 := by unfold cntE; rw [if_pos h, if_neg h2, if_pos h3]
theorem some_ne {n : Nat} {c : Rw} (h : ¬ someE n c.1 = 0) : cntE n c = someE n c.1 := by
  by_cases e : setE n c.1 = 0
  · by_cases l : ((c.1.length : Nat) : Int) = 0
    · rw [cnt_l e l, some_l l]
    · exact absurd (some_0 e l) h
  · rw [cnt_s e, some_e e]
theorem some_z {n : Nat} {c : Rw} (h : someE n c.1 = 0) : setE n c.1 = 0 ∧ ¬ ((c.1.length : Nat) : Int) = 0 := by
  by_cases l : ((c.1.length : Nat) : Int) = 0
  · rw [some_l l] at h; cases h
  · refine ⟨?_, l⟩
    by_cases e : setE n c.1 = 0
    · exact e
    · rw [some_e e] at h; exact h
theorem adj_0 {p : Fm} {xs : List Int} (h : ((xs.length : Nat) : Int) = 0) : adjE p xs = 0 := if_pos h
theorem adj_6 {p : Fm} {xs : List Int} (h : ¬ ((xs.length : Nat) : Int) = 0) (h2 : p.top = 1) : adjE p xs = 6 := by unfold adjE; rw [if_neg h, if_pos h2]
theorem adj_1 {p : Fm} {xs : List Int} (h : ¬ ((xs.length : Nat) : Int) = 0) (h2 : ¬ p.top = 1) (h3 : ¬ ((xs.length : Nat) : Int) = 2) : adjE p xs = 1 := by unfold adjE; rw [if_neg h, if_neg h2, if_neg h3]
theorem adj_5 {p : Fm} {xs : List Int} (h : ¬ ((xs.length : Nat) : Int) = 0) (h2 : ¬ p.top = 1) (h3 : ((xs.length : Nat) : Int) = 2) {k : Nat} (hk : k < xs.length) (e : ixB p.states.length xs[k] = false) : adjE p xs = 5 := by
  unfold adjE; rw [if_neg h, if_neg h2, if_pos h3, if_neg (by rw [adjB_no hk e]; simp)]
theorem adj_k {p : Fm} {xs : List Int} (h : ¬ ((xs.length : Nat) : Int) = 0) (h2 : ¬ p.top = 1) (h3 : ((xs.length : Nat) : Int) = 2) (e : adjB p.states.length xs xs.length = true) : adjE p xs = 0 := by
  unfold adjE; rw [if_neg h, if_neg h2, if_pos h3, if_pos e]
end Go.Proofs.YtpadmggccpgajaaDoor
