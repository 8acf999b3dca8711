import Derived.Deep.OwnRows
import Derived.Test.YtgbgfkhkjlakbaaProg
import Derived.WalkSpells
import Derived.WalkLawsBesides
import Derived.Deep.QuietTactic
import Derived.BigQuiet
import Derived.Laws.AppendOwnNone
import Derived.Deep.RegionWith
import Derived.StillTailTactics
import Derived.Deep.RegionHeld3
import Derived.Laws.MakeOwn
import Derived.Deep.AppendLies
import Derived.LoopTactic
import Derived.Lib.Hide
import Derived.Outline
import Derived.Deep.DeepCutAuto
import Derived.Test.YtgbgfkhkjlakbaaGrpfgbhinhk
import Derived.Test.YtgbgfkhkjlakbaaGrppddonpfd
set_option linter.all false
namespace Go.Proofs.Ytgbgfkhkjlakbaa
open Go.RowKit Go.Deep
end Go.Proofs.Ytgbgfkhkjlakbaa

namespace Go.Proofs.Ytgbgfkhkjlakbaa
open Go.RowKit Go.Deep
section
variable {P : Program} {J : World → Prop} {o : Oper}
end
end Go.Proofs.Ytgbgfkhkjlakbaa

namespace Go.Proofs.Ytgbgfkhkjlakbaa
open Go.RowKit Go.Deep
variable {J : World → Prop}
section
variable {P : Program} {o : Oper}
end
end Go.Proofs.Ytgbgfkhkjlakbaa

namespace Go.Proofs.Ytgbgfkhkjlakbaa
open Go.RowKit Go.Deep
variable {J : World → Prop}
section
variable {P : Program} {w0 : Wb} {h : AHeap} {t : ATm}
end
section
variable {P : Program} {o : Oper}
end
section
variable {P : Program} {w0 : Wb} {ops : Array Oper} {o : Oper} {rest : List Oper} {Q : Exit → Act → World → Prop}
end
end Go.Proofs.Ytgbgfkhkjlakbaa

namespace Go.Proofs.Ytgbgfkhkjlakbaa
open Go.RowKit Go.Deep
variable {J : World → Prop}
section
variable {ρ : Names} {B : Nat} {w w' : World}
end
section
variable {P : Program} {o : Oper}
end
section
variable {w0 : Wb} {ρ : Names} {h : AHeap} {t : ATm} {a : Act} {w : World} {k0 k : Nat} {nm : Nm}
end
section
variable {P : Program} {w0 : Wb} {h : AHeap} {t : ATm}
end
end Go.Proofs.Ytgbgfkhkjlakbaa

namespace Go.Proofs.Ytgbgfkhkjlakbaa
open Go.RowKit Go.Deep
variable {J : World → Prop}
/-- The names of a callee that was handed one block. -/
def lent (k : Nat) (nm : Nm) : Names := ⟨fun j => if j = k then some nm else none, fun b => ∃ c n, nm = .at b c n⟩
def RetW (w0 : Wb) (k : Nat) (Y' : ABlk) (u : AV) (e : Ending) (w' : World) : Prop :=
  ∃ v ρ nm, e = .returned v ∧ (∀ j, j < hand → Names.f ρ j = none) ∧ (∀ j, hand ≤ j → Names.f ρ j = w0.N j) ∧ ρ.H = w0.H ∧ ρ k = some nm ∧ BlkR ρ w' w0.heap.size nm Y' ∧ Rel ρ w0.heap.size w' u v ∧ Bel w0 w'
section
variable {P : Program} {w0 : Wb} {h : AHeap} {t : ATm} {k : Nat} {Y' : ABlk}
theorem Sat.back {ρ : Names} {a : Act} {w : World} (s : Sat J w0 ρ h t a w) (hk : hand ≤ k) (hY : (h k).map (ABlk.wk (keepL []) h) = some Y') {X u : AV} {x : Value} (hr : Rel ρ w0.heap.size w X x) (hu : X.wk3 (keepL []) h = u) : RetW w0 k Y' u (.returned x) w := by
  subst hu
  obtain ⟨Y, hY0, rfl⟩ := Option.map_eq_some_iff.1 hY
  obtain ⟨nm, h1, h2⟩ := s.hp k Y hY0
  have hkb : keepL [] k = true := by unfold keepL; rw [Bool.or_eq_true]; exact .inr (Nat.ble_eq ▸ hk)
  refine ⟨x, kept (keepL []) ρ, nm, rfl, fun j hj => kept_no ?_, fun j hj => (kept_yes (by unfold keepL; rw [Bool.or_eq_true]; exact .inr (Nat.ble_eq ▸ hj))).trans (s.pin j hj), s.hH, (kept_yes hkb).trans h1, ?_, rel_wk3 s.wf s.hp hr, s.bel⟩
  · unfold keepL
    simp only [List.any_nil, Bool.false_or]
    cases e : Nat.ble hand j with
    | false => rfl
    | true => have := Nat.le_of_ble_eq_true e; omega
  · cases Y with
    | box T cs =>
      obtain ⟨b, c, n, vs, rfl, q1, q2, q3⟩ := h2
      exact ⟨b, c, n, vs, rfl, q1, by simpa using q2, fun j hj => by rw [List.getElem_map]; exact rel_wk1 s.wf s.hp (q3 j (by simpa using hj))⟩
    | row fr e z n cs =>
      obtain ⟨xs, q1, q2, q3⟩ := h2
      refine ⟨xs, q1, q2, fun j hj => (q3 j hj).weak fun b hb => ⟨fun k c n hk => ?_, hb.2⟩⟩
      dsimp only [kept] at hk
      split at hk
      · exact hb.1 _ _ _ hk
      · cases hk
end
section
variable {ρ : Names} {B B' : Nat} {w' : World} {k kc : Nat} {nm : Nm}
end
section
variable {ρ ρ' : Names} {B B' : Nat} {w' : World}
end
end Go.Proofs.Ytgbgfkhkjlakbaa

namespace Go.Proofs.Ytgbgfkhkjlakbaa
open Go.RowKit Go.Deep
variable {J : World → Prop}
/-- Plain, or a reference. -/
inductive PlainW : AV → Prop
  | pl {X : AV} (h : Plain X) : PlainW X
  | box (k o : Nat) : PlainW (.box k o)
  | own (k : Nat) : PlainW (.own k)
  | agg {cs : List AV} (h : ∀ j (hj : j < cs.length), PlainW cs[j]) : PlainW (.agg cs)
theorem PlainW.pu {F F' ok : Nat → Prop} {w : World} {Z : AV} (hp : PlainW Z) : ∀ {x : Value}, Pu F w ok Z x → Pu F' w ok Z x := by
  induction hp with
  | pl h => exact fun hx => hx.plain h
  | box k o => intro x hx; cases hx
  | own k => intro x hx; cases hx
  | agg h ih => intro x hx; cases hx with | agg hl hc => exact .agg hl fun j hj => ih j hj (hc j hj)
section
variable {ρ : Names} {B : Nat} {w : World} {rd : List (Nat × ABlk)} {k kc : Nat} {nm : Nm}
end
section
variable {P : Program} {o : Oper}
end
end Go.Proofs.Ytgbgfkhkjlakbaa

namespace Go.Proofs.Ytgbgfkhkjlakbaa
open Go.RowKit Go.Deep
variable {J : World → Prop}
/-- The call was lent one block. -/
structure One (w0 : Wb) (g : Nat) : Prop where
  H : ∀ b, w0.H b → b = g
  N : w0.N hand = some (.at g 0 0)
section
variable {ρ : Names} {k0 k g : Nat} {nm : Nm}
end
section
variable {ρ ρ' : Names} {B B' : Nat} {w : World} {k0 k : Nat} {nm : Nm}
end
section
variable {P : Program} {w0 : Wb} {h : AHeap} {t : ATm}
end
section
variable {P : Program} {o : Oper}
def AV.rdB : AV → Bool
  | .v _ => true
  | .sl _ _ _ => true
  | .el _ _ => true
  | .fr _ => true
  | .old _ _ => true
  | .any => true
  | _ => false
theorem Rel.rd {ρ : Names} {B : Nat} {w : World} {X : AV} {x : Value} (h : Rel ρ B w X x) (hr : X.rdB = true) : Pu (B ≤ ·) w (okOf ρ) X x := by
  cases h with
  | pu h => exact h
  | _ => cases hr
end
section
variable {P : Program} {w0 : Wb} {o : Oper} {ops : Array Oper} {rest : List Oper} {Q : Exit → Act → World → Prop}
end
end Go.Proofs.Ytgbgfkhkjlakbaa

namespace Go.Proofs.Ytgbgfkhkjlakbaa
open Go.RowKit Go.Deep
variable {J : World → Prop}
def CtrP (P : Program) (J : World → Prop) (f : FuncId) (args : List AV) (u : AV) : Prop :=
  ∀ (w : World) (vs : Array Value), (∀ w', Below w.heap.size w w' → J w') → vs.size = args.length → (∀ j (hj : j < args.length), Pu (fun _ => True) w (fun b => b < w.heap.size) args[j] (vs.getD j undef)) →
    Calls P f vs w fun e w' => ∃ v, e = .returned v ∧ Pu (fun _ => False) w' (w.heap.size ≤ ·) u v ∧ Below w.heap.size w w'
section
variable {P : Program} {o : Oper}
theorem sp_callP {c : Operand} {xs : Array Operand} {ats : Array TypeId} {f : FuncId} {Xs Ys : List AV} {u : AV} (rd : List (Nat × ABlk)) (hC : CtrP P J f Ys u) (ho : o.op = .call { callee := .value c, args := xs, argTypes := ats })
    (hf : (P.funcs[f]?).map (fun fn => (fn.name == "runtime.NumGoroutine") || fn.body.isNone) = some false) (hl : xs.size = Xs.length) (hv : Xs.map (AV.view rd) = Ys) (hfl : Xs.all AV.flat2 = true) :
    ASpec P J o ((c, .v (.func (.func f) #[] #[])) :: xs.toList.zip Xs) rd u .no := by
  subst hv
  intro ρ B a w K Q hwf hB hJ ha hr _ hk
  refine upon_call ho (ha (c, .v (.func (.func f) #[] #[])) (by simp)).v_inv hf ?_
  rw [Array.append_empty]
  refine (hC w (xs.map a.eval) (fun w' h => hJ w' (below_beyond h)) (by simpa using hl) fun j hj => ?_).mono fun e w' ⟨v, he, hp, hb⟩ => ⟨v, he, hk ρ w' v ⟨rfl, hb.os, hb.tape, hb.output, hb.size, fun b hb' _ => hb.block b hb', fun _ _ => rfl, (fun _ _ h => by cases h), (fun _ _ h => by cases h), .pu (hp.mono (fun b hb' hw => ⟨fun k c n hk => ?_, hw, rfl⟩) fun b _ h => h.elim)⟩⟩
  · have hj1 : j < Xs.length := by simpa using hj
    have hj2 : j < xs.size := by omega
    rw [List.getElem_map]
    have hm : (xs[j], Xs[j]) ∈ (c, AV.v (.func (.func f) #[] #[])) :: xs.toList.zip Xs := by
      refine List.mem_cons_of_mem _ ?_
      rw [List.mem_iff_getElem]
      exact ⟨j, by simp; omega, by simp⟩
    have := (ha _ hm).view hwf hr (List.all_eq_true.1 hfl _ (List.getElem_mem hj1))
    simpa [Array.getD, hj2] using this
  · have := (hwf.lo _ _ _ _ hk).2; omega
end
section
variable {P : Program} {w0 : Wb} {h : AHeap} {t : ATm}
theorem tri_end0 {fn : Func} {u : AV} (hr : fn.results = #[]) (hu : AV.v (.tuple #[]) = u) : ETri J w0 h t (bodyPost P fn (RetP w0 u) .ret) := fun ρ a w s => by
  subst hu
  refine ⟨s.df, .tuple #[], ?_, _, rfl, .v _, s.bel⟩
  unfold results
  rw [hr]
  simp
end
end Go.Proofs.Ytgbgfkhkjlakbaa

namespace Go.Proofs.Ytgbgfkhkjlakbaa
open Go.RowKit Go.Deep

/-- The order of slices of integers. -/
def cmpI : List Int → List Int → Int
  | [], [] => 0
  | [], _ :: _ => -1
  | _ :: _, [] => 1
  | x :: xs, y :: ys => if x < y then -1 else if y < x then 1 else cmpI xs ys

set_option maxHeartbeats 400000 in
theorem cmpInts_full (b off n cap b' off' n' cap' : Nat) (w : World) (xs ys : List Int) (hx : xs.length = n) (hy : ys.length = n') (hn : n ≤ 9223372036854775807)
    (hc : ∀ i, i < n → w.cell? ⟨b, off + i, none⟩ = some (.int .i64 (xs.getD i 0))) (hc' : ∀ i, i < n' → w.cell? ⟨b', off' + i, none⟩ = some (.int .i64 (ys.getD i 0))) :
    Calls Try.prog 39 #[.slice (some ⟨b, off, none⟩) n cap, .slice (some ⟨b', off', none⟩) n' cap'] w fun e w' => e = .returned (.int .i64 (cmpI xs ys)) ∧ Below w.heap.size w w' := by
  go_enter Try.func39, Try.ntmps39
  go_wp2
  go_loopw [5] (fun v wr => ∃ k : Nat, k ≤ n ∧ k ≤ n' ∧ v = .int .i64 k ∧ cmpI (xs.drop k) (ys.drop k) = cmpI xs ys ∧ Below w.heap.size w wr ∧ (∀ p : Addr, wr.cell? p = w.cell? p)) (fun v _ => n - (intOf v).toNat)
  case atStart => exact ⟨0, Nat.zero_le _, Nat.zero_le _, rfl, rfl, Below.refl _ _, fun _ => rfl⟩
  case round =>
    obtain ⟨k, hk, hk', rfl, hcm, hb, hsame⟩ := hrel
    have HS : Hid (∀ p : Addr, wr.cell? p = w.cell? p) := hsame
    have HB : Hid (Below w.heap.size w wr) := hb
    by_cases h1 : k < n
    · by_cases h2 : k < n'
      · have g1 : wr.cell? ⟨b, off + k, none⟩ = some (.int .i64 (xs.getD k 0)) := (hsame _).trans (hc k h1)
        have g2 : wr.cell? ⟨b', off' + k, none⟩ = some (.int .i64 (ys.getD k 0)) := (hsame _).trans (hc' k h2)
        have HC : Hid (cmpI xs ys = (if xs[k]'(by omega) < ys[k]'(by omega) then -1 else if ys[k]'(by omega) < xs[k]'(by omega) then 1 else cmpI (xs.drop (k+1)) (ys.drop (k+1)))) := by
          show _ = _
          rw [← hcm, List.drop_eq_getElem_cons (l := xs) (by omega), List.drop_eq_getElem_cons (l := ys) (by omega), cmpI]
        clear hsame hcm hb
        go_wp2
        go_quiet (fail)
        go_wp2
        · have hlt : xs[k] < ys[k] := by assumption
          go_ret
          exact ⟨ret_int (by rw [HC.out, if_pos hlt]), quietBelow HB.out _⟩
        · have hle : ys[k] ≤ xs[k] := by assumption
          go_quiet (fail)
          go_wp2
          · have hlt : ys[k] < xs[k] := by assumption
            go_ret
            exact ⟨ret_int (by rw [HC.out, if_neg (by omega), if_pos hlt]), (by (repeat refine quietBelow ?_ _); exact HB.out)⟩
          · have hle' : xs[k] ≤ ys[k] := by assumption
            go_roundw
            case rel => exact ⟨k + 1, by omega, by omega, by go_num, by rw [HC.out, if_neg (by omega), if_neg (by omega)], (by (repeat refine quietBelow ?_ _); exact HB.out), fun p => HS.out p⟩
            case measure => simp [intOf]; omega
      · have hd : ys.drop k = [] := List.drop_eq_nil_of_le (by omega)
        have HC : Hid (cmpI xs ys = 1) := by
          show _ = _
          rw [← hcm, hd, List.drop_eq_getElem_cons (by omega), cmpI]
        have hlt : n' < n := by omega
        clear hsame hcm hb hd
        go_wp2
        go_ret
        exact ⟨ret_int HC.out.symm, HB.out⟩
    · have hkn : k = n := by omega
      have hd : xs.drop k = [] := List.drop_eq_nil_of_le (by omega)
      by_cases h2 : n < n'
      · have HC : Hid (cmpI xs ys = -1) := by
          show _ = _
          rw [← hcm, hd, List.drop_eq_getElem_cons (by omega), cmpI]
        clear hsame hcm hb hd hkn
        go_wp2
        go_ret
        exact ⟨ret_int HC.out.symm, HB.out⟩
      · have HC : Hid (cmpI xs ys = 0) := by
          show _ = _
          rw [← hcm, hd, List.drop_eq_nil_of_le (by omega), cmpI]
        have hnn : ¬ n' < n := by omega
        clear hsame hcm hb hd hkn
        go_wp2
        go_ret
        exact ⟨ret_int HC.out.symm, HB.out⟩

set_option maxHeartbeats 400000 in
theorem cmpInts_left (a a' : Option Addr) (cap n' cap' : Nat) (w : World) (ys : List Int) (hy : ys.length = n') (hn' : n' ≤ 9223372036854775807) :
    Calls Try.prog 39 #[.slice a 0 cap, .slice a' n' cap'] w fun e w' => e = .returned (.int .i64 (cmpI [] ys)) ∧ Below w.heap.size w w' := by
  have HC : Hid (cmpI [] ys = if 0 < n' then -1 else 0) := by
    show _ = _
    cases ys <;> simp_all [cmpI] <;> omega
  by_cases h2 : 0 < n'
  · go_enter Try.func39, Try.ntmps39
    go_wp2
    go_rounds 1
    go_ret
    exact ⟨ret_int (by rw [HC.out, if_pos h2]), Below.refl _ _⟩
  · obtain rfl : n' = 0 := by omega
    clear h2
    go_enter Try.func39, Try.ntmps39
    go_wp2
    go_rounds 1
    go_ret
    exact ⟨ret_int (by rw [HC.out]; rfl), Below.refl _ _⟩

set_option maxHeartbeats 400000 in
theorem cmpInts_right (a a' : Option Addr) (n cap cap' : Nat) (w : World) (x : Int) (xs : List Int) (hx : (x :: xs).length = n) (hn : n ≤ 9223372036854775807) :
    Calls Try.prog 39 #[.slice a n cap, .slice a' 0 cap'] w fun e w' => e = .returned (.int .i64 (cmpI (x :: xs) [])) ∧ Below w.heap.size w w' := by
  have h2 : 0 < n := by simp at hx; omega
  clear hx
  go_enter Try.func39, Try.ntmps39
  go_wp2
  go_rounds 1
  go_ret
  exact ⟨rfl, Below.refl _ _⟩

theorem cmpInts_any {lo lo' : Nat} {w : World} {v v' : Value} {xs ys : List Int} (h : IsInts lo w v xs) (h' : IsInts lo' w v' ys) :
    Calls Try.prog 39 #[v, v'] w fun e w' => e = .returned (.int .i64 (cmpI xs ys)) ∧ Below w.heap.size w w' := by
  obtain ⟨a, cap, rfl, hl, hm, hi, hc⟩ := h
  obtain ⟨a', cap', rfl, hl', hm', hi', hc'⟩ := h'
  unfold maxLen at hm hm'
  rcases hc with rfl | ⟨b, off, rfl, _, _, hc⟩
  · exact cmpInts_left _ _ _ _ _ _ _ rfl (by omega)
  · rcases hc' with rfl | ⟨b', off', rfl, _, _, hc'⟩
    · cases xs with
      | nil => exact cmpInts_left _ _ _ _ _ _ _ rfl (by simp)
      | cons x xs => exact cmpInts_right _ _ _ _ _ _ _ _ rfl (by omega)
    · exact cmpInts_full _ _ _ _ _ _ _ _ _ _ _ rfl rfl (by omega) hc hc'

end Go.Proofs.Ytgbgfkhkjlakbaa

namespace Go.Proofs.Ytgbgfkhkjlakbaa
open Go.RowKit Go.Deep

/-- A slice of integers that the call has made: nil, or a row of its own. -/
def OwnV (lo : Nat) (w : World) (v : Value) (xs : List Int) : Prop :=
  (v = .slice none 0 0 ∧ xs = []) ∨ ∃ g cap, v = .slice (some ⟨g, 0, none⟩) xs.length cap ∧ xs.length ≤ cap ∧ cap ≤ maxLen ∧ OwnInts lo w g xs
theorem OwnV.ints {lo : Nat} {w : World} {v : Value} {xs : List Int} (h : OwnV lo w v xs) : IsInts lo w v xs := by
  rcases h with ⟨rfl, rfl⟩ | ⟨g, cap, rfl, hl, hm, h1, h2, h3, cur, t, hg, hc⟩
  · exact ⟨none, 0, rfl, by simp, by simp [maxLen], by simp, .inl rfl⟩
  · exact ints_of_block hg h1 rfl hl hm h3 hc
theorem OwnV.below {lo : Nat} {w w' : World} {v : Value} {xs : List Int} (h : OwnV lo w v xs) (hb : Below w.heap.size w w') : OwnV lo w' v xs := by
  rcases h with h | ⟨g, cap, hv, hl, hm, h⟩
  · exact .inl h
  · exact .inr ⟨g, cap, hv, hl, hm, h.below hb⟩
theorem OwnV.mono {lo lo' : Nat} {w : World} {v : Value} {xs : List Int} (h : OwnV lo w v xs) (hl' : lo' ≤ lo) : OwnV lo' w v xs := by
  rcases h with h | ⟨g, cap, hv, hl, hm, h⟩
  · exact .inl h
  · exact .inr ⟨g, cap, hv, hl, hm, h.mono hl'⟩
theorem OwnV.shape {lo : Nat} {w : World} {v : Value} {xs : List Int} (h : OwnV lo w v xs) : ∃ a cap, v = .slice a xs.length cap := h.ints.shape
theorem own_of_row {lo : Nat} {w : World} {v : Value} {e : TypeId} {xs : List Int} (h : w.ownsRow lo e 1 v xs.length (xs.map (Value.int .i64))) (hi : ∀ x ∈ xs, I64 x) : OwnV lo w v xs := by
  obtain ⟨_, h⟩ := h
  rcases h with ⟨hv, hn⟩ | ⟨g, cap, cur, hv, hb, hg, hnc, hcm, hcs, htake⟩
  · exact .inl ⟨hv, List.eq_nil_of_length_eq_zero hn⟩
  · refine .inr ⟨g, cap, hv, hnc, hcm, hb, Nat.le_trans hnc hcm, hi, cur, e, hg, fun i h => ?_⟩
    have h1 : (cur.toList.take (xs.length * 1))[i]? = some (.int .i64 (xs.getD i 0)) := by rw [htake]; simp [h]
    rw [List.getElem?_take, if_pos (by omega)] at h1
    simpa using h1

theorem info_int4 : ∃ i, Try.prog.info? 3 = some i ∧ i.zero = some (.int .i64 0) ∧ i.size = 1 ∧ i.bytes = 8 := by
  obtain ⟨i, hi, h⟩ := Option.map_eq_some_iff.1 (show (Try.prog.info? 3).map (fun i => (i.zero, i.size, i.bytes)) = some (some (.int .i64 0), 1, 8) by kernel_rfl)
  simp only [Prod.mk.injEq] at h
  exact ⟨i, hi, h.1, h.2.1, h.2.2⟩

theorem cmpI_self : ∀ xs, cmpI xs xs = 0
  | [] => rfl
  | x :: xs => by simp [cmpI, cmpI_self xs]
theorem cmpI_zero : ∀ {xs ys : List Int}, cmpI xs ys = 0 → xs = ys
  | [], [], _ => rfl
  | [], _ :: _, h => by simp [cmpI] at h
  | _ :: _, [], h => by simp [cmpI] at h
  | x :: xs, y :: ys, h => by
    unfold cmpI at h
    split at h
    · cases h
    · split at h
      · cases h
      · rw [show x = y by omega, cmpI_zero h]
def eqI (xs ys : List Int) : Bool := decide (xs = ys)
theorem eqI_cmp (xs ys : List Int) : (cmpI xs ys == 0) = eqI xs ys := by
  unfold eqI
  rw [Bool.eq_iff_iff, beq_iff_eq, decide_eq_true_iff]
  exact ⟨cmpI_zero, fun h => by rw [h]; exact cmpI_self _⟩
theorem SameInts_any {lo lo' : Nat} {w : World} {v v' : Value} {xs ys : List Int} (h : IsInts lo w v xs) (h' : IsInts lo' w v' ys) :
    Calls Try.prog 27 #[v, v'] w fun e w' => e = .returned (.bool (eqI xs ys)) ∧ Below w.heap.size w w' := by
  obtain ⟨a, cap, rfl⟩ := h.shape
  obtain ⟨a', cap', rfl⟩ := h'.shape
  have E := hid0 (eqI_cmp xs ys)
  go_enter Try.func27, Try.ntmps27
  go_wp2_with (go_at_call 39; refine (cmpInts_any h h').mono ?_; rintro e w1 ⟨rfl, hb1⟩)
  go_ret
  exact ⟨ret_bool E.out, hb1⟩
end Go.Proofs.Ytgbgfkhkjlakbaa

namespace Go.Proofs.Ytgbgfkhkjlakbaa
open Go.RowKit Go.Deep
theorem make_n {P : Program} (t e : TypeId) (z : Value) (s bytes : Nat) (ht : P.underlying t = some (.slice e)) (hinfo : (P.info? e).map (fun i => (i.zero, i.size, i.bytes)) = some (some z, s, bytes))
    (n : Nat) (hbytes : bytes * n ≤ 281474976710656) (h63 : n ≤ 9223372036854775807) (w : World) :
    (Instr.makeSlice t (.int .i64 (n : Int)) (.int .i64 (n : Int))).run P w = .ok (.slice (some ⟨w.heap.size, 0, none⟩) n n) (w.alloc (.cells (madeCells z.cells (n * s)) e)) := by
  obtain ⟨i, hi, hzz⟩ := Option.map_eq_some_iff.1 hinfo
  simp only [Prod.mk.injEq] at hzz
  obtain ⟨hz, rfl, rfl⟩ := hzz
  have hb' : (i.bytes : Int) * (n : Int) ≤ 281474976710656 := by
    have h : ((i.bytes * n : Nat) : Int) ≤ 281474976710656 := by omega
    rwa [Int.natCast_mul] at h
  have hr := run_make (P := P) w t e i z ht hi hz .i64 .i64 n n (by omega) (Int.le_refl _) hb' (by omega)
  simp only [Int.toNat_natCast] at hr
  exact hr
theorem made_get (z : Array Value) (m j : Nat) (v : Value) (hj : j < m) (hz : z[j % z.size]! = v) : (madeCells z m)[j]? = some v := by
  subst hz; simp [madeCells, hj]
def up (f : Nat → Int) (i : Nat) (v : Int) : Nat → Int := fun j => if j = i then v else f j
theorem up_same (f : Nat → Int) (i : Nat) (v : Int) : up f i v i = v := by simp [up]
theorem up_ne (f : Nat → Int) {i j : Nat} (v : Int) (h : j ≠ i) : up f i v j = f j := by simp [up, h]
/-- A block of the call's own whose first m cells hold the numbers f. -/
def OwnF (lo : Nat) (w : World) (g m : Nat) (f : Nat → Int) : Prop :=
  lo ≤ g ∧ ∃ cur t, w.heap[g]? = some (.cells cur t (0, 0)) ∧ ∀ j, j < m → cur[j]? = some (.int .i64 (f j))
theorem OwnF.lt {lo : Nat} {w : World} {g m : Nat} {f : Nat → Int} (h : OwnF lo w g m f) : g < w.heap.size := by
  obtain ⟨_, cur, t, hg, _⟩ := h; exact (Array.getElem?_eq_some_iff.1 hg).1
theorem OwnF.cell {lo : Nat} {w : World} {g m : Nat} {f : Nat → Int} (h : OwnF lo w g m f) (j : Nat) (hj : j < m) : w.cell? ⟨g, j, none⟩ = some (.int .i64 (f j)) := by
  obtain ⟨_, cur, t, hg, hc⟩ := h
  have := hc j hj
  simp only [World.cell?, hg]
  simpa using this
theorem OwnF.frozen {lo : Nat} {w : World} {g m : Nat} {f : Nat → Int} (h : OwnF lo w g m f) (j : Nat) : w.frozen? ⟨g, j, none⟩ = false := by
  obtain ⟨_, cur, t, hg, hc⟩ := h
  simp [World.frozen?, hg]
theorem OwnF.but {lo : Nat} {w w' : World} {g m : Nat} {f : Nat → Int} (h : OwnF lo w g m f) (hb : w'.heap[g]? = w.heap[g]?) : OwnF lo w' g m f := by
  obtain ⟨h1, cur, t, hg, hc⟩ := h; exact ⟨h1, cur, t, by rw [hb]; exact hg, hc⟩
theorem OwnF.below {lo : Nat} {w w' : World} {g m : Nat} {f : Nat → Int} (h : OwnF lo w g m f) (hb : Below w.heap.size w w') : OwnF lo w' g m f := h.but (hb.block g h.lt)
theorem OwnF.set {lo : Nat} {w : World} {g m : Nat} {f : Nat → Int} (h : OwnF lo w g m f) (i : Nat) (v : Int) : OwnF lo (w.setCell ⟨g, i, none⟩ (.int .i64 v)) g m (up f i v) := by
  obtain ⟨h1, cur, t, hg, hc⟩ := h
  refine ⟨h1, cur.setIfInBounds i (.int .i64 v), t, heap_setCell_same w g i cur t _ hg, fun j hj => ?_⟩
  have hcj := hc j hj
  have hjc : j < cur.size := (Array.getElem?_eq_some_iff.1 hcj).1
  by_cases e : i = j
  · subst e
    rw [up_same]
    simp [hjc]
  · rw [Array.getElem?_setIfInBounds_ne e, hcj, up_ne _ _ (Ne.symm e)]
theorem OwnF.setOther {lo : Nat} {w : World} {g m : Nat} {f : Nat → Int} (h : OwnF lo w g m f) (a : Addr) (u : Value) (hne : a.block ≠ g) : OwnF lo (w.setCell a u) g m f :=
  h.but (Below.heap_setCell _ _ _ _ (fun e => hne e.symm))
theorem OwnF.grown {lo : Nat} {w w' : World} {g m : Nat} {f : Nat → Int} {r : Option Nat} (h : OwnF lo w g m f) (hg : w.grownBy w' r) (hr : r ≠ some g) : OwnF lo w' g m f :=
  h.but (hg.block g h.lt (Ne.symm hr))
end Go.Proofs.Ytgbgfkhkjlakbaa

namespace Go.Proofs.Ytgbgfkhkjlakbaa

/-- From m open places on, the list fills all of them. -/
def shpF : List Int → Int → Bool
  | [], m => decide (m = 0)
  | c :: cs, m => if m = 0 then false else if c ≠ 0 ∧ c ≠ 2 then false else shpF cs (m + c - 1)
/-- The list is a shape. -/
def shp (xs : List Int) : Bool := shpF xs 1

/-- The neighbors as they are known behind some nodes, and the nodes that wait for a child. -/
structure TS where
  fi : Nat → Int
  se : Nat → Int
  pa : Nat → Int
  wt : List Nat
def tkid (s : TS) (i : Nat) : TS :=
  match s.wt.getLast? with
  | none => ⟨up s.fi i (-1), up s.se i (-1), up s.pa i (-1), s.wt⟩
  | some p => if up s.fi i (-1) p < 0 then ⟨up (up s.fi i (-1)) p i, up s.se i (-1), up (up s.pa i (-1)) i p, s.wt⟩ else ⟨up s.fi i (-1), up (up s.se i (-1)) p i, up (up s.pa i (-1)) i p, s.wt.dropLast⟩
def tstep (s : TS) (i : Nat) (c : Int) : TS := if c = 2 then ⟨(tkid s i).fi, (tkid s i).se, (tkid s i).pa, (tkid s i).wt ++ [i]⟩ else tkid s i
def trun (xs : List Int) : Nat → TS
  | 0 => ⟨fun _ => 0, fun _ => 0, fun _ => 0, []⟩
  | k + 1 => tstep (trun xs k) k (xs.getD k 0)
def treeL (xs : List Int) (i : Nat) : Int × Int × Int := ((trun xs xs.length).fi i, (trun xs xs.length).se i, (trun xs xs.length).pa i)
/-- The neighbors that a process has. -/
def rowL (top count i : Int) : Int × Int × Int :=
  (if top = 3 ∧ i = 0 then count - 1 else i - 1, if i = count - 1 then (if top = 3 then 0 else -1) else i + 1, -1)
def nbr (top : Int) (xs : List Int) (count i : Int) : Int × Int × Int :=
  if 0 ≤ i ∧ i < count then (if top = 2 ∨ top = 3 then rowL top count i else if top = 4 ∧ (xs.length : Int) = count ∧ shp xs = true then treeL xs i.toNat else (-1, -1, -1)) else (-1, -1, -1)

end Go.Proofs.Ytgbgfkhkjlakbaa

namespace Go.Proofs.Ytgbgfkhkjlakbaa
open Go.RowKit Go.Deep
/-- What is known of an element type and its slices. -/
structure ElT (P : Program) (T E : TypeId) (z : Value) (size bytes : Nat) : Prop where
  ht : P.underlying T = some (.slice E)
  info : (P.info? E).map (fun i => (i.zero, i.size, i.bytes)) = some (some z, size, bytes)
  hz : z.cells.size = size
  h0 : 0 < size
theorem append_one {P : Program} {T E : TypeId} {z : Value} {size bytes : Nat} (K : ElT P T E z size bytes) {W : World} {ops : Array Oper} {rest : List Oper} {o : Oper} {a : Act} {Q : Exit → Act → World → Prop}
    (hgd : o.guard = none) (s x : Operand) (ho : o.op = .call { callee := .builtin .append, args := #[s, x], argTypes := #[T, T] })
    (base : Nat) (v : Value) (n : Nat) (xs news : List Value) (Hn : Nat) (hs : a.eval s = v) (hx : a.eval x = .slice (some ⟨Hn, 0, none⟩) 1 1) (hH : W.heap.size = Hn) (hown : W.ownsRow base E size v n xs)
    (hl : news.length = size) (h1 : ∀ u ∈ news, u.oneCell' = true) (hn : (n + 1) * bytes ≤ 140737488355328) (h63 : n + 1 ≤ maxLen) (hbase : base ≤ Hn) {B : Array Value} (hB : B = news.toArray)
    (h : ∀ g cap w', w'.ownsRow base E size (.slice (some ⟨g, 0, none⟩) (n + 1) cap) (n + 1) (xs ++ news) → W.grownBy w' v.ownBlock → (v.ownBlock = some g ∨ Hn < g) → base ≤ g → g < w'.heap.size → Hn < w'.heap.size → wpList P ops Q rest (a.put o.dst (.slice (some ⟨g, 0, none⟩) (n + 1) cap)) w') :
    wpList P ops Q (o :: rest) a (W.alloc (.cells B E)) := by
  subst hB hH
  obtain ⟨i, hi, hzz⟩ := Option.map_eq_some_iff.1 K.info
  simp only [Prod.mk.injEq] at hzz
  obtain ⟨hz, hsz, hby⟩ := hzz
  refine wpList_append_lies (W.alloc (.cells news.toArray E)) hgd s x T ho base E i z size bytes K.ht hi hz hsz hby K.hz K.h0 v n xs hs (hown.alloc _) ⟨W.heap.size, 0, none⟩ 1 1 news hx (by omega)
    (World.news_of_block (heap_alloc_new _ _)) h1 (by decide) h63 hn (by simp; omega) (W.heap.size + 1) (by simp) fun g cap w' g1 g2 g3 g4 => ?_
  have hgr : W.grownBy w' v.ownBlock := by
    have ha := World.grownBy_alloc W (.cells news.toArray E) v.ownBlock
    exact ⟨g2.os.trans ha.os, g2.tape.trans ha.tape, g2.output.trans ha.output, Nat.le_trans ha.size g2.size, fun k hk hne => (g2.block k (by simp; omega) hne).trans (ha.block k hk hne)⟩
  refine h g cap w' g1 hgr ?_ ?_ g4 (by have := g2.size; simp at this; omega)
  · rcases g3 with g3 | g3
    · exact .inl g3
    · exact .inr (by omega)
  · rcases g3 with g3 | g3
    · exact (hown.lt g g3).1
    · omega
/-- The elements of a row that the call owns, all but the last. -/
theorem row_cut {w : World} {base : Nat} {e : TypeId} {n : Nat} {xs : List Value} {a : Option Addr} {c : Nat} (h : w.ownsRow base e 1 (.slice a (n + 1) c) (n + 1) xs) : w.ownsRow base e 1 (.slice a n c) n (xs.take n) := by
  obtain ⟨hl, h2⟩ := h
  refine ⟨by rw [List.length_take]; omega, ?_⟩
  rcases h2 with ⟨_, h0⟩ | ⟨g, cap, cur, hv, hb, hg, hn, hm, hs, ht⟩
  · omega
  · simp only [Value.slice.injEq] at hv
    obtain ⟨rfl, _, rfl⟩ := hv
    exact .inr ⟨g, c, cur, rfl, hb, hg, by omega, hm, hs, by rw [← ht, List.take_take, Nat.mul_one, Nat.mul_one, Nat.min_eq_left (by omega)]⟩
theorem rows_shape {w : World} {base : Nat} {e : TypeId} {size : Nat} {v : Value} {n : Nat} {xs : List Value} (h : w.ownsRow base e size v n xs) : ∃ a c, v = .slice a n c := by
  rcases h.2 with ⟨rfl, rfl⟩ | ⟨g, cap, _, rfl, _⟩
  · exact ⟨_, _, rfl⟩
  · exact ⟨_, _, rfl⟩
/-- The last of the elements of a row of one-cell elements that the call owns. -/
theorem row_last {w : World} {base : Nat} {e : TypeId} {n : Nat} {xs : List Value} {a : Option Addr} {c : Nat} (h : w.ownsRow base e 1 (.slice a (n + 1) c) (n + 1) (xs)) : ∃ g, a = some ⟨g, 0, none⟩ ∧ base ≤ g ∧ g < w.heap.size ∧ n < c ∧ c ≤ maxLen ∧ ∀ j, j < n + 1 → w.cell? ⟨g, j, none⟩ = xs[j]? := by
  obtain ⟨hl, h2⟩ := h
  rcases h2 with ⟨_, h0⟩ | ⟨g, cap, cur, hv, hb, hg, hn, hm, hs, ht⟩
  · omega
  · simp only [Value.slice.injEq] at hv
    obtain ⟨rfl, _, rfl⟩ := hv
    refine ⟨g, rfl, hb, (Array.getElem?_eq_some_iff.1 hg).1, by omega, hm, fun j hj => ?_⟩
    rw [← ht, List.getElem?_take_of_lt (by omega)]
    simp only [World.cell?, hg]
    simp
end Go.Proofs.Ytgbgfkhkjlakbaa

namespace Go.Proofs.Ytgbgfkhkjlakbaa
open Go.RowKit Go.Deep

/-- The cells of the links. -/
def cf (s : TS) (j : Nat) : Int := if j % 3 = 0 then s.fi (j / 3) else if j % 3 = 1 then s.se (j / 3) else s.pa (j / 3)
theorem cf_fi (s : TS) (i : Nat) : cf s (i * 3) = s.fi i := by unfold cf; rw [if_pos (by omega)]; congr 1; omega
theorem cf_se (s : TS) (i : Nat) : cf s (i * 3 + 1) = s.se i := by unfold cf; rw [if_neg (by omega), if_pos (by omega)]; congr 1; omega
theorem cf_pa (s : TS) (i : Nat) : cf s (i * 3 + 2) = s.pa i := by unfold cf; rw [if_neg (by omega), if_neg (by omega)]; congr 1; omega
theorem up_fi (s : TS) (i : Nat) (v : Int) : up (cf s) (i * 3) v = cf ⟨up s.fi i v, s.se, s.pa, s.wt⟩ := by
  funext j; unfold up cf
  by_cases e : j = i * 3
  · subst e; rw [if_pos rfl, if_pos (by omega)]; dsimp only; rw [if_pos (by omega)]
  · rw [if_neg e]; split
    · dsimp only; rw [if_neg (by omega)]
    · rfl
theorem up_se (s : TS) (i : Nat) (v : Int) : up (cf s) (i * 3 + 1) v = cf ⟨s.fi, up s.se i v, s.pa, s.wt⟩ := by
  funext j; unfold up cf
  by_cases e : j = i * 3 + 1
  · subst e; rw [if_pos rfl, if_neg (by omega), if_pos (by omega)]; dsimp only; rw [if_pos (by omega)]
  · rw [if_neg e]; split
    · rfl
    · split
      · dsimp only; rw [if_neg (by omega)]
      · rfl
theorem up_pa (s : TS) (i : Nat) (v : Int) : up (cf s) (i * 3 + 2) v = cf ⟨s.fi, s.se, up s.pa i v, s.wt⟩ := by
  funext j; unfold up cf
  by_cases e : j = i * 3 + 2
  · subst e; rw [if_pos rfl, if_neg (by omega), if_neg (by omega)]; dsimp only; rw [if_pos (by omega)]
  · rw [if_neg e]; split
    · rfl
    · split
      · rfl
      · dsimp only; rw [if_neg (by omega)]

theorem info_link : (Try.prog.info? 99).map (fun i => (i.zero, i.size, i.bytes)) = some (some (.agg #[.int .i64 0, .int .i64 0, .int .i64 0]), 3, 24) := by kernel_rfl
theorem elInt : ElT Try.prog 24 3 (.int .i64 0) 1 8 := ⟨Try.underlying24, by kernel_rfl, rfl, by decide⟩
set_option maxHeartbeats 800000 in
theorem treeLinks_full (b off n cap : Nat) (w : World) (xs : List Int) (hx : xs.length = n) (hn : n ≤ 100) (h0 : 0 < n)
    (hc : ∀ i, i < n → w.cell? ⟨b, off + i, none⟩ = some (.int .i64 (xs.getD i 0))) :
    Calls Try.prog 51 #[.slice (some ⟨b, off, none⟩) n cap] w fun e w' => ∃ g, e = .returned (.slice (some ⟨g, 0, none⟩) n n) ∧ OwnF w.heap.size w' g (n * 3) (cf (trun xs n)) ∧ Below w.heap.size w w' := by
  have HC := Lib.hid hc
  have HX := Lib.hid hx
  clear hc hx
  have hmk := make_n (P := Try.prog) 92 99 _ 3 24 Try.underlying92 info_link n (by omega) (by omega)
  go_enter Try.func51, Try.ntmps51
  go_wp2_with fail
  have HO0 : Hid (OwnF w.heap.size (w.alloc (.cells (madeCells #[Value.int IntKind.i64 0, Value.int IntKind.i64 0, Value.int IntKind.i64 0] (n * 3)) 99)) w.heap.size (n * 3) (cf (trun xs 0))) := by
    refine ⟨Nat.le_refl _, _, _, heap_alloc_new _ _, fun j hj => made_get _ _ _ _ hj ?_⟩
    have h3 : j % 3 = 0 ∨ j % 3 = 1 ∨ j % 3 = 2 := by omega
    unfold cf trun
    rcases h3 with h | h | h <;> simp [h]
  go_loopw [4, 14] (fun v u wr => ∃ (k : Nat) (av : Option Addr) (cv : Nat), k ≤ n ∧ u = .int .i64 k ∧ v = .slice av (trun xs k).wt.length cv ∧ OwnF w.heap.size wr w.heap.size (n * 3) (cf (trun xs k)) ∧ wr.ownsRow (w.heap.size + 1) 3 1 (.slice av (trun xs k).wt.length cv) (trun xs k).wt.length ((trun xs k).wt.map fun p : Nat => Value.int .i64 p) ∧ (∀ p ∈ (trun xs k).wt, p < k) ∧ (trun xs k).wt.length ≤ k ∧ Below w.heap.size w wr) (fun _ u _ => n - (intOf u).toNat)
  case atStart => exact ⟨0, _, _, Nat.zero_le _, rfl, rfl, HO0.out, World.ownsRow_nil _ _ _ _, by simp [trun], by simp [trun], allocBelow _ _⟩
  case round =>
    obtain ⟨k, av, cv, hk, rfl, rfl, hO, hR, hW, hL, hB⟩ := hrel
    have HO := Lib.hid hO
    have HR := Lib.hid hR
    have HW := Lib.hid hW
    have HB := Lib.hid hB
    by_cases hlt : k < n
    · have g1 : wr.cell? ⟨b, off + k, none⟩ = some (.int .i64 (xs.getD k 0)) := keep1 (HC.out k hlt) hB
      have hT : trun xs (k + 1) = tstep (trun xs k) k (xs.getD k 0) := rfl
      have HT := Lib.hid hT
      generalize hX : xs.getD k 0 = x at g1 HT
      generalize hS : trun xs k = s at HO HR HW HT hL
      have f0 := HO.out.cell (k * 3) (by omega)
      have f1 := HO.out.cell (k * 3 + 1) (by omega)
      have f2 := HO.out.cell (k * 3 + 2) (by omega)
      have z0 := HO.out.frozen (k * 3)
      have z1 := HO.out.frozen (k * 3 + 1)
      have z2 := HO.out.frozen (k * 3 + 2)
      have zz := HO.out.lt
      clear hX hS hT hO hR hW hB
      rcases hw : s.wt.getLast? with _ | p
      · have hnil : s.wt = [] := by simpa using hw
        have hl0 : s.wt.length = 0 := by rw [hnil]; rfl
        have HNil := Lib.hid hnil
        have HW0 := Lib.hid hw
        rw [hl0] at HR ⊢
        clear hnil hl0 hw
        have HS : Hid (OwnF w.heap.size (((wr.setCell ⟨w.heap.size, k * 3, none⟩ (.int .i64 (-1))).setCell ⟨w.heap.size, k * 3 + 1, none⟩ (.int .i64 (-1))).setCell ⟨w.heap.size, k * 3 + 2, none⟩ (.int .i64 (-1))) w.heap.size (n * 3) (cf (tkid s k))) := by
          have := ((HO.out.set (k * 3) (-1)).set (k * 3 + 1) (-1)).set (k * 3 + 2) (-1)
          rw [up_fi, up_se, up_pa] at this
          show OwnF _ _ _ _ _
          unfold tkid
          rw [HW0.out]
          exact this
        have HK : Hid ((tkid s k).wt = []) := by
          show (tkid s k).wt = []
          unfold tkid
          rw [HW0.out]
          exact HNil.out
        have HR2 : Hid ((((wr.setCell ⟨w.heap.size, k * 3, none⟩ (.int .i64 (-1))).setCell ⟨w.heap.size, k * 3 + 1, none⟩ (.int .i64 (-1))).setCell ⟨w.heap.size, k * 3 + 2, none⟩ (.int .i64 (-1))).ownsRow (w.heap.size + 1) 3 1 (.slice av 0 cv) 0 []) := by
          have h := HR.out
          rw [HNil.out] at h
          exact ownsRow_setCell_below (ownsRow_setCell_below (ownsRow_setCell_below h (by simp) _) (by simp) _) (by simp) _
        by_cases x2 : x = 2
        · subst x2
          go_wp2_with (at_builtin; refine append_one elInt (by rfl) (.tmp 58) (.tmp 60) (by rfl) (w.heap.size + 1) _ 0 [] [.int .i64 k] wr.heap.size (by rfl) (by rfl) (by simp) HR2.out (by rfl) (by intro u hu; simp at hu; subst hu; rfl) (by omega) (by unfold maxLen; omega) (by omega) (by rfl) ?_; intro g cap w1 hown hgrow hat hlo hlt hsz)
          go_roundw
          case rel =>
            have hTS : trun xs (k + 1) = ⟨(tkid s k).fi, (tkid s k).se, (tkid s k).pa, [k]⟩ := by rw [HT.out]; unfold tstep; rw [if_pos rfl, HK.out]; rfl
            refine ⟨k + 1, some ⟨g, 0, none⟩, cap, by omega, by go_num, ?_, ?_, ?_, ?_, ?_, ?_⟩
            all_goals (try rw [hTS])
            · rfl
            · exact HS.out.grown hgrow (fun e => by have := (HR2.out.lt _ e).1; omega)
            · exact hown
            · simp
            · simp
            · exact (((HB.out.setCell (by simp) _).setCell (by simp) _).setCell (by simp) _).grown hgrow (by simp; omega) (fun k hk => by have := (HR2.out.lt _ hk).1; omega)
          case measure => simp [intOf]; omega
        · have x3 : (x == 2) = false := by simpa using x2
          have X2 := Lib.hid x2
          clear x2
          go_wp2_with fail
          go_roundw
          case rel =>
            have hTS : trun xs (k + 1) = tkid s k := by rw [HT.out]; unfold tstep; rw [if_neg X2.out]
            refine ⟨k + 1, av, cv, by omega, by go_num, ?_, ?_, ?_, ?_, ?_, ((HB.out.setCell (by simp) _).setCell (by simp) _).setCell (by simp) _⟩
            all_goals rw [hTS]
            · rw [HK.out]; rfl
            · exact HS.out
            · rw [HK.out]; exact HR2.out
            · rw [HK.out]; simp
            · rw [HK.out]; simp
          case measure => simp [intOf]; omega
      · obtain ⟨ys, hys⟩ : ∃ ys, s.wt = ys ++ [p] := List.getLast?_eq_some_iff.1 hw
        have hpk : p < k := HW.out p (by rw [hys]; simp)
        have hl1 : s.wt.length = ys.length + 1 := by rw [hys]; simp
        have hyl : ys.length + 1 ≤ k := by omega
        have HY := Lib.hid hys
        have HW0 := Lib.hid hw
        rw [hl1] at HR ⊢
        obtain ⟨gw, rfl, hgw, hgs, hcv, hcm, hcells⟩ := row_last HR.out
        have q1 : wr.cell? ⟨gw, ys.length, none⟩ = some (.int .i64 p) := by rw [hcells _ (by omega), HY.out]; simp
        have q2 : wr.cell? ⟨w.heap.size, p * 3, none⟩ = some (.int .i64 (s.fi p)) := by rw [← cf_fi]; exact HO.out.cell _ (by omega)
        have q3 : wr.cell? ⟨w.heap.size, p * 3 + 1, none⟩ = some (.int .i64 (s.se p)) := by rw [← cf_se]; exact HO.out.cell _ (by omega)
        have q4 := HO.out.frozen (p * 3)
        have q5 := HO.out.frozen (p * 3 + 1)
        have n1 : p * 3 ≠ k * 3 := by omega
        have n2 : p * 3 ≠ k * 3 + 1 := by omega
        have n3 : p * 3 ≠ k * 3 + 2 := by omega
        have n4 : p * 3 + 1 ≠ k * 3 := by omega
        have n5 : p * 3 + 1 ≠ k * 3 + 1 := by omega
        have n6 : p * 3 + 1 ≠ k * 3 + 2 := by omega
        have n7 : gw ≠ w.heap.size := by omega
        have CM := Lib.hid hcm
        unfold maxLen at hcm
        clear hys hl1 hw hcells hL
        by_cases hf : s.fi p < 0
        · have HK : Hid ((tkid s k).wt = s.wt) := by
            show (tkid s k).wt = s.wt
            unfold tkid
            rw [HW0.out]
            dsimp only
            rw [up_ne _ _ (by omega : p ≠ k), if_pos hf]
          have HS : Hid (OwnF w.heap.size (((((wr.setCell ⟨w.heap.size, k * 3, none⟩ (.int .i64 (-1))).setCell ⟨w.heap.size, k * 3 + 1, none⟩ (.int .i64 (-1))).setCell ⟨w.heap.size, k * 3 + 2, none⟩ (.int .i64 (-1))).setCell ⟨w.heap.size, k * 3 + 2, none⟩ (.int .i64 p)).setCell ⟨w.heap.size, p * 3, none⟩ (.int .i64 k)) w.heap.size (n * 3) (cf (tkid s k))) := by
            have := ((((HO.out.set (k * 3) (-1)).set (k * 3 + 1) (-1)).set (k * 3 + 2) (-1)).set (k * 3 + 2) p).set (p * 3) k
            rw [up_fi, up_se, up_pa, up_pa, up_fi] at this
            show OwnF _ _ _ _ _
            unfold tkid
            rw [HW0.out]
            dsimp only
            rw [up_ne _ _ (by omega : p ≠ k), if_pos hf]
            exact this
          have HL : Hid (s.wt.length = (ys.length + 1)) := by
            show _ = _
            rw [HY.out]; simp
          have HR2 : Hid ((((((wr.setCell ⟨w.heap.size, k * 3, none⟩ (.int .i64 (-1))).setCell ⟨w.heap.size, k * 3 + 1, none⟩ (.int .i64 (-1))).setCell ⟨w.heap.size, k * 3 + 2, none⟩ (.int .i64 (-1))).setCell ⟨w.heap.size, k * 3 + 2, none⟩ (.int .i64 p)).setCell ⟨w.heap.size, p * 3, none⟩ (.int .i64 k)).ownsRow (w.heap.size + 1) 3 1 (.slice (some ⟨gw, 0, none⟩) (ys.length + 1) cv) (ys.length + 1) (s.wt.map fun p : Nat => Value.int .i64 p)) := by
            exact ownsRow_setCell_below (ownsRow_setCell_below (ownsRow_setCell_below (ownsRow_setCell_below (ownsRow_setCell_below HR.out (by simp) _) (by simp) _) (by simp) _) (by simp) _) (by simp) _
          have HM : Hid (∀ q ∈ s.wt, q < k) := fun q hq => HW.out q (by exact hq)
          by_cases x2 : x = 2
          · subst x2
            go_wp2_with (at_builtin; refine append_one elInt (by rfl) (.tmp 58) (.tmp 60) (by rfl) (w.heap.size + 1) _ (ys.length + 1) _ [.int .i64 k] wr.heap.size (by rfl) (by rfl) (by simp) HR2.out (by rfl) (by intro u hu; simp at hu; subst hu; rfl) (by omega) (by unfold maxLen; omega) (by omega) (by rfl) ?_; intro g cap w1 hown hgrow hat hlo hlt hsz)
            go_roundw
            case rel =>
              have hTS : trun xs (k + 1) = ⟨(tkid s k).fi, (tkid s k).se, (tkid s k).pa, s.wt ++ [k]⟩ := by rw [HT.out]; unfold tstep; rw [if_pos rfl, HK.out]
              have hln : (s.wt ++ [k]).length = (ys.length + 1) + 1 := by rw [List.length_append, HL.out]; rfl
              refine ⟨k + 1, some ⟨g, 0, none⟩, cap, by omega, by go_num, ?_, ?_, ?_, ?_, ?_, (((((HB.out.setCell (by simp) _).setCell (by simp) _).setCell (by simp) _).setCell (by simp) _).setCell (by simp) _).grown hgrow (by simp; omega) (fun k hk => by have := (HR2.out.lt _ hk).1; omega)⟩
              all_goals rw [hTS]
              · dsimp only; rw [hln]
              · exact HS.out.grown hgrow (fun e => by have := (HR2.out.lt _ e).1; omega)
              · dsimp only; rw [hln, List.map_append]; exact hown
              · intro q hq
                rcases List.mem_append.1 hq with hq | hq
                · have := HM.out q hq; omega
                · obtain rfl : q = k := by simpa using hq
                  omega
              · dsimp only; rw [hln]; omega
            case measure => simp [intOf]; omega
          · have x3 : (x == 2) = false := by simpa using x2
            have X2 := Lib.hid x2
            clear x2
            go_wp2_with fail
            go_roundw
            case rel =>
              have hTS : trun xs (k + 1) = tkid s k := by rw [HT.out]; unfold tstep; rw [if_neg X2.out]
              refine ⟨k + 1, some ⟨gw, 0, none⟩, cv, by omega, by go_num, ?_, ?_, ?_, ?_, ?_, ((((HB.out.setCell (by simp) _).setCell (by simp) _).setCell (by simp) _).setCell (by simp) _).setCell (by simp) _⟩
              all_goals rw [hTS]
              · rw [HK.out, HL.out]
              · exact HS.out
              · rw [HK.out, HL.out]; exact HR2.out
              · rw [HK.out]; exact fun q hq => by have := HM.out q hq; omega
              · rw [HK.out, HL.out]; omega
            case measure => simp [intOf]; omega
        · have HK : Hid ((tkid s k).wt = ys) := by
            show (tkid s k).wt = ys
            unfold tkid
            rw [HW0.out]
            dsimp only
            rw [up_ne _ _ (by omega : p ≠ k), if_neg hf]
            show s.wt.dropLast = ys; rw [HY.out]; simp
          have HS : Hid (OwnF w.heap.size (((((wr.setCell ⟨w.heap.size, k * 3, none⟩ (.int .i64 (-1))).setCell ⟨w.heap.size, k * 3 + 1, none⟩ (.int .i64 (-1))).setCell ⟨w.heap.size, k * 3 + 2, none⟩ (.int .i64 (-1))).setCell ⟨w.heap.size, k * 3 + 2, none⟩ (.int .i64 p)).setCell ⟨w.heap.size, p * 3 + 1, none⟩ (.int .i64 k)) w.heap.size (n * 3) (cf (tkid s k))) := by
            have := ((((HO.out.set (k * 3) (-1)).set (k * 3 + 1) (-1)).set (k * 3 + 2) (-1)).set (k * 3 + 2) p).set (p * 3 + 1) k
            rw [up_fi, up_se, up_pa, up_pa, up_se] at this
            show OwnF _ _ _ _ _
            unfold tkid
            rw [HW0.out]
            dsimp only
            rw [up_ne _ _ (by omega : p ≠ k), if_neg hf]
            exact this
          have HL : Hid (ys.length = ys.length) := by
            show _ = _
            rfl
          have HR2 : Hid ((((((wr.setCell ⟨w.heap.size, k * 3, none⟩ (.int .i64 (-1))).setCell ⟨w.heap.size, k * 3 + 1, none⟩ (.int .i64 (-1))).setCell ⟨w.heap.size, k * 3 + 2, none⟩ (.int .i64 (-1))).setCell ⟨w.heap.size, k * 3 + 2, none⟩ (.int .i64 p)).setCell ⟨w.heap.size, p * 3 + 1, none⟩ (.int .i64 k)).ownsRow (w.heap.size + 1) 3 1 (.slice (some ⟨gw, 0, none⟩) ys.length cv) ys.length (ys.map fun p : Nat => Value.int .i64 p)) := by
            have h := row_cut HR.out
            rw [HY.out, List.map_append, List.take_append_of_le_length (by simp), List.take_of_length_le (by simp)] at h
            exact ownsRow_setCell_below (ownsRow_setCell_below (ownsRow_setCell_below (ownsRow_setCell_below (ownsRow_setCell_below h (by simp) _) (by simp) _) (by simp) _) (by simp) _) (by simp) _
          have HM : Hid (∀ q ∈ ys, q < k) := fun q hq => HW.out q (by rw [HY.out]; simp [hq])
          by_cases x2 : x = 2
          · subst x2
            go_wp2_with (at_builtin; refine append_one elInt (by rfl) (.tmp 58) (.tmp 60) (by rfl) (w.heap.size + 1) _ ys.length _ [.int .i64 k] wr.heap.size (by rfl) (by rfl) (by simp) HR2.out (by rfl) (by intro u hu; simp at hu; subst hu; rfl) (by omega) (by unfold maxLen; omega) (by omega) (by rfl) ?_; intro g cap w1 hown hgrow hat hlo hlt hsz)
            go_roundw
            case rel =>
              have hTS : trun xs (k + 1) = ⟨(tkid s k).fi, (tkid s k).se, (tkid s k).pa, ys ++ [k]⟩ := by rw [HT.out]; unfold tstep; rw [if_pos rfl, HK.out]
              have hln : (ys ++ [k]).length = ys.length + 1 := by rw [List.length_append, HL.out]; rfl
              refine ⟨k + 1, some ⟨g, 0, none⟩, cap, by omega, by go_num, ?_, ?_, ?_, ?_, ?_, (((((HB.out.setCell (by simp) _).setCell (by simp) _).setCell (by simp) _).setCell (by simp) _).setCell (by simp) _).grown hgrow (by simp; omega) (fun k hk => by have := (HR2.out.lt _ hk).1; omega)⟩
              all_goals rw [hTS]
              · dsimp only; rw [hln]
              · exact HS.out.grown hgrow (fun e => by have := (HR2.out.lt _ e).1; omega)
              · dsimp only; rw [hln, List.map_append]; exact hown
              · intro q hq
                rcases List.mem_append.1 hq with hq | hq
                · have := HM.out q hq; omega
                · obtain rfl : q = k := by simpa using hq
                  omega
              · dsimp only; rw [hln]; omega
            case measure => simp [intOf]; omega
          · have x3 : (x == 2) = false := by simpa using x2
            have X2 := Lib.hid x2
            clear x2
            go_wp2_with fail
            go_roundw
            case rel =>
              have hTS : trun xs (k + 1) = tkid s k := by rw [HT.out]; unfold tstep; rw [if_neg X2.out]
              refine ⟨k + 1, some ⟨gw, 0, none⟩, cv, by omega, by go_num, ?_, ?_, ?_, ?_, ?_, ((((HB.out.setCell (by simp) _).setCell (by simp) _).setCell (by simp) _).setCell (by simp) _).setCell (by simp) _⟩
              all_goals rw [hTS]
              · rw [HK.out, HL.out]
              · exact HS.out
              · rw [HK.out, HL.out]; exact HR2.out
              · rw [HK.out]; exact fun q hq => by have := HM.out q hq; omega
              · rw [HK.out, HL.out]; omega
            case measure => simp [intOf]; omega
    · obtain rfl : k = n := by omega
      go_wp2_with fail
      go_ret
      exact ⟨_, rfl, HO.out, HB.out⟩
end Go.Proofs.Ytgbgfkhkjlakbaa

namespace Go.Proofs.Ytgbgfkhkjlakbaa
open Go.RowKit Go.Deep

def isShp (xs : List Int) (count : Int) : Bool := decide ((xs.length : Int) = count) && shp xs
set_option maxHeartbeats 800000 in
theorem isShape_full (b off n cap : Nat) (count : Int) (w : World) (xs : List Int) (hx : xs.length = n) (hn : n ≤ 1000000)
    (hc : ∀ i, i < n → w.cell? ⟨b, off + i, none⟩ = some (.int .i64 (xs.getD i 0))) :
    Calls Try.prog 31 #[.slice (some ⟨b, off, none⟩) n cap, .int .i64 count] w fun e w' => e = .returned (.bool (isShp xs count)) ∧ w = w' := by
  have HC := Lib.hid hc
  have HX := Lib.hid hx
  clear hc hx
  by_cases hn' : (n : Int) = count
  · subst hn'
    go_enter Try.func31, Try.ntmps31
    go_wp2_with fail
    go_loop [5, 14] (fun v u => ∃ (k : Nat) (m : Int), k ≤ n ∧ u = .int .i64 k ∧ v = .int .i64 m ∧ 0 ≤ m ∧ m ≤ k + 1 ∧ shpF (xs.drop k) m = shp xs) (fun _ u => n - (intOf u).toNat)
    case atStart => exact ⟨0, 1, Nat.zero_le _, rfl, rfl, by omega, by omega, rfl⟩
    case round =>
      obtain ⟨k, m, hk, rfl, rfl, h0, h1, hs⟩ := hrel
      have HS := Lib.hid hs
      clear hs
      by_cases hlt : k < n
      · have g1 := HC.out k hlt
        have HD := Lib.hid (show shpF (xs.drop k) m = if m = 0 then false else if xs.getD k 0 ≠ 0 ∧ xs.getD k 0 ≠ 2 then false else shpF (xs.drop (k + 1)) (m + xs.getD k 0 - 1) by
          have hd : xs.drop k = xs[k]'(by rw [HX.out]; exact hlt) :: xs.drop (k + 1) := List.drop_eq_getElem_cons _
          rw [hd, shpF, show xs.getD k 0 = xs[k]'(by rw [HX.out]; exact hlt) by simp [List.getD, List.getElem?_eq_getElem (show k < xs.length by rw [HX.out]; exact hlt)]])
        generalize hX : xs.getD k 0 = x at g1 HD
        clear hX
        by_cases m0 : m = 0
        · subst m0
          go_wp2_with fail
          go_ret
          exact ⟨ret_bool (by unfold isShp; rw [← HS.out, HD.out]; simp), rfl⟩
        · have m1 : (m == 0) = false := by simpa using m0
          have M0 := Lib.hid m0
          have m2 : 1 ≤ m := by omega
          clear m0
          by_cases x0 : x = 0
          · subst x0
            go_wp2_with fail
            go_round
            case rel => exact ⟨k + 1, m - 1, by omega, by go_num, by go_num, by omega, by omega, by rw [← HS.out, HD.out, if_neg M0.out, if_neg (by omega)]; congr 1; omega⟩
            case measure => simp [intOf]; omega
          · by_cases x2 : x = 2
            · subst x2
              go_wp2_with fail
              go_round
              case rel => exact ⟨k + 1, m + 1, by omega, by go_num, by go_num, by omega, by omega, by rw [← HS.out, HD.out, if_neg M0.out, if_neg (by omega)]; congr 1; omega⟩
              case measure => simp [intOf]; omega
            · have x3 : (x != 0) = true := by simpa using x0
              have x4 : (x != 2) = true := by simpa using x2
              have XX := Lib.hid (And.intro x0 x2)
              clear x0 x2
              go_wp2_with fail
              go_ret
              exact ⟨ret_bool (by unfold isShp; rw [← HS.out, HD.out, if_neg M0.out, if_pos XX.out, Bool.and_false]), rfl⟩
      · have HE := Lib.hid (show shp xs = (m == 0) by
          rw [← HS.out, List.drop_eq_nil_of_le (by rw [HX.out]; omega), shpF]; rfl)
        go_wp2_with fail
        go_ret
        exact ⟨ret_bool (by unfold isShp; rw [HX.out, decide_eq_true rfl, HE.out, Bool.true_and]), rfl⟩
  · have e1 : ((n : Int) == count) = false := by simpa using hn'
    have e2 : ((n : Int) != count) = true := by simpa using hn'
    have HN := Lib.hid hn'
    clear hn'
    go_enter Try.func31, Try.ntmps31
    go_wp2_with fail
    go_ret
    exact ⟨ret_bool (by unfold isShp; rw [HX.out, decide_eq_false HN.out]; rfl), rfl⟩
set_option maxHeartbeats 800000 in
theorem isShape_empty (a : Option Addr) (cap : Nat) (count : Int) (w : World) :
    Calls Try.prog 31 #[.slice a 0 cap, .int .i64 count] w fun e w' => e = .returned (.bool (isShp [] count)) ∧ w = w' := by
  by_cases hn : count = 0
  · subst hn
    go_enter Try.func31, Try.ntmps31
    go_wp2_with fail
    refine wp_loop_rounds 1 ?_
    rw [rounds_succ]
    go_wp2_with fail
    go_ret
    exact ⟨rfl, rfl⟩
  · have e1 : ((0 : Int) == count) = false := by simp; omega
    have e2 : ((0 : Int) != count) = true := by simp; omega
    have HN := Lib.hid hn
    clear hn
    go_enter Try.func31, Try.ntmps31
    go_wp2_with fail
    go_ret
    exact ⟨ret_bool (by unfold isShp; rw [decide_eq_false (by have := HN.out; simp; omega)]; rfl), rfl⟩
theorem isShape_any {lo : Nat} {w : World} {v : Value} {xs : List Int} (count : Int) (h : IsInts lo w v xs) (hn : xs.length ≤ 1000000) :
    Calls Try.prog 31 #[v, .int .i64 count] w fun e w' => e = .returned (.bool (isShp xs count)) ∧ w = w' := by
  obtain ⟨a, cap, rfl, hl, hm, hi, hc⟩ := h
  rcases hc with rfl | ⟨b, off, rfl, _, _, hc⟩
  · exact isShape_empty _ _ _ _
  · exact isShape_full _ _ _ _ _ _ _ rfl hn hc
end Go.Proofs.Ytgbgfkhkjlakbaa

namespace Go.Proofs.Ytgbgfkhkjlakbaa
open Go.RowKit Go.Deep

theorem ret_agg3 {a b c a' b' c' : Int} (h : (a, b, c) = (a', b', c')) : Ending.returned (.agg #[.int .i64 a, .int .i64 b, .int .i64 c]) = .returned (.agg #[.int .i64 a', .int .i64 b', .int .i64 c']) := by cases h; rfl
set_option maxHeartbeats 800000 in
theorem rowLink_any (top count i : Int) (w : World) (h0 : 0 ≤ i) (h1 : i < count) (hc : count ≤ 9223372036854775807) :
    Calls Try.prog 50 #[.int .i64 top, .int .i64 count, .int .i64 i] w fun e w' => e = .returned (.agg #[.int .i64 (rowL top count i).1, .int .i64 (rowL top count i).2.1, .int .i64 (rowL top count i).2.2]) ∧ Below w.heap.size w w' := by
  have E : Hid (rowL top count i = (if top = 3 ∧ i = 0 then count - 1 else i - 1, if i = count - 1 then (if top = 3 then 0 else -1) else i + 1, -1)) := (rfl : rowL top count i = _)
  by_cases hl : i = count - 1
  · have b1 : (i == count - 1) = true := by simpa using hl
    have HL := Lib.hid hl
    clear hl
    by_cases ht : top = 3
    · subst ht
      by_cases hz : i = 0
      · subst hz
        go_enter Try.func50, Try.ntmps50
        go_wp2_with fail
        refine bodyPost_ret (v := .agg #[.int .i64 (count - 1), .int .i64 (0), .int .i64 (-1)]) (by simp [results, Try.results50, go_sem]) rfl ⟨ret_agg3 ?_, by go_grown⟩
        have h := HL.out; rw [E.out]; simp [← h]
      · have b2 : (i == 0) = false := by simpa using hz
        have HZ := Lib.hid hz
        clear hz
        go_enter Try.func50, Try.ntmps50
        go_wp2_with fail
        refine bodyPost_ret (v := .agg #[.int .i64 (i - 1), .int .i64 (0), .int .i64 (-1)]) (by simp [results, Try.results50, go_sem]) rfl ⟨ret_agg3 ?_, by go_grown⟩
        have h := HL.out; have h2 := HZ.out; rw [E.out]; simp [← h, h2]
    · have b2 : (top == 3) = false := by simpa using ht
      have HT := Lib.hid ht
      clear ht
      go_enter Try.func50, Try.ntmps50
      go_wp2_with fail
      refine bodyPost_ret (v := .agg #[.int .i64 (i - 1), .int .i64 (-1), .int .i64 (-1)]) (by simp [results, Try.results50, go_sem]) rfl ⟨ret_agg3 ?_, by go_grown⟩
      have h := HL.out; have h2 := HT.out; rw [E.out]; simp [← h, h2]
  · have b1 : (i == count - 1) = false := by simpa using hl
    have HL := Lib.hid hl
    clear hl
    by_cases ht : top = 3
    · subst ht
      by_cases hz : i = 0
      · subst hz
        go_enter Try.func50, Try.ntmps50
        go_wp2_with fail
        refine bodyPost_ret (v := .agg #[.int .i64 (count - 1), .int .i64 (0 + 1), .int .i64 (-1)]) (by simp [results, Try.results50, go_sem]) rfl ⟨ret_agg3 ?_, by go_grown⟩
        have h := HL.out; rw [E.out]; simp [h]
      · have b2 : (i == 0) = false := by simpa using hz
        have HZ := Lib.hid hz
        clear hz
        go_enter Try.func50, Try.ntmps50
        go_wp2_with fail
        refine bodyPost_ret (v := .agg #[.int .i64 (i - 1), .int .i64 (i + 1), .int .i64 (-1)]) (by simp [results, Try.results50, go_sem]) rfl ⟨ret_agg3 ?_, by go_grown⟩
        have h := HL.out; have h2 := HZ.out; rw [E.out]; simp [h, h2]
    · have b2 : (top == 3) = false := by simpa using ht
      have HT := Lib.hid ht
      clear ht
      go_enter Try.func50, Try.ntmps50
      go_wp2_with fail
      refine bodyPost_ret (v := .agg #[.int .i64 (i - 1), .int .i64 (i + 1), .int .i64 (-1)]) (by simp [results, Try.results50, go_sem]) rfl ⟨ret_agg3 ?_, by go_grown⟩
      have h := HL.out; have h2 := HT.out; rw [E.out]; simp [h, h2]

def nbrV (t : Int × Int × Int) : Value := .tuple #[.int .i64 t.1, .int .i64 t.2.1, .int .i64 t.2.2]
theorem ret_nbr {a b c : Int} {t : Int × Int × Int} (h : t = (a, b, c)) : Ending.returned (.tuple #[.int .i64 a, .int .i64 b, .int .i64 c]) = .returned (nbrV t) := by subst h; rfl
set_option maxHeartbeats 1600000 in
theorem Neighbors_any {lo : Nat} {w : World} {v : Value} {xs : List Int} (top count i : Int) (h : IsInts lo w v xs) (hn : xs.length ≤ 100) (hc : count ≤ 9223372036854775807) :
    Calls Try.prog 26 #[.int .i64 top, v, .int .i64 count, .int .i64 i] w fun e w' => e = .returned (nbrV (nbr top xs count i)) ∧ Below w.heap.size w w' := by
  have H := Lib.hid h
  obtain ⟨a, cap, rfl⟩ := h.shape
  clear h
  by_cases hi : 0 ≤ i
  · by_cases hl : i < count
    · have HI := Lib.hid (And.intro hi hl)
      by_cases t2 : top = 2
      · subst t2
        have E := Lib.hid (show nbr 2 xs count i = rowL 2 count i by unfold nbr; rw [if_pos HI.out, if_pos (by simp)])
        go_enter Try.func26, Try.ntmps26
        go_wp2_with (go_at_call 50; refine (rowLink_any _ _ _ _ HI.out.1 HI.out.2 hc).mono ?_; rintro e w1 ⟨rfl, hb1⟩; obtain ⟨pa, pb⟩ := blk hb1 (n := w.heap.size) (by go_size); have hz1 : w.heap.size < w1.heap.size := (by have := hb1.size; simp at this; omega); have HB1 := Lib.hid (Below.trans (by go_grown) (hb1.mono (by go_size)) : Below w.heap.size w w1); clear hb1)
        go_quiet (fail)
        go_wp2_with fail
        go_ret3
        exact ⟨ret_nbr (by rw [E.out]), quietBelow (((HB1.out.setCell (by simp) _).setCell (by simp) _).setCell (by simp) _) _⟩
      · have b2 : (top == 2) = false := by simpa using t2
        by_cases t3 : top = 3
        · subst t3
          have E := Lib.hid (show nbr 3 xs count i = rowL 3 count i by unfold nbr; rw [if_pos HI.out, if_pos (by simp)])
          go_enter Try.func26, Try.ntmps26
          go_wp2_with (go_at_call 50; refine (rowLink_any _ _ _ _ HI.out.1 HI.out.2 hc).mono ?_; rintro e w1 ⟨rfl, hb1⟩; obtain ⟨pa, pb⟩ := blk hb1 (n := w.heap.size) (by go_size); have hz1 : w.heap.size < w1.heap.size := (by have := hb1.size; simp at this; omega); have HB1 := Lib.hid (Below.trans (by go_grown) (hb1.mono (by go_size)) : Below w.heap.size w w1); clear hb1)
          go_quiet (fail)
          go_wp2_with fail
          go_ret3
          exact ⟨ret_nbr (by rw [E.out]), quietBelow (((HB1.out.setCell (by simp) _).setCell (by simp) _).setCell (by simp) _) _⟩
        · have b3 : (top == 3) = false := by simpa using t3
          have HT := Lib.hid (And.intro t2 t3)
          clear t2 t3
          by_cases t4 : top = 4
          · subst t4
            cases hs : isShp xs count with
            | true =>
              have HS := Lib.hid hs
              have hp : (xs.length : Int) = count ∧ shp xs = true := by unfold isShp at hs; simpa using hs
              have E := Lib.hid (show nbr 4 xs count i = treeL xs i.toNat by unfold nbr; rw [if_pos HI.out, if_neg (by simp), if_pos ⟨rfl, hp⟩])
              obtain ⟨j, rfl⟩ := Int.eq_ofNat_of_zero_le hi
              have hj : j < xs.length := by omega
              have hcl := hp.1
              have HP := Lib.hid hp
              clear hp
              obtain ⟨b, off, rfl, hbw, hcell⟩ : ∃ b off, a = some ⟨b, off, none⟩ ∧ b < w.heap.size ∧ ∀ i, i < xs.length → w.cell? ⟨b, off + i, none⟩ = some (.int .i64 (xs.getD i 0)) := by
                obtain ⟨a', cap', hv, _, _, _, hc⟩ := H.out
                simp only [Value.slice.injEq] at hv
                rcases hc with h0 | ⟨b, off, ha, _, hb, hc⟩
                · rw [h0] at hj; simp at hj
                · exact ⟨b, off, hv.1.trans ha, hb, hc⟩
              have HCell := Lib.hid hcell
              clear hcell hcl
              go_enter Try.func26, Try.ntmps26
              go_wp2_with (first | (go_at_call 31; refine (isShape_any count (H.out.below (by go_grown)) (by omega)).mono ?_; rintro e w1 ⟨rfl, rfl⟩) | (go_at_call 51; refine (treeLinks_full b off xs.length cap _ xs rfl hn (by omega) (fun i hi => keep1 (HCell.out i hi) (by go_grown))).mono ?_; rintro e w1 ⟨g, rfl, hO, hb1⟩; obtain ⟨pa, pb⟩ := blk hb1 (n := w.heap.size) (by go_size); have hz1 : w.heap.size < w1.heap.size := (by have := hb1.size; simp at this; omega); have HB1 := Lib.hid (Below.trans (by go_grown) (hb1.mono (by go_size)) : Below w.heap.size w w1); have c0 := hO.cell (j * 3) (by omega); have c1 := hO.cell (j * 3 + 1) (by omega); have c2 := hO.cell (j * 3 + 2) (by omega); rw [cf_fi] at c0; rw [cf_se] at c1; rw [cf_pa] at c2; clear hb1 hO))
              go_quiet (fail)
              go_wp2_with fail
              go_ret3
              exact ⟨ret_nbr (by rw [E.out]; rfl), quietBelow (((HB1.out.setCell (by simp) _).setCell (by simp) _).setCell (by simp) _) _⟩
            | false =>
              have E := Lib.hid (show nbr 4 xs count i = (-1, -1, -1) by
                unfold nbr; rw [if_pos HI.out, if_neg (by simp), if_neg (by rintro ⟨_, h1, h2⟩; unfold isShp at hs; rw [decide_eq_true h1, h2] at hs; cases hs)])
              have HS := Lib.hid hs
              go_enter Try.func26, Try.ntmps26
              go_wp2_with (go_at_call 31; refine (isShape_any count (H.out.below (by go_grown)) (by omega)).mono ?_; rintro e w1 ⟨rfl, rfl⟩)
              go_quiet (fail)
              go_wp2_with fail
              go_ret3
              exact ⟨ret_nbr (by rw [E.out]), quietBelow (allocBelow _ _) _⟩
          · have b4 : (top == 4) = false := by simpa using t4
            have E := Lib.hid (show nbr top xs count i = (-1, -1, -1) by unfold nbr; rw [if_pos HI.out, if_neg (by have := HT.out; omega), if_neg (by rintro ⟨h, _⟩; exact t4 h)])
            clear t4
            go_enter Try.func26, Try.ntmps26
            go_wp2_with (fail)
            go_quiet (fail)
            go_wp2_with fail
            go_ret3
            exact ⟨ret_nbr (by rw [E.out]), quietBelow (allocBelow _ _) _⟩
    · have E := Lib.hid (show nbr top xs count i = (-1, -1, -1) by unfold nbr; rw [if_neg (by omega)])
      go_enter Try.func26, Try.ntmps26
      go_wp2_with (fail)
      go_quiet (fail)
      go_wp2_with fail
      go_ret3
      exact ⟨ret_nbr (by rw [E.out]), quietBelow (allocBelow _ _) _⟩
  · have E := Lib.hid (show nbr top xs count i = (-1, -1, -1) by unfold nbr; rw [if_neg (by omega)])
    go_enter Try.func26, Try.ntmps26
    go_wp2_with (fail)
    go_quiet (fail)
    go_wp2_with fail
    go_ret3
    exact ⟨ret_nbr (by rw [E.out]), quietBelow (allocBelow _ _) _⟩
end Go.Proofs.Ytgbgfkhkjlakbaa

namespace Go.Proofs.Ytgbgfkhkjlakbaa
/-- The digits of k, as counts of children. -/
def digF (n k j : Nat) : Int := (((k / 2 ^ (n - 1 - j)) % 2 : Nat) : Int) * 2
def dig (n k : Nat) : List Int := (List.range n).map (digF n k)
theorem dig_length (n k : Nat) : (dig n k).length = n := by simp [dig]
theorem dig_get (n k j : Nat) (h : j < n) : (dig n k).getD j 0 = digF n k j := by simp [dig, List.getD, h]
theorem digF_small (n k j : Nat) : 0 ≤ digF n k j ∧ digF n k j ≤ 2 := by unfold digF; omega
/-- All shapes among the first k lists. -/
def shK (n k : Nat) : List (List Int) := ((List.range k).map (dig n)).filter shp
def shL (n : Nat) : List (List Int) := shK n (2 ^ n)
theorem shK_succ (n k : Nat) : shK n (k + 1) = if shp (dig n k) then shK n k ++ [dig n k] else shK n k := by
  unfold shK
  rw [List.range_succ, List.map_append, List.filter_append]
  by_cases h : shp (dig n k) = true
  · simp [h]
  · simp [h]
theorem shK_len (n k : Nat) : (shK n k).length ≤ k := by
  have := List.length_filter_le shp ((List.range k).map (dig n))
  simpa [shK] using this
end Go.Proofs.Ytgbgfkhkjlakbaa

namespace Go.Proofs.Ytgbgfkhkjlakbaa
open Go.RowKit Go.Deep
theorem OwnV.blk {lo : Nat} {w : World} {v : Value} {xs : List Int} (h : OwnV lo w v xs) {g : Nat} (hg : v.ownBlock = some g) : lo ≤ g ∧ g < w.heap.size := by
  rcases h with ⟨rfl, _⟩ | ⟨g', cap, rfl, _, _, h⟩
  · cases hg
  · have : g' = g := by simpa [Value.ownBlock] using hg
    subst this
    exact ⟨h.1, h.lt⟩
theorem OwnV.grw {lo : Nat} {w w' : World} {v : Value} {xs : List Int} {r : Option Nat} (h : OwnV lo w v xs) (hg : w.grownBy w' r) (hr : ∀ g, r = some g → v.ownBlock ≠ some g) : OwnV lo w' v xs := by
  rcases h with h | ⟨g', cap, rfl, h1, h2, h⟩
  · exact .inl h
  · exact .inr ⟨g', cap, rfl, h1, h2, h.but (hg.block g' h.lt (fun e => hr g' e.symm rfl))⟩
theorem OwnV.setOut {lo : Nat} {w : World} {v : Value} {xs : List Int} (h : OwnV lo w v xs) (a : Addr) (ha : a.block < lo) (u : Value) : OwnV lo (w.setCell a u) v xs := by
  rcases h with h | ⟨g', cap, rfl, h1, h2, h⟩
  · exact .inl h
  · exact .inr ⟨g', cap, rfl, h1, h2, h.setOther _ _ (by have := h.1; omega)⟩
theorem row_under {w w' : World} {B e size n : Nat} {v : Value} {xs : List Value} (h : w.ownsRow B e size v n xs) (hb : Below w.heap.size w w') : w'.ownsRow B e size v n xs := by
  obtain ⟨h1, h2⟩ := h
  refine ⟨h1, ?_⟩
  rcases h2 with h2 | ⟨g, cap, cur, hv, hg, hh, r⟩
  · exact .inl h2
  · exact .inr ⟨g, cap, cur, hv, hg, by rw [hb.block g (Array.getElem?_eq_some_iff.1 hh).1]; exact hh, r⟩

def OwnLL (lo : Nat) (w : World) (u : Value) (ps : List (Value × List Int)) : Prop :=
  w.ownsRow lo 24 1 u ps.length (ps.map (·.1)) ∧ ∀ p ∈ ps, OwnV lo w p.1 p.2 ∧ ∀ g, u.ownBlock = some g → p.1.ownBlock ≠ some g
theorem OwnLL.nil (lo : Nat) (w : World) : OwnLL lo w (.slice none 0 0) [] := ⟨World.ownsRow_nil _ _ _ _, by simp⟩
theorem OwnLL.setOut {lo : Nat} {w : World} {u : Value} {ps : List (Value × List Int)} (h : OwnLL lo w u ps) (a : Addr) (ha : a.block < lo) (x : Value) : OwnLL lo (w.setCell a x) u ps :=
  ⟨ownsRow_setCell_below h.1 ha _, fun p hp => ⟨(h.2 p hp).1.setOut a ha _, (h.2 p hp).2⟩⟩
theorem OwnLL.below {lo : Nat} {w w' : World} {u : Value} {ps : List (Value × List Int)} (h : OwnLL lo w u ps) (hb : Below w.heap.size w w') : OwnLL lo w' u ps :=
  ⟨row_under h.1 hb, fun p hp => ⟨(h.2 p hp).1.below hb, (h.2 p hp).2⟩⟩
theorem OwnLL.shape {lo : Nat} {w : World} {u : Value} {ps : List (Value × List Int)} (h : OwnLL lo w u ps) : ∃ a c, u = .slice a ps.length c := rows_shape h.1
/-- One more row: the world W has the row, w3 is W behind the append. -/
theorem OwnLL.snoc {lo : Nat} {wr W w3 : World} {u v' : Value} {ps : List (Value × List Int)} {xs : List Int} {g cap : Nat} (h : OwnLL lo wr u ps) (hb : Below wr.heap.size wr W) (hv : OwnV wr.heap.size W v' xs) (hlo : lo ≤ wr.heap.size)
    (hown : w3.ownsRow lo 24 1 (.slice (some ⟨g, 0, none⟩) (ps.length + 1) cap) (ps.length + 1) (ps.map (·.1) ++ [v'])) (hgrow : W.grownBy w3 u.ownBlock) (hat : u.ownBlock = some g ∨ W.heap.size < g) :
    OwnLL lo w3 (.slice (some ⟨g, 0, none⟩) (ps.length + 1) cap) (ps ++ [(v', xs)]) := by
  refine ⟨by simpa using hown, fun p hp => ?_⟩
  have hu : ∀ g, u.ownBlock = some g → g < wr.heap.size := fun g hg => (h.1.lt _ hg).2
  have hO : OwnV lo W p.1 p.2 ∧ ∀ g, u.ownBlock = some g → p.1.ownBlock ≠ some g := by
    rcases List.mem_append.1 hp with hp | hp
    · exact ⟨(h.2 p hp).1.below hb, (h.2 p hp).2⟩
    · obtain rfl : p = (v', xs) := by simpa using hp
      exact ⟨hv.mono hlo, fun g hg e => by have := hu g hg; have := hv.blk e; omega⟩
  refine ⟨hO.1.grw hgrow hO.2, fun g' hg' e => ?_⟩
  have : g = g' := by simpa [Value.ownBlock] using hg'
  subst this
  rcases hat with hat | hat
  · exact hO.2 _ hat e
  · have := (hO.1.blk e).2; omega
/-- A slice of slices of integers, by its elements. -/
def IntsEl (lo : Nat) (w : World) (cs : List Value) (xs : List Int) : Prop := ∃ v, cs = [v] ∧ IsInts lo w v xs
theorem IntsEl.stays : Stays IntsEl := fun _ _ _ _ _ ⟨v, e, h⟩ hb => ⟨v, e, h.below hb⟩
theorem IntsEl.mono : Mono IntsEl := fun _ _ _ _ _ ⟨v, e, h⟩ hl => ⟨v, e, h.mono hl⟩
theorem OwnLL.reads {lo : Nat} {w : World} {u : Value} {ps : List (Value × List Int)} (h : OwnLL lo w u ps) : IsSl 1 IntsEl lo w u (ps.map (·.2)) := by
  obtain ⟨⟨hl, h1⟩, h2⟩ := h
  rcases h1 with ⟨rfl, h0⟩ | ⟨g, cap, cur, rfl, hb, hg, hnc, hcm, hcs, htake⟩
  · have : ps = [] := List.eq_nil_of_length_eq_zero h0
    subst this
    exact ⟨none, 0, rfl, by simp, by simp [maxLen], by simp, .inl rfl⟩
  · refine ⟨some ⟨g, 0, none⟩, cap, by simp, by simpa using hnc, hcm, (fun e => by cases e), .inr ⟨g, 0, rfl, hb, (Array.getElem?_eq_some_iff.1 hg).1, fun i hi => ?_⟩⟩
    have hi' : i < ps.length := by simpa using hi
    refine ⟨[(ps[i]'hi').1], rfl, fun j hj => ?_, (ps[i]'hi').1, rfl, by simpa using (h2 _ (List.getElem_mem hi')).1.ints⟩
    obtain rfl : j = 0 := by omega
    have : (ps.map (·.1))[i]? = some (ps[i]'hi').1 := by simp [hi']
    rw [← htake, List.getElem?_take_of_lt (by omega)] at this
    simp only [World.cell?, hg]
    simpa using this
end Go.Proofs.Ytgbgfkhkjlakbaa

namespace Go.Proofs.Ytgbgfkhkjlakbaa
open Go.RowKit Go.Deep
set_option maxHeartbeats 800000 in
theorem Clone_any {lo : Nat} {w : World} {v : Value} {xs : List Int} (h : IsInts lo w v xs) (hn : xs.length ≤ 1000) :
    Calls Try.prog 32 #[v] w fun e w' => ∃ v', e = .returned v' ∧ OwnV w.heap.size w' v' xs ∧ Below w.heap.size w w' := by
  have H := h
  obtain ⟨a, cap, rfl, hl, hm, hi, hc⟩ := h
  obtain ⟨i0, hi0, hz0, hz1, hz2⟩ := info_int4
  have HI := hid0 hi.1
  cases a with
  | none =>
    obtain rfl : cap = 0 := hi.2 rfl
    have h0 : xs.length = 0 := by omega
    obtain rfl : xs = [] := List.eq_nil_of_length_eq_zero h0
    clear hc hi hl hm h0 H
    have q22 : ∀ (w : World) (a : Option Addr) (n c n' c' : Nat), (binOp .eql 24 (.slice a n c) (.slice none n' c')).run Try.prog w = .ok (.bool a.isNone) w := fun w a n c n' c' => Lib.run_eql_slice_nil w _ _ a n c n' c' Try.underlying24
    go_enter Try.func32, Try.ntmps32
    go_wp2_with fail
    go_ret
    exact ⟨_, rfl, .inl ⟨rfl, rfl⟩, Below.refl _ _⟩
  | some ad =>
    have HS : Hid (∀ w', Below w.heap.size w w' → ∀ j u, (xs.map (Value.int .i64))[j]? = some u → w'.cell? (ad.add j) = some u) := hid0 fun w' hb j u hj => by
      have h0 : 0 < xs.length := by have := (List.getElem?_eq_some_iff.1 hj).1; simp at this; omega
      obtain ⟨ad', e, hS⟩ := H.src h0
      cases e
      exact hS w' hb j u hj
    have hown := World.ownsRow_lit (base := w.heap.size) (e := 3) (size := 1) w #[] 0 (Nat.le_refl _) (by simp) (by simp)
    have HO := hid0 hown
    clear hown hc hi
    have q22 : ∀ (w : World) (a : Option Addr) (n c n' c' : Nat), (binOp .eql 24 (.slice a n c) (.slice none n' c')).run Try.prog w = .ok (.bool a.isNone) w := fun w a n c n' c' => Lib.run_eql_slice_nil w _ _ a n c n' c' Try.underlying24
    go_enter Try.func32, Try.ntmps32
    go_wp2_with (refine wpList_append_own _ rfl (.tmp 5) (.tmp 6) 24 rfl w.heap.size 3 i0 (.int .i64 0) 1 8 Try.underlying24 hi0 hz0 hz1 hz2 rfl (by decide) _ _ _ rfl HO.out ad xs.length cap (xs.map (Value.int .i64)) rfl (by simp) (HS.out _ (by go_grown)) (by simp [Value.oneCell']) (by unfold maxLen; omega) (by omega) (by simp) ?_; intro v' w1 hown1 hgrow1 _)
    go_ret
    have hown2 : w1.ownsRow w.heap.size 3 1 v' xs.length (xs.map (Value.int .i64)) := by simpa using hown1
    refine ⟨v', rfl, own_of_row hown2 HI.out, (allocBelow w _).grown hgrow1 (by simp) fun k hk => ?_⟩
    have hk' : some w.heap.size = some k := hk
    injection hk' with hk'
    omega
end Go.Proofs.Ytgbgfkhkjlakbaa

namespace Go.Proofs.Ytgbgfkhkjlakbaa
open Go.RowKit Go.Deep
theorem info_int : (Try.prog.info? 3).map (fun i => (i.zero, i.size, i.bytes)) = some (some (.int .i64 0), 1, 8) := by kernel_rfl
theorem elInts : ElT Try.prog 34 24 (.slice none 0 0) 1 24 := ⟨Try.underlying34, by kernel_rfl, rfl, by decide⟩
theorem and_one : ∀ m, m < 256 → bits BinOp.and IntKind.i64 (m : Nat) 1 = ((m % 2 : Nat) : Int) := by decide +kernel
theorem own_ints {lo : Nat} {w : World} {g n : Nat} {f : Nat → Int} {xs : List Int} (h : OwnF lo w g n f) (hl : xs.length = n) (hn : n ≤ 1000) (hx : ∀ x ∈ xs, I64 x) (hf : ∀ j, j < n → f j = xs.getD j 0) : IsInts lo w (.slice (some ⟨g, 0, none⟩) n n) xs := by
  obtain ⟨h1, cur, t, hg, hc⟩ := h
  exact ints_of_block hg h1 hl (Nat.le_refl _) (by unfold maxLen; omega) hx (fun i hi => by rw [hc i hi, hf i hi])
theorem dig_small (n k : Nat) : ∀ x ∈ dig n k, I64 x := by
  intro x hx
  obtain ⟨j, _, rfl⟩ := List.mem_map.1 hx
  have := digF_small n k j
  constructor <;> omega
set_option maxHeartbeats 1600000 in
theorem Shapes_ok (n : Nat) (h0 : 1 ≤ n) (h1 : n ≤ 8) (w : World) :
    Calls Try.prog 11 #[.int .i64 n] w fun e w' => ∃ u, e = .returned (.tuple #[u, .int .i64 0]) ∧ IsSl 1 IntsEl w.heap.size w' u (shL n) ∧ Below w.heap.size w w' := by
  have hmk := make_n (P := Try.prog) 24 3 _ 1 8 Try.underlying24 info_int n (by omega) (by omega)
  obtain ⟨M, hM⟩ : ∃ M : Nat, M = 2 ^ n := ⟨_, rfl⟩
  have hM2 : M ≤ 256 := by rw [hM]; exact Nat.pow_le_pow_right (by omega) h1
  have hw : wrap64 ((2 : Int) ^ n) = (M : Int) := by
    have e : ((2 : Int) ^ n) = (M : Int) := by rw [hM]; simp
    rw [e]; unfold wrap64; omega
  have HM := Lib.hid hM
  clear hM
  go_enter Try.func11, Try.ntmps11
  go_wp2_with fail
  rw [hw]
  clear hw hmk
  obtain ⟨W, hW⟩ : ∃ W : World, W = w.alloc (.cells (madeCells #[Value.int IntKind.i64 0] n) 3) := ⟨_, rfl⟩
  rw [← hW]
  have HO0 := Lib.hid (show OwnF w.heap.size W w.heap.size n (fun _ => 0) by
    rw [hW]; exact ⟨Nat.le_refl _, _, _, heap_alloc_new _ _, fun j hj => made_get _ _ _ _ hj (by simp [Nat.mod_one])⟩)
  have HB0 := Lib.hid (show Below w.heap.size w W by rw [hW]; exact allocBelow _ _)
  clear hW
  go_loopw [4, 18] (fun v u wr => ∃ (k : Nat) (a : Option Addr) (c : Nat) (ps : List (Value × List Int)) (f : Nat → Int), k ≤ M ∧ u = .int .i64 k ∧ v = .slice a ps.length c ∧ ps.map (·.2) = shK n k ∧ OwnLL (w.heap.size + 1) wr (.slice a ps.length c) ps ∧ OwnF w.heap.size wr w.heap.size n f ∧ Below w.heap.size w wr) (fun _ u _ => M - (intOf u).toNat)
  case atStart => exact ⟨0, none, 0, [], fun _ => 0, Nat.zero_le _, rfl, rfl, rfl, OwnLL.nil _ _, HO0.out, HB0.out⟩
  case round =>
    obtain ⟨k, a, c, ps, f, hk, rfl, rfl, hps, hL, hF, hB⟩ := hrel
    have HPS := Lib.hid hps
    have HL := Lib.hid hL
    have HF := Lib.hid hF
    have HB := Lib.hid hB
    have hpl : ps.length ≤ k := by have := congrArg List.length hps; simp at this; have := shK_len n k; omega
    clear hps hL hF hB
    by_cases hlt : k < M
    · go_wp2_with fail
      go_loopw [23] (fun u w2 => ∃ (i : Nat) (f : Nat → Int), i ≤ n ∧ u = .int .i64 i ∧ (∀ j, j < i → f j = digF n k j) ∧ OwnLL (w.heap.size + 1) w2 (.slice a ps.length c) ps ∧ OwnF w.heap.size w2 w.heap.size n f ∧ Below w.heap.size w w2) (fun u _ => n - (intOf u).toNat)
      case atStart => exact ⟨0, f, Nat.zero_le _, rfl, fun _ h => by omega, HL.out, HF.out, HB.out⟩
      case round =>
        obtain ⟨i, f', hi, rfl, hd, hL2, hF2, hB2⟩ := hrel
        have HD := Lib.hid hd
        have HL2 := Lib.hid hL2
        have HF2 := Lib.hid hF2
        have HB2 := Lib.hid hB2
        have hgw := hF2.lt
        clear hd hL2 hB2
        by_cases hlt2 : i < n
        · have c1 := hF2.cell i hlt2
          have c2 := hF2.frozen i
          have HE := Lib.hid (show wrap64 (bits BinOp.and IntKind.i64 ((k : Int) / 2 ^ (n - 1 - i)) 1 * 2) = digF n k i by
            have e1 : ((k : Int) / 2 ^ (n - 1 - i)) = ((k / 2 ^ (n - 1 - i) : Nat) : Int) := by simp
            have e2 : k / 2 ^ (n - 1 - i) < 256 := by have := Nat.div_le_self k (2 ^ (n - 1 - i)); omega
            rw [e1, and_one _ e2]
            unfold digF wrap64; omega)
          clear hF2
          go_wp2_with fail
          go_roundw
          case rel =>
            refine ⟨i + 1, up f' i (digF n k i), by omega, by go_num, fun j hj => ?_, HL2.out.setOut _ (by simp) _, ?_, HB2.out.setCell (by simp) _⟩
            · by_cases e : j = i
              · subst e; exact up_same _ _ _
              · rw [up_ne _ _ e]; exact HD.out j (by omega)
            · rw [← HE.out]; exact HF2.out.set i _
          case measure => simp [intOf]; omega
        · obtain rfl : i = n := by omega
          have HI := Lib.hid (own_ints HF2.out (dig_length i k) (by omega) (dig_small i k) (fun j hj => by rw [HD.out j hj, dig_get _ _ _ hj]))
          clear hF2 hlt2
          have HS0 := Lib.hid (shK_succ i k)
          cases hs : isShp (dig i k) i with
          | false =>
            have HS : Hid (shK i (k + 1) = shK i k) := by
              show _ = _
              have h : shp (dig i k) = false := by unfold isShp at hs; simpa [dig_length] using hs
              rw [HS0.out, h]; rfl
            go_wp2_with (go_at_call 31; refine (isShape_any (i : Int) HI.out (by rw [dig_length]; omega)).mono ?_; rintro e w1 ⟨rfl, rfl⟩)
            go_roundw
            case rel => exact ⟨k + 1, a, c, ps, f', by omega, by go_num, rfl, by rw [HS.out]; exact HPS.out, HL2.out, HF2.out, HB2.out⟩
            case measure => simp [intOf]; omega
          | true =>
            have HS : Hid (shK i (k + 1) = shK i k ++ [dig i k]) := by
              show _ = _
              have h : shp (dig i k) = true := by unfold isShp at hs; simpa [dig_length] using hs
              rw [HS0.out, h]; rfl
            go_wp2_with (first | (go_at_call 31; refine (isShape_any (i : Int) HI.out (by rw [dig_length]; omega)).mono ?_; rintro e w1 ⟨rfl, rfl⟩) | (go_at_call 32; refine (Clone_any HI.out (by rw [dig_length]; omega)).mono ?_; rintro e w3 ⟨v', rfl, hv, hb⟩; have HV := Lib.hid hv; have HB3 := Lib.hid hb; have hs3 := hb.size; obtain ⟨av, cv, rfl⟩ := hv.shape; clear hv hb) | (at_builtin; refine append_one elInts (by rfl) (.tmp 41) (.tmp 44) (by rfl) (w.heap.size + 1) _ ps.length _ [.slice av (dig i k).length cv] w3.heap.size (by rfl) (by rfl) (by rfl) (HL2.out.below HB3.out).1 (by rfl) (by intro u hu; simp at hu; subst hu; rfl) (by omega) (by unfold maxLen; omega) (by omega) (by rfl) ?_; intro g cap w4 hown hgrow hat hlo hlt hsz))
            go_roundw
            case rel =>
              refine ⟨k + 1, some ⟨g, 0, none⟩, cap, ps ++ [(.slice av (dig i k).length cv, dig i k)], f', by omega, by go_num, by simp, ?_, ?_, ?_, ?_⟩
              · rw [HS.out, List.map_append, HPS.out]; rfl
              · rw [List.length_append]; exact OwnLL.snoc HL2.out HB3.out HV.out (by omega) hown hgrow hat
              · exact (HF2.out.below HB3.out).grown hgrow (fun e => by have := ((HL2.out.below HB3.out).1.lt _ e).1; omega)
              · exact (thenBelow HB2.out HB3.out).grown hgrow (by omega) (fun j hj => by have := ((HL2.out.below HB3.out).1.lt _ hj).1; omega)
            case measure => simp [intOf]; omega
    · obtain rfl : k = M := by omega
      go_wp2_with fail
      go_ret2
      refine ⟨_, rfl, ?_, HB.out⟩
      have := HL.out.reads
      rw [HPS.out, HM.out] at this
      exact this.mono IntsEl.mono (by omega)
end Go.Proofs.Ytgbgfkhkjlakbaa

namespace Go.Proofs.Ytgbgfkhkjlakbaa
open Go.RowKit Go.Deep
end Go.Proofs.Ytgbgfkhkjlakbaa

namespace Go.Proofs.Ytgbgfkhkjlakbaa
open Go.RowKit Go.Deep
set_option maxHeartbeats 800000 in
theorem Shapes_bad (n : Int) (h : n < 1 ∨ 8 < n) (w : World) :
    Calls Try.prog 11 #[.int .i64 n] w fun e w' => e = .returned (.tuple #[.slice none 0 0, .int .i64 1]) ∧ w = w' := by
  by_cases h1 : n < 1
  · go_enter Try.func11, Try.ntmps11
    go_wp2_with fail
    go_ret2
    exact ⟨rfl, rfl⟩
  · have h2 : 8 < n := by omega
    go_enter Try.func11, Try.ntmps11
    go_wp2_with fail
    go_ret2
    exact ⟨rfl, rfl⟩
theorem shL_five : shL 5 = [[2, 0, 2, 0, 0], [2, 2, 0, 0, 0]] := by decide +kernel
theorem nbr_known (w : World) : Calls Try.prog 26 #[.int .i64 3, .slice none 0 0, .int .i64 2, .int .i64 0] w fun e w' => e = .returned (.tuple #[.int .i64 1, .int .i64 1, .int .i64 (-1)]) ∧ Below w.heap.size w w' := by
  have h := Neighbors_any (lo := 0) (w := w) (v := .slice none 0 0) (xs := []) 3 2 0 ⟨none, 0, rfl, by simp, by simp [maxLen], by simp, .inl rfl⟩ (by simp) (by omega)
  have e : nbr 3 [] 2 0 = (1, 1, -1) := by decide
  rw [e] at h
  exact h
theorem shapes_known (w : World) : Calls Try.prog 11 #[.int .i64 5] w fun e w' => ∃ u, e = .returned (.tuple #[u, .int .i64 0]) ∧ IsSl 1 IntsEl w.heap.size w' u [[2, 0, 2, 0, 0], [2, 2, 0, 0, 0]] ∧ Below w.heap.size w w' := by
  have h := Shapes_ok 5 (by omega) (by omega) w
  rw [shL_five] at h
  exact h
theorem lit5 {w : World} {g : Nat} {t : TypeId} (h : w.heap[g]? = some (.cells #[.int .i64 2, .int .i64 0, .int .i64 2, .int .i64 0, .int .i64 0] t (0, 0))) : IsInts 0 w (.slice (some ⟨g, 0, none⟩) 5 5) [2, 0, 2, 0, 0] :=
  ints_of_block (xs := [2, 0, 2, 0, 0]) h (Nat.zero_le _) rfl (Nat.le_refl _) (by simp [maxLen]) (fun x hx => by have : x = 0 ∨ x = 2 := (by simp at hx; omega); constructor <;> omega)
    fun i hi => match i, hi with
      | 0, _ => rfl
      | 1, _ => rfl
      | 2, _ => rfl
      | 3, _ => rfl
      | 4, _ => rfl
set_option maxHeartbeats 1600000 in
theorem zknown_any (w : World) : Calls Try.prog 8 #[] w fun e w' => e = .returned (.bool true) ∧ Below w.heap.size w w' := by
  go_enter Try.func8, Try.ntmps8
  go_wp2_with (first | (go_at_call 26; refine (nbr_known _).mono ?_; rintro e w1 ⟨rfl, hb1⟩; have HB1 := Lib.hid hb1; clear hb1) | (go_at_call 11; refine (shapes_known _).mono ?_; rintro e w2 ⟨u, rfl, hu, hb2⟩; obtain ⟨au, cu, rfl⟩ := hu.shape; obtain ⟨b, off, cs, rfl, hlb, hbw, _, hcell, v0, rfl, hv0⟩ := hu.at 0 (by simp); obtain ⟨a0, c0, rfl⟩ := hv0.shape; have g0 := hcell 0 (by omega); have HB2 := Lib.hid (thenBelow HB1.out hb2); have HV := Lib.hid hv0; simp only [Nat.zero_mul, Nat.add_zero, List.getElem?_cons_zero] at g0; clear hcell hv0 hu hb2) | (go_at_call 27; refine (SameInts_any (HV.out.below (by go_grown)) (lit5 (heap_new _ _ (by go_size)))).mono ?_; rintro e w3 ⟨rfl, hb3⟩))
  go_ret
  exact ⟨rfl, thenBelow HB2.out (Below.trans (by go_grown) (hb3.mono (by go_size)))⟩
end Go.Proofs.Ytgbgfkhkjlakbaa

namespace Go.Proofs.Ytgbgfkhkjlakbaa
open Go.RowKit Go.Deep
variable {J : World → Prop}
def cLi (xs : List Int) : List AV := [intsA xs]
theorem lenLi (xs : List Int) : (cLi xs).length = 1 := rfl
theorem plain_li (xs : List Int) : ∀ X ∈ cLi xs, Plain X := by
  intro X hX
  simp only [cLi, List.mem_cons, List.not_mem_nil, or_false] at hX
  rw [hX]; exact plain_ints _
theorem newLi (xs : List Int) : ∀ d ∈ [AV.fr (intsA xs)], d.isNew = true := fun d hd => by
  simp only [List.mem_cons, List.not_mem_nil, or_false] at hd; subst hd; rfl
theorem cellLi (xs : List Int) : ∀ d ∈ [AV.fr (intsA xs)], d.cell = true := fun d hd => by
  simp only [List.mem_cons, List.not_mem_nil, or_false] at hd; subst hd; rfl
theorem snocLi {L : List (List Int)} {xs : List Int} : L.flatMap cLi ++ rowCells true [.fr (intsA xs)] = (L ++ [xs]).flatMap cLi := by
  rw [List.flatMap_append]; simp [rowCells, AV.unfr, cLi]
namespace Sh
abbrev InOk (xs : List Int) : Prop := ∀ x ∈ xs, I64 x
section
variable {P : Program} {f : FuncId}
theorem ctr2 {A B u : AV} (H : ∀ (w : World) (v v' : Value), (∀ w', Below w.heap.size w w' → J w') → Pu (fun _ => True) w (fun b => b < w.heap.size) A v → Pu (fun _ => True) w (fun b => b < w.heap.size) B v' → Calls P f #[v, v'] w fun e w' => ∃ v, e = .returned v ∧ Pu (w.heap.size ≤ ·) w' (nw w' w.heap.size) u v ∧ Below w.heap.size w w') : Ctr P J f [A, B] u := fun w vs hJ hl hv => by
  obtain ⟨v, v', rfl⟩ : ∃ v v', vs = #[v, v'] := by
    match vs, hl with
    | ⟨[v, v']⟩, _ => exact ⟨v, v', rfl⟩
  exact H w v v' hJ (hv 0 (by simp)) (hv 1 (by simp))
theorem ret_sc {w : World} {r : Value} {e : Ending} {w' : World} (h : e = .returned r ∧ Below w.heap.size w w') : ∃ v, e = .returned v ∧ Pu (w.heap.size ≤ ·) w' (nw w' w.heap.size) (.v r) v ∧ Below w.heap.size w w' := ⟨r, h.1, .v r, h.2⟩
end
/-- The shapes of an odd number of nodes. -/
def sR : Nat → List (List Int)
  | 1 => [[0]]
  | 3 => [[2, 0, 0]]
  | 5 => [[2, 0, 2, 0, 0], [2, 2, 0, 0, 0]]
  | 7 => [[2, 0, 2, 0, 2, 0, 0], [2, 0, 2, 2, 0, 0, 0], [2, 2, 0, 0, 2, 0, 0], [2, 2, 0, 2, 0, 0, 0], [2, 2, 2, 0, 0, 0, 0]]
  | _ => []
def prT (A B : List (List Int)) : List (List Int) := A.flatMap fun a => B.map fun b => 2 :: (a ++ b)
def shA (n t : Nat) : List (List Int) := (List.range t).flatMap fun k => prT (sR (2 * k + 1)) (sR (n - 2 - 2 * k))
theorem shA_succ (n t : Nat) : shA n (t + 1) = shA n t ++ prT (sR (2 * t + 1)) (sR (n - 2 - 2 * t)) := by
  unfold shA; rw [List.range_succ, List.flatMap_append]; simp
theorem shA_end {n t : Nat} (h1 : n % 2 = 1) (h3 : 3 ≤ n) (h7 : n ≤ 7) (ht : t = (n - 1) / 2) : shA n t = sR n := by
  obtain rfl | rfl | rfl : n = 3 ∨ n = 5 ∨ n = 7 := by omega
  all_goals (subst ht; decide +kernel)
theorem odd4 {n : Nat} (h : n ≤ 7) (ho : n % 2 = 1) : n = 1 ∨ n = 3 ∨ n = 5 ∨ n = 7 := by omega
theorem sR_len {n : Nat} (h : n ≤ 7) (ho : n % 2 = 1) : (sR n).length ≤ 5 := by
  rcases odd4 h ho with rfl | rfl | rfl | rfl <;> decide
theorem sR_mem {n : Nat} (h : n ≤ 7) (ho : n % 2 = 1) : ∀ xs ∈ sR n, xs.length ≤ 7 ∧ InOk xs := by
  rcases odd4 h ho with rfl | rfl | rfl | rfl <;> (intro xs hx; simp only [sR, List.mem_cons, List.not_mem_nil, or_false] at hx)
  all_goals
    have key : ∀ ys : List Int, (∀ y ∈ ys, y = 0 ∨ y = 2) → InOk ys := fun ys hy y hm => by
      rcases hy y hm with rfl | rfl <;> (unfold I64; omega)
  · subst hx; exact ⟨by decide, key _ (by decide)⟩
  · subst hx; exact ⟨by decide, key _ (by decide)⟩
  · rcases hx with rfl | rfl <;> exact ⟨by decide, key _ (by decide)⟩
  · rcases hx with rfl | rfl | rfl | rfl | rfl <;> exact ⟨by decide, key _ (by decide)⟩
theorem sR_asc {n : Nat} (h : n ≤ 7) (ho : n % 2 = 1) : ∀ i, (hi : i < (sR n).length) → 1 ≤ i → ¬ 0 < cmpI ((sR n)[i - 1]'(by omega)) (sR n)[i] := by
  rcases odd4 h ho with rfl | rfl | rfl | rfl
  · intro i hi h1; simp [sR] at hi; omega
  · intro i hi h1; simp [sR] at hi; omega
  · intro i hi h1
    obtain rfl : i = 1 := by simp [sR] at hi; omega
    exact (show ¬ 0 < cmpI ((sR 5)[0]'(by decide)) ((sR 5)[1]'(by decide)) by decide)
  · intro i hi h1
    have : i < 5 := hi
    obtain rfl | rfl | rfl | rfl : i = 1 ∨ i = 2 ∨ i = 3 ∨ i = 4 := by omega
    · exact (show ¬ 0 < cmpI ((sR 7)[0]'(by decide)) ((sR 7)[1]'(by decide)) by decide)
    · exact (show ¬ 0 < cmpI ((sR 7)[1]'(by decide)) ((sR 7)[2]'(by decide)) by decide)
    · exact (show ¬ 0 < cmpI ((sR 7)[2]'(by decide)) ((sR 7)[3]'(by decide)) by decide)
    · exact (show ¬ 0 < cmpI ((sR 7)[3]'(by decide)) ((sR 7)[4]'(by decide)) by decide)
/-- What Shapes returns. -/
def shX (n : Int) : List (List Int) := if n < 1 ∨ 8 < n then [] else if n % 2 = 0 then [] else sR n.toNat
def shZ (n : Int) : Int := if n < 1 ∨ 8 < n then 1 else 0
theorem shL_eq : ∀ n, 1 ≤ n → n ≤ 8 → shL n = shX (n : Nat) := by
  intro n h1 h8
  obtain rfl | rfl | rfl | rfl | rfl | rfl | rfl | rfl : n = 1 ∨ n = 2 ∨ n = 3 ∨ n = 4 ∨ n = 5 ∨ n = 6 ∨ n = 7 ∨ n = 8 := by omega
  all_goals decide +kernel
theorem shX_mem (n : Int) : ∀ xs ∈ shX n, xs.length ≤ 7 ∧ InOk xs := by
  unfold shX
  split
  · intro xs h; cases h
  · split
    · intro xs h; cases h
    · exact sR_mem (by omega) (by omega)
theorem shX_len (n : Int) : (shX n).length ≤ 5 := by
  unfold shX
  split
  · simp
  · split
    · simp
    · exact sR_len (by omega) (by omega)
theorem Shapes_p (n : Int) : CtrP Try.prog J 11 [iv n] (.tup [slA 1 cLi (shX n), iv (shZ n)]) := fun w vs _ hl hv => by
  match vs, hl, hv with
  | ⟨[v0]⟩, _, hv =>
    obtain rfl := (hv 0 (by simp)).v_inv
    by_cases h : n < 1 ∨ 8 < n
    · have e1 : shX n = [] := by unfold shX; rw [if_pos h]
      have e2 : shZ n = 1 := by unfold shZ; rw [if_pos h]
      rw [e1, e2]
      refine (Shapes_bad n h w).mono fun e w' ⟨he, hw⟩ => ⟨_, he, ?_, by rw [← hw]; exact Below.refl _ _⟩
      exact .tup rfl fun j hj => (match j, hj with
        | 0, _ => .sl0 (by simp [maxLen]) (by simp)
        | 1, _ => .v _)
    · obtain ⟨m, rfl⟩ := Int.eq_ofNat_of_zero_le (show 0 ≤ n by omega)
      have e2 : shZ ((m : Nat) : Int) = 0 := by unfold shZ; rw [if_neg h]
      rw [e2]
      have hs := Shapes_ok m (by omega) (by omega) w
      rw [shL_eq m (by omega) (by omega)] at hs
      refine hs.mono fun e w' ⟨u, he, hu, hb⟩ => ⟨_, he, ?_, hb⟩
      exact .tup rfl fun j hj => (match j, hj with
        | 0, _ => sl_pu lenLi (fun b hb _ => hb) (fun xs vs hx i hi => by
            obtain ⟨v, rfl, h1⟩ := hx
            obtain rfl : i = 0 := by simp [cLi] at hi; exact hi
            exact ints_pu (fun b hb _ => hb) h1) hu
        | 1, _ => .v _)
theorem cmp_c {xs ys : List Int} (hx : InOk xs) (hy : InOk ys) : Ctr Try.prog J 39 [intsA xs, intsA ys] (iv (cmpI xs ys)) := ctr2 fun w v v' _ h h' =>
  (cmpInts_any (pu_ints hx (fun _ _ => Nat.zero_le _) h) (pu_ints hy (fun _ _ => Nat.zero_le _) h')).mono fun _ _ => ret_sc
theorem same_c {xs : List Int} (hx : InOk xs) : Ctr Try.prog J 27 [intsA xs, intsA xs] (bv true) := ctr2 fun w v v' _ h h' =>
  (SameInts_any (pu_ints hx (fun _ _ => Nat.zero_le _) h) (pu_ints hx (fun _ _ => Nat.zero_le _) h')).mono fun e w' hh => by
    have : eqI xs xs = true := decide_eq_true rfl
    rw [this] at hh
    exact ret_sc hh
theorem zknown_c : Ctr Try.prog J 8 [] (bv true) := fun w vs _ hl _ => by
  have : vs = #[] := Array.eq_empty_of_size_eq_zero (by simpa using hl)
  subst this
  exact (zknown_any w).mono fun _ _ => ret_sc
theorem one_len (a b : List Int) : AV.sl 1 (1 + a.length + b.length) ((2 :: (a ++ b)).map iv) = intsA (2 :: (a ++ b)) := by
  unfold intsA; congr 1; simp; omega
end Sh
end Go.Proofs.Ytgbgfkhkjlakbaa
