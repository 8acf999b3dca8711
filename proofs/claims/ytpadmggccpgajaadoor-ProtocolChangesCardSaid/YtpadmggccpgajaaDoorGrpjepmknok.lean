import Derived.Deep.OwnRows
import Derived.Test.YtpadmggccpgajaaDoorGrpapmpnbom
import Derived.Test.YtpadmggccpgajaaDoorGrpcbghmhjg
set_option linter.all false
namespace Go.Proofs.YtpadmggccpgajaaDoor
open Go.RowKit Go.Deep
variable {J : World → Prop}
section
variable {P : Program} {o : Oper}
theorem sp_makeFunc {f : FuncId} {xs : Array Operand} {Xs : List AV} (ho : o.op = .makeFunc (.func f) #[] xs) (hl : xs.size = Xs.length) : ASpec P J o (xs.toList.zip Xs) [] (.clo f Xs) .no :=
  aspec_val fun ρ B a w _ ha _ => by
    refine ⟨.func (.func f) #[] (xs.map a.eval), ?_, .clo (by simpa using hl) fun j hj => ?_⟩
    · simp only [execOp, ho]
      exact run_val (w' := w) (by simp [Instr.makeFunc])
    · have hj2 : j < xs.size := by omega
      have hm : (xs[j], Xs[j]) ∈ xs.toList.zip Xs := by
        rw [List.mem_iff_getElem]
        exact ⟨j, by simp; omega, by simp⟩
      have := ha _ hm
      simpa [Array.getD, hj2] using this
theorem sp_callClo {c : Operand} {xs : Array Operand} {ats : Array TypeId} {f : FuncId} {Xs Ys Cs : List AV} {u U : AV} (rd : List (Nat × ABlk)) (hC : Ctr P J f (Ys ++ Cs) u) (ho : o.op = .call { callee := .value c, args := xs, argTypes := ats })
    (hf : (P.funcs[f]?).map (fun fn => (fn.name == "runtime.NumGoroutine") || fn.body.isNone) = some false) (hl : xs.size = Xs.length) (hv : Xs.map (AV.view rd) = Ys) (hfl : Xs.all AV.flat2 = true) (hcl : (AV.clo f Cs).flat2 = true) (hcv : Cs.map (AV.viewC rd) = Cs) (hU : u.res = U) :
    ASpec P J o ((c, .clo f Cs) :: xs.toList.zip Xs) rd U .no := by
  subst hv hU
  intro ρ B a w K Q hwf hB hJ ha hr _ hk
  have hcc := (ha (c, .clo f Cs) (by simp)).view hwf hr hcl
  simp only [AV.view, hcv] at hcc
  generalize hx : a.eval c = x at hcc
  cases hcc with
  | clo hcl' hcp =>
  rename_i caps
  refine upon_call ho hx hf ?_
  have hsz : (xs.map a.eval).size = Xs.length := by simpa using hl
  refine (hC w (xs.map a.eval ++ caps) hJ (by simp [hl, hcl']) fun j hj => ?_).mono fun e w' ⟨v, he, hp, hb⟩ => ⟨v, he, hk ρ w' v ⟨hb.os, hb.tape, hb.output, hb.size, fun b hb' _ => hb.block b hb', fun _ _ => rfl, (fun _ _ h => by cases h), (fun _ _ h => by cases h), .pu (hp.mono (fun b hb' hw => ⟨⟨fun k c n hk => ?_, Nat.le_trans hB hb'⟩, hw, rfl⟩) fun b _ h => Nat.le_trans hB h).res⟩⟩
  · have hj0 : j < Xs.length + Cs.length := by simpa using hj
    by_cases hjx : j < Xs.length
    · have hj2 : j < xs.size := by omega
      rw [List.getElem_append_left (by simpa using hjx), List.getElem_map]
      have hm : (xs[j], Xs[j]) ∈ (c, AV.clo f Cs) :: xs.toList.zip Xs := by
        refine List.mem_cons_of_mem _ ?_
        rw [List.mem_iff_getElem]
        exact ⟨j, by simp; omega, by simp⟩
      have := (ha _ hm).view hwf hr (List.all_eq_true.1 hfl _ (List.getElem_mem hjx))
      have e : (xs.map a.eval ++ caps).getD j undef = a.eval xs[j] := by
        simp [Array.getD, hj2]; omega
      rw [e]; exact this
    · rw [List.getElem_append_right (by simp; omega)]
      have hjc : j - Xs.length < Cs.length := by omega
      have := hcp (j - Xs.length) hjc
      have e : (xs.map a.eval ++ caps).getD j undef = caps.getD (j - Xs.length) undef := by
        have h1 : ¬ j < xs.size := by omega
        have h2 : j - xs.size < caps.size := by omega
        have h3 : j < xs.size + caps.size := by omega
        have h4 : j - Xs.length = j - xs.size := by omega
        simp [Array.getD, Array.getElem_append, h1, h2, h3, h4]
      rw [e]
      simpa using this
  · have := (hwf.lo _ _ _ _ hk).2; omega
/-- A struct is built of numbers, words and slices. -/
def AV.asVal (α : Nat → Option Addr × Nat × Nat) (k : Nat) : AV → Value
  | .v x => x
  | _ => .slice (α k).1 (α k).2.1 (α k).2.2
def AV.solid : AV → Bool
  | .v _ => true
  | X => X.isSl
def pickV (α : Nat → Option Addr × Nat × Nat) (Xs : List AV) : Value ⊕ Nat → Value
  | .inl z => z
  | .inr k => (Xs.getD k .any).asVal α k
def pickA (Xs : List AV) : Value ⊕ Nat → AV
  | .inl z => .v z
  | .inr k => Xs.getD k .any
theorem rel_solid {ρ : Names} {B : Nat} {w : World} {X : AV} {v : Value} (h : Rel ρ B w X v) (hX : X.solid = true) : ∃ a : Option Addr × Nat × Nat, v = X.asVal (fun _ => a) 0 := by
  cases X with
  | v x => exact ⟨(none, 0, 0), h.v_inv⟩
  | sl z n cs => obtain ⟨a, m, c, e⟩ := rel_slice h hX; exact ⟨(a, m, c), e⟩
  | fr X => obtain ⟨a, m, c, e⟩ := rel_slice h hX; exact ⟨(a, m, c), e⟩
  | _ => cases hX
theorem asVal_at {α : Nat → Option Addr × Nat × Nat} {X : AV} {k : Nat} : X.asVal (fun _ => α k) 0 = X.asVal α k := by cases X <;> rfl
theorem sp_bldN {T : TypeId} {parts : Array (Nat × Operand)} (idx : List Nat) (ops : List Operand) (Xs : List AV) (R : List (Value ⊕ Nat)) (ho : o.op = .build T parts) (hp : parts.toList = idx.zip ops) (h1 : idx.length = Xs.length) (h2 : ops.length = Xs.length) (hX : Xs.all AV.solid = true)
    (H : ∀ α, P.built T (idx.zip ((List.range Xs.length).map fun k => (Xs.getD k .any).asVal α k)) = some (R.map (pickV α Xs)).toArray) (hR : R.all (fun r => match r with | .inl _ => true | .inr k => decide (k < Xs.length)) = true) {ds : List AV} (hd : R.map (pickA Xs) = ds) :
    ASpec P J o (ops.zip Xs) [] (.agg ds) .no :=
  aspec_val fun ρ B a w _ ha _ => by
    subst hd
    have hop : ∀ k, k < Xs.length → Rel ρ B w (Xs.getD k .any) (a.eval (ops.getD k (.const undef))) := fun k hk => by
      have hk2 : k < ops.length := by omega
      have hm : (ops[k], Xs[k]) ∈ ops.zip Xs := by
        rw [List.mem_iff_getElem]
        exact ⟨k, by simp; omega, by simp⟩
      have := ha _ hm
      simpa [List.getD_eq_getElem?_getD, hk, hk2] using this
    have hso : ∀ k, k < Xs.length → (Xs.getD k .any).solid = true := fun k hk => by
      have := List.all_eq_true.1 hX _ (List.getElem_mem hk)
      simpa [List.getD_eq_getElem?_getD, hk] using this
    obtain ⟨α, hα⟩ := choose_lt (n := Xs.length) (p := fun k (r : Option Addr × Nat × Nat) => a.eval (ops.getD k (.const undef)) = (Xs.getD k .any).asVal (fun _ => r) 0) fun k hk => rel_solid (hop k hk) (hso k hk)
    refine ⟨.agg (R.map (pickV α Xs)).toArray, ?_, .agg (by simp) fun j hj => ?_⟩
    · simp only [execOp, ho]
      refine run_val (run_build w T _ _ ?_)
      rw [← H α]
      congr 1
      rw [Array.toList_map, hp]
      apply List.ext_getElem
      · simp; omega
      intro k g1 g2
      have hk : k < Xs.length := by simp at g2; omega
      have hk2 : k < ops.length := by omega
      have := hα k hk
      rw [asVal_at] at this
      simp only [List.getElem_map, List.getElem_zip, List.getElem_range, Prod.mk.injEq, true_and]
      rw [← this]
      simp [List.getD_eq_getElem?_getD, hk2]
    · have hj' : j < R.length := by simpa using hj
      simp only [List.getElem_map]
      have e : (R.map (pickV α Xs)).toArray.getD j undef = pickV α Xs R[j] := by simp [Array.getD, hj']
      rw [e]
      have hr := List.all_eq_true.1 hR _ (List.getElem_mem hj')
      generalize R[j] = r at hr
      cases r with
      | inl z => exact .pu (.v z)
      | inr k =>
        have hk : k < Xs.length := by simpa using hr
        have h3 := hα k hk
        rw [asVal_at] at h3
        simp only [pickA, pickV]
        rw [← h3]
        exact hop k hk
end
end Go.Proofs.YtpadmggccpgajaaDoor

namespace Go.Proofs.YtpadmggccpgajaaDoor
open Go.RowKit Go.Deep
variable {J : World → Prop}
/-- The index of the first rule that differs from r at most in its name, or -1. -/
def ixR (ra : List Ru) (r : Ru) : Int := match ra.findIdx? (fun x => samP x r) with | some i => (i : Int) | none => -1
def knB (ra : List Ru) (r : Ru) : Bool := ra.any fun x => samP x r
def noK (ra : List Ru) (r : Ru) (k : Nat) : Prop := ∀ i (h : i < ra.length), i < k → samP ra[i] r = false
theorem noK_zero (ra : List Ru) (r : Ru) : noK ra r 0 := fun _ _ h => absurd h (by omega)
theorem noK_succ {ra : List Ru} {r : Ru} {k : Nat} (hk : k < ra.length) (h : noK ra r k) (e : samP ra[k] r = false) : noK ra r (k + 1) := fun i a b => by
  by_cases x : i = k
  · subst x; exact e
  · exact h i a (by omega)
theorem ixR_at {ra : List Ru} {r : Ru} {k : Nat} (hk : k < ra.length) (h : noK ra r k) (e : samP ra[k] r = true) : ixR ra r = ((k : Nat) : Int) := by
  unfold ixR
  rw [show ra.findIdx? (fun x => samP x r) = some k from List.findIdx?_eq_some_iff_getElem.2 ⟨hk, e, fun j hj => by rw [h j (by omega) hj]; simp⟩]
theorem ixR_none {ra : List Ru} {r : Ru} {k : Nat} (hk : ¬ k < ra.length) (h : noK ra r k) : ixR ra r = -1 := by
  unfold ixR
  rw [show ra.findIdx? (fun x => samP x r) = none from List.findIdx?_eq_none_iff.2 fun x hx => by
    obtain ⟨i, hi, rfl⟩ := List.getElem_of_mem hx
    exact h i hi (by omega)]
theorem knB_ix (ra : List Ru) (r : Ru) : decide (0 ≤ ixR ra r) = knB ra r := by
  unfold ixR knB
  cases e : ra.findIdx? (fun x => samP x r) with
  | none =>
    have := List.findIdx?_eq_none_iff.1 e
    rw [show (ra.any fun x => samP x r) = false from List.any_eq_false.2 fun x hx => by simp [this x hx]]; rfl
  | some i =>
    obtain ⟨hi, h1, _⟩ := List.findIdx?_eq_some_iff_getElem.1 e
    rw [show (ra.any fun x => samP x r) = true from List.any_eq_true.2 ⟨_, List.getElem_mem hi, h1⟩]
    exact decide_eq_true (by simp)
/-- The first rules of ra in which r is known. -/
def knTo (ra : List Ru) (r : Ru) (j : Nat) : Bool := (ra.take j).any fun x => samP x r
theorem knTo_t {ra : List Ru} {r : Ru} {j : Nat} (h : knTo ra r j = true) : knTo ra r (j + 1) = true := by
  unfold knTo at *
  obtain ⟨x, hx, e⟩ := List.any_eq_true.1 h
  refine List.any_eq_true.2 ⟨x, ?_, e⟩
  obtain ⟨i, hi, rfl⟩ := List.getElem_of_mem hx
  rw [List.mem_iff_getElem]
  exact ⟨i, by simp at hi ⊢; omega, by simp⟩
theorem knTo_f {ra : List Ru} {r : Ru} {j : Nat} (hj : j < ra.length) (h : knTo ra r j = false) : knTo ra r (j + 1) = samP ra[j] r := by
  unfold knTo at *
  rw [List.take_succ_eq_append_getElem hj, List.any_append, h]; simp
theorem knTo_end {ra : List Ru} {r : Ru} {j : Nat} (h1 : j ≤ ra.length) (hj : ¬ j < ra.length) : knTo ra r j = knB ra r := by
  unfold knTo knB
  rw [List.take_of_length_le (by omega)]
def newTo (ra rb : List Ru) : Nat → List Int
  | 0 => []
  | k + 1 => newTo ra rb k ++ (match rb[k]? with | some r => if knB ra r then [] else [(k : Int)] | none => [])
section
variable {ra rb : List Ru} {k : Nat}
theorem newTo_yes (hk : k < rb.length) (h : knB ra rb[k] = true) : newTo ra rb (k + 1) = newTo ra rb k := by
  rw [newTo, List.getElem?_eq_getElem hk]; simp [h]
theorem newTo_no (hk : k < rb.length) (h : knB ra rb[k] = false) : newTo ra rb (k + 1) = newTo ra rb k ++ [((k : Nat) : Int)] := by
  rw [newTo, List.getElem?_eq_getElem hk]; simp [h]
theorem newTo_mem (ra rb : List Ru) : ∀ k, ∀ x ∈ newTo ra rb k, 0 ≤ x ∧ x < (k : Int)
  | 0 => by simp [newTo]
  | k + 1 => fun x hx => by
    rw [newTo, List.mem_append] at hx
    rcases hx with hx | hx
    · have := newTo_mem ra rb k x hx; omega
    · split at hx
      · split at hx
        · simp at hx
        · simp at hx; omega
      · simp at hx
theorem newTo_ok (h : rb.length ≤ 9223372036854775807) : InOk (newTo ra rb rb.length) := fun x hx => by
  have := newTo_mem ra rb _ x hx
  unfold I64; omega
end
/-- The first rules of both that differ at most in their names. -/
def allTo (ra rb : List Ru) (k : Nat) : Bool := (List.range k).all fun i => match ra[i]?, rb[i]? with | some x, some y => samP x y | _, _ => false
def samR (ra rb : List Ru) : Bool := decide (((ra.length : Nat) : Int) = ((rb.length : Nat) : Int)) && allTo ra rb rb.length
section
variable {ra rb : List Ru} {k : Nat}
theorem allTo_zero : allTo ra rb 0 = true := by simp [allTo]
theorem allTo_succ (h1 : k < ra.length) (h2 : k < rb.length) : allTo ra rb (k + 1) = (allTo ra rb k && samP ra[k] rb[k]) := by
  unfold allTo
  rw [List.range_succ, List.all_append]
  simp [List.getElem?_eq_getElem h1, List.getElem?_eq_getElem h2]
theorem allTo_mono {n : Nat} (h : allTo ra rb k = false) (hn : k ≤ n) : allTo ra rb n = false := by
  cases e : allTo ra rb n with
  | false => rfl
  | true =>
    have : allTo ra rb k = true := by
      unfold allTo at *
      rw [List.all_eq_true] at *
      exact fun i hi => e i (by simp at hi ⊢; omega)
    rw [this] at h; cases h
theorem samR_len (h : ¬ ((ra.length : Nat) : Int) = ((rb.length : Nat) : Int)) : samR ra rb = false := by unfold samR; rw [decide_eq_false h]; rfl
theorem samR_at (h1 : k < ra.length) (h2 : k < rb.length) (e : samP ra[k] rb[k] = false) : samR ra rb = false := by
  unfold samR
  rw [allTo_mono (k := k + 1) (by rw [allTo_succ h1 h2, e, Bool.and_false]) (by omega), Bool.and_false]
theorem samR_end (hl : ((ra.length : Nat) : Int) = ((rb.length : Nat) : Int)) (hk : ¬ k < ra.length) (hk1 : k ≤ ra.length) (h : allTo ra rb k = true) : samR ra rb = true := by
  unfold samR
  rw [decide_eq_true hl, show rb.length = k by omega, h]; rfl
end
/-- The families differ outside of their rules (names do not matter). -/
def difB (a b : Fm) : Bool := !(decide (a.top = b.top) && decide (a.fault = b.fault) && decide (((a.states.length : Nat) : Int) = ((b.states.length : Nat) : Int)) && decide (((a.msgs.length : Nat) : Int) = ((b.msgs.length : Nat) : Int)) && decide (((a.vals.length : Nat) : Int) = ((b.vals.length : Nat) : Int)) && decide (a.res = b.res) && decide (a.init = b.init) && decide (a.leader = b.leader))
/-- Same, so far. -/
def sTo (a b : Fm) (k : Nat) : Bool := (!difB a b && decide (((a.rules.length : Nat) : Int) = ((b.rules.length : Nat) : Int))) && allTo a.rules b.rules k
section
variable {a b : Fm} {k : Nat}
theorem sTo_zero : sTo a b 0 = (!difB a b && decide (((a.rules.length : Nat) : Int) = ((b.rules.length : Nat) : Int))) := by unfold sTo; rw [allTo_zero, Bool.and_true]
theorem sTo_len (h : sTo a b k = true) : a.rules.length = b.rules.length := by
  unfold sTo at h; simp only [Bool.and_eq_true, decide_eq_true_eq] at h; omega
theorem sTo_f (h : sTo a b k = false) : sTo a b (k + 1) = false := by
  unfold sTo at *
  rw [Bool.and_eq_false_iff] at *
  rcases h with h | h
  · exact .inl h
  · exact .inr (allTo_mono h (by omega))
theorem sTo_t (h1 : k < a.rules.length) (h2 : k < b.rules.length) (h : sTo a b k = true) : sTo a b (k + 1) = samP a.rules[k] b.rules[k] := by
  unfold sTo at *
  rw [Bool.and_eq_true] at h
  rw [allTo_succ h1 h2, h.1, h.2, Bool.true_and, Bool.true_and]
theorem sTo_end (hk : k ≤ b.rules.length) (h : ¬ k < b.rules.length) : sTo a b k = (!difB a b && samR a.rules b.rules) := by
  unfold sTo samR
  rw [show k = b.rules.length by omega, Bool.and_assoc]
end
def chE (a b : Fm) : Int := if valE a = 0 then valE b else valE a
def chO (a b : Fm) : Bool := decide (chE a b = 0) && difB a b
def chS (a b : Fm) : Bool := decide (chE a b = 0) && (!difB a b && samR a.rules b.rules)
def chR (a b : Fm) : List Int := if chE a b = 0 then newTo a.rules b.rules b.rules.length else []
def chA (a b : Fm) : List AV := [bv (chS a b), bv (chO a b), intsA (chR a b)]
section
variable {a b : Fm}
theorem ch_e1 (h : ¬ valE a = 0) : AV.tup [.agg [bv false, bv false, .sl 1 0 []], iv (valE a)] = .tup [.agg (chA a b), iv (chE a b)] := by
  have e : chE a b = valE a := by unfold chE; rw [if_neg h]
  unfold chA chS chO chR; rw [e, decide_eq_false h, if_neg h]; rfl
theorem ch_e2 (h : valE a = 0) (h2 : ¬ valE b = 0) : AV.tup [.agg [bv false, bv false, .sl 1 0 []], iv (valE b)] = .tup [.agg (chA a b), iv (chE a b)] := by
  have e : chE a b = valE b := by unfold chE; rw [if_pos h]
  unfold chA chS chO chR; rw [e, decide_eq_false h2, if_neg h2]; rfl
theorem ch_ok (h : valE a = 0) (h2 : valE b = 0) {s d : Bool} {l : List Int} (hd : d = difB a b) (hs : s = (!difB a b && samR a.rules b.rules)) (hl : l = newTo a.rules b.rules b.rules.length) : AV.tup [.agg [bv s, bv d, intsA l], iv 0] = .tup [.agg (chA a b), iv (chE a b)] := by
  have e : chE a b = 0 := by unfold chE; rw [if_pos h, h2]
  subst hd hs hl
  unfold chA chS chO chR; rw [e, decide_eq_true rfl, if_pos rfl]; rfl
theorem chR_ok (h : b.rules.length ≤ 9223372036854775807) : InOk (chR a b) := by
  unfold chR
  split
  · exact newTo_ok h
  · intro x hx; simp at hx
end
theorem snocI {l : List Int} {k : Int} : l.map iv ++ rowCells true [iv k] = (l ++ [k]).map iv := by
  rw [List.map_append]; rfl
theorem snocIL {l : List Int} {x : Int} : (l ++ [x]).length = l.length + 1 := by simp
theorem newI {k : Int} : ∀ d ∈ [iv k], d.isNew = true := fun d hd => by
  simp only [List.mem_cons, List.not_mem_nil, or_false] at hd; subst hd; rfl
theorem cellI {k : Int} : ∀ d ∈ [iv k], d.cell = true := fun d hd => by
  simp only [List.mem_cons, List.not_mem_nil, or_false] at hd; subst hd; rfl
end Go.Proofs.YtpadmggccpgajaaDoor
