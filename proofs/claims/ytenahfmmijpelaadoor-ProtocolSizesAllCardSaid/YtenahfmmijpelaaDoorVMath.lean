/-
  WHICH ERROR A FAMILY HAS: as a plain function, by the order of the program and by that of the reference; both are the same.
-/
import Derived.Test.YtenahfmmijpelaaDoorVParts
import Derived.Test.YtenahfmmijpelaaDoorNameMath
namespace Go.Proofs.YtenahfmmijpelaaDoor
open Go.RowKit Go.Deep

/-- The first of two numbers that is not 0. -/
def orE (a b : Int) : Int := if a = 0 then b else a
theorem orE_zero (b : Int) : orE 0 b = b := if_pos rfl
theorem orE_right (a : Int) : orE a 0 = a := by unfold orE; split <;> omega
theorem orE_ne {a : Int} (b : Int) (h : a ≠ 0) : orE a b = a := if_neg h

theorem setE_nil (n : Nat) : setE n [] = 0 := by unfold setE allK ascK; simp

/-- A name is among the names. -/
def hasN (xs : List ByteArray) (s : ByteArray) : Bool := xs.any fun x => x.toList == s.toList
/-- The names up to k are valid, each once. -/
def nmOk (xs : List ByteArray) (k : Nat) : Bool := (List.range k).all fun i => nameB (xs.getD i default).toList && !hasN (xs.take i) (xs.getD i default)
theorem nmOk_zero (xs : List ByteArray) : nmOk xs 0 = true := rfl
theorem nmOk_succ {xs : List ByteArray} {k : Nat} (hk : k < xs.length) (h : nmOk xs k = true) (h1 : nameB (xs[k].toList) = true) (h2 : hasN (xs.take k) xs[k] = false) : nmOk xs (k + 1) = true := by
  have e : xs.getD k default = xs[k] := by simp [List.getD, List.getElem?_eq_getElem hk]
  unfold nmOk at *; rw [List.range_succ, List.all_append, h]; simp only [List.all_cons, List.all_nil, Bool.and_true, e, h1, h2, Bool.not_false]
theorem nmOk_no {xs : List ByteArray} {k n : Nat} (hk : k < xs.length) (hn : k < n) (h : nameB (xs[k].toList) = false ∨ hasN (xs.take k) xs[k] = true) : nmOk xs n = false := by
  have e : xs.getD k default = xs[k] := by simp [List.getD, List.getElem?_eq_getElem hk]
  unfold nmOk; rw [List.all_eq_false]
  refine ⟨k, List.mem_range.2 hn, ?_⟩
  rw [e]
  rcases h with h | h <;> rw [h] <;> simp

/-- The error of a list of guards. -/
def guE (msgs : Nat) (g : Th) : Int := if ixB msgs g.msg = false then 5 else if inB 1 100 g.coef = false then 1 else if smL g.bd.c g.bd.n g.bd.t g.bd.f = false then 4 else 0
def gusE (msgs : Nat) : List Th → Int
  | [] => 0
  | g :: gs => if guE msgs g = 0 then gusE msgs gs else guE msgs g
def guardE (msgs : Nat) (gs : List Th) : Int := if gusE msgs gs = 0 then (if 2 < gs.length then 4 else 0) else gusE msgs gs
theorem guardE_nil (m : Nat) : guardE m [] = 0 := rfl
/-- The error of Read and Write. -/
def shE (vals : Nat) (rd wr : Int) : Int := if (rd ≠ -1 ∧ ixB vals rd = false) ∨ (wr ≠ -1 ∧ ixB vals wr = false) then 5 else 0
theorem shE_none (v : Nat) : shE v (-1) (-1) = 0 := by unfold shE; simp
def reE (n : Nat) (xs : List Int) : Int := if xs.length ≠ n then 1 else if allK n xs xs.length = false then 5 else 0
def posE (pos top : Int) : Int := if inB 0 2 pos = false ∨ (pos ≠ 0 ∧ top = 3) then 1 else 0
def dirE (dir top : Int) : Int := if top = 4 then (if dir = 3 ∨ dir = 4 then 0 else 1) else (if dir = 1 ∨ dir = 2 then 0 else 1)

/-- The parts that the kind of a rule uses are taken out. -/
def bare (r : Ru) (top : Int) : Ru :=
  let r := { r with frm := 0, to := 0 }
  if r.kind = 1 then { r with guards := [], ex := [], fa := [], send := [], rd := -1, wr := -1 }
  else if r.kind = 2 then { r with pf := 0, pt := 0, rd := -1, wr := -1 }
  else if r.kind = 3 then { r with resp := [], rd := -1, wr := -1 }
  else if r.kind = 4 then (if top = 4 then { r with pos := 0, left := [], right := [], parent := [] } else { r with pos := 0, left := [], right := [] })
  else if r.kind = 5 then { r with pf := 0, pt := 0, dir := 0 }
  else r
/-- Two rules are the same but for their names. -/
def samP (a b : Ru) : Bool :=
  decide (a.kind = b.kind) && decide (a.frm = b.frm) && decide (a.to = b.to) && decide (a.pf = b.pf) && decide (a.pt = b.pt) && decide (a.resp = b.resp) && decide (a.guards = b.guards) && decide (a.ex = b.ex) && decide (a.fa = b.fa) &&
  decide (a.rd = b.rd) && decide (a.wr = b.wr) && decide (a.send = b.send) && decide (a.pos = b.pos) && decide (a.left = b.left) && decide (a.right = b.right) && decide (a.parent = b.parent) && decide (a.dir = b.dir)
/-- A rule of a kind with nothing in it. -/
def plainR (kind : Int) : Ru := ⟨⟨#[]⟩, kind, 0, 0, 0, 0, [], [], [], [], -1, -1, [], 0, [], [], [], 0⟩
def othB (r : Ru) (top : Int) : Bool := samP (bare r top) (plainR r.kind)
def stB (r : Ru) (n : Nat) : Bool := ixB n r.frm && ixB n r.to && ixB n r.pf && ixB n r.pt

/-- The error of the parts of a rule, as the program looks for it. -/
def partE (q : Fm) (r : Ru) : Int :=
  if r.kind = 3 then orE (reE q.states.length r.resp) (shE q.vals.length r.rd r.wr)
  else if r.kind = 2 then shE q.vals.length r.rd r.wr
  else if r.kind = 1 then orE (guardE q.msgs.length r.guards) (orE (setE q.states.length r.ex) (orE (setE q.states.length r.fa) (orE (shE q.vals.length r.rd r.wr) (setE q.msgs.length r.send))))
  else if r.kind = 4 then orE (setE q.states.length r.left) (orE (setE q.states.length r.right) (orE (setE q.states.length r.parent) (posE r.pos q.top)))
  else dirE r.dir q.top
def hasR (rs : List Ru) (s : ByteArray) : Bool := rs.any fun r => r.nm.toList == s.toList
def ruleE (q : Fm) (i : Nat) (r : Ru) : Int :=
  if nameB r.nm.toList = false ∨ hasR (q.rules.take i) r.nm = true then 2
  else if fitB r.kind q.top = false ∨ othB r q.top = false then 6
  else if stB r q.states.length = false then 5
  else partE q r

/-- The error of a rule, as the reference looks for it. -/
def unusedB (r : Ru) (top : Int) : Bool :=
  if r.kind ≠ 1 ∧ (r.guards ≠ [] ∨ r.ex ≠ [] ∨ r.fa ≠ [] ∨ r.send ≠ []) then true
  else if r.kind ≠ 1 ∧ r.kind ≠ 2 ∧ r.kind ≠ 3 ∧ (r.rd ≠ -1 ∨ r.wr ≠ -1) then true
  else if r.kind ≠ 2 ∧ r.kind ≠ 5 ∧ (r.pf ≠ 0 ∨ r.pt ≠ 0) then true
  else if (r.kind ≠ 3 ∧ r.resp ≠ []) ∨ (r.kind ≠ 5 ∧ r.dir ≠ 0) then true
  else if r.kind ≠ 4 ∧ (r.pos ≠ 0 ∨ r.left ≠ [] ∨ r.right ≠ []) then true
  else decide (r.parent ≠ [] ∧ ¬ (r.kind = 4 ∧ top = 4))
def rkindB (r : Ru) (top : Int) : Bool := inB 1 5 r.kind && (decide (r.kind ≤ 3) == decide (top = 1)) && !unusedB r top
def rstB (r : Ru) (n : Nat) : Bool := ixB n r.frm && ixB n r.to && (!(decide (r.kind = 2) || decide (r.kind = 5)) || (ixB n r.pf && ixB n r.pt))
def rpartE (q : Fm) (r : Ru) : Int :=
  orE (if r.kind = 3 then reE q.states.length r.resp else 0) <| orE (guardE q.msgs.length r.guards) <| orE (setE q.states.length r.ex) <| orE (setE q.states.length r.fa) <| orE (shE q.vals.length r.rd r.wr) <| orE (setE q.msgs.length r.send) <|
  orE (setE q.states.length r.left) <| orE (setE q.states.length r.right) <| orE (setE q.states.length r.parent) <| orE (if r.kind = 4 then posE r.pos q.top else 0) (if r.kind = 5 then dirE r.dir q.top else 0)
def rruleE (q : Fm) (i : Nat) (r : Ru) : Int :=
  if nameB r.nm.toList = false ∨ hasR (q.rules.take i) r.nm = true then 2
  else if rkindB r q.top = false then 6
  else if rstB r q.states.length = false then 5
  else rpartE q r

theorem samP_iff (a b : Ru) : samP a b = true ↔ a.kind = b.kind ∧ a.frm = b.frm ∧ a.to = b.to ∧ a.pf = b.pf ∧ a.pt = b.pt ∧ a.resp = b.resp ∧ a.guards = b.guards ∧ a.ex = b.ex ∧ a.fa = b.fa ∧ a.rd = b.rd ∧ a.wr = b.wr ∧ a.send = b.send ∧ a.pos = b.pos ∧ a.left = b.left ∧ a.right = b.right ∧ a.parent = b.parent ∧ a.dir = b.dir := by
  unfold samP; simp only [Bool.and_eq_true, decide_eq_true_iff, and_assoc]

/-- Which parts are empty, by the kind. -/
structure Emp (r : Ru) (top : Int) : Prop where
  g : r.kind ≠ 1 → r.guards = [] ∧ r.ex = [] ∧ r.fa = [] ∧ r.send = []
  s : r.kind ≠ 1 → r.kind ≠ 2 → r.kind ≠ 3 → r.rd = -1 ∧ r.wr = -1
  p : r.kind ≠ 2 → r.kind ≠ 5 → r.pf = 0 ∧ r.pt = 0
  b : r.kind ≠ 3 → r.resp = []
  d : r.kind ≠ 5 → r.dir = 0
  n : r.kind ≠ 4 → r.pos = 0 ∧ r.left = [] ∧ r.right = []
  t : ¬ (r.kind = 4 ∧ top = 4) → r.parent = []
theorem unused_emp (r : Ru) (top : Int) : unusedB r top = false ↔ Emp r top := by
  unfold unusedB
  constructor
  · intro h
    split at h
    · cases h
    rename_i h1
    split at h
    · cases h
    rename_i h2
    split at h
    · cases h
    rename_i h3
    split at h
    · cases h
    rename_i h4
    split at h
    · cases h
    rename_i h5
    rw [decide_eq_false_iff_not] at h
    simp only [not_and, not_or, Decidable.not_not] at h1 h2 h3 h4 h5 h
    exact ⟨h1, h2, h3, h4.1, h4.2, h5, fun hk => Decidable.byContradiction fun hn => by simp_all⟩
  · rintro ⟨g, s, p, b, d, n, t⟩
    rw [if_neg (by rintro ⟨hk, h⟩; have := g hk; simp_all), if_neg (by rintro ⟨h1, h2, h3, h⟩; have := s h1 h2 h3; simp_all), if_neg (by rintro ⟨h1, h2, h⟩; have := p h1 h2; simp_all),
      if_neg (by rintro (⟨h1, h⟩ | ⟨h1, h⟩) <;> simp_all), if_neg (by rintro ⟨h1, h⟩; have := n h1; simp_all), decide_eq_false_iff_not]
    rintro ⟨h1, h2⟩
    exact h1 (t h2)
theorem oth_emp (r : Ru) (top : Int) (hk : r.kind = 1 ∨ r.kind = 2 ∨ r.kind = 3 ∨ r.kind = 4 ∨ r.kind = 5) : othB r top = true ↔ Emp r top := by
  unfold othB
  rw [samP_iff]
  obtain ⟨nm, kind, frm, to, pf, pt, resp, guards, ex, fa, rd, wr, send, pos, left, right, parent, dir⟩ := r
  unfold bare plainR
  dsimp only at hk ⊢
  rcases hk with rfl | rfl | rfl | rfl | rfl
  · simp only [if_pos]
    constructor
    · rintro ⟨-, -, -, h1, h2, h3, -, -, -, -, -, -, h4, h5, h6, h7, h8⟩
      exact ⟨by simp, by simp, fun _ _ => ⟨h1, h2⟩, fun _ => h3, fun _ => h8, fun _ => ⟨h4, h5, h6⟩, fun _ => h7⟩
    · rintro ⟨g, s, p, b, d, n, t⟩
      have := p (by simp) (by simp); have := n (by simp); have := b (by simp); have := d (by simp); have := t (by simp)
      simp_all
  · simp only [show ¬ ((2 : Int) = 1) by omega, if_pos, if_neg, not_false_eq_true]
    constructor
    · rintro ⟨-, -, -, -, -, h3, h9, h10, h11, -, -, h12, h4, h5, h6, h7, h8⟩
      exact ⟨fun _ => ⟨h9, h10, h11, h12⟩, by simp, by simp, fun _ => h3, fun _ => h8, fun _ => ⟨h4, h5, h6⟩, fun _ => h7⟩
    · rintro ⟨g, s, p, b, d, n, t⟩
      have := g (by simp); have := n (by simp); have := b (by simp); have := d (by simp); have := t (by simp)
      simp_all
  · simp only [show ¬ ((3 : Int) = 1) by omega, show ¬ ((3 : Int) = 2) by omega, if_pos, if_neg, not_false_eq_true]
    constructor
    · rintro ⟨-, -, -, h1, h2, -, h9, h10, h11, -, -, h12, h4, h5, h6, h7, h8⟩
      exact ⟨fun _ => ⟨h9, h10, h11, h12⟩, by simp, fun _ _ => ⟨h1, h2⟩, by simp, fun _ => h8, fun _ => ⟨h4, h5, h6⟩, fun _ => h7⟩
    · rintro ⟨g, s, p, b, d, n, t⟩
      have := g (by simp); have := n (by simp); have := p (by simp) (by simp); have := d (by simp); have := t (by simp)
      simp_all
  · simp only [show ¬ ((4 : Int) = 1) by omega, show ¬ ((4 : Int) = 2) by omega, show ¬ ((4 : Int) = 3) by omega, if_pos, if_neg, not_false_eq_true]
    by_cases ht : top = 4
    · simp only [if_pos ht]
      constructor
      · rintro ⟨-, -, -, h1, h2, h3, h9, h10, h11, h13, h14, h12, -, -, -, -, h8⟩
        exact ⟨fun _ => ⟨h9, h10, h11, h12⟩, fun _ _ _ => ⟨h13, h14⟩, fun _ _ => ⟨h1, h2⟩, fun _ => h3, fun _ => h8, by simp, by simp [ht]⟩
      · rintro ⟨g, s, p, b, d, n, t⟩
        have := g (by simp); have := s (by simp) (by simp) (by simp); have := p (by simp) (by simp); have := b (by simp); have := d (by simp)
        simp_all
    · simp only [if_neg ht]
      constructor
      · rintro ⟨-, -, -, h1, h2, h3, h9, h10, h11, h13, h14, h12, -, -, -, h7, h8⟩
        exact ⟨fun _ => ⟨h9, h10, h11, h12⟩, fun _ _ _ => ⟨h13, h14⟩, fun _ _ => ⟨h1, h2⟩, fun _ => h3, fun _ => h8, by simp, fun _ => h7⟩
      · rintro ⟨g, s, p, b, d, n, t⟩
        have := g (by simp); have := s (by simp) (by simp) (by simp); have := p (by simp) (by simp); have := b (by simp); have := d (by simp); have := t (by simp [ht])
        simp_all
  · simp only [show ¬ ((5 : Int) = 1) by omega, show ¬ ((5 : Int) = 2) by omega, show ¬ ((5 : Int) = 3) by omega, show ¬ ((5 : Int) = 4) by omega, if_pos, if_neg, not_false_eq_true]
    constructor
    · rintro ⟨-, -, -, -, -, h3, h9, h10, h11, h13, h14, h12, h4, h5, h6, h7, -⟩
      exact ⟨fun _ => ⟨h9, h10, h11, h12⟩, fun _ _ _ => ⟨h13, h14⟩, by simp, fun _ => h3, by simp, fun _ => ⟨h4, h5, h6⟩, fun _ => h7⟩
    · rintro ⟨g, s, p, b, d, n, t⟩
      have := g (by simp); have := s (by simp) (by simp) (by simp); have := b (by simp); have := n (by simp); have := t (by simp)
      simp_all

theorem kind_of_fit {kind top : Int} (h : fitB kind top = true) : kind = 1 ∨ kind = 2 ∨ kind = 3 ∨ kind = 4 ∨ kind = 5 := by
  unfold fitB at h; split at h
  · omega
  · split at h
    · omega
    · cases h
theorem fit_eq (r : Ru) (top : Int) : (fitB r.kind top && othB r top) = rkindB r top := by
  unfold rkindB
  by_cases hk : r.kind = 1 ∨ r.kind = 2 ∨ r.kind = 3 ∨ r.kind = 4 ∨ r.kind = 5
  · have e : othB r top = !unusedB r top := by
      rw [Bool.eq_iff_iff, oth_emp r top hk, ← unused_emp]; simp
    have e2 : inB 1 5 r.kind = true := by unfold inB; simp; omega
    rw [e, e2, Bool.true_and]
    congr 1
    unfold fitB
    by_cases h3 : r.kind ≤ 3
    · rw [if_pos (by omega), decide_eq_true h3]; by_cases ht : top = 1 <;> simp [ht]
    · rw [if_neg (by omega), if_pos (by omega), decide_eq_false h3]; by_cases ht : top = 1 <;> simp [ht]
  · have e2 : inB 1 5 r.kind = false := by unfold inB; simp; omega
    have e3 : fitB r.kind top = false := by unfold fitB; rw [if_neg (by omega), if_neg (by omega)]
    rw [e2, e3]; simp

/-- Both ways to look for the error of a rule find the same. -/
theorem rule_eq (q : Fm) (i : Nat) (r : Ru) (hs : q.states ≠ []) : ruleE q i r = rruleE q i r := by
  unfold ruleE rruleE
  have hn : 0 < q.states.length := List.length_pos_iff.2 hs
  by_cases h1 : nameB r.nm.toList = false ∨ hasR (q.rules.take i) r.nm = true
  · rw [if_pos h1, if_pos h1]
  · rw [if_neg h1, if_neg h1]
    have hf := fit_eq r q.top
    cases hr : rkindB r q.top with
    | false =>
      rw [hr] at hf
      rw [if_pos (by cases hA : fitB r.kind q.top <;> cases hB : othB r q.top <;> simp_all), if_pos rfl]
    | true =>
      rw [hr, Bool.and_eq_true] at hf
      obtain ⟨hf, ho⟩ := hf
      have hk := kind_of_fit hf
      have he := (oth_emp r q.top hk).1 ho
      rw [if_neg (by rw [hf, ho]; simp), if_neg (by simp : ¬ (true = false))]
      obtain ⟨g, s, p, b, d, n, t⟩ := he
      have z0 : ixB q.states.length 0 = true := by unfold ixB inB; simp; omega
      have hst : stB r q.states.length = rstB r q.states.length := by
        unfold stB rstB
        by_cases hk2 : r.kind = 2 ∨ r.kind = 5
        · have : (decide (r.kind = 2) || decide (r.kind = 5)) = true := by simpa using hk2
          rw [this]; simp [Bool.and_assoc]
        · have e := p (by omega) (by omega)
          have : (decide (r.kind = 2) || decide (r.kind = 5)) = false := by simpa using hk2
          rw [this, e.1, e.2, z0]; simp
      rw [hst]
      by_cases hb : rstB r q.states.length = false
      · rw [if_pos hb, if_pos hb]
      · rw [if_neg hb, if_neg hb]
        unfold partE rpartE
        rcases hk with hk | hk | hk | hk | hk
        · have e1 := n (by omega); have e2 := t (by omega)
          rw [hk, e1.2.1, e1.2.2, e2]
          simp [setE_nil, orE_zero, orE_right]
        · have e0 := g (by omega); have e1 := n (by omega); have e2 := t (by omega)
          rw [hk, e0.1, e0.2.1, e0.2.2.1, e0.2.2.2, e1.2.1, e1.2.2, e2]
          simp [setE_nil, orE_zero, orE_right, guardE_nil]
        · have e0 := g (by omega); have e1 := n (by omega); have e2 := t (by omega)
          rw [hk, e0.1, e0.2.1, e0.2.2.1, e0.2.2.2, e1.2.1, e1.2.2, e2]
          simp [setE_nil, orE_zero, orE_right, guardE_nil]
        · have e0 := g (by omega); have e1 := s (by omega) (by omega) (by omega)
          rw [hk, e0.1, e0.2.1, e0.2.2.1, e0.2.2.2, e1.1, e1.2]
          simp [setE_nil, orE_zero, orE_right, guardE_nil, shE_none]
        · have e0 := g (by omega); have e1 := s (by omega) (by omega) (by omega); have e2 := n (by omega); have e3 := t (by omega)
          rw [hk, e0.1, e0.2.1, e0.2.2.1, e0.2.2.2, e1.1, e1.2, e2.2.1, e2.2.2, e3]
          simp [setE_nil, orE_zero, guardE_nil, shE_none]

/-- The different guards in the order of their first appearance. -/
def addT (l : List Th) (g : Th) : List Th := if g ∈ l then l else l ++ [g]
def diffG (rs : List Ru) : List Th := rs.foldl (fun l r => r.guards.foldl addT l) []
/-- The first error of the rules from i on. -/
def rulesE (q : Fm) : Nat → Nat → Int
  | _, 0 => 0
  | i, f + 1 => if ruleE q i (q.rules.getD i default) = 0 then rulesE q (i + 1) f else ruleE q i (q.rules.getD i default)
def cliB (q : Fm) : Bool := decide (0 < q.msgs.length) || decide (0 < q.vals.length) || decide (0 < q.res.length) || decide (q.fault ≠ 0)
/-- The first error of a family. -/
def valE (q : Fm) : Int :=
  if nameB q.nm.toList = false then 2
  else if inB 1 4 q.top = false ∨ inB 0 3 q.fault = false then 1
  else if q.states.length = 0 then 1
  else if tooB q = true then 4
  else if nmOk (q.states ++ (q.msgs ++ q.vals)) (q.states ++ (q.msgs ++ q.vals)).length = false then 2
  else if (q.top ≠ 1 ∧ cliB q = true) ∨ (q.top = 1 ∧ 0 < q.leader.length) then 1
  else if (q.res.any fun l => !smL l.c l.n l.t l.f) = true then 4
  else orE (if q.init.length = 0 then 1 else setE q.states.length q.init) (orE (setE q.states.length q.leader) (orE (rulesE q 0 q.rules.length) (if 3 < (diffG q.rules).length then 4 else 0)))
end Go.Proofs.YtenahfmmijpelaaDoor
