/-
  SHAPES AND NEIGHBORS, as plain facts: which lists are shapes, which neighbors a node has, and that neighbors are mutual.
-/
import Derived.Test.YtbeadfagacndeaaMake
namespace Go.Proofs.Ytbeadfagacndeaa

/-- From m open places on, the list fills all of them. -/
def shpF : List Int → Int → Bool
  | [], m => decide (m = 0)
  | c :: cs, m => if m = 0 then false else if c ≠ 0 ∧ c ≠ 2 then false else shpF cs (m + c - 1)
/-- The list is a shape. -/
def shp (xs : List Int) : Bool := shpF xs 1

/-- The neighbors as they are known behind some nodes, and the nodes that wait for a child. -/
structure TS where
  fi : Nat → Int
  se : Nat → Int
  pa : Nat → Int
  wt : List Nat
def tkid (s : TS) (i : Nat) : TS :=
  match s.wt.getLast? with
  | none => ⟨up s.fi i (-1), up s.se i (-1), up s.pa i (-1), s.wt⟩
  | some p => if up s.fi i (-1) p < 0 then ⟨up (up s.fi i (-1)) p i, up s.se i (-1), up (up s.pa i (-1)) i p, s.wt⟩ else ⟨up s.fi i (-1), up (up s.se i (-1)) p i, up (up s.pa i (-1)) i p, s.wt.dropLast⟩
def tstep (s : TS) (i : Nat) (c : Int) : TS := if c = 2 then ⟨(tkid s i).fi, (tkid s i).se, (tkid s i).pa, (tkid s i).wt ++ [i]⟩ else tkid s i
def trun (xs : List Int) : Nat → TS
  | 0 => ⟨fun _ => 0, fun _ => 0, fun _ => 0, []⟩
  | k + 1 => tstep (trun xs k) k (xs.getD k 0)
/-- How many children a waiting node lacks. -/
def lack (fi : Nat → Int) (p : Nat) : Int := if fi p < 0 then 2 else 1
def lacks (fi : Nat → Int) (w : List Nat) : Int := (w.map (lack fi)).sum

/-- What holds behind k nodes. -/
structure TI (s : TS) (k : Nat) (m : Int) : Prop where
  par : ∀ j, j < k → s.pa j = -1 ∨ ∃ p : Nat, p < k ∧ s.pa j = p ∧ (s.fi p = j ∨ s.se p = j)
  fst : ∀ p, p < k → s.fi p = -1 ∨ ∃ j : Nat, j < k ∧ s.fi p = j ∧ s.pa j = p
  snd : ∀ p, p < k → s.se p = -1 ∨ ∃ j : Nat, j < k ∧ s.se p = j ∧ s.pa j = p
  wlt : ∀ p ∈ s.wt, p < k ∧ s.se p = -1
  asc : s.wt.Pairwise (· < ·)
  two : ∀ p, p < k → p ∉ s.wt → (s.fi p = -1 ↔ s.se p = -1)
  cnt : m = if k = 0 then 1 else lacks s.fi s.wt

theorem lacks_congr {f g : Nat → Int} {w : List Nat} (h : ∀ p ∈ w, f p = g p) : lacks f w = lacks g w := by
  unfold lacks; rw [List.map_congr_left (fun p hp => show lack f p = lack g p by unfold lack; rw [h p hp])]
theorem lacks_snoc (f : Nat → Int) (w : List Nat) (i : Nat) : lacks f (w ++ [i]) = lacks f w + lack f i := by simp [lacks]
theorem lacks_nil (f : Nat → Int) : lacks f [] = 0 := rfl
theorem lack_pos (f : Nat → Int) (p : Nat) : 1 ≤ lack f p := by unfold lack; split <;> omega
theorem lacks_nonneg (f : Nat → Int) : ∀ w : List Nat, 0 ≤ lacks f w
  | [] => by simp [lacks]
  | p :: w => by
    have := lacks_nonneg f w
    have := lack_pos f p
    simp only [lacks, List.map_cons, List.sum_cons] at *
    omega
theorem lacks_zero (f : Nat → Int) : ∀ w : List Nat, lacks f w = 0 → w = []
  | [], _ => rfl
  | p :: w, h => by
    have := lacks_nonneg f w
    have := lack_pos f p
    simp only [lacks, List.map_cons, List.sum_cons] at *
    omega

/-- A node takes its place as a child: what holds then, but for its own waiting. -/
theorem kid_ok {s : TS} {k : Nat} {m : Int} (h : TI s k m) (hm : m ≠ 0) : 
    (∀ j, j < k + 1 → (tkid s k).pa j = -1 ∨ ∃ p : Nat, p < k + 1 ∧ (tkid s k).pa j = p ∧ ((tkid s k).fi p = j ∨ (tkid s k).se p = j)) ∧
    (∀ p, p < k + 1 → (tkid s k).fi p = -1 ∨ ∃ j : Nat, j < k + 1 ∧ (tkid s k).fi p = j ∧ (tkid s k).pa j = p) ∧
    (∀ p, p < k + 1 → (tkid s k).se p = -1 ∨ ∃ j : Nat, j < k + 1 ∧ (tkid s k).se p = j ∧ (tkid s k).pa j = p) ∧
    (∀ p ∈ (tkid s k).wt, p < k ∧ (tkid s k).se p = -1) ∧ (tkid s k).wt.Pairwise (· < ·) ∧
    (∀ p, p < k → p ∉ (tkid s k).wt → ((tkid s k).fi p = -1 ↔ (tkid s k).se p = -1)) ∧
    (tkid s k).fi k = -1 ∧ (tkid s k).se k = -1 ∧ lacks (tkid s k).fi (tkid s k).wt = m - 1 := by
  obtain ⟨par, fst, snd, wlt, asc, two, cnt⟩ := h
  rcases hw : s.wt.getLast? with _ | p
  · have hnil : s.wt = [] := by simpa using hw
    have hk : k = 0 := by
      by_cases e : k = 0
      · exact e
      · rw [if_neg e, hnil, lacks_nil] at cnt; exact absurd cnt hm
    subst hk
    rw [if_pos rfl] at cnt
    have ht : tkid s 0 = ⟨up s.fi 0 (-1), up s.se 0 (-1), up s.pa 0 (-1), s.wt⟩ := by unfold tkid; rw [hw]
    rw [ht]
    dsimp only
    rw [hnil]
    refine ⟨fun j hj => .inl ?_, fun j hj => .inl ?_, fun j hj => .inl ?_, by simp, by simp, fun p hp => by omega, up_same _ _ _, up_same _ _ _, by rw [lacks_nil]; omega⟩ <;>
      (obtain rfl : j = 0 := by omega
       exact up_same _ _ _)
  · obtain ⟨ys, hys⟩ : ∃ ys, s.wt = ys ++ [p] := List.getLast?_eq_some_iff.1 hw
    have hpm : p ∈ s.wt := by rw [hys]; simp
    obtain ⟨hpk, hpse⟩ := wlt p hpm
    have hk0 : k ≠ 0 := by omega
    have hnek : p ≠ k := by omega
    rw [if_neg hk0] at cnt
    have hys_lt : ∀ q ∈ ys, q < p := by
      rw [hys, List.pairwise_append] at asc
      exact fun q hq => asc.2.2 q hq p (by simp)
    have hysm : ∀ q ∈ ys, q < k ∧ s.se q = -1 := fun q hq => wlt q (by rw [hys]; simp [hq])
    have hfp : up s.fi k (-1) p = s.fi p := up_ne _ _ hnek
    by_cases hf : s.fi p < 0
    · have ht : tkid s k = ⟨up (up s.fi k (-1)) p k, up s.se k (-1), up (up s.pa k (-1)) k p, s.wt⟩ := by unfold tkid; rw [hw]; dsimp only; rw [hfp, if_pos hf]
      have hfm : s.fi p = -1 := by
        rcases fst p hpk with e | ⟨j, _, e, _⟩
        · exact e
        · omega
      rw [ht]
      dsimp only
      have pak : up (up s.pa k (-1)) k p k = p := up_same _ _ _
      have paj : ∀ j, j ≠ k → up (up s.pa k (-1)) k p j = s.pa j := fun j hj => by rw [up_ne _ _ hj, up_ne _ _ hj]
      have fik : up (up s.fi k (-1)) p k p = k := up_same _ _ _
      have fij : ∀ j, j ≠ p → j ≠ k → up (up s.fi k (-1)) p k j = s.fi j := fun j hj hk => by rw [up_ne _ _ hj, up_ne _ _ hk]
      have fikk : up (up s.fi k (-1)) p k k = -1 := by rw [up_ne _ _ (Ne.symm hnek), up_same]
      have sek : up s.se k (-1) k = -1 := up_same _ _ _
      have sej : ∀ j, j ≠ k → up s.se k (-1) j = s.se j := fun j hj => up_ne _ _ hj
      refine ⟨fun j hj => ?_, fun q hq => ?_, fun q hq => ?_, fun q hq => ?_, asc, fun q hq hqw => ?_, fikk, sek, ?_⟩
      · by_cases e : j = k
        · subst e; exact .inr ⟨p, by omega, pak, .inl fik⟩
        · rcases par j (by omega) with e1 | ⟨q, h1, h2, h3⟩
          · exact .inl (by rw [paj j e]; exact e1)
          · refine .inr ⟨q, by omega, by rw [paj j e]; exact h2, ?_⟩
            rw [sej q (by omega)]
            by_cases eq : q = p
            · subst eq
              rcases h3 with h3 | h3
              · omega
              · exact .inr h3
            · rw [fij q eq (by omega)]; exact h3
      · by_cases e : q = p
        · subst e; exact .inr ⟨k, by omega, fik, pak⟩
        · by_cases e2 : q = k
          · subst e2; exact .inl fikk
          · rw [fij q e e2]
            rcases fst q (by omega) with e1 | ⟨j, h1, h2, h3⟩
            · exact .inl e1
            · exact .inr ⟨j, by omega, h2, by rw [paj j (by omega)]; exact h3⟩
      · by_cases e2 : q = k
        · subst e2; exact .inl sek
        · rw [sej q e2]
          rcases snd q (by omega) with e1 | ⟨j, h1, h2, h3⟩
          · exact .inl e1
          · exact .inr ⟨j, by omega, h2, by rw [paj j (by omega)]; exact h3⟩
      · have := wlt q hq
        exact ⟨this.1, by rw [sej q (by omega)]; exact this.2⟩
      · have hqp : q ≠ p := fun e => hqw (e ▸ hpm)
        rw [fij q hqp (by omega), sej q (by omega)]
        exact two q hq hqw
      · rw [cnt, hys, lacks_snoc, lacks_snoc, lacks_congr (g := s.fi) (fun q hq => fij q (by have := hys_lt q hq; omega) (by have := (hysm q hq).1; omega))]
        unfold lack
        rw [fik, if_neg (by omega), if_pos hf]; omega
    · have ht : tkid s k = ⟨up s.fi k (-1), up (up s.se k (-1)) p k, up (up s.pa k (-1)) k p, s.wt.dropLast⟩ := by unfold tkid; rw [hw]; dsimp only; rw [hfp, if_neg hf]
      have hdl : s.wt.dropLast = ys := by rw [hys]; simp
      rw [ht, hdl]
      dsimp only
      have pak : up (up s.pa k (-1)) k p k = p := up_same _ _ _
      have paj : ∀ j, j ≠ k → up (up s.pa k (-1)) k p j = s.pa j := fun j hj => by rw [up_ne _ _ hj, up_ne _ _ hj]
      have sep : up (up s.se k (-1)) p k p = k := up_same _ _ _
      have sej : ∀ j, j ≠ p → j ≠ k → up (up s.se k (-1)) p k j = s.se j := fun j hj hk => by rw [up_ne _ _ hj, up_ne _ _ hk]
      have sek : up (up s.se k (-1)) p k k = -1 := by rw [up_ne _ _ (Ne.symm hnek), up_same]
      have fik : up s.fi k (-1) k = -1 := up_same _ _ _
      have fij : ∀ j, j ≠ k → up s.fi k (-1) j = s.fi j := fun j hj => up_ne _ _ hj
      refine ⟨fun j hj => ?_, fun q hq => ?_, fun q hq => ?_, fun q hq => ?_, ?_, fun q hq hqw => ?_, fik, sek, ?_⟩
      · by_cases e : j = k
        · subst e; exact .inr ⟨p, by omega, pak, .inr sep⟩
        · rcases par j (by omega) with e1 | ⟨q, h1, h2, h3⟩
          · exact .inl (by rw [paj j e]; exact e1)
          · refine .inr ⟨q, by omega, by rw [paj j e]; exact h2, ?_⟩
            rw [fij q (by omega)]
            by_cases eq : q = p
            · subst eq
              rcases h3 with h3 | h3
              · exact .inl h3
              · omega
            · rw [sej q eq (by omega)]; exact h3
      · by_cases e2 : q = k
        · subst e2; exact .inl fik
        · rw [fij q e2]
          rcases fst q (by omega) with e1 | ⟨j, h1, h2, h3⟩
          · exact .inl e1
          · exact .inr ⟨j, by omega, h2, by rw [paj j (by omega)]; exact h3⟩
      · by_cases e : q = p
        · subst e; exact .inr ⟨k, by omega, sep, pak⟩
        · by_cases e2 : q = k
          · subst e2; exact .inl sek
          · rw [sej q e e2]
            rcases snd q (by omega) with e1 | ⟨j, h1, h2, h3⟩
            · exact .inl e1
            · exact .inr ⟨j, by omega, h2, by rw [paj j (by omega)]; exact h3⟩
      · have h1 := hysm q hq
        have h2 := hys_lt q hq
        exact ⟨h1.1, by rw [sej q (by omega) (by omega)]; exact h1.2⟩
      · rw [hys, List.pairwise_append] at asc; exact asc.1
      · by_cases e : q = p
        · subst e
          rw [fij q (by omega), sep]
          omega
        · rw [fij q (by omega), sej q e (by omega)]
          exact two q hq (by rw [hys]; simp [hqw, e])
      · rw [cnt, hys, lacks_snoc, lacks_congr (g := s.fi) (fun q hq => fij q (by have := (hysm q hq).1; omega))]
        unfold lack
        rw [if_neg hf]; omega

theorem step_ok {s : TS} {k : Nat} {m c : Int} (h : TI s k m) (hm : m ≠ 0) (hc : c = 0 ∨ c = 2) : TI (tstep s k c) (k + 1) (m + c - 1) := by
  obtain ⟨par, fst, snd, wlt, asc, two, fk, sk, cnt⟩ := kid_ok h hm
  unfold tstep
  rcases hc with rfl | rfl
  · rw [if_neg (by omega)]
    refine ⟨par, fst, snd, fun p hp => ⟨by have := (wlt p hp).1; omega, (wlt p hp).2⟩, asc, fun p hp hw => ?_, by rw [if_neg (by omega), cnt]; omega⟩
    by_cases e : p = k
    · subst e; rw [fk, sk]
    · exact two p (by omega) hw
  · rw [if_pos rfl]
    refine ⟨par, fst, snd, fun p hp => ?_, ?_, fun p hp hw => ?_, ?_⟩
    · rcases List.mem_append.1 hp with hp | hp
      · exact ⟨by have := (wlt p hp).1; omega, (wlt p hp).2⟩
      · obtain rfl : p = k := by simpa using hp
        exact ⟨by omega, sk⟩
    · refine List.pairwise_append.2 ⟨asc, by simp, fun a ha b hb => ?_⟩
      obtain rfl : b = k := by simpa using hb
      exact (wlt a ha).1
    · have h1 : p ∉ (tkid s k).wt ∧ p ≠ k := by simpa [not_or] using hw
      exact two p (by omega) h1.1
    · rw [if_neg (by omega)]
      dsimp only
      rw [lacks_snoc, cnt]
      unfold lack
      rw [fk]; simp; omega

/-- Behind all nodes of a shape. -/
theorem run_ok (xs : List Int) (hs : shp xs = true) : ∀ k, k ≤ xs.length → ∃ m, TI (trun xs k) k m ∧ shpF (xs.drop k) m = true
  | 0, _ => ⟨1, ⟨fun _ h => by omega, fun _ h => by omega, fun _ h => by omega, fun _ h => by simp [trun] at h, by simp [trun], fun _ h => by omega, by simp⟩, by simpa [shp] using hs⟩
  | k + 1, hk => by
    obtain ⟨m, hI, hF⟩ := run_ok xs hs k (by omega)
    have hd : xs.drop k = xs[k]'(by omega) :: xs.drop (k + 1) := List.drop_eq_getElem_cons (by omega)
    rw [hd, shpF] at hF
    by_cases h0 : m = 0
    · rw [if_pos h0] at hF; cases hF
    · rw [if_neg h0] at hF
      by_cases h1 : xs[k]'(by omega) ≠ 0 ∧ xs[k]'(by omega) ≠ 2
      · rw [if_pos h1] at hF; cases hF
      · rw [if_neg h1] at hF
        refine ⟨_, ?_, hF⟩
        have hg : xs.getD k 0 = xs[k]'(by omega) := by simp [List.getD, List.getElem?_eq_getElem (show k < xs.length by omega)]
        show TI (tstep (trun xs k) k (xs.getD k 0)) (k + 1) _
        rw [hg]
        exact step_ok hI h0 (by omega)

def treeL (xs : List Int) (i : Nat) : Int × Int × Int := ((trun xs xs.length).fi i, (trun xs xs.length).se i, (trun xs xs.length).pa i)
theorem tree_ok (xs : List Int) (hs : shp xs = true) : TI (trun xs xs.length) xs.length 0 ∧ (trun xs xs.length).wt = [] := by
  obtain ⟨m, hI, hF⟩ := run_ok xs hs xs.length (Nat.le_refl _)
  rw [List.drop_length] at hF
  have hm : m = 0 := by simpa [shpF] using hF
  subst hm
  refine ⟨hI, ?_⟩
  have hc := hI.cnt
  by_cases h0 : xs.length = 0
  · have : xs = [] := List.eq_nil_of_length_eq_zero h0
    subst this
    rfl
  · rw [if_neg h0] at hc; exact lacks_zero _ _ hc.symm

/-- The neighbors that a process has. -/
def rowL (top count i : Int) : Int × Int × Int :=
  (if top = 3 ∧ i = 0 then count - 1 else i - 1, if i = count - 1 then (if top = 3 then 0 else -1) else i + 1, -1)
def nbr (top : Int) (xs : List Int) (count i : Int) : Int × Int × Int :=
  if 0 ≤ i ∧ i < count then (if top = 2 ∨ top = 3 then rowL top count i else if top = 4 ∧ (xs.length : Int) = count ∧ shp xs = true then treeL xs i.toNat else (-1, -1, -1)) else (-1, -1, -1)

/-- In a row the neighbors are mutual. -/
theorem row_back (top : Int) (xs : List Int) (count i : Int) (ht : top = 2 ∨ top = 3) :
    (nbr top xs count i).2.2 = -1 ∧ ((nbr top xs count i).1 = -1 ∨ (nbr top xs count (nbr top xs count i).1).2.1 = i) ∧ ((nbr top xs count i).2.1 = -1 ∨ (nbr top xs count (nbr top xs count i).2.1).1 = i) := by
  by_cases hi : 0 ≤ i ∧ i < count
  · have h0 : nbr top xs count i = rowL top count i := by unfold nbr; rw [if_pos hi, if_pos ht]
    rw [h0]
    refine ⟨rfl, ?_, ?_⟩
    · by_cases e : (rowL top count i).1 = -1
      · exact .inl e
      · refine .inr ?_
        have hr : 0 ≤ (rowL top count i).1 ∧ (rowL top count i).1 < count := by
          unfold rowL at e ⊢; dsimp only at e ⊢; split at e <;> rename_i h
          · rw [if_pos h]; omega
          · rw [if_neg h]; omega
        have h1 : nbr top xs count (rowL top count i).1 = rowL top count (rowL top count i).1 := by unfold nbr; rw [if_pos hr, if_pos ht]
        rw [h1]
        unfold rowL at e ⊢; dsimp only at e ⊢
        by_cases h : top = 3 ∧ i = 0
        · rw [if_pos h, if_pos rfl, if_pos h.1]; omega
        · rw [if_neg h, if_neg (by omega)]; omega
    · by_cases e : (rowL top count i).2.1 = -1
      · exact .inl e
      · refine .inr ?_
        have hr : 0 ≤ (rowL top count i).2.1 ∧ (rowL top count i).2.1 < count := by
          unfold rowL at e ⊢; dsimp only at e ⊢
          by_cases h : i = count - 1
          · rw [if_pos h] at e ⊢
            by_cases h3 : top = 3
            · rw [if_pos h3]; omega
            · rw [if_neg h3] at e; exact absurd rfl e
          · rw [if_neg h]; omega
        have h1 : nbr top xs count (rowL top count i).2.1 = rowL top count (rowL top count i).2.1 := by unfold nbr; rw [if_pos hr, if_pos ht]
        rw [h1]
        unfold rowL at e hr ⊢; dsimp only at e hr ⊢
        by_cases h : i = count - 1
        · rw [if_pos h] at e hr ⊢
          by_cases h3 : top = 3
          · rw [if_pos h3, if_pos ⟨h3, rfl⟩]; omega
          · rw [if_neg h3] at e; exact absurd rfl e
        · rw [if_neg h, if_neg (by omega)]; omega
  · have h0 : nbr top xs count i = (-1, -1, -1) := by unfold nbr; rw [if_neg hi]
    rw [h0]; exact ⟨rfl, .inl rfl, .inl rfl⟩

/-- In a tree, and where there are no neighbors, they are mutual. -/
theorem tree_back (top : Int) (xs : List Int) (count i : Int) (ht : ¬ (top = 2 ∨ top = 3)) :
    ((nbr top xs count i).1 = -1 ∨ (nbr top xs count (nbr top xs count i).1).2.2 = i) ∧ ((nbr top xs count i).2.1 = -1 ∨ (nbr top xs count (nbr top xs count i).2.1).2.2 = i) ∧
    ((nbr top xs count i).2.2 = -1 ∨ (nbr top xs count (nbr top xs count i).2.2).1 = i ∨ (nbr top xs count (nbr top xs count i).2.2).2.1 = i) ∧ ((nbr top xs count i).1 = -1 ↔ (nbr top xs count i).2.1 = -1) := by
  by_cases hi : (0 ≤ i ∧ i < count) ∧ (top = 4 ∧ (xs.length : Int) = count ∧ shp xs = true)
  · obtain ⟨hi, hT⟩ := hi
    have hn : ∀ j : Int, 0 ≤ j ∧ j < count → nbr top xs count j = treeL xs j.toNat := fun j hj => by unfold nbr; rw [if_pos hj, if_neg ht, if_pos hT]
    obtain ⟨hI, hw⟩ := tree_ok xs hT.2.2
    have hil : i.toNat < xs.length := by omega
    have hii : (i.toNat : Int) = i := by omega
    rw [hn i hi]
    refine ⟨?_, ?_, ?_, ?_⟩
    · rcases hI.fst i.toNat hil with e | ⟨j, h1, h2, h3⟩
      · exact .inl e
      · refine .inr ?_
        rw [show (treeL xs i.toNat).1 = (j : Int) from h2, hn j (by omega), Int.toNat_natCast]
        exact h3.trans hii
    · rcases hI.snd i.toNat hil with e | ⟨j, h1, h2, h3⟩
      · exact .inl e
      · refine .inr ?_
        rw [show (treeL xs i.toNat).2.1 = (j : Int) from h2, hn j (by omega), Int.toNat_natCast]
        exact h3.trans hii
    · rcases hI.par i.toNat hil with e | ⟨p, h1, h2, h3⟩
      · exact .inl e
      · refine .inr ?_
        rw [show (treeL xs i.toNat).2.2 = (p : Int) from h2, hn p (by omega), Int.toNat_natCast, ← hii]
        exact h3
    · exact hI.two i.toNat hil (by rw [hw]; simp)
  · have h0 : nbr top xs count i = (-1, -1, -1) := by
      unfold nbr
      by_cases h : 0 ≤ i ∧ i < count
      · rw [if_pos h, if_neg ht, if_neg (fun h' => hi ⟨h, h'⟩)]
      · rw [if_neg h]
    rw [h0]; exact ⟨.inl rfl, .inl rfl, .inl rfl, Iff.rfl⟩
end Go.Proofs.Ytbeadfagacndeaa
