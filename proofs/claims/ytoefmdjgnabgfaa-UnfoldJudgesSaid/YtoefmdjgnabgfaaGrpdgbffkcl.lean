import Derived.Test.YtoefmdjgnabgfaaGrpapeoecke
import Derived.Test.YtoefmdjgnabgfaaGrpgkjcjiip
import Derived.Test.YtoefmdjgnabgfaaGrpgfeekfoh
set_option linter.all false
namespace Go.Proofs.Ytoefmdjgnabgfaa
namespace Tr
def pre (xs : List Int) : Nat → Int
  | 0 => 0
  | k + 1 => pre xs k + (xs.getD k 0 - 1)
structure TJ (xs : List Int) (s : TS) (k : Nat) : Prop where
  no2 : ∀ p, p < k → xs.getD p 0 ≠ 2 → s.fi p = -1 ∧ s.se p = -1
  yes : ∀ p, p < k → xs.getD p 0 = 2 → p ∈ s.wt ∨ (s.fi p ≠ -1 ∧ s.se p ≠ -1)
  fip : ∀ p, p < k → s.fi p = -1 ∨ s.fi p = p + 1
  sep : ∀ p, p < k → s.se p = -1 ∨ ∃ e : Nat, s.se p = e ∧ pre xs e + 1 = pre xs (p + 1) ∧ p + 1 ≤ e ∧ ∀ t, p + 1 ≤ t → t < e → pre xs (p + 1) ≤ pre xs t
  top : ∀ p ∈ s.wt, s.fi p = -1 → p + 1 = k
  lvl : ∀ A p B, s.wt = A ++ p :: B → 1 + pre xs k - pre xs (p + 1) = lack s.fi p - 1 + lacks s.fi B ∧ ∀ t, p + 1 ≤ t → t < k → pre xs (p + 1) ≤ pre xs t
  two1 : ∀ p ∈ s.wt, xs.getD p 0 = 2
theorem lack_pos (f : Nat → Int) (p : Nat) : 1 ≤ lack f p := by unfold lack; split <;> omega
theorem lacks_pos (f : Nat → Int) (w : List Nat) : 0 ≤ lacks f w := by
  induction w with
  | nil => rw [Ko]; omega
  | cons a l ih =>
    have : lacks f (a :: l) = lack f a + lacks f l := by simp [lacks]
    have := lack_pos f a
    omega
theorem lacks_app (f : Nat → Int) (v w : List Nat) : lacks f (v ++ w) = lacks f v + lacks f w := by simp [lacks]
theorem tj_step {xs : List Int} {s s' : TS} {k q : Nat} {A E : List Nat} {c : Int} (J : TJ xs s k) (hw : s.wt = A ++ [q]) (wl : ∀ p ∈ s.wt, p < k) (asc : s.wt.Pairwise (· < ·)) (hc : xs.getD k 0 = c)
    (hE : (c = 0 ∧ E = []) ∨ (c = 2 ∧ E = [k])) (hf : ∀ j, j < k → j ≠ q → s'.fi j = s.fi j) (hs : ∀ j, j < k → j ≠ q → s'.se j = s.se j) (hfk : s'.fi k = -1) (hsk : s'.se k = -1)
    (hq : (s.fi q = -1 ∧ s'.fi q = k ∧ s'.se q = s.se q ∧ s'.wt = A ++ [q] ++ E) ∨ (s.fi q ≠ -1 ∧ s'.fi q = s.fi q ∧ s'.se q = k ∧ s'.wt = A ++ E)) : TJ xs s' (k + 1) := by
  have hqk : q < k := wl q (by rw [hw]; simp)
  have hAq : ∀ p ∈ A, p < q ∧ p < k := fun p hp => by
    rw [hw] at asc
    have h1 := (List.pairwise_append.1 asc).2.2 p hp q (by simp)
    exact ⟨h1, by omega⟩
  have hq2 : xs.getD q 0 = 2 := J.two1 q (by rw [hw]; simp)
  have hl := J.lvl A q [] hw
  rw [Ko] at hl
  have hpk : pre xs (k + 1) = pre xs k + (c - 1) := by rw [← hc]; rfl
  have hEl : lacks s'.fi E = c := by
    rcases hE with ⟨rfl, rfl⟩ | ⟨rfl, rfl⟩
    · exact Ko _
    have : lacks s'.fi [k] = lack s'.fi k := by simp [lacks]
    rw [this]; unfold lack; rw [hfk]; simp
  have hEk : ∀ p ∈ E, p = k ∧ c = 2 := fun p hp => by
    rcases hE with ⟨_, rfl⟩ | ⟨h, rfl⟩
    · simp at hp
    exact ⟨by simpa using hp, h⟩
  have hlA : ∀ p ∈ A, lack s'.fi p = lack s.fi p := fun p hp => by
    have := hAq p hp
    unfold lack; rw [hf p this.2 (by omega)]
  have hlsA : ∀ B : List Nat, (∀ p ∈ B, p ∈ A) → lacks s'.fi B = lacks s.fi B := fun B hB => lacks_congr fun p hp => by
    have := hAq p (hB p hp)
    exact hf p this.2 (by omega)
  -- what is waiting behind: an elder one, or the new one
  have hmem : ∀ p ∈ s'.wt, (p ∈ A) ∨ (p = q ∧ s.fi q = -1) ∨ (p = k ∧ c = 2) := fun p hp => by
    rcases hq with ⟨h1, _, _, h4⟩ | ⟨_, _, _, h4⟩
    · rw [h4] at hp
      rcases List.mem_append.1 hp with hp | hp
      · rcases List.mem_append.1 hp with hp | hp
        · exact .inl hp
        exact .inr (.inl ⟨by simpa using hp, h1⟩)
      exact .inr (.inr (hEk p hp))
    rw [h4] at hp
    rcases List.mem_append.1 hp with hp | hp
    · exact .inl hp
    exact .inr (.inr (hEk p hp))
  have hAin : ∀ p ∈ A, p ∈ s'.wt := fun p hp => by
    rcases hq with ⟨_, _, _, h4⟩ | ⟨_, _, _, h4⟩ <;> rw [h4] <;> simp [hp]
  have hold : ∀ A' p B0, A = A' ++ p :: B0 → 1 + pre xs k - pre xs (p + 1) = lack s.fi p - 1 + (lacks s.fi B0 + lack s.fi q) ∧ ∀ t, p + 1 ≤ t → t < k → pre xs (p + 1) ≤ pre xs t := fun A' p B0 e => by
    have := J.lvl A' p (B0 ++ [q]) (by rw [hw, e]; simp)
    rwa [KW] at this
  refine ⟨fun p hp h2 => ?_, fun p hp h2 => ?_, fun p hp => ?_, fun p hp => ?_, fun p hp h1 => ?_, fun A' p B e => ?_, fun p hp => ?_⟩
  · by_cases e : p = k
    · subst e; exact ⟨hfk, hsk⟩
    have hpq : p ≠ q := fun e2 => h2 (by rw [e2]; exact hq2)
    rw [hf p (by omega) hpq, hs p (by omega) hpq]
    exact J.no2 p (by omega) h2
  · by_cases e : p = k
    · subst e
      rw [hc] at h2
      rcases hE with ⟨h3, _⟩ | ⟨_, h3⟩
      · omega
      left
      rcases hq with ⟨_, _, _, h4⟩ | ⟨_, _, _, h4⟩ <;> rw [h4, h3] <;> simp
    by_cases epq : p = q
    · subst epq
      rcases hq with ⟨_, _, _, h4⟩ | ⟨h1, h2', h3, _⟩
      · left; rw [h4]; simp
      right; rw [h2', h3]; exact ⟨h1, by omega⟩
    rcases J.yes p (by omega) h2 with h | h
    · left
      rw [hw] at h
      rcases List.mem_append.1 h with h | h
      · exact hAin p h
      exact absurd (by simpa using h) epq
    right
    rw [hf p (by omega) epq, hs p (by omega) epq]
    exact h
  · by_cases e : p = k
    · subst e; exact .inl hfk
    by_cases epq : p = q
    · subst epq
      rcases hq with ⟨h1, h2, _, _⟩ | ⟨_, h2, _, _⟩
      · right
        have := J.top p (by rw [hw]; simp) h1
        rw [h2]; omega
      rw [h2]; exact J.fip p (by omega)
    rw [hf p (by omega) epq]; exact J.fip p (by omega)
  · by_cases e : p = k
    · subst e; exact .inl hsk
    by_cases epq : p = q
    · subst epq
      rcases hq with ⟨h1, _, h3, _⟩ | ⟨h1, _, h3, _⟩
      · rw [h3]; exact J.sep p (by omega)
      right
      refine ⟨k, h3, ?_, by omega, hl.2⟩
      have h4 : lack s.fi p = 1 := by
        unfold lack
        rcases J.fip p (by omega) with h | h
        · exact absurd h h1
        rw [h, if_neg (by omega)]
      have := hl.1
      rw [h4] at this
      omega
    rw [hs p (by omega) epq]; exact J.sep p (by omega)
  · rcases hmem p hp with h | ⟨rfl, h⟩ | ⟨rfl, _⟩
    · exfalso
      have h2 := hAq p h
      rw [hf p h2.2 (by omega)] at h1
      have h3 := J.top p (by rw [hw]; simp [h]) h1
      omega
    · rcases hq with ⟨_, h2, _, _⟩ | ⟨h2, _, _, _⟩
      · rw [h2] at h1; omega
      exact absurd h h2
    rfl
  · have fin : ∀ A1 B0, A = A1 ++ p :: B0 → ∀ x : Int, B = B ∧ lacks s'.fi B = lacks s.fi B0 + x → (x = lack s.fi q - 1 + c) → 1 + pre xs (k + 1) - pre xs (p + 1) = lack s'.fi p - 1 + lacks s'.fi B ∧ ∀ t, p + 1 ≤ t → t < k + 1 → pre xs (p + 1) ≤ pre xs t := fun A1 B0 hA x hB hx => by
      have h1 := hold A1 p B0 hA
      have hpA : p ∈ A := by rw [hA]; simp
      have h2 := lack_pos s.fi p
      have h3 := lacks_pos s.fi B0
      have h4 := lack_pos s.fi q
      rw [hlA p hpA, hB.2, hpk]
      refine ⟨by omega, fun t ht ht2 => ?_⟩
      by_cases e2 : t = k
      · subst e2; omega
      exact h1.2 t ht (by omega)
    have newk : p = k → B = [] → 1 + pre xs (k + 1) - pre xs (p + 1) = lack s'.fi p - 1 + lacks s'.fi B ∧ ∀ t, p + 1 ≤ t → t < k + 1 → pre xs (p + 1) ≤ pre xs t := fun e1 e2 => by
      subst e1 e2
      rw [Ko]
      unfold lack
      rw [hfk]
      refine ⟨by simp <;> omega, fun t ht ht2 => by omega⟩
    rcases hq with ⟨h1, h2, _, h4⟩ | ⟨h1, h2, _, h4⟩
    · have hlq : lack s.fi q = 2 := by unfold lack; rw [h1]; simp
      have hlq' : lack s'.fi q = 1 := by unfold lack; rw [h2, if_neg (by omega)]
      rw [h4] at e
      rcases List.append_eq_append_iff.1 e with ⟨D, e1, e2⟩ | ⟨D, e1, e2⟩
      · -- p among E
        cases D with
        | nil =>
          rw [List.nil_append] at e2
          have hpE : p ∈ E := by rw [e2]; simp
          rcases hE with ⟨_, rfl⟩ | ⟨_, rfl⟩
          · simp at hpE
          simp only [List.cons.injEq] at e2
          exact newk e2.1.symm e2.2.symm
        | cons d D =>
          have hpE : p ∈ E := by rw [e2]; simp
          rcases hE with ⟨_, rfl⟩ | ⟨_, rfl⟩
          · simp at hpE
          simp at e2
      cases D with
      | nil =>
        rw [List.nil_append] at e2
        have hpE : p ∈ E := by rw [← e2]; simp
        rcases hE with ⟨_, rfl⟩ | ⟨_, rfl⟩
        · simp at hpE
        simp only [List.cons.injEq] at e2
        exact newk e2.1 e2.2
      | cons d D =>
        simp only [List.cons_append, List.cons.injEq] at e2
        obtain ⟨rfl, rfl⟩ := e2
        -- A ++ [q] = A' ++ p :: D, B = D ++ E
        rcases List.append_eq_append_iff.1 e1 with ⟨F, e3, e4⟩ | ⟨F, e3, e4⟩
        · cases F with
          | nil =>
            simp only [List.nil_append, List.cons.injEq] at e4
            obtain ⟨rfl, rfl⟩ := e4
            rw [List.nil_append, hEl, hlq', hpk]
            have h5 := hl.1
            rw [hlq] at h5
            refine ⟨by omega, fun t ht ht2 => ?_⟩
            by_cases e2 : t = k
            · subst e2; omega
            exact hl.2 t ht (by omega)
          | cons f F => simp at e4
        cases F with
        | nil =>
          simp only [List.nil_append, List.cons.injEq] at e4
          obtain ⟨rfl, rfl⟩ := e4
          rw [List.nil_append, hEl, hlq', hpk]
          have h5 := hl.1
          rw [hlq] at h5
          refine ⟨by omega, fun t ht ht2 => ?_⟩
          by_cases e2 : t = k
          · subst e2; omega
          exact hl.2 t ht (by omega)
        | cons f F =>
          simp only [List.cons_append, List.cons.injEq] at e4
          obtain ⟨rfl, rfl⟩ := e4
          refine fin A' F e3 (1 + c) ⟨rfl, ?_⟩ (by omega)
          rw [lacks_app, lacks_app, hEl, hlsA F (fun x hx => by rw [e3]; simp [hx])]
          have : lacks s'.fi [q] = lack s'.fi q := by simp [lacks]
          rw [this, hlq']; omega
    have hlq : lack s.fi q = 1 := by
      unfold lack
      rcases J.fip q hqk with h | h
      · exact absurd h h1
      rw [h, if_neg (by omega)]
    rw [h4] at e
    rcases List.append_eq_append_iff.1 e with ⟨D, e1, e2⟩ | ⟨D, e1, e2⟩
    · have hpE : p ∈ E := by rw [e2]; simp
      rcases hE with ⟨_, rfl⟩ | ⟨_, rfl⟩
      · simp at hpE
      cases D with
      | nil =>
        simp only [List.nil_append, List.cons.injEq] at e2
        exact newk e2.1.symm e2.2.symm
      | cons d D => simp at e2
    cases D with
    | nil =>
      rw [List.nil_append] at e2
      have hpE : p ∈ E := by rw [← e2]; simp
      rcases hE with ⟨_, rfl⟩ | ⟨_, rfl⟩
      · simp at hpE
      simp only [List.cons.injEq] at e2
      exact newk e2.1 e2.2
    | cons d D =>
      simp only [List.cons_append, List.cons.injEq] at e2
      obtain ⟨rfl, rfl⟩ := e2
      refine fin A' D e1 c ⟨rfl, ?_⟩ (by omega)
      rw [lacks_app, hEl, hlsA D (fun x hx => by rw [e1]; simp [hx])]
  rcases hmem p hp with h | ⟨rfl, _⟩ | ⟨rfl, h⟩
  · exact J.two1 p (by rw [hw]; simp [h])
  · exact hq2
  rw [hc]; exact h
theorem tj_one {xs : List Int} {c : Int} (hc : xs.getD 0 0 = c) (c02 : c = 0 ∨ c = 2) : TJ xs (trun xs 1) 1 := by
  have e : trun xs 1 = tstep ⟨fun _ => 0, fun _ => 0, fun _ => 0, []⟩ 0 c := by rw [← hc]; rfl
  have hk : tkid ⟨fun _ => 0, fun _ => 0, fun _ => 0, []⟩ 0 = ⟨up (fun _ => 0) 0 (-1), up (fun _ => 0) 0 (-1), up (fun _ => 0) 0 (-1), []⟩ := rfl
  rw [e]
  unfold tstep
  rw [hk]
  have h0 : ∀ p, p < 1 → up (fun _ => (0 : Int)) 0 (-1) p = -1 := fun p hp => by
    obtain rfl : p = 0 := by omega
    exact YK _ _ _
  have hp1 : pre xs 1 = c - 1 := by show 0 + (xs.getD 0 0 - 1) = _; rw [hc]; omega
  rcases c02 with rfl | rfl
  · rw [if_neg (by omega)]
    refine ⟨fun p hp _ => ⟨h0 p hp, h0 p hp⟩, fun p hp h => ?_, fun p hp => .inl (h0 p hp), fun p hp => .inl (h0 p hp), fun p hp => by simp at hp, fun A p B h => by simp at h, fun p hp => by simp at hp⟩
    obtain rfl : p = 0 := by omega
    rw [hc] at h; omega
  rw [if_pos rfl]
  refine ⟨fun p hp _ => ⟨h0 p hp, h0 p hp⟩, fun p hp h => ?_, fun p hp => .inl (h0 p hp), fun p hp => .inl (h0 p hp), fun p hp _ => ?_, fun A p B h => ?_, fun p hp => ?_⟩
  · obtain rfl : p = 0 := by omega
    left; simp
  · have : p = 0 := by simpa using hp
    omega
  · dsimp only [List.nil_append] at h
    cases A with
    | nil =>
      simp only [List.nil_append, List.cons.injEq] at h
      obtain ⟨rfl, rfl⟩ := h
      rw [Ko]
      have hL : lack (up (fun _ => (0 : Int)) 0 (-1)) 0 = 2 := by unfold lack; simp [up]
      refine ⟨?_, fun t h1 h2 => by omega⟩
      show 1 + pre xs 1 - pre xs (0 + 1) = lack (up (fun _ => (0 : Int)) 0 (-1)) 0 - 1 + 0
      rw [hL, Nat.zero_add]; omega
    | cons a A => simp at h
  have : p = 0 := by simpa using hp
  rw [this]; exact hc
theorem tj_run (xs : List Int) (hs : shp xs = true) : ∀ k, k ≤ xs.length → TJ xs (trun xs k) k
  | 0, _ => ⟨fun _ h => by omega, fun _ h => by omega, fun _ h => by omega, fun _ h => by omega, fun _ h => by simp [trun] at h, fun A p B h => by simp [trun] at h, fun _ h => by simp [trun] at h⟩
  | k + 1, hk => by
    have J := tj_run xs hs k (by omega)
    obtain ⟨m, hI, hF⟩ := run_ok xs hs k (by omega)
    have hd : xs.drop k = xs[k]'(by omega) :: xs.drop (k + 1) := List.drop_eq_getElem_cons (by omega)
    have hg : xs.getD k 0 = xs[k]'(by omega) := by simp [List.getD, List.getElem?_eq_getElem (show k < xs.length by omega)]
    rw [hd, shpF] at hF
    by_cases h0 : m = 0
    · rw [if_pos h0] at hF; cases hF
    rw [if_neg h0] at hF
    by_cases h1 : xs[k]'(by omega) ≠ 0 ∧ xs[k]'(by omega) ≠ 2
    · rw [if_pos h1] at hF; cases hF
    have c02 : xs.getD k 0 = 0 ∨ xs.getD k 0 = 2 := by rw [hg]; omega
    by_cases hk0 : k = 0
    · subst hk0; exact tj_one rfl c02
    have hm := hI.cnt
    rw [if_neg hk0] at hm
    have hne : (trun xs k).wt ≠ [] := fun e => by rw [e, Ko] at hm; exact h0 hm
    obtain ⟨q, hql⟩ : ∃ q, (trun xs k).wt.getLast? = some q := ⟨_, List.getLast?_eq_some_getLast hne⟩
    obtain ⟨A, hA⟩ : ∃ A, (trun xs k).wt = A ++ [q] := by
      obtain ⟨A, hA⟩ := List.getLast?_eq_some_iff.1 hql
      exact ⟨A, hA⟩
    have hqk : q < k := (hI.wlt q (by rw [hA]; simp)).1
    show TJ xs (tstep (trun xs k) k (xs.getD k 0)) (k + 1)
    generalize trun xs k = s at *
    have hqn : up s.fi k (-1) q = s.fi q := Y7 _ _ (by omega)
    have hE : (xs.getD k 0 = 0 ∧ (if xs.getD k 0 = 2 then [k] else []) = []) ∨ (xs.getD k 0 = 2 ∧ (if xs.getD k 0 = 2 then [k] else []) = [k]) := by
      rcases c02 with h | h <;> rw [h] <;> simp
    have key : ∀ s1 : TS, tkid s k = s1 → (∀ j, j < k → j ≠ q → s1.fi j = s.fi j) → (∀ j, j < k → j ≠ q → s1.se j = s.se j) → s1.fi k = -1 → s1.se k = -1 →
        ((s.fi q = -1 ∧ s1.fi q = k ∧ s1.se q = s.se q ∧ s1.wt = A ++ [q]) ∨ (s.fi q ≠ -1 ∧ s1.fi q = s.fi q ∧ s1.se q = k ∧ s1.wt = A)) → TJ xs (tstep s k (xs.getD k 0)) (k + 1) := fun s1 e g1 g2 g3 g4 g5 => by
      have e2 : tstep s k (xs.getD k 0) = ⟨s1.fi, s1.se, s1.pa, s1.wt ++ (if xs.getD k 0 = 2 then [k] else [])⟩ := by
        unfold tstep
        rw [e]
        rcases c02 with h | h <;> rw [h] <;> simp
      rw [e2]
      refine tj_step J hA (fun p hp => (hI.wlt p hp).1) hI.asc rfl hE g1 g2 g3 g4 ?_
      rcases g5 with ⟨a1, a2, a3, a4⟩ | ⟨a1, a2, a3, a4⟩
      · exact .inl ⟨a1, a2, a3, by dsimp only; rw [a4]⟩
      exact .inr ⟨a1, a2, a3, by dsimp only; rw [a4]⟩
    by_cases hf : s.fi q < 0
    · refine key ⟨up (up s.fi k (-1)) q k, up s.se k (-1), up (up s.pa k (-1)) k q, s.wt⟩ ?_ (fun j hj hjq => ?_) (fun j hj _ => Y7 _ _ (by omega)) ?_ (YK _ _ _) (.inl ⟨?_, YK _ _ _, Y7 _ _ (by omega), hA⟩)
      · unfold tkid; rw [hql]; dsimp only; rw [hqn, if_pos hf]
      · show up (up s.fi k (-1)) q k j = _
        rw [Y7 _ _ hjq, Y7 _ _ (by omega)]
      · show up (up s.fi k (-1)) q k k = _
        rw [Y7 _ _ (by omega), YK]
      rcases J.fip q hqk with h | h
      · exact h
      omega
    refine key ⟨up s.fi k (-1), up (up s.se k (-1)) q k, up (up s.pa k (-1)) k q, s.wt.dropLast⟩ ?_ (fun j hj _ => Y7 _ _ (by omega)) (fun j hj hjq => ?_) (YK _ _ _) ?_ (.inr ⟨by omega, Y7 _ _ (by omega), YK _ _ _, ?_⟩)
    · unfold tkid; rw [hql]; dsimp only; rw [hqn, if_neg hf]
    · show up (up s.se k (-1)) q k j = _
      rw [Y7 _ _ hjq, Y7 _ _ (by omega)]
    · show up (up s.se k (-1)) q k k = _
      rw [Y7 _ _ (by omega), YK]
    show s.wt.dropLast = A
    rw [hA]; simp
theorem tree_kids {xs : List Int} (hs : shp xs = true) {i : Nat} (hi : i < xs.length) :
    (xs.getD i 0 ≠ 2 → (trun xs xs.length).fi i = -1 ∧ (trun xs xs.length).se i = -1) ∧
    (xs.getD i 0 = 2 → (trun xs xs.length).fi i = i + 1 ∧ ∃ e : Nat, (trun xs xs.length).se i = e ∧ pre xs e + 1 = pre xs (i + 1) ∧ i + 1 ≤ e ∧ ∀ t, i + 1 ≤ t → t < e → pre xs (i + 1) ≤ pre xs t) := by
  have J := tj_run xs hs xs.length (Nat.le_refl _)
  have hw := (tree_ok xs hs).2
  refine ⟨J.no2 i hi, fun h => ?_⟩
  rcases J.yes i hi h with h2 | ⟨h2, h3⟩
  · rw [hw] at h2; simp at h2
  exact ⟨(J.fip i hi).resolve_left h2, (J.sep i hi).resolve_left h3⟩
theorem pre_succ {xs : List Int} {t : Nat} (h : t < xs.length) : pre xs (t + 1) = pre xs t + (xs[t] - 1) := by
  show pre xs t + (xs.getD t 0 - 1) = _
  rw [List.getD_eq_getElem?_getD, List.getElem?_eq_getElem h]; rfl
theorem shp_02 {xs : List Int} (hs : shp xs = true) {t : Nat} (h : t < xs.length) : xs[t] = 0 ∨ xs[t] = 2 := by
  obtain ⟨m, hI, hF⟩ := run_ok xs hs t (by omega)
  rw [List.drop_eq_getElem_cons h, shpF] at hF
  split at hF
  · cases hF
  split at hF
  · cases hF
  omega
theorem pre_bd {xs : List Int} (hs : shp xs = true) : ∀ k, k ≤ xs.length → -(k : Int) ≤ pre xs k ∧ pre xs k ≤ k
  | 0, _ => by simp [pre]
  | k + 1, hk => by
    have h1 := pre_bd hs k (by omega)
    have h2 := shp_02 hs (show k < xs.length by omega)
    rw [pre_succ (by omega)]
    omega
end Tr
end Go.Proofs.Ytoefmdjgnabgfaa

namespace Go.Proofs.Ytoefmdjgnabgfaa
open Go.RowKit Go.Deep
variable {J : World → Prop}
section
variable {P : Program} {w0 : Wb} {h : AHeap} {t : ATm}
theorem tri_end3 {fn : Func} {r r' r'' : ResultVar} {X X' X'' u : AV} (hr : fn.results = #[r, r', r'']) (h1 : ResV P h t r X) (h2 : ResV P h t r' X') (h3 : ResV P h t r'' X'') (hu : (AV.tup [X, X', X'']).out3 h = u) : ETri J w0 h t (bodyPost P fn (RetP w0 u) .ret) := fun ρ a w s => by
  subst hu
  obtain ⟨v, g1, g2⟩ := res_one s h1
  obtain ⟨v', g1', g2'⟩ := res_one s h2
  obtain ⟨v'', g1'', g2''⟩ := res_one s h3
  refine ⟨s.df, .tuple #[v, v', v''], ?_, _, rfl, s.out3 (.tup rfl fun j hj => ?_), s.bel⟩
  · unfold results
    rw [hr, Sem.run_bind, mapM_three (v := v) (v' := v') (v'' := v'') (by cases r <;> exact g1) (by cases r' <;> exact g1') (by cases r'' <;> exact g1'')]
    rfl
  simp only [List.length_cons, List.length_nil] at hj
  match j, hj with
  | 0, _ => exact g2
  | 1, _ => exact g2'
  | 2, _ => exact g2''
end
end Go.Proofs.Ytoefmdjgnabgfaa

namespace Go.Proofs.Ytoefmdjgnabgfaa
set_option maxRecDepth 100000
set_option maxHeartbeats 6400000
open Go.RowKit Go.Deep
variable {J : World → Prop}
theorem Jd.in_w {n i : Nat} (h : i < n) : Rd.inW 0 (((n : Nat) : Int) - 1) ((i : Nat) : Int) = true := by
  unfold Rd.inW
  rw [decide_eq_true (by omega), decide_eq_true (by omega)]; rfl
theorem Jd.ringS {sh : List Int} {n i : Nat} (hi : i < n) : (((i + 1 : Nat) : Nat) : Int).tmod ((n : Nat) : Int) = Jd.lkS 3 sh n i := by
  unfold Jd.lkS rowL
  rw [if_neg (by omega)]
  dsimp only
  by_cases e : ((i : Nat) : Int) = ((n : Nat) : Int) - 1
  · rw [if_pos e, if_pos rfl, show (((i + 1 : Nat) : Nat) : Int) = ((n : Nat) : Int) by omega, Int.tmod_self]
  rw [if_neg e, Int.tmod_eq_of_lt (by omega) (by omega)]; omega
theorem Jd.t_2 {sh : List Int} (hs : shp sh = true) {i : Nat} (hi : i < sh.length) (h : sh[i] = 2) : Jd.lkF 4 sh sh.length i = ((i + 1 : Nat) : Int) ∧ Jd.lkS 4 sh sh.length i = (trun sh sh.length).se i := by
  have := ((Tr.tree_kids hs hi).2 (by rw [Ct.getD_at hi]; exact h)).1
  unfold Jd.lkF Jd.lkS
  rw [if_pos rfl, if_pos rfl, this]
  exact ⟨by omega, rfl⟩
theorem Jd.t_0 {sh : List Int} (hs : shp sh = true) {i : Nat} (hi : i < sh.length) (h : ¬ sh[i] = 2) : Jd.lkF 4 sh sh.length i = -1 ∧ Jd.lkS 4 sh sh.length i = -1 := by
  have := (Tr.tree_kids hs hi).1 (by rw [Ct.getD_at hi]; exact h)
  unfold Jd.lkF Jd.lkS
  rw [if_pos rfl, if_pos rfl]
  exact this
theorem pu_any3 {F ok : Nat → Prop} {w : World} {a b c : Int} {v : Value} (h : Pu F w ok (.tup [iv a, iv b, iv c]) v) : Pu F w ok (.tup [iv a, iv b, .any]) v := by
  cases h with
  | tup hl h =>
    exact .tup hl fun j hj => (match j, hj with
      | 0, _ => h 0 (by simp)
      | 1, _ => h 1 (by simp)
      | 2, _ => .any _)
theorem end_c {xs : List Int} (hs : shp xs = true) (lx : xs.length ≤ 100) {j E : Nat} (hj1 : j ≤ E) (hE : Tr.pre xs E + 1 = Tr.pre xs j) (hP : ∀ t, j ≤ t → t < E → Tr.pre xs j ≤ Tr.pre xs t) (hl : E ≤ xs.length) : Ctr Try.prog J 93 [Ze xs, iv j] (iv ((E : Nat) : Int)) := by
 refine ZI Try.func93 rfl (by intro X hX; simp only [List.mem_cons, List.not_mem_nil, or_false] at hX; rcases hX with rfl | rfl; exact Z5 _; exact .v _) (n := 18) rfl (by simp) (fun w0 => ?_)
 refine kW 18 [] [(0, Ze xs), (1, iv j)] (Zb (Za (pM (aC (.int .i64 0)) (kN 18 [] [(0, Ze xs), (1, iv j), (4, iv 0)] (Zc (Zb (Za (pM (aC (.int .i64 1)) (kN 18 [] [(0, Ze xs), (1, iv j), (4, iv 0), (5, iv 1)] (Zc (Zb ?_)))))))))))
 refine Zz ?_
 refine Yb (σ := {s : Nat × Int // j ≤ s.1 ∧ s.1 ≤ E ∧ s.2 = 1 + Tr.pre xs s.1 - Tr.pre xs j}) (fun s => (ofL [], ofT 18 [(0, Ze xs), (1, iv s.1.1), (4, iv 0), (5, iv s.1.2)])) (fun s => E - s.1.1) ⟨(j, 1), Nat.le_refl _, hj1, by dsimp only; omega⟩ (Zw [] _ rfl (by kernel_rfl) (by kernel_rfl)) (fun s => ?_)
 obtain ⟨⟨t, o⟩, ht0, ht1, hto⟩ := s
 show ETri J w0 (ofL []) (ofT 18 [(0, Ze xs), (1, iv t), (4, iv 0), (5, iv o)]) _
 dsimp only at ht0 ht1 hto
 have hb1 := Tr.pre_bd hs t (by omega)
 have hb2 := Tr.pre_bd hs j (by omega)
 refine Zb (Zb ?_)
 by_cases hs1 : 0 < o
 have ht2 : t < E := by
    rcases Nat.lt_or_ge t E with h | h
    · exact h
    exfalso; have e : t = E := by omega
    subst e; omega
 have ht3 : t < xs.length := by omega
 have h02 := Tr.shp_02 hs ht3
 refine Za (pM (mT 5 (iv o)) (oC (Z9 rfl (dT hs1)) I0 I0 (kN 18 [] [(0, Ze xs), (1, iv t), (4, iv 0), (5, iv o), (7, bv true)] (Zc (Zu rfl (Zk (Zc (Zz (Zb (Za (pM (mT 5 (iv o)) ?_)))))))))))
 refine pM (mT 0 (Ze xs)) (pM (mT 1 (iv t)) (oC (Zo (off := t * 1) (.tmp 9) (.tmp 10) rfl U24 (by kernel_rfl) (by omega) (by omega) rfl) I0 I0 (oA (Zp (X := iv xs[t]) (.tmp 11) rfl U3 rfl (ZN xs (by omega))) I0 (oC (Yn (c := xs[t] - 1) rfl (w64 (by omega) (by omega) (by omega))) I0 I0 (oC (ZV (c := o + xs[t] - 1) rfl (w64 (by omega) (by omega) (by omega))) I0 I0 (pM (aT 14 (iv (o + xs[t] - 1))) (kN 18 [] [(0, Ze xs), (1, iv t), (4, iv 0), (5, iv (o + xs[t] - 1)), (7, bv true)] (Zc (Za (pM (mT 1 (iv t)) (oC (ZV (c := ((t + 1 : Nat) : Int)) rfl (w64 (by omega) (by omega) (by omega))) I0 I0 ?_)))))))))))
 refine pM (aT 16 (iv (t + 1 : Nat))) (kN 18 [] [(0, Ze xs), (1, iv (t + 1 : Nat)), (4, iv 0), (5, iv (o + xs[t] - 1)), (7, bv true)] (ZU (Zc ?_)))
 refine ZH ⟨(t + 1, o + xs[t] - 1), by dsimp only; omega, by dsimp only; omega, by dsimp only; rw [Tr.pre_succ ht3]; omega⟩ (show E - (t + 1) < E - t by omega) ?_
 show Wk _ _ (ofL []) (ofT 18 [(0, Ze xs), (1, iv ((t + 1) : Nat)), (4, iv 0), (5, iv (o + xs[t] - 1))])
 exact Zw [] _ rfl (by kernel_rfl) (by kernel_rfl)
 have ht2 : t = E := by
    rcases Nat.lt_or_ge t E with h | h
    · exfalso; have := hP t ht0 h; omega
    omega
 refine Za (pM (mT 5 (iv o)) (oC (Z9 rfl (dF hs1)) I0 I0 (kN 18 [] [(0, Ze xs), (1, iv t), (4, iv 0), (5, iv o), (7, bv false)] (Zc (Zn rfl (Z8 (Zx (Zx (YN (Zc (Zb ?_)))))))))))
 refine Za (pM (mT 1 (iv t)) (pM (aT 17 (iv t)) (Zv (Zc (Zt ?_)))))
 refine Zr Try.results93 (.tmp rfl) ?_
 subst ht2
 exact rfl
theorem endT_c {xs : List Int} (hs : shp xs = true) (lx : xs.length ≤ 100) {i : Nat} (hi : i < xs.length) (h2 : xs[i] = 2) : Ctr Try.prog J 93 [Ze xs, iv ((i + 1 : Nat) : Int)] (iv ((trun xs xs.length).se i)) := by
  obtain ⟨_, e, he, h3, h4, h5⟩ := (Tr.tree_kids hs hi).2 (by rw [Ct.getD_at hi]; exact h2)
  have T := (tree_ok xs hs).1.snd i hi
  rw [he]
  refine end_c hs lx h4 h3 h5 ?_
  rcases T with h | ⟨j, hj, h, _⟩ <;> omega
theorem nbRing_c {n i : Nat} (hi : i < n) (hn : n ≤ 100) {sh : List Int} : Ctr Try.prog J 68 [iv 3, Ze sh, iv n, iv i] (.tup [iv (Jd.lkF 3 sh n i), iv (Jd.lkS 3 sh n i), iv (-1)]) := by
 refine ZI Try.func68 rfl (by intro X hX; simp only [List.mem_cons, List.not_mem_nil, or_false] at hX; rcases hX with rfl | rfl | rfl | rfl; exact .v _; exact Z5 _; exact .v _; exact .v _) (n := 99) rfl (by simp) (fun w0 => ?_)
 refine kW 99 [] [(0, iv 3), (1, Ze sh), (2, iv n), (3, iv i)] (Zb (Za (pM (aC (.int .i64 0)) (pM (aC (.int .i64 0)) (pM (aC (.int .i64 0)) (kN 99 [] [(0, iv 3), (1, Ze sh), (2, iv n), (3, iv i), (8, iv 0), (9, iv 0), (10, iv 0)] (Zc (Zb (Zb (Za (pM (mT 3 (iv i)) ?_)))))))))))
 refine pM (mT 2 (iv n)) (oC (Yn (c := ((n : Nat) : Int) - 1) rfl (w64 (by omega) (by omega) (by omega))) I0 I0 (Yl rfl (Zm (c := .func 67) (xs := #[.tmp 18, .const (.int .i64 0), .tmp 20]) [] (ZJ win_c (Jd.in_w hi)) rfl (by kernel_rfl) rfl (Xs := [iv i, iv 0, iv (((n : Nat) : Int) - 1)]) rfl rfl rfl) ⟨I0, I0, I0, I0, T0⟩ T0 T0 (oA (ZC rfl rfl) I0 (kN 99 [] [(0, iv 3), (1, Ze sh), (2, iv n), (3, iv i), (8, iv 0), (9, iv 0), (10, iv 0), (22, bv false)] (Zc (Zn rfl (Zk (Zc (Zb (Zb (Za ?_)))))))))))
 refine pM (mT 0 (iv 3)) (oC (ZA (r := true) rfl (by decide)) I0 I0 (kN 99 [] [(0, iv 3), (1, Ze sh), (2, iv n), (3, iv i), (8, iv 0), (9, iv 0), (10, iv 0), (24, bv true)] (Zc (Zu rfl (Zb (Za (pM (mT 3 (iv i)) (oC (Yn (c := ((i : Nat) : Int) - 1) rfl (w64 (by omega) (by omega) (by omega))) I0 I0 (pM (aT 26 (iv (((i : Nat) : Int) - 1))) (kN 99 [] [(0, iv 3), (1, Ze sh), (2, iv n), (3, iv i), (8, iv 0), (9, iv 0), (10, iv 0), (11, iv (((i : Nat) : Int) - 1))] (Zc ?_)))))))))))
 refine Zb (Zb ?_)
 by_cases hs1 : ((i : Nat) : Int) = 0
 refine Za (pM (mT 3 (iv i)) (oC (ZA rfl (dT hs1)) I0 I0 (kN 99 [] [(0, iv 3), (1, Ze sh), (2, iv n), (3, iv i), (8, iv 0), (9, iv 0), (10, iv 0), (11, iv (((i : Nat) : Int) - 1)), (28, bv true)] (Zc (Zu rfl (Za (pM (mT 2 (iv n)) (oC (Yn (c := ((n : Nat) : Int) - 1) rfl (w64 (by omega) (by omega) (by omega))) I0 I0 (pM (aT 30 (iv (((n : Nat) : Int) - 1))) (kN 99 [] [(0, iv 3), (1, Ze sh), (2, iv n), (3, iv i), (8, iv 0), (9, iv 0), (10, iv 0), (11, iv (((n : Nat) : Int) - 1))] (Zc ?_)))))))))))
 refine Zb ?_
 refine ZQ (dM (mT 11 (iv (((n : Nat) : Int) - 1))) (dM (mT 3 (iv i)) (dC (ZV (c := ((i + 1 : Nat) : Int)) rfl (w64 (by omega) (by omega) (by omega))) I0 I0 (dM (mT 2 (iv n)) (dC (sp_rem (c := (Jd.lkS 3 sh n i)) rfl (by omega) (Jd.ringS hi)) I0 I0 (dM (aT 31 (iv (((n : Nat) : Int) - 1))) (dM (aT 35 (iv (Jd.lkS 3 sh n i))) (dM (aC (.int .i64 (-1))) (dE ?_))))))))) (by kernel_rfl)
 show ETri J w0 _ _ _
 refine Zc (Zt (Zd ?_))
 refine tri_end3 Try.results68 (.tmp rfl) (.tmp rfl) (.tmp rfl) ?_
 rw [show Jd.lkF 3 sh n i = ((n : Nat) : Int) - 1 by unfold Jd.lkF rowL; rw [if_neg (by omega)]; dsimp only; rw [if_pos ⟨rfl, hs1⟩]]
 exact rfl
 refine Za (pM (mT 3 (iv i)) (oC (ZA rfl (dF hs1)) I0 I0 (kN 99 [] [(0, iv 3), (1, Ze sh), (2, iv n), (3, iv i), (8, iv 0), (9, iv 0), (10, iv 0), (11, iv (((i : Nat) : Int) - 1)), (28, bv false)] (Zc (Zn rfl (Zk (Zc (Zb ?_))))))))
 refine ZQ (dM (mT 11 (iv (((i : Nat) : Int) - 1))) (dM (mT 3 (iv i)) (dC (ZV (c := ((i + 1 : Nat) : Int)) rfl (w64 (by omega) (by omega) (by omega))) I0 I0 (dM (mT 2 (iv n)) (dC (sp_rem (c := (Jd.lkS 3 sh n i)) rfl (by omega) (Jd.ringS hi)) I0 I0 (dM (aT 31 (iv (((i : Nat) : Int) - 1))) (dM (aT 35 (iv (Jd.lkS 3 sh n i))) (dM (aC (.int .i64 (-1))) (dE ?_))))))))) (by kernel_rfl)
 show ETri J w0 _ _ _
 refine Zc (Zt (Zd ?_))
 refine tri_end3 Try.results68 (.tmp rfl) (.tmp rfl) (.tmp rfl) ?_
 rw [show Jd.lkF 3 sh n i = ((i : Nat) : Int) - 1 by unfold Jd.lkF rowL; rw [if_neg (by omega)]; dsimp only; rw [if_neg fun h => hs1 h.2]]
 exact rfl
theorem nbLine_c {n i : Nat} (hi : i < n) (hn : n ≤ 100) {sh : List Int} : Ctr Try.prog J 68 [iv 2, Ze sh, iv n, iv i] (.tup [iv (Jd.lkF 2 sh n i), iv (Jd.lkS 2 sh n i), iv (-1)]) := by
 refine ZI Try.func68 rfl (by intro X hX; simp only [List.mem_cons, List.not_mem_nil, or_false] at hX; rcases hX with rfl | rfl | rfl | rfl; exact .v _; exact Z5 _; exact .v _; exact .v _) (n := 99) rfl (by simp) (fun w0 => ?_)
 refine kW 99 [] [(0, iv 2), (1, Ze sh), (2, iv n), (3, iv i)] (Zb (Za (pM (aC (.int .i64 0)) (pM (aC (.int .i64 0)) (pM (aC (.int .i64 0)) (kN 99 [] [(0, iv 2), (1, Ze sh), (2, iv n), (3, iv i), (8, iv 0), (9, iv 0), (10, iv 0)] (Zc (Zb (Zb (Za (pM (mT 3 (iv i)) ?_)))))))))))
 refine pM (mT 2 (iv n)) (oC (Yn (c := ((n : Nat) : Int) - 1) rfl (w64 (by omega) (by omega) (by omega))) I0 I0 (Yl rfl (Zm (c := .func 67) (xs := #[.tmp 18, .const (.int .i64 0), .tmp 20]) [] (ZJ win_c (Jd.in_w hi)) rfl (by kernel_rfl) rfl (Xs := [iv i, iv 0, iv (((n : Nat) : Int) - 1)]) rfl rfl rfl) ⟨I0, I0, I0, I0, T0⟩ T0 T0 (oA (ZC rfl rfl) I0 (kN 99 [] [(0, iv 2), (1, Ze sh), (2, iv n), (3, iv i), (8, iv 0), (9, iv 0), (10, iv 0), (22, bv false)] (Zc (Zn rfl (Zk (Zc (Zb (Zb (Za ?_)))))))))))
 refine pM (mT 0 (iv 2)) (oC (ZA (r := false) rfl (by decide)) I0 I0 (kN 99 [] [(0, iv 2), (1, Ze sh), (2, iv n), (3, iv i), (8, iv 0), (9, iv 0), (10, iv 0), (24, bv false)] (Zc (Zn rfl (Zk (Zc (Zb (Zb (Za (pM (mT 0 (iv 2)) (oC (ZA (r := true) rfl (by decide)) I0 I0 ?_)))))))))))
 refine kN 99 [] [(0, iv 2), (1, Ze sh), (2, iv n), (3, iv i), (8, iv 0), (9, iv 0), (10, iv 0), (37, bv true)] (Zc (Zu rfl (Zb (Za (pM (mT 3 (iv i)) (oC (Yn (c := ((i : Nat) : Int) - 1) rfl (w64 (by omega) (by omega) (by omega))) I0 I0 (pM (mT 3 (iv i)) (oC (ZV (c := ((i + 1 : Nat) : Int)) rfl (w64 (by omega) (by omega) (by omega))) I0 I0 (pM (aT 39 (iv (((i : Nat) : Int) - 1))) (pM (aT 41 (iv (i + 1 : Nat))) (kN 99 [] [(0, iv 2), (1, Ze sh), (2, iv n), (3, iv i), (8, iv 0), (9, iv 0), (10, iv 0), (12, iv (((i : Nat) : Int) - 1)), (13, iv (i + 1 : Nat))] ?_)))))))))))
 refine Zc (Zb (Zb ?_))
 by_cases hs1 : ((i + 1 : Nat) : Int) = ((n : Nat) : Int)
 refine Za (pM (mT 13 (iv (i + 1 : Nat))) (pM (mT 2 (iv n)) (oC (ZA rfl (dT hs1)) I0 I0 (kN 99 [] [(0, iv 2), (1, Ze sh), (2, iv n), (3, iv i), (8, iv 0), (9, iv 0), (10, iv 0), (12, iv (((i : Nat) : Int) - 1)), (13, iv (i + 1 : Nat)), (44, bv true)] (Zc (Zu rfl (Za (pM (aC (.int .i64 (-1))) (kN 99 [] [(0, iv 2), (1, Ze sh), (2, iv n), (3, iv i), (8, iv 0), (9, iv 0), (10, iv 0), (12, iv (((i : Nat) : Int) - 1)), (13, iv (-1))] (Zc (Zb ?_)))))))))))
 refine Za (pM (mT 12 (iv (((i : Nat) : Int) - 1))) (pM (mT 13 (iv (-1))) (pM (aT 45 (iv (((i : Nat) : Int) - 1))) (pM (aT 46 (iv (-1))) (pM (aC (.int .i64 (-1))) (Zv (Zc (Zt (Zd ?_)))))))))
 refine tri_end3 Try.results68 (.tmp rfl) (.tmp rfl) (.tmp rfl) ?_
 rw [show Jd.lkF 2 sh n i = ((i : Nat) : Int) - 1 by unfold Jd.lkF rowL; rw [if_neg (by omega)]; dsimp only; rw [if_neg (by omega)], show Jd.lkS 2 sh n i = (-1) by unfold Jd.lkS rowL; rw [if_neg (by omega)]; dsimp only; rw [if_pos (by omega), if_neg (by omega)]]
 exact rfl
 refine Za (pM (mT 13 (iv (i + 1 : Nat))) (pM (mT 2 (iv n)) (oC (ZA rfl (dF hs1)) I0 I0 (kN 99 [] [(0, iv 2), (1, Ze sh), (2, iv n), (3, iv i), (8, iv 0), (9, iv 0), (10, iv 0), (12, iv (((i : Nat) : Int) - 1)), (13, iv (i + 1 : Nat)), (44, bv false)] (Zc (Zn rfl (Zk (Zc (Zb (Za (pM (mT 12 (iv (((i : Nat) : Int) - 1))) ?_)))))))))))
 refine pM (mT 13 (iv (i + 1 : Nat))) (pM (aT 45 (iv (((i : Nat) : Int) - 1))) (pM (aT 46 (iv (i + 1 : Nat))) (pM (aC (.int .i64 (-1))) (Zv (Zc (Zt (Zd ?_)))))))
 refine tri_end3 Try.results68 (.tmp rfl) (.tmp rfl) (.tmp rfl) ?_
 rw [show Jd.lkF 2 sh n i = ((i : Nat) : Int) - 1 by unfold Jd.lkF rowL; rw [if_neg (by omega)]; dsimp only; rw [if_neg (by omega)], show Jd.lkS 2 sh n i = ((i + 1 : Nat) : Int) by unfold Jd.lkS rowL; rw [if_neg (by omega)]; dsimp only; rw [if_neg (by omega)]; omega]
 exact rfl
theorem nbTree_c {sh : List Int} (hI : InOk sh) (hs : shp sh = true) (lsh : sh.length ≤ 100) {i : Nat} (hi : i < sh.length) : Ctr Try.prog J 68 [iv 4, Ze sh, iv sh.length, iv i] (.tup [iv (Jd.lkF 4 sh sh.length i), iv (Jd.lkS 4 sh sh.length i), .any]) := by
 refine ZI Try.func68 rfl (by intro X hX; simp only [List.mem_cons, List.not_mem_nil, or_false] at hX; rcases hX with rfl | rfl | rfl | rfl; exact .v _; exact Z5 _; exact .v _; exact .v _) (n := 99) rfl (by simp) (fun w0 => ?_)
 refine kW 99 [] [(0, iv 4), (1, Ze sh), (2, iv sh.length), (3, iv i)] (Zb (Za (pM (aC (.int .i64 0)) (pM (aC (.int .i64 0)) (pM (aC (.int .i64 0)) (kN 99 [] [(0, iv 4), (1, Ze sh), (2, iv sh.length), (3, iv i), (8, iv 0), (9, iv 0), (10, iv 0)] (Zc (Zb (Zb (Za (pM (mT 3 (iv i)) ?_)))))))))))
 refine pM (mT 2 (iv sh.length)) (oC (Yn (c := ((sh.length : Nat) : Int) - 1) rfl (w64 (by omega) (by omega) (by omega))) I0 I0 (Yl rfl (Zm (c := .func 67) (xs := #[.tmp 18, .const (.int .i64 0), .tmp 20]) [] (ZJ win_c (Jd.in_w hi)) rfl (by kernel_rfl) rfl (Xs := [iv i, iv 0, iv (((sh.length : Nat) : Int) - 1)]) rfl rfl rfl) ⟨I0, I0, I0, I0, T0⟩ T0 T0 (oA (ZC rfl rfl) I0 (kN 99 [] [(0, iv 4), (1, Ze sh), (2, iv sh.length), (3, iv i), (8, iv 0), (9, iv 0), (10, iv 0), (22, bv false)] (Zc (Zn rfl (Zk (Zc (Zb (Zb (Za ?_)))))))))))
 refine pM (mT 0 (iv 4)) (oC (ZA (r := false) rfl (by decide)) I0 I0 (kN 99 [] [(0, iv 4), (1, Ze sh), (2, iv sh.length), (3, iv i), (8, iv 0), (9, iv 0), (10, iv 0), (24, bv false)] (Zc (Zn rfl (Zk (Zc (Zb (Zb (Za (pM (mT 0 (iv 4)) (oC (ZA (r := false) rfl (by decide)) I0 I0 ?_)))))))))))
 refine kN 99 [] [(0, iv 4), (1, Ze sh), (2, iv sh.length), (3, iv i), (8, iv 0), (9, iv 0), (10, iv 0), (37, bv false)] (Zc (Zn rfl (Zk (Zc (Zb (Zb (Za (pM (mT 0 (iv 4)) (oC (ZE (r := false) rfl (by decide)) I0 I0 (pM (mT 48 (bv false)) (qM (mT 1 (Ze sh)) ?_)))))))))))
 refine gA (Zi (.tmp 50) rfl U24) I0 (qM (mT 2 (iv sh.length)) (gC (ZE rfl (dT' rfl)) I0 I0 (pP (Zf (.tmp 49) (.const (.bool true)) (.tmp 53) false (bv true) (bv false) rfl) (pM (mT 54 (bv false)) (qM (mT 1 (Ze sh)) (gC (Zm (c := .func 36) (xs := #[.tmp 56]) [] (ZJ (Rd.IsShape_c hI lsh) hs) rfl (by kernel_rfl) rfl (Xs := [Ze sh]) rfl rfl rfl) I0 I0 (gA (ZC rfl rfl) I0 (pP (Zf (.tmp 55) (.const (.bool true)) (.tmp 58) false (bv true) (bv false) rfl) (kN 99 [] [(1, Ze sh), (3, iv i), (8, iv 0), (9, iv 0), (10, iv 0), (59, bv false)] (Zc (Zn rfl ?_)))))))))))
 refine Zk (Zc (Zb (Za (pM (aC (.int .i64 (-1))) (pM (aC (.int .i64 (-1))) (pM (aC (.int .i64 (-1))) (kN 99 [] [(1, Ze sh), (3, iv i), (8, iv 0), (9, iv 0), (10, iv 0), (14, iv (-1)), (15, iv (-1)), (16, iv (-1))] (Zc (Zb (Zb ?_))))))))))
 by_cases hs1 : sh[i] = 2
 refine Za (pM (mT 1 (Ze sh)) (pM (mT 3 (iv i)) (oC (Zo (off := i * 1) (.tmp 60) (.tmp 61) rfl U24 (by kernel_rfl) (by omega) (by omega) rfl) I0 I0 (oA (Zp (X := iv sh[i]) (.tmp 62) rfl U3 rfl (ZN sh (by omega))) I0 (oC (ZA rfl (dT hs1)) I0 I0 (kN 99 [] [(1, Ze sh), (3, iv i), (8, iv 0), (9, iv 0), (10, iv 0), (14, iv (-1)), (15, iv (-1)), (16, iv (-1)), (64, bv true)] (Zc (Zu rfl (Zb (Za (pM (mT 3 (iv i)) ?_)))))))))))
 refine oC (ZV (c := ((i + 1 : Nat) : Int)) rfl (w64 (by omega) (by omega) (by omega))) I0 I0 (pM (aT 66 (iv (i + 1 : Nat))) (kN 99 [] [(1, Ze sh), (3, iv i), (8, iv 0), (9, iv 0), (10, iv 0), (14, iv (i + 1 : Nat)), (15, iv (-1)), (16, iv (-1))] (Zc (Za (pM (mT 1 (Ze sh)) (pM (mT 3 (iv i)) (oC (ZV (c := ((i + 1 : Nat) : Int)) rfl (w64 (by omega) (by omega) (by omega))) I0 I0 (oD (Zm (c := .func 93) (xs := #[.tmp 67, .tmp 69]) [] (endT_c hs lsh (by omega) hs1) rfl (by kernel_rfl) rfl (Xs := [Ze sh, iv (i + 1 : Nat)]) rfl rfl rfl) I0 I0 I0 (pM (aT 70 (iv ((trun sh sh.length).se i))) (kN 99 [] [(1, Ze sh), (3, iv i), (8, iv 0), (9, iv 0), (10, iv 0), (14, iv (i + 1 : Nat)), (15, iv ((trun sh sh.length).se i)), (16, iv (-1))] (Zc ?_)))))))))))
 refine Zb (Zb (Za (pM (aC (.int .i64 0)) (kN 99 [] [(1, Ze sh), (3, iv i), (8, iv 0), (9, iv 0), (10, iv 0), (14, iv (i + 1 : Nat)), (15, iv ((trun sh sh.length).se i)), (16, iv (-1)), (17, iv 0)] (Zc (Zz ?_))))))
 refine Yb (σ := {k : Nat // k ≤ i}) (fun s => (ofL [], ofT 99 [(1, Ze sh), (3, iv i), (8, iv 0), (9, iv 0), (10, iv 0), (14, iv (i + 1 : Nat)), (15, iv ((trun sh sh.length).se i)), (17, iv s.1)])) (fun s => i - s.1) ⟨0, Nat.zero_le _⟩ (Zw [] _ rfl (by kernel_rfl) (by kernel_rfl)) (fun s => ?_)
 obtain ⟨k, hk0⟩ := s
 show ETri J w0 (ofL []) (ofT 99 [(1, Ze sh), (3, iv i), (8, iv 0), (9, iv 0), (10, iv 0), (14, iv (i + 1 : Nat)), (15, iv ((trun sh sh.length).se i)), (17, iv k)]) _
 refine Zb (Zb ?_)
 by_cases hs2 : ((k : Nat) : Int) < ((i : Nat) : Int)
 refine Za (pM (mT 17 (iv k)) (pM (mT 3 (iv i)) (oC (ZT rfl (dT hs2)) I0 I0 (kN 99 [] [(1, Ze sh), (3, iv i), (8, iv 0), (9, iv 0), (10, iv 0), (14, iv (i + 1 : Nat)), (15, iv ((trun sh sh.length).se i)), (17, iv k), (73, bv true)] (Zc (Zu rfl (Zk (Zc (Zb (Zz (Zb ?_)))))))))))
 by_cases hs3 : sh[k] = 2
 by_cases hs4 : ((k + 1 : Nat) : Int) = ((i : Nat) : Int)
 refine Za (pM (mT 1 (Ze sh)) (pM (mT 17 (iv k)) (oC (Zo (off := k * 1) (.tmp 76) (.tmp 77) rfl U24 (by kernel_rfl) (by omega) (by omega) rfl) I0 I0 (oA (Zp (X := iv sh[k]) (.tmp 78) rfl U3 rfl (ZN sh (by omega))) I0 (oC (ZA rfl (dT hs3)) I0 I0 (pM (mT 80 (bv true)) (qM (mT 17 (iv k)) (gC (ZV (c := ((k + 1 : Nat) : Int)) rfl (w64 (by omega) (by omega) (by omega))) I0 I0 (qM (mT 3 (iv i)) (gC (ZA rfl (dT hs4)) I0 I0 (qM (mT 85 (bv true)) ?_)))))))))))
 refine qK (qK (qK (qK (qK (qK (qP (Zf (.tmp 86) (.const (.bool true)) (.tmp 92) true (bv true) (.v (.tuple #[])) rfl) (pP (Zf (.tmp 81) (.tmp 93) (.const (.bool false)) true (bv true) (bv false) rfl) (kN 99 [] [(1, Ze sh), (3, iv i), (8, iv 0), (9, iv 0), (10, iv 0), (14, iv (i + 1 : Nat)), (15, iv ((trun sh sh.length).se i)), (17, iv k), (73, bv true), (94, bv true)] (Zc (Zu rfl (Za ?_)))))))))))
 refine pM (mT 17 (iv k)) (pM (aT 95 (iv k)) (kN 99 [] [(1, Ze sh), (3, iv i), (8, iv 0), (9, iv 0), (10, iv 0), (14, iv (i + 1 : Nat)), (15, iv ((trun sh sh.length).se i)), (16, iv k), (17, iv k), (73, bv true), (94, bv true)] (ZU (Zc (Za (pM (mT 17 (iv k)) (oC (ZV (c := ((k + 1 : Nat) : Int)) rfl (w64 (by omega) (by omega) (by omega))) I0 I0 (pM (aT 75 (iv (k + 1 : Nat))) (kN 99 [] [(1, Ze sh), (3, iv i), (8, iv 0), (9, iv 0), (10, iv 0), (14, iv (i + 1 : Nat)), (15, iv ((trun sh sh.length).se i)), (16, iv k), (17, iv (k + 1 : Nat)), (73, bv true), (94, bv true)] (Zc ?_))))))))))
 refine ZH ⟨k + 1, by omega⟩ (show i - (k + 1) < i - k by omega) ?_
 exact Zw [] _ rfl (by kernel_rfl) (by kernel_rfl)
 by_cases hs5 : ((trun sh sh.length).se k) = ((i : Nat) : Int)
 refine Za (pM (mT 1 (Ze sh)) (pM (mT 17 (iv k)) (oC (Zo (off := k * 1) (.tmp 76) (.tmp 77) rfl U24 (by kernel_rfl) (by omega) (by omega) rfl) I0 I0 (oA (Zp (X := iv sh[k]) (.tmp 78) rfl U3 rfl (ZN sh (by omega))) I0 (oC (ZA rfl (dT hs3)) I0 I0 (pM (mT 80 (bv true)) (qM (mT 17 (iv k)) (gC (ZV (c := ((k + 1 : Nat) : Int)) rfl (w64 (by omega) (by omega) (by omega))) I0 I0 (qM (mT 3 (iv i)) (gC (ZA rfl (dF hs4)) I0 I0 (qM (mT 85 (bv false)) ?_)))))))))))
 refine qM (mT 1 (Ze sh)) (qM (mT 17 (iv k)) (gC (ZV (c := ((k + 1 : Nat) : Int)) rfl (w64 (by omega) (by omega) (by omega))) I0 I0 (gD (Zm (c := .func 93) (xs := #[.tmp 87, .tmp 89]) [] (endT_c hs lsh (by omega) hs3) rfl (by kernel_rfl) rfl (Xs := [Ze sh, iv (k + 1 : Nat)]) rfl rfl rfl) I0 I0 I0 (qM (mT 3 (iv i)) (gC (ZA rfl (dT hs5)) I0 I0 (qP (Zf (.tmp 86) (.const (.bool true)) (.tmp 92) false (bv true) (bv true) rfl) (pP (Zf (.tmp 81) (.tmp 93) (.const (.bool false)) true (bv true) (bv false) rfl) (kN 99 [] [(1, Ze sh), (3, iv i), (8, iv 0), (9, iv 0), (10, iv 0), (14, iv (i + 1 : Nat)), (15, iv ((trun sh sh.length).se i)), (17, iv k), (73, bv true), (94, bv true)] (Zc (Zu rfl (Za ?_)))))))))))
 refine pM (mT 17 (iv k)) (pM (aT 95 (iv k)) (kN 99 [] [(1, Ze sh), (3, iv i), (8, iv 0), (9, iv 0), (10, iv 0), (14, iv (i + 1 : Nat)), (15, iv ((trun sh sh.length).se i)), (16, iv k), (17, iv k), (73, bv true), (94, bv true)] (ZU (Zc (Za (pM (mT 17 (iv k)) (oC (ZV (c := ((k + 1 : Nat) : Int)) rfl (w64 (by omega) (by omega) (by omega))) I0 I0 (pM (aT 75 (iv (k + 1 : Nat))) (kN 99 [] [(1, Ze sh), (3, iv i), (8, iv 0), (9, iv 0), (10, iv 0), (14, iv (i + 1 : Nat)), (15, iv ((trun sh sh.length).se i)), (16, iv k), (17, iv (k + 1 : Nat)), (73, bv true), (94, bv true)] (Zc ?_))))))))))
 refine ZH ⟨k + 1, by omega⟩ (show i - (k + 1) < i - k by omega) ?_
 exact Zw [] _ rfl (by kernel_rfl) (by kernel_rfl)
 refine Za (pM (mT 1 (Ze sh)) (pM (mT 17 (iv k)) (oC (Zo (off := k * 1) (.tmp 76) (.tmp 77) rfl U24 (by kernel_rfl) (by omega) (by omega) rfl) I0 I0 (oA (Zp (X := iv sh[k]) (.tmp 78) rfl U3 rfl (ZN sh (by omega))) I0 (oC (ZA rfl (dT hs3)) I0 I0 (pM (mT 80 (bv true)) (qM (mT 17 (iv k)) (gC (ZV (c := ((k + 1 : Nat) : Int)) rfl (w64 (by omega) (by omega) (by omega))) I0 I0 (qM (mT 3 (iv i)) (gC (ZA rfl (dF hs4)) I0 I0 (qM (mT 85 (bv false)) ?_)))))))))))
 refine qM (mT 1 (Ze sh)) (qM (mT 17 (iv k)) (gC (ZV (c := ((k + 1 : Nat) : Int)) rfl (w64 (by omega) (by omega) (by omega))) I0 I0 (gD (Zm (c := .func 93) (xs := #[.tmp 87, .tmp 89]) [] (endT_c hs lsh (by omega) hs3) rfl (by kernel_rfl) rfl (Xs := [Ze sh, iv (k + 1 : Nat)]) rfl rfl rfl) I0 I0 I0 (qM (mT 3 (iv i)) (gC (ZA rfl (dF hs5)) I0 I0 (qP (Zf (.tmp 86) (.const (.bool true)) (.tmp 92) false (bv true) (bv false) rfl) (pP (Zf (.tmp 81) (.tmp 93) (.const (.bool false)) true (bv false) (bv false) rfl) (kN 99 [] [(1, Ze sh), (3, iv i), (8, iv 0), (9, iv 0), (10, iv 0), (14, iv (i + 1 : Nat)), (15, iv ((trun sh sh.length).se i)), (17, iv k), (73, bv true), (94, bv false)] (Zc (Zn rfl (Zk ?_)))))))))))
 refine ZU (Zc (Za (pM (mT 17 (iv k)) (oC (ZV (c := ((k + 1 : Nat) : Int)) rfl (w64 (by omega) (by omega) (by omega))) I0 I0 (pM (aT 75 (iv (k + 1 : Nat))) (kN 99 [] [(1, Ze sh), (3, iv i), (8, iv 0), (9, iv 0), (10, iv 0), (14, iv (i + 1 : Nat)), (15, iv ((trun sh sh.length).se i)), (17, iv (k + 1 : Nat)), (73, bv true), (94, bv false)] (Zc ?_)))))))
 refine ZH ⟨k + 1, by omega⟩ (show i - (k + 1) < i - k by omega) ?_
 exact Zw [] _ rfl (by kernel_rfl) (by kernel_rfl)
 refine Za (pM (mT 1 (Ze sh)) (pM (mT 17 (iv k)) (oC (Zo (off := k * 1) (.tmp 76) (.tmp 77) rfl U24 (by kernel_rfl) (by omega) (by omega) rfl) I0 I0 (oA (Zp (X := iv sh[k]) (.tmp 78) rfl U3 rfl (ZN sh (by omega))) I0 (oC (ZA rfl (dF hs3)) I0 I0 (pM (mT 80 (bv false)) (qK (qK (qK (qK (qK ?_)))))))))))
 refine qK (qK (qK (qK (qK (qK (qK (pP (Zf (.tmp 81) (.tmp 93) (.const (.bool false)) false (.v (.tuple #[])) (bv false) rfl) (kN 99 [] [(1, Ze sh), (3, iv i), (8, iv 0), (9, iv 0), (10, iv 0), (14, iv (i + 1 : Nat)), (15, iv ((trun sh sh.length).se i)), (17, iv k), (73, bv true), (94, bv false)] (Zc (Zn rfl (Zk ?_)))))))))))
 refine ZU (Zc (Za (pM (mT 17 (iv k)) (oC (ZV (c := ((k + 1 : Nat) : Int)) rfl (w64 (by omega) (by omega) (by omega))) I0 I0 (pM (aT 75 (iv (k + 1 : Nat))) (kN 99 [] [(1, Ze sh), (3, iv i), (8, iv 0), (9, iv 0), (10, iv 0), (14, iv (i + 1 : Nat)), (15, iv ((trun sh sh.length).se i)), (17, iv (k + 1 : Nat)), (73, bv true), (94, bv false)] (Zc ?_)))))))
 refine ZH ⟨k + 1, by omega⟩ (show i - (k + 1) < i - k by omega) ?_
 exact Zw [] _ rfl (by kernel_rfl) (by kernel_rfl)
 refine Za (pM (mT 17 (iv k)) (pM (mT 3 (iv i)) (oC (ZT rfl (dF hs2)) I0 I0 (kN 99 [] [(1, Ze sh), (3, iv i), (8, iv 0), (9, iv 0), (10, iv 0), (14, iv (i + 1 : Nat)), (15, iv ((trun sh sh.length).se i)), (17, iv k), (73, bv false)] (Zc (Zn rfl (Z8 (Zx (Zx (YN (Zc ?_)))))))))))
 refine Zb (Za (pM (mT 14 (iv (i + 1 : Nat))) (pM (mT 15 (iv ((trun sh sh.length).se i))) (pM (mT 16 (.any)) (pM (aT 96 (iv (i + 1 : Nat))) (pM (aT 97 (iv ((trun sh sh.length).se i))) (pM (aT 98 (.any)) (Zv (Zc (Zt ?_))))))))))
 refine tri_end3 Try.results68 (.tmp rfl) (.tmp rfl) (.tmp rfl) ?_
 rw [(Jd.t_2 hs hi hs1).1, (Jd.t_2 hs hi hs1).2]
 exact rfl
 refine Za (pM (mT 1 (Ze sh)) (pM (mT 3 (iv i)) (oC (Zo (off := i * 1) (.tmp 60) (.tmp 61) rfl U24 (by kernel_rfl) (by omega) (by omega) rfl) I0 I0 (oA (Zp (X := iv sh[i]) (.tmp 62) rfl U3 rfl (ZN sh (by omega))) I0 (oC (ZA rfl (dF hs1)) I0 I0 (kN 99 [] [(1, Ze sh), (3, iv i), (8, iv 0), (9, iv 0), (10, iv 0), (14, iv (-1)), (15, iv (-1)), (16, iv (-1)), (64, bv false)] (Zc (Zn rfl (Zk (Zc (Zb ?_)))))))))))
 refine Zb (Za (pM (aC (.int .i64 0)) (kN 99 [] [(1, Ze sh), (3, iv i), (8, iv 0), (9, iv 0), (10, iv 0), (14, iv (-1)), (15, iv (-1)), (16, iv (-1)), (17, iv 0)] (Zc (Zz ?_)))))
 refine Yb (σ := {k : Nat // k ≤ i}) (fun s => (ofL [], ofT 99 [(1, Ze sh), (3, iv i), (8, iv 0), (9, iv 0), (10, iv 0), (14, iv (-1)), (15, iv (-1)), (17, iv s.1)])) (fun s => i - s.1) ⟨0, Nat.zero_le _⟩ (Zw [] _ rfl (by kernel_rfl) (by kernel_rfl)) (fun s => ?_)
 obtain ⟨k, hk0⟩ := s
 show ETri J w0 (ofL []) (ofT 99 [(1, Ze sh), (3, iv i), (8, iv 0), (9, iv 0), (10, iv 0), (14, iv (-1)), (15, iv (-1)), (17, iv k)]) _
 refine Zb (Zb ?_)
 by_cases hs6 : ((k : Nat) : Int) < ((i : Nat) : Int)
 refine Za (pM (mT 17 (iv k)) (pM (mT 3 (iv i)) (oC (ZT rfl (dT hs6)) I0 I0 (kN 99 [] [(1, Ze sh), (3, iv i), (8, iv 0), (9, iv 0), (10, iv 0), (14, iv (-1)), (15, iv (-1)), (17, iv k), (73, bv true)] (Zc (Zu rfl (Zk (Zc (Zb (Zz (Zb ?_)))))))))))
 by_cases hs7 : sh[k] = 2
 by_cases hs8 : ((k + 1 : Nat) : Int) = ((i : Nat) : Int)
 refine Za (pM (mT 1 (Ze sh)) (pM (mT 17 (iv k)) (oC (Zo (off := k * 1) (.tmp 76) (.tmp 77) rfl U24 (by kernel_rfl) (by omega) (by omega) rfl) I0 I0 (oA (Zp (X := iv sh[k]) (.tmp 78) rfl U3 rfl (ZN sh (by omega))) I0 (oC (ZA rfl (dT hs7)) I0 I0 (pM (mT 80 (bv true)) (qM (mT 17 (iv k)) (gC (ZV (c := ((k + 1 : Nat) : Int)) rfl (w64 (by omega) (by omega) (by omega))) I0 I0 (qM (mT 3 (iv i)) (gC (ZA rfl (dT hs8)) I0 I0 (qM (mT 85 (bv true)) ?_)))))))))))
 refine qK (qK (qK (qK (qK (qK (qP (Zf (.tmp 86) (.const (.bool true)) (.tmp 92) true (bv true) (.v (.tuple #[])) rfl) (pP (Zf (.tmp 81) (.tmp 93) (.const (.bool false)) true (bv true) (bv false) rfl) (kN 99 [] [(1, Ze sh), (3, iv i), (8, iv 0), (9, iv 0), (10, iv 0), (14, iv (-1)), (15, iv (-1)), (17, iv k), (73, bv true), (94, bv true)] (Zc (Zu rfl (Za ?_)))))))))))
 refine pM (mT 17 (iv k)) (pM (aT 95 (iv k)) (kN 99 [] [(1, Ze sh), (3, iv i), (8, iv 0), (9, iv 0), (10, iv 0), (14, iv (-1)), (15, iv (-1)), (16, iv k), (17, iv k), (73, bv true), (94, bv true)] (ZU (Zc (Za (pM (mT 17 (iv k)) (oC (ZV (c := ((k + 1 : Nat) : Int)) rfl (w64 (by omega) (by omega) (by omega))) I0 I0 (pM (aT 75 (iv (k + 1 : Nat))) (kN 99 [] [(1, Ze sh), (3, iv i), (8, iv 0), (9, iv 0), (10, iv 0), (14, iv (-1)), (15, iv (-1)), (16, iv k), (17, iv (k + 1 : Nat)), (73, bv true), (94, bv true)] (Zc ?_))))))))))
 refine ZH ⟨k + 1, by omega⟩ (show i - (k + 1) < i - k by omega) ?_
 exact Zw [] _ rfl (by kernel_rfl) (by kernel_rfl)
 by_cases hs9 : ((trun sh sh.length).se k) = ((i : Nat) : Int)
 refine Za (pM (mT 1 (Ze sh)) (pM (mT 17 (iv k)) (oC (Zo (off := k * 1) (.tmp 76) (.tmp 77) rfl U24 (by kernel_rfl) (by omega) (by omega) rfl) I0 I0 (oA (Zp (X := iv sh[k]) (.tmp 78) rfl U3 rfl (ZN sh (by omega))) I0 (oC (ZA rfl (dT hs7)) I0 I0 (pM (mT 80 (bv true)) (qM (mT 17 (iv k)) (gC (ZV (c := ((k + 1 : Nat) : Int)) rfl (w64 (by omega) (by omega) (by omega))) I0 I0 (qM (mT 3 (iv i)) (gC (ZA rfl (dF hs8)) I0 I0 (qM (mT 85 (bv false)) ?_)))))))))))
 refine qM (mT 1 (Ze sh)) (qM (mT 17 (iv k)) (gC (ZV (c := ((k + 1 : Nat) : Int)) rfl (w64 (by omega) (by omega) (by omega))) I0 I0 (gD (Zm (c := .func 93) (xs := #[.tmp 87, .tmp 89]) [] (endT_c hs lsh (by omega) hs7) rfl (by kernel_rfl) rfl (Xs := [Ze sh, iv (k + 1 : Nat)]) rfl rfl rfl) I0 I0 I0 (qM (mT 3 (iv i)) (gC (ZA rfl (dT hs9)) I0 I0 (qP (Zf (.tmp 86) (.const (.bool true)) (.tmp 92) false (bv true) (bv true) rfl) (pP (Zf (.tmp 81) (.tmp 93) (.const (.bool false)) true (bv true) (bv false) rfl) (kN 99 [] [(1, Ze sh), (3, iv i), (8, iv 0), (9, iv 0), (10, iv 0), (14, iv (-1)), (15, iv (-1)), (17, iv k), (73, bv true), (94, bv true)] (Zc (Zu rfl (Za ?_)))))))))))
 refine pM (mT 17 (iv k)) (pM (aT 95 (iv k)) (kN 99 [] [(1, Ze sh), (3, iv i), (8, iv 0), (9, iv 0), (10, iv 0), (14, iv (-1)), (15, iv (-1)), (16, iv k), (17, iv k), (73, bv true), (94, bv true)] (ZU (Zc (Za (pM (mT 17 (iv k)) (oC (ZV (c := ((k + 1 : Nat) : Int)) rfl (w64 (by omega) (by omega) (by omega))) I0 I0 (pM (aT 75 (iv (k + 1 : Nat))) (kN 99 [] [(1, Ze sh), (3, iv i), (8, iv 0), (9, iv 0), (10, iv 0), (14, iv (-1)), (15, iv (-1)), (16, iv k), (17, iv (k + 1 : Nat)), (73, bv true), (94, bv true)] (Zc ?_))))))))))
 refine ZH ⟨k + 1, by omega⟩ (show i - (k + 1) < i - k by omega) ?_
 exact Zw [] _ rfl (by kernel_rfl) (by kernel_rfl)
 refine Za (pM (mT 1 (Ze sh)) (pM (mT 17 (iv k)) (oC (Zo (off := k * 1) (.tmp 76) (.tmp 77) rfl U24 (by kernel_rfl) (by omega) (by omega) rfl) I0 I0 (oA (Zp (X := iv sh[k]) (.tmp 78) rfl U3 rfl (ZN sh (by omega))) I0 (oC (ZA rfl (dT hs7)) I0 I0 (pM (mT 80 (bv true)) (qM (mT 17 (iv k)) (gC (ZV (c := ((k + 1 : Nat) : Int)) rfl (w64 (by omega) (by omega) (by omega))) I0 I0 (qM (mT 3 (iv i)) (gC (ZA rfl (dF hs8)) I0 I0 (qM (mT 85 (bv false)) ?_)))))))))))
 refine qM (mT 1 (Ze sh)) (qM (mT 17 (iv k)) (gC (ZV (c := ((k + 1 : Nat) : Int)) rfl (w64 (by omega) (by omega) (by omega))) I0 I0 (gD (Zm (c := .func 93) (xs := #[.tmp 87, .tmp 89]) [] (endT_c hs lsh (by omega) hs7) rfl (by kernel_rfl) rfl (Xs := [Ze sh, iv (k + 1 : Nat)]) rfl rfl rfl) I0 I0 I0 (qM (mT 3 (iv i)) (gC (ZA rfl (dF hs9)) I0 I0 (qP (Zf (.tmp 86) (.const (.bool true)) (.tmp 92) false (bv true) (bv false) rfl) (pP (Zf (.tmp 81) (.tmp 93) (.const (.bool false)) true (bv false) (bv false) rfl) (kN 99 [] [(1, Ze sh), (3, iv i), (8, iv 0), (9, iv 0), (10, iv 0), (14, iv (-1)), (15, iv (-1)), (17, iv k), (73, bv true), (94, bv false)] (Zc (Zn rfl (Zk ?_)))))))))))
 refine ZU (Zc (Za (pM (mT 17 (iv k)) (oC (ZV (c := ((k + 1 : Nat) : Int)) rfl (w64 (by omega) (by omega) (by omega))) I0 I0 (pM (aT 75 (iv (k + 1 : Nat))) (kN 99 [] [(1, Ze sh), (3, iv i), (8, iv 0), (9, iv 0), (10, iv 0), (14, iv (-1)), (15, iv (-1)), (17, iv (k + 1 : Nat)), (73, bv true), (94, bv false)] (Zc ?_)))))))
 refine ZH ⟨k + 1, by omega⟩ (show i - (k + 1) < i - k by omega) ?_
 exact Zw [] _ rfl (by kernel_rfl) (by kernel_rfl)
 refine Za (pM (mT 1 (Ze sh)) (pM (mT 17 (iv k)) (oC (Zo (off := k * 1) (.tmp 76) (.tmp 77) rfl U24 (by kernel_rfl) (by omega) (by omega) rfl) I0 I0 (oA (Zp (X := iv sh[k]) (.tmp 78) rfl U3 rfl (ZN sh (by omega))) I0 (oC (ZA rfl (dF hs7)) I0 I0 (pM (mT 80 (bv false)) (qK (qK (qK (qK (qK ?_)))))))))))
 refine qK (qK (qK (qK (qK (qK (qK (pP (Zf (.tmp 81) (.tmp 93) (.const (.bool false)) false (.v (.tuple #[])) (bv false) rfl) (kN 99 [] [(1, Ze sh), (3, iv i), (8, iv 0), (9, iv 0), (10, iv 0), (14, iv (-1)), (15, iv (-1)), (17, iv k), (73, bv true), (94, bv false)] (Zc (Zn rfl (Zk ?_)))))))))))
 refine ZU (Zc (Za (pM (mT 17 (iv k)) (oC (ZV (c := ((k + 1 : Nat) : Int)) rfl (w64 (by omega) (by omega) (by omega))) I0 I0 (pM (aT 75 (iv (k + 1 : Nat))) (kN 99 [] [(1, Ze sh), (3, iv i), (8, iv 0), (9, iv 0), (10, iv 0), (14, iv (-1)), (15, iv (-1)), (17, iv (k + 1 : Nat)), (73, bv true), (94, bv false)] (Zc ?_)))))))
 refine ZH ⟨k + 1, by omega⟩ (show i - (k + 1) < i - k by omega) ?_
 exact Zw [] _ rfl (by kernel_rfl) (by kernel_rfl)
 refine Za (pM (mT 17 (iv k)) (pM (mT 3 (iv i)) (oC (ZT rfl (dF hs6)) I0 I0 (kN 99 [] [(1, Ze sh), (3, iv i), (8, iv 0), (9, iv 0), (10, iv 0), (14, iv (-1)), (15, iv (-1)), (17, iv k), (73, bv false)] (Zc (Zn rfl (Z8 (Zx (Zx (YN (Zc ?_)))))))))))
 refine Zb (Za (pM (mT 14 (iv (-1))) (pM (mT 15 (iv (-1))) (pM (mT 16 (.any)) (pM (aT 96 (iv (-1))) (pM (aT 97 (iv (-1))) (pM (aT 98 (.any)) (Zv (Zc (Zt ?_))))))))))
 refine tri_end3 Try.results68 (.tmp rfl) (.tmp rfl) (.tmp rfl) ?_
 rw [(Jd.t_0 hs hi hs1).1, (Jd.t_0 hs hi hs1).2]
 exact rfl
theorem nb_c {top : Int} {sh : List Int} {n i : Nat} (hI : InOk sh) (lsh : sh.length ≤ 100) (hn : n ≤ 100) (hi : i < n) (h : top = 2 ∨ top = 3 ∨ (top = 4 ∧ isShp sh ((n : Nat) : Int) = true)) : Ctr Try.prog J 68 [iv top, Ze sh, iv ((n : Nat) : Int), iv ((i : Nat) : Int)] (.tup [iv (Jd.lkF top sh n i), iv (Jd.lkS top sh n i), .any]) := by
  rcases h with rfl | rfl | ⟨rfl, h⟩
  · exact fun w vs hJ hl hv => (nbLine_c hi hn w vs hJ hl hv).mono fun e w' ⟨v, he, hp, hb⟩ => ⟨v, he, pu_any3 hp, hb⟩
  · exact fun w vs hJ hl hv => (nbRing_c hi hn w vs hJ hl hv).mono fun e w' ⟨v, he, hp, hb⟩ => ⟨v, he, pu_any3 hp, hb⟩
  unfold isShp at h
  simp only [Bool.and_eq_true, decide_eq_true_eq] at h
  obtain rfl : sh.length = n := by omega
  exact nbTree_c hI h.2 lsh hi
end Go.Proofs.Ytoefmdjgnabgfaa
