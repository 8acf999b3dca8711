import Derived.BigRegion
import Derived.Deep.AppendLies
import Derived.Deep.RegionLaw
import Derived.Test.YtbbglendddepfaaDoorGrpahmkmnmo
import Derived.Test.YtbbglendddepfaaDoorGrphiooaika
import Derived.Test.YtbbglendddepfaaDoorGrpomklliff
import Derived.Test.YtbbglendddepfaaDoorGrpagblkdjo
set_option linter.all false
namespace Go.Proofs.YtbbglendddepfaaDoor
theorem eqI_iff {xs ys : List Int} : eqI xs ys = true ↔ xs = ys := by unfold eqI; exact decide_eq_true_iff
/-- One more row is put in. -/
def insT (t : Rw) : List Rw → List Rw
  | [] => [t]
  | x :: xs => if cmpI x.1 t.1 < 0 then x :: insT t xs else if eqI x.1 t.1 then (if t.2 < x.2 then (x.1, t.2) :: xs else x :: xs) else t :: x :: xs
def tdy (ts : List Rw) : List Rw := ts.foldl (fun o t => insT t o) []
def Asc (L : List Rw) : Prop := L.Pairwise fun a b => cmpI a.1 b.1 < 0
/-- A smallest one of its coefficients. -/
def Least (ts : List Rw) (r : Rw) : Prop := r ∈ ts ∧ ∀ s ∈ ts, s.1 = r.1 → r.2 ≤ s.2
theorem asc_ext : ∀ {L M : List Rw}, Asc L → Asc M → (∀ r, r ∈ L ↔ r ∈ M) → L = M
  | [], [], _, _, _ => rfl
  | [], b :: M, _, _, h => absurd ((h b).2 (by simp)) (by simp)
  | a :: L, [], _, _, h => absurd ((h a).1 (by simp)) (by simp)
  | a :: L, b :: M, h1, h2, h => by
    obtain ⟨a1, a2⟩ := List.pairwise_cons.1 h1
    obtain ⟨b1, b2⟩ := List.pairwise_cons.1 h2
    have hab : a = b := by
      rcases List.mem_cons.1 ((h a).1 (by simp)) with e | e
      · exact e
      · rcases List.mem_cons.1 ((h b).2 (by simp)) with e' | e'
        · exact e'.symm
        · have := b1 a e; have := a1 b e'; have := ordI_neg a.1 b.1; omega
    subst hab
    rw [asc_ext a2 b2 fun r => ⟨fun hr => ?_, fun hr => ?_⟩]
    · rcases List.mem_cons.1 ((h r).1 (List.mem_cons_of_mem _ hr)) with e | e
      · subst e; have := a1 r hr; rw [cmpI_self] at this; omega
      · exact e
    · rcases List.mem_cons.1 ((h r).2 (List.mem_cons_of_mem _ hr)) with e | e
      · subst e; have := b1 r hr; rw [cmpI_self] at this; omega
      · exact e
theorem insT_from (t : Rw) : ∀ L : List Rw, ∀ y ∈ insT t L, y.1 = t.1 ∨ ∃ x ∈ L, x.1 = y.1
  | [], y, h => by simp only [insT, List.mem_singleton] at h; subst h; exact .inl rfl
  | x :: xs, y, h => by
    simp only [insT] at h
    split at h
    · rcases List.mem_cons.1 h with rfl | h
      · exact .inr ⟨y, by simp, rfl⟩
      · rcases insT_from t xs y h with h | ⟨z, h1, h2⟩
        · exact .inl h
        · exact .inr ⟨z, List.mem_cons_of_mem _ h1, h2⟩
    · split at h
      · split at h
        · rcases List.mem_cons.1 h with rfl | h
          · exact .inr ⟨x, by simp, rfl⟩
          · exact .inr ⟨y, List.mem_cons_of_mem _ h, rfl⟩
        · exact .inr ⟨y, h, rfl⟩
      · rcases List.mem_cons.1 h with rfl | h
        · exact .inl rfl
        · exact .inr ⟨y, h, rfl⟩
theorem insT_asc (t : Rw) : ∀ L : List Rw, Asc L → Asc (insT t L)
  | [], _ => List.pairwise_singleton _ _
  | x :: xs, h => by
    obtain ⟨h1, h2⟩ := List.pairwise_cons.1 h
    simp only [insT]
    split
    · rename_i hx
      refine List.pairwise_cons.2 ⟨fun y hy => ?_, insT_asc t xs h2⟩
      rcases insT_from t xs y hy with e | ⟨z, hz, e⟩
      · rw [e]; exact hx
      · rw [← e]; exact h1 z hz
    · rename_i hx
      split
      · split
        · exact List.pairwise_cons.2 ⟨fun y hy => h1 y hy, h2⟩
        · exact h
      · rename_i he
        have hlt : cmpI t.1 x.1 < 0 := by
          have a := ordI_neg x.1 t.1
          have b : cmpI x.1 t.1 ≠ 0 := fun e => he (eqI_iff.2 (ordI_eq _ _ e))
          omega
        refine List.pairwise_cons.2 ⟨fun y hy => ?_, h⟩
        rcases List.mem_cons.1 hy with rfl | hy
        · exact hlt
        · exact ordI_trans _ _ _ hlt (h1 y hy)
theorem lt_ne {x y : List Int} (h : cmpI x y < 0) : x ≠ y := fun e => by subst e; rw [cmpI_self] at h; omega
theorem insT_mem (t : Rw) : ∀ L : List Rw, Asc L → ∀ r, r ∈ insT t L ↔ (r ∈ L ∧ (r.1 = t.1 → r.2 ≤ t.2)) ∨ (r = t ∧ ∀ x ∈ L, x.1 = t.1 → t.2 < x.2)
  | [], _, r => by simp [insT]
  | x :: xs, h, r => by
    obtain ⟨h1, h2⟩ := List.pairwise_cons.1 h
    simp only [insT]
    split
    · rename_i hx
      have hne := lt_ne hx
      rw [List.mem_cons, insT_mem t xs h2 r]
      constructor
      · rintro (rfl | ⟨a, b⟩ | ⟨a, b⟩)
        · exact .inl ⟨by simp, fun e => absurd e hne⟩
        · exact .inl ⟨List.mem_cons_of_mem _ a, b⟩
        · refine .inr ⟨a, fun y hy e => ?_⟩
          rcases List.mem_cons.1 hy with rfl | hy
          · exact absurd e hne
          · exact b y hy e
      · rintro (⟨a, b⟩ | ⟨a, b⟩)
        · rcases List.mem_cons.1 a with rfl | a
          · exact .inl rfl
          · exact .inr (.inl ⟨a, b⟩)
        · exact .inr (.inr ⟨a, fun y hy => b y (List.mem_cons_of_mem _ hy)⟩)
    · rename_i hx
      split
      · rename_i he
        have he := eqI_iff.1 he
        have hxs : ∀ y ∈ xs, y.1 ≠ t.1 := fun y hy e => lt_ne (h1 y hy) (by rw [e, he])
        split
        · rename_i hc
          have ht : (x.1, t.2) = t := Prod.ext he rfl
          rw [ht, List.mem_cons]
          constructor
          · rintro (rfl | a)
            · refine .inr ⟨rfl, fun y hy e => ?_⟩
              rcases List.mem_cons.1 hy with rfl | hy
              · exact hc
              · exact absurd e (hxs y hy)
            · exact .inl ⟨List.mem_cons_of_mem _ a, fun e => absurd e (hxs r a)⟩
          · rintro (⟨a, b⟩ | ⟨a, b⟩)
            · rcases List.mem_cons.1 a with rfl | a
              · have := b he; omega
              · exact .inr a
            · exact .inl a
        · rename_i hc
          constructor
          · intro a
            refine .inl ⟨a, fun e => ?_⟩
            rcases List.mem_cons.1 a with rfl | a
            · omega
            · exact absurd e (hxs r a)
          · rintro (⟨a, b⟩ | ⟨a, b⟩)
            · exact a
            · have := b x (by simp) he; omega
      · rename_i he
        have hlt : cmpI t.1 x.1 < 0 := by
          have a := ordI_neg x.1 t.1
          have b : cmpI x.1 t.1 ≠ 0 := fun e => he (eqI_iff.2 (ordI_eq _ _ e))
          omega
        have hall : ∀ y ∈ x :: xs, y.1 ≠ t.1 := fun y hy e => by
          rcases List.mem_cons.1 hy with rfl | hy
          · exact lt_ne hlt e.symm
          · exact lt_ne (ordI_trans _ _ _ hlt (h1 y hy)) e.symm
        rw [List.mem_cons]
        constructor
        · rintro (rfl | a)
          · exact .inr ⟨rfl, fun y hy e => absurd e (hall y hy)⟩
          · exact .inl ⟨a, fun e => absurd e (hall r a)⟩
        · rintro (⟨a, b⟩ | ⟨a, b⟩)
          · exact .inr a
          · exact .inl a
theorem has_least : ∀ (ts : List Rw) (s : Rw), s ∈ ts → ∃ x, Least ts x ∧ x.1 = s.1 ∧ x.2 ≤ s.2
  | [], s, h => by simp at h
  | t :: ts, s, h => by
    have key : ∀ y : Rw, y ∈ t :: ts → (∀ z ∈ ts, z.1 = y.1 → y.2 ≤ z.2) → ∃ x, Least (t :: ts) x ∧ x.1 = y.1 ∧ x.2 ≤ y.2 := fun y hy hz => by
      by_cases e : t.1 = y.1 ∧ t.2 < y.2
      · refine ⟨t, ⟨by simp, fun z hz' e' => ?_⟩, e.1, by omega⟩
        rcases List.mem_cons.1 hz' with rfl | hz'
        · exact Int.le_refl _
        · have := hz z hz' (e'.trans e.1); omega
      · refine ⟨y, ⟨hy, fun z hz' e' => ?_⟩, rfl, Int.le_refl _⟩
        rcases List.mem_cons.1 hz' with rfl | hz'
        · by_cases h2 : z.2 < y.2
          · exact absurd ⟨e', h2⟩ e
          · omega
        · exact hz z hz' e'
    by_cases hm : ∃ z ∈ ts, z.1 = s.1
    · obtain ⟨z, hz, e⟩ := hm
      obtain ⟨x, ⟨x1, x2⟩, x3, x4⟩ := has_least ts z hz
      obtain ⟨y, y1, y2, y3⟩ := key x (List.mem_cons_of_mem _ x1) x2
      refine ⟨y, y1, y2.trans (x3.trans e), y1.2 s h (by rw [y2, x3, e])⟩
    · obtain ⟨y, y1, y2, y3⟩ := key s h fun z hz e => absurd ⟨z, hz, e⟩ hm
      exact ⟨y, y1, y2, y3⟩
theorem insT_inv {L pre : List Rw} {t : Rw} (hL : Asc L) (h : ∀ r, r ∈ L ↔ Least pre r) (r : Rw) : r ∈ insT t L ↔ Least (pre ++ [t]) r := by
  rw [insT_mem t L hL r]
  constructor
  · rintro (⟨a, b⟩ | ⟨rfl, b⟩)
    · obtain ⟨c, d⟩ := (h r).1 a
      refine ⟨by simp [c], fun s hs e => ?_⟩
      rcases List.mem_append.1 hs with hs | hs
      · exact d s hs e
      · rw [List.mem_singleton] at hs; subst hs; exact b e.symm
    · refine ⟨by simp, fun s hs e => ?_⟩
      rcases List.mem_append.1 hs with hs | hs
      · obtain ⟨x, x1, x2, x3⟩ := has_least pre s hs
        have := b x ((h x).2 x1) (x2.trans e)
        omega
      · rw [List.mem_singleton] at hs; subst hs; exact Int.le_refl _
  · rintro ⟨a, b⟩
    by_cases hp : r ∈ pre
    · exact .inl ⟨(h r).2 ⟨hp, fun s hs e => b s (by simp [hs]) e⟩, fun e => b t (by simp) e.symm⟩
    · have e : r = t := by simpa [hp] using a
      subst e
      refine .inr ⟨rfl, fun x hx e => ?_⟩
      have hx := (h x).1 hx
      have h1 := b x (by simp [hx.1]) e
      by_cases h2 : x.2 = r.2
      · exact absurd hx.1 (by rw [Prod.ext e h2]; exact hp)
      · omega
theorem tdy_inv (ts : List Rw) : Asc (tdy ts) ∧ ∀ r, r ∈ tdy ts ↔ Least ts r := by
  have key : ∀ (ts L pre : List Rw), Asc L → (∀ r, r ∈ L ↔ Least pre r) → Asc (ts.foldl (fun o t => insT t o) L) ∧ ∀ r, r ∈ ts.foldl (fun o t => insT t o) L ↔ Least (pre ++ ts) r := by
    intro ts
    induction ts with
    | nil => intro L pre h1 h2; rw [List.append_nil]; exact ⟨h1, h2⟩
    | cons t ts ih =>
      intro L pre h1 h2
      have := ih (insT t L) (pre ++ [t]) (insT_asc t L h1) (insT_inv h1 h2)
      rw [List.append_assoc] at this
      exact this
  exact key ts [] [] List.Pairwise.nil fun r => by simp [Least]
/-- The i-th and the one ahead of it differ. -/
theorem keepR_succ {S : List Rw} {i : Nat} (h : i + 1 < S.length) : keepR S (i + 1) = !eqI S[i + 1].1 S[i].1 := by
  unfold keepR
  simp [List.getD_eq_getElem?_getD, List.getElem?_eq_getElem h, List.getElem?_eq_getElem (show i < S.length by omega)]
theorem keptR_mem {S : List Rw} : ∀ m, m ≤ S.length → ∀ r, r ∈ keptR S m ↔ ∃ i, ∃ h : i < S.length, i < m ∧ keepR S i = true ∧ S[i] = r
  | 0, _, r => by simp [keptR]
  | m + 1, hm, r => by
    have e : S.getD m ([], 0) = S[m]'(by omega) := by rw [List.getD_eq_getElem?_getD, List.getElem?_eq_getElem (by omega)]; rfl
    rw [keptR, List.mem_append, keptR_mem m (by omega) r, e]
    constructor
    · rintro (⟨i, h, a, b, c⟩ | h)
      · exact ⟨i, h, by omega, b, c⟩
      · split at h
        · rename_i hk
          rw [List.mem_singleton] at h
          exact ⟨m, by omega, by omega, hk, h.symm⟩
        · cases h
    · rintro ⟨i, h, a, b, c⟩
      by_cases hi : i = m
      · subst hi
        rw [if_pos b]
        exact .inr (by simp [c])
      · exact .inl ⟨i, h, by omega, b, c⟩
section
variable {S : List Rw}
/-- In their order. -/
def Srtd (S : List Rw) : Prop := ∀ i j, (h : i < S.length) → (h' : j < S.length) → i ≤ j → cmpR S[i] S[j] ≤ 0
theorem cmpR_fst {x y : Rw} (h : cmpR x y ≤ 0) : cmpI x.1 y.1 ≤ 0 := by
  unfold cmpR at h
  by_cases e : cmpI x.1 y.1 = 0
  · omega
  · rw [if_pos e] at h; exact h
theorem cmpR_snd {x y : Rw} (h : cmpR x y ≤ 0) (e : x.1 = y.1) : x.2 ≤ y.2 := by
  unfold cmpR cmpN at h
  rw [e, cmpI_self, if_neg (by simp)] at h
  by_cases h1 : x.2 < y.2
  · omega
  · rw [if_neg h1] at h
    by_cases h2 : y.2 < x.2
    · rw [if_pos h2] at h; omega
    · omega
theorem between_eq {x y z : List Int} (h : cmpI x y ≤ 0) (h' : cmpI y z ≤ 0) (e : x = z) : y = z := by
  subst e
  have := ordI_neg x y
  exact (ordI_eq x y (by omega)).symm
theorem kept_new (hS : Srtd S) {i j : Nat} (hi : i < S.length) (hk : keepR S i = true) (hj : j < i) : S[j].1 ≠ S[i].1 := fun e => by
  obtain ⟨p, rfl⟩ : ∃ p, i = p + 1 := ⟨i - 1, by omega⟩
  rw [keepR_succ hi] at hk
  have h1 := cmpR_fst (hS j p (by omega) (by omega) (by omega))
  have h2 := cmpR_fst (hS p (p + 1) (by omega) (by omega) (by omega))
  have h3 := between_eq h1 h2 e
  rw [h3] at hk
  have : eqI S[p + 1].1 S[p + 1].1 = true := eqI_iff.2 rfl
  rw [this] at hk
  cases hk
theorem kept_asc (hS : Srtd S) : ∀ m, m ≤ S.length → Asc (keptR S m)
  | 0, _ => List.Pairwise.nil
  | m + 1, hm => by
    have e : S.getD m ([], 0) = S[m]'(by omega) := by rw [List.getD_eq_getElem?_getD, List.getElem?_eq_getElem (by omega)]; rfl
    rw [keptR, e]
    refine List.pairwise_append.2 ⟨kept_asc hS m (by omega), ?_, fun a ha b hb => ?_⟩
    · split
      · exact List.pairwise_singleton _ _
      · exact List.Pairwise.nil
    · split at hb
      · rename_i hk
        rw [List.mem_singleton] at hb
        subst hb
        obtain ⟨i, h, h1, h2, rfl⟩ := (keptR_mem m (by omega) a).1 ha
        have h3 := cmpR_fst (hS i m h (by omega) (by omega))
        have h4 : cmpI S[i].1 S[m].1 ≠ 0 := fun e => kept_new hS (by omega) hk h1 (ordI_eq _ _ e)
        omega
      · cases hb
theorem kept_least (hS : Srtd S) (r : Rw) : r ∈ keptR S S.length ↔ Least S r := by
  rw [keptR_mem S.length (Nat.le_refl _) r]
  constructor
  · rintro ⟨i, h, _, hk, rfl⟩
    refine ⟨List.getElem_mem _, fun s hs e => ?_⟩
    obtain ⟨j, hj, rfl⟩ := List.getElem_of_mem hs
    by_cases hij : i ≤ j
    · exact cmpR_snd (hS i j h hj hij) e.symm
    · exact absurd e (kept_new hS h hk (by omega))
  · rintro ⟨a, b⟩
    obtain ⟨j, hj, rfl⟩ := List.getElem_of_mem a
    have key : ∀ n i, i ≤ n → (h : i < S.length) → S[i] = S[j] → ∃ i, ∃ h : i < S.length, i < S.length ∧ keepR S i = true ∧ S[i] = S[j] := by
      intro n
      induction n with
      | zero => intro i hi h e; obtain rfl : i = 0 := (by omega); exact ⟨0, h, h, rfl, e⟩
      | succ n ih =>
        intro i hi h e
        by_cases hk : keepR S i = true
        · exact ⟨i, h, h, hk, e⟩
        · by_cases h0 : i = 0
          · subst h0; exact absurd rfl hk
          · obtain ⟨p, rfl⟩ : ∃ p, i = p + 1 := ⟨i - 1, by omega⟩
            rw [keepR_succ h] at hk
            have h1 : S[p + 1].1 = S[p].1 := eqI_iff.1 (by simpa using hk)
            have h2 := cmpR_snd (hS p (p + 1) (by omega) h (by omega)) h1.symm
            have h3 := b S[p] (List.getElem_mem _) (by rw [← h1, e])
            rw [← e] at h3
            exact ih p (by omega) (by omega) ((Prod.ext h1.symm (by omega)).trans e)
    exact key j j (Nat.le_refl _) hj rfl
end
theorem srt_srtd (ts : List Rw) : Srtd (srt ts) := fun i j h h' hij => by
  rcases Nat.lt_or_ge i j with hlt | hge
  · have hp : (srt ts).Pairwise fun a b => (!ltR b a) = true := List.pairwise_mergeSort (le := fun x y => !ltR y x) (fun a b c h1 h2 => by
      simp only [Bool.not_eq_true'] at h1 h2 ⊢
      exact swoR.ntrans _ _ _ h2 h1) (fun a b => by
      cases e : ltR b a with
      | false => rfl
      | true =>
        cases e' : ltR a b with
        | false => rfl
        | true => have := swoR.trans _ _ _ e e'; rw [swoR.irrefl] at this; cases this) ts
    have := List.pairwise_iff_getElem.1 hp i j h h' hlt
    simp only [Bool.not_eq_true'] at this
    unfold ltR at this
    simp only [decide_eq_false_iff_not, Int.not_lt] at this
    have := ordR_neg (srt ts)[i] (srt ts)[j]
    omega
  · obtain rfl : i = j := by omega
    rw [ordR_self]; omega
/-- THE ONE AND THE OTHER ARE THE SAME. -/
theorem tdy_cmpt (ts : List Rw) : tdy ts = cmpt (srt ts) := by
  obtain ⟨h1, h2⟩ := tdy_inv ts
  refine asc_ext h1 (kept_asc (srt_srtd ts) _ (Nat.le_refl _)) fun r => ?_
  rw [h2 r, show (r ∈ cmpt (srt ts)) = (r ∈ keptR (srt ts) (srt ts).length) from rfl, kept_least (srt_srtd ts) r]
  unfold Least
  simp only [(srt_perm ts).mem_iff]
theorem nrm_tdy (rs : List Rw) : nrm rs = tdy (tgs rs) := (tdy_cmpt _).symm
end Go.Proofs.YtbbglendddepfaaDoor

namespace Go.Proofs.YtbbglendddepfaaDoor
open Go.RowKit Go.Deep

end Go.Proofs.YtbbglendddepfaaDoor

namespace Go.Proofs.YtbbglendddepfaaDoor
open Go.RowKit Go.Deep
variable {J : World → Prop}
section
variable {rs L : List Rw} {j p : Nat}
end
section
variable {L : List Rw} {p : Nat} {t : Rw}
end
end Go.Proofs.YtbbglendddepfaaDoor

namespace Go.Proofs.YtbbglendddepfaaDoor
open Go.RowKit Go.Deep
variable {J : World → Prop}
end Go.Proofs.YtbbglendddepfaaDoor

namespace Go.Proofs.YtbbglendddepfaaDoor
open Go.RowKit Go.Deep
variable {J : World → Prop}
end Go.Proofs.YtbbglendddepfaaDoor

namespace Go.Proofs.YtbbglendddepfaaDoor
open Go.RowKit Go.Deep

theorem smB_neg {x : Int} (h : smB x = true) : smB (-x) = true := by rw [smB_true] at *; omega
theorem madeCells_int (n : Nat) : madeCells #[Value.int .i64 0] n = ((List.replicate n (0 : Int)).map (Value.int .i64)).toArray := by
  rw [List.map_replicate, List.toArray_replicate]
  apply Array.ext
  · simp [madeCells]
  · intro i h1 h2
    simp [madeCells, Nat.mod_one]
theorem IsInts.nil (lo : Nat) (w : World) : IsInts lo w (.slice none 0 0) [] := ⟨none, 0, rfl, Nat.le_refl _, by unfold maxLen; omega, ⟨by simp, fun _ => rfl⟩, .inl rfl⟩
end Go.Proofs.YtbbglendddepfaaDoor

namespace Go.Proofs.YtbbglendddepfaaDoor
open Go.RowKit Go.Deep

def facB (k : Int) : Bool := decide (0 ≤ k) && decide (k ≤ 65536)
theorem facB_true {k : Int} : facB k = true ↔ 0 ≤ k ∧ k ≤ 65536 := by simp [facB]
def sumL (ka kb : Int) (xs ys : List Int) : List Int := List.zipWith (fun x y => ka * x + kb * y) xs ys
/-- The errno of Combine. -/
def comE (xs : List Int) (c ka : Int) (ys : List Int) (d kb : Int) : Int :=
  if xs.length ≠ ys.length ∨ 96 < xs.length ∨ facB ka = false ∨ facB kb = false then 1 else if smR (xs, c) = false ∨ smR (ys, d) = false then 4 else if smR (sumL ka kb xs ys, ka * c + kb * d) = true then 0 else 4
def comX (xs : List Int) (c ka : Int) (ys : List Int) (d kb : Int) : List Int := if comE xs c ka ys d kb = 0 then sumL ka kb xs ys else []
def comC (xs : List Int) (c ka : Int) (ys : List Int) (d kb : Int) : Int := if comE xs c ka ys d kb = 0 then ka * c + kb * d else 0
theorem mul_fac {k x : Int} (hk : facB k = true) (hx : smB x = true) : -4503599627370496 ≤ k * x ∧ k * x ≤ 4503599627370496 := by
  rw [facB_true] at hk
  rw [smB_true] at hx
  have h1 : k * x ≤ k * 68719476736 := Int.mul_le_mul_of_nonneg_left hx.2 hk.1
  have h2 : k * -68719476736 ≤ k * x := Int.mul_le_mul_of_nonneg_left hx.1 hk.1
  constructor <;> omega

theorem isFactor_any (n : Int) (w : World) :
    Calls Tryd.prog 87 #[.int .i64 n] w fun e w' => e = .returned (.bool (facB n)) ∧ w = w' := by
  have hf : facB n = (decide (0 ≤ n) && decide (n ≤ 65536)) := rfl
  have HF := hid0 hf
  clear hf
  go_enter Tryd.func87, Tryd.ntmps87
  go_wp2_with fail
  all_goals go_ret
  all_goals exact ⟨ret_bool (by rw [HF.out]; simp; omega), rfl⟩

set_option maxHeartbeats 800000 in
theorem Combine_err {lo lo' : Nat} {w : World} {v v' : Value} {xs ys : List Int} (c ka d kb : Int) (h : IsInts lo w v xs) (h' : IsInts lo' w v' ys) (he : xs.length ≠ ys.length ∨ 96 < xs.length ∨ facB ka = false ∨ facB kb = false) :
    Calls Tryd.prog 71 #[.agg #[v, .int .i64 c], .int .i64 ka, .agg #[v', .int .i64 d], .int .i64 kb] w fun e w' => e = .returned (.tuple #[.agg #[.slice none 0 0, .int .i64 0], .int .i64 1]) ∧ Below w.heap.size w w' := by
  obtain ⟨a, cap, rfl, _, hm, _⟩ := h
  obtain ⟨a', cap', rfl, _, hm', _⟩ := h'
  unfold maxLen at hm hm'
  by_cases h1 : xs.length = ys.length
  · by_cases h2 : 96 < xs.length
    · have h2' : (96 : Int) < xs.length := by omega
      go_enter Tryd.func71, Tryd.ntmps71
      go_wp2_with (go_at_call 87; refine (isFactor_any _ _).mono ?_; rintro e w1 ⟨rfl, rfl⟩)
      refine bodyPost_ret (v := .tuple #[.agg #[.slice none 0 0, .int .i64 0], .int .i64 1]) (by simp [results, Tryd.results71, go_sem]) rfl ⟨rfl, by go_grown⟩
    · have h2' : ¬ (96 : Int) < xs.length := by omega
      cases hk : facB ka with
      | false =>
        go_enter Tryd.func71, Tryd.ntmps71
        go_wp2_with (go_at_call 87; refine (isFactor_any _ _).mono ?_; rintro e w1 ⟨rfl, rfl⟩)
        refine bodyPost_ret (v := .tuple #[.agg #[.slice none 0 0, .int .i64 0], .int .i64 1]) (by simp [results, Tryd.results71, go_sem]) rfl ⟨rfl, by go_grown⟩
      | true =>
        have hl : facB kb = false := by
          rcases he with he | he | he | he
          · exact absurd h1 he
          · exact absurd he h2
          · rw [hk] at he; cases he
          · exact he
        go_enter Tryd.func71, Tryd.ntmps71
        go_wp2_with (go_at_call 87; refine (isFactor_any _ _).mono ?_; rintro e w1 ⟨rfl, rfl⟩)
        refine bodyPost_ret (v := .tuple #[.agg #[.slice none 0 0, .int .i64 0], .int .i64 1]) (by simp [results, Tryd.results71, go_sem]) rfl ⟨rfl, by go_grown⟩
  · have h1' : ¬ (xs.length : Int) = ys.length := by omega
    go_enter Tryd.func71, Tryd.ntmps71
    go_wp2_with (go_at_call 87; refine (isFactor_any _ _).mono ?_; rintro e w1 ⟨rfl, rfl⟩)
    refine bodyPost_ret (v := .tuple #[.agg #[.slice none 0 0, .int .i64 0], .int .i64 1]) (by simp [results, Tryd.results71, go_sem]) rfl ⟨rfl, by go_grown⟩

theorem new_frz (w : World) (cs : Array Value) (t : TypeId) (o : Nat) {n : Nat} (h : n = w.heap.size) : (w.alloc (.cells cs t)).frozen? ⟨n, o, none⟩ = false := by subst h; simp
theorem boxes3 {w w2 : World} {c1 c2 c3 : Array Value} {t1 t2 t3 : TypeId} (hb : Below (((w.alloc (.cells c1 t1)).alloc (.cells c2 t2)).alloc (.cells c3 t3)).heap.size (((w.alloc (.cells c1 t1)).alloc (.cells c2 t2)).alloc (.cells c3 t3)) w2) :
    (∀ i, w2.cell? ⟨w.heap.size, i, none⟩ = c1[i]?) ∧ (∀ i, w2.cell? ⟨w.heap.size + 1, i, none⟩ = c2[i]?) ∧ (∀ i, w2.cell? ⟨w.heap.size + 1 + 1, i, none⟩ = c3[i]?) ∧ (∀ i, w2.frozen? ⟨w.heap.size + 1 + 1, i, none⟩ = false) ∧ w.heap.size + 2 < w2.heap.size ∧ Below w.heap.size w w2 := by
  have hs := hb.size
  simp only [World.size_alloc] at hs
  have n2 : w.heap.size + 1 = (w.alloc (.cells c1 t1)).heap.size := by simp
  have n3 : w.heap.size + 1 + 1 = ((w.alloc (.cells c1 t1)).alloc (.cells c2 t2)).heap.size := by simp
  refine ⟨fun i => ?_, fun i => ?_, fun i => ?_, fun i => ?_, by omega, Below.trans (by go_grown) (hb.mono (by go_size))⟩
  · refine (hb.cell (p := ⟨w.heap.size, i, none⟩) (by simp only [World.size_alloc]; omega)).trans ?_
    refine ((allocBelow _ _).cell (p := ⟨w.heap.size, i, none⟩) (by simp only [World.size_alloc]; omega)).trans ?_
    exact ((allocBelow _ _).cell (p := ⟨w.heap.size, i, none⟩) (by simp only [World.size_alloc]; omega)).trans (new_cell _ _ _ i rfl)
  · refine (hb.cell (p := ⟨w.heap.size + 1, i, none⟩) (by simp only [World.size_alloc]; omega)).trans ?_
    exact ((allocBelow _ _).cell (p := ⟨w.heap.size + 1, i, none⟩) (by simp only [World.size_alloc]; omega)).trans (new_cell _ _ _ i n2)
  · exact (hb.cell (p := ⟨w.heap.size + 1 + 1, i, none⟩) (by simp only [World.size_alloc]; omega)).trans (new_cell _ _ _ i n3)
  · refine (hb.frozen (p := ⟨w.heap.size + 1 + 1, i, none⟩) (by simp only [World.size_alloc]; omega)).trans ?_
    exact new_frz _ _ _ i n3

set_option maxHeartbeats 1600000 in
theorem Combine_large {lo lo' : Nat} {w : World} {v v' : Value} {xs ys : List Int} (c ka d kb : Int) (h : IsInts lo w v xs) (h' : IsInts lo' w v' ys) (h1 : xs.length = ys.length) (h2 : ¬ 96 < xs.length) (hka : facB ka = true) (hkb : facB kb = true) (he : smR (xs, c) = false ∨ smR (ys, d) = false) :
    Calls Tryd.prog 71 #[.agg #[v, .int .i64 c], .int .i64 ka, .agg #[v', .int .i64 d], .int .i64 kb] w fun e w' => e = .returned (.tuple #[.agg #[.slice none 0 0, .int .i64 0], .int .i64 4]) ∧ Below w.heap.size w w' := by
  obtain ⟨a, cap, rfl⟩ := h.shape
  obtain ⟨a', cap', rfl⟩ := h'.shape
  obtain ⟨n, hn⟩ : ∃ n, n = xs.length := ⟨_, rfl⟩
  rw [← h1, ← hn] at h'
  rw [← hn] at h
  rw [← h1, ← hn]
  have G0 := hid0 h
  have G1 := hid0 h'
  have h2' : ¬ (96 : Int) < n := by omega
  clear h h' h1 h2 hn
  cases hs : smR (xs, c) with
  | false =>
    clear he
    go_enter Tryd.func71, Tryd.ntmps71
    go_wp2_with (first | (go_at_call 87; refine (isFactor_any _ _).mono ?_; rintro e w1 ⟨rfl, rfl⟩) | (go_at_call 48; refine (small_any c (G0.out.below (by go_grown))).mono ?_; rintro e w2 ⟨rfl, hb2⟩; obtain ⟨f1, f2, f3, f4, l2, hB2⟩ := boxes3 hb2; have y0 : w2.cell? ⟨w.heap.size, 0, none⟩ = some (.slice a n cap) := f1 0; have y1 : w2.cell? ⟨w.heap.size, 1, none⟩ = some (.int .i64 c) := f1 1; have y2 : w2.cell? ⟨w.heap.size + 1, 0, none⟩ = some (.slice a' n cap') := f2 0; have y3 : w2.cell? ⟨w.heap.size + 1, 1, none⟩ = some (.int .i64 d) := f2 1; have y4 : w2.cell? ⟨w.heap.size + 1 + 1, 0, none⟩ = some (.slice none 0 0) := f3 0; have y5 : w2.cell? ⟨w.heap.size + 1 + 1, 1, none⟩ = some (.int .i64 0) := f3 1; clear f1 f2 f3 hb2))
    refine bodyPost_ret (v := .tuple #[.agg #[.slice none 0 0, .int .i64 0], .int .i64 4]) (by simp [results, Tryd.results71, go_sem, y4, y5]) rfl ⟨rfl, (hB2.setCell (by simp; omega) _).setCell (by simp; omega) _⟩
  | true =>
    have hs' : smR (ys, d) = false := by
      rcases he with he | he
      · rw [hs] at he; cases he
      · exact he
    clear he
    go_enter Tryd.func71, Tryd.ntmps71
    go_wp2_with (first | (go_at_call 87; refine (isFactor_any _ _).mono ?_; rintro e w1 ⟨rfl, rfl⟩) | (go_at_call 48; refine (small_any d (G1.out.below hB2)).mono ?_; rintro e w3 ⟨rfl, hb3⟩; have hB3 : Below w.heap.size w w3 := thenBelow hB2 hb3; have z0 := keep1 y0 hb3; have z1 := keep1 y1 hb3; have z2 := keep1 y2 hb3; have z3 := keep1 y3 hb3; have z4 := keep1 y4 hb3; have z5 := keep1 y5 hb3; have z6 : (∀ o, w3.frozen? ⟨w.heap.size + 1 + 1, o, none⟩ = false) := fun o => (hb3.frozen (p := ⟨w.heap.size + 1 + 1, o, none⟩) (by show w.heap.size + 1 + 1 < _; omega)).trans (f4 o); have l3 : w.heap.size + 2 < w3.heap.size := (by have := hb3.size; omega)) | (go_at_call 48; refine (small_any c (G0.out.below (by go_grown))).mono ?_; rintro e w2 ⟨rfl, hb2⟩; obtain ⟨f1, f2, f3, f4, l2, hB2⟩ := boxes3 hb2; have y0 : w2.cell? ⟨w.heap.size, 0, none⟩ = some (.slice a n cap) := f1 0; have y1 : w2.cell? ⟨w.heap.size, 1, none⟩ = some (.int .i64 c) := f1 1; have y2 : w2.cell? ⟨w.heap.size + 1, 0, none⟩ = some (.slice a' n cap') := f2 0; have y3 : w2.cell? ⟨w.heap.size + 1, 1, none⟩ = some (.int .i64 d) := f2 1; have y4 : w2.cell? ⟨w.heap.size + 1 + 1, 0, none⟩ = some (.slice none 0 0) := f3 0; have y5 : w2.cell? ⟨w.heap.size + 1 + 1, 1, none⟩ = some (.int .i64 0) := f3 1; clear f1 f2 f3 hb2))
    refine bodyPost_ret (v := .tuple #[.agg #[.slice none 0 0, .int .i64 0], .int .i64 4]) (by simp [results, Tryd.results71, go_sem, z4, z5]) rfl ⟨rfl, (hB3.setCell (by simp; omega) _).setCell (by simp; omega) _⟩
end Go.Proofs.YtbbglendddepfaaDoor

namespace Go.Proofs.YtbbglendddepfaaDoor
open Go.RowKit Go.Deep

theorem sumL_take (ka kb : Int) : ∀ (xs ys : List Int) (k : Nat) (h : k < xs.length) (h' : k < ys.length), sumL ka kb (xs.take (k + 1)) (ys.take (k + 1)) = sumL ka kb (xs.take k) (ys.take k) ++ [ka * xs[k] + kb * ys[k]]
  | x :: xs, y :: ys, 0, _, _ => by simp [sumL]
  | x :: xs, y :: ys, k + 1, h, h' => by
    have ih := sumL_take ka kb xs ys k (by simpa using h) (by simpa using h')
    simpa [sumL] using ih
def fillS (ka kb : Int) (xs ys : List Int) (k : Nat) : List Int := sumL ka kb (xs.take k) (ys.take k) ++ List.replicate (xs.length - k) 0
theorem fillS_length (ka kb : Int) (xs ys : List Int) (k : Nat) (h : k ≤ xs.length) (e : xs.length = ys.length) : (fillS ka kb xs ys k).length = xs.length := by simp [fillS, sumL]; omega
theorem fillS_set (ka kb : Int) (xs ys : List Int) (k : Nat) (h : k < xs.length) (h' : k < ys.length) : (fillS ka kb xs ys k).set k (ka * xs[k] + kb * ys[k]) = fillS ka kb xs ys (k + 1) := by
  have hl : (sumL ka kb (xs.take k) (ys.take k)).length = k := by simp [sumL]; omega
  simp only [fillS]
  rw [List.set_append_right _ _ (by omega), sumL_take _ _ _ _ _ h h', List.append_assoc]
  have e : k - (sumL ka kb (xs.take k) (ys.take k)).length = 0 := by omega
  rw [e, show xs.length - k = (xs.length - (k + 1)) + 1 by omega, List.replicate_succ]; rfl
theorem fillS_end (ka kb : Int) (xs ys : List Int) (e : xs.length = ys.length) : fillS ka kb xs ys xs.length = sumL ka kb xs ys := by
  have h1 : xs.take xs.length = xs := List.take_length
  have h2 : ys.take xs.length = ys := by rw [e]; exact List.take_length
  simp [fillS, h1, h2]

set_option maxHeartbeats 3200000 in
theorem Combine_full {lo lo' : Nat} {w : World} {xs ys : List Int} {b off cap b' off' cap' n : Nat} (c ka d kb : Int) (hx : xs.length = n) (hy : ys.length = n) (h : IsInts lo w (.slice (some ⟨b, off, none⟩) n cap) xs) (h' : IsInts lo' w (.slice (some ⟨b', off', none⟩) n cap') ys) (hn : n ≤ 96) (hka : facB ka = true) (hkb : facB kb = true)
    (hs : smR (xs, c) = true) (hs' : smR (ys, d) = true) (hb : b < w.heap.size) (hb' : b' < w.heap.size)
    (hc : ∀ i, i < n → w.cell? ⟨b, off + i, none⟩ = some (.int .i64 (xs.getD i 0))) (hc' : ∀ i, i < n → w.cell? ⟨b', off' + i, none⟩ = some (.int .i64 (ys.getD i 0))) :
    Calls Tryd.prog 71 #[.agg #[.slice (some ⟨b, off, none⟩) n cap, .int .i64 c], .int .i64 ka, .agg #[.slice (some ⟨b', off', none⟩) n cap', .int .i64 d], .int .i64 kb] w fun e w' => ∃ v', e = .returned (.tuple #[.agg #[v', .int .i64 (comC xs c ka ys d kb)], .int .i64 (comE xs c ka ys d kb)]) ∧ OwnV w.heap.size w' v' (comX xs c ka ys d kb) ∧ Below w.heap.size w w' := by
  have G0 := hid0 h
  have G1 := hid0 h'
  have HS := hid0 (smR_true.1 hs)
  have HS' := hid0 (smR_true.1 hs')
  have HC := hid0 hc
  have HC' := hid0 hc'
  have HX := hid0 hx
  have HY := hid0 hy
  have hm1 := mul_fac hka (smR_true.1 hs).2
  have hm2 := mul_fac hkb (smR_true.1 hs').2
  have e1 : IntKind.i64.wrap (ka * c) = ka * c := IntWalk.i64_in _ (by omega)
  have e2 : IntKind.i64.wrap (kb * d) = kb * d := IntWalk.i64_in _ (by omega)
  have e3 : IntKind.i64.wrap (ka * c + kb * d) = ka * c + kb * d := IntWalk.i64_in _ (by omega)
  have HE : Hid (comE xs c ka ys d kb = if smR (sumL ka kb xs ys, ka * c + kb * d) = true then 0 else 4) := by
    show _ = _
    unfold comE
    rw [if_neg (by rw [hka, hkb, hx, hy]; simp; omega), if_neg (by rw [hs, hs']; simp)]
  have HK := hid0 (And.intro hka hkb)
  have h2' : ¬ (96 : Int) < n := by omega
  have hmk := run_make_row' (P := Tryd.prog) 25 3 (.int .i64 0) 8 Tryd.underlying25 info_int rfl .i64 .i64 n (by omega) (by omega)
  have hM := hid0 (And.intro hm1 hm2)
  clear h h' hc hc' hx hy hm1 hm2
  go_enter Tryd.func71, Tryd.ntmps71
  go_wp2_with (first | (go_at_call 87; refine (isFactor_any _ _).mono ?_; rintro e w1 ⟨rfl, rfl⟩) | (go_at_call 48; refine (small_any d (G1.out.below hB2)).mono ?_; rintro e w3 ⟨rfl, hb3⟩; have hB3 : Below w.heap.size w w3 := thenBelow hB2 hb3; have z0 := keep1 y0 hb3; have z1 := keep1 y1 hb3; have z2 := keep1 y2 hb3; have z3 := keep1 y3 hb3; have z4 := keep1 y4 hb3; have z5 := keep1 y5 hb3; have z6 : (∀ o, w3.frozen? ⟨w.heap.size + 1 + 1, o, none⟩ = false) := fun o => (hb3.frozen (p := ⟨w.heap.size + 1 + 1, o, none⟩) (by show w.heap.size + 1 + 1 < _; omega)).trans (f4 o); have l3 : w.heap.size + 2 < w3.heap.size := (by have := hb3.size; omega)) | (go_at_call 48; refine (small_any c (G0.out.below (by go_grown))).mono ?_; rintro e w2 ⟨rfl, hb2⟩; obtain ⟨f1, f2, f3, f4, l2, hB2⟩ := boxes3 hb2; have y0 : w2.cell? ⟨w.heap.size, 0, none⟩ = some (.slice (some ⟨b, off, none⟩) n cap) := f1 0; have y1 : w2.cell? ⟨w.heap.size, 1, none⟩ = some (.int .i64 c) := f1 1; have y2 : w2.cell? ⟨w.heap.size + 1, 0, none⟩ = some (.slice (some ⟨b', off', none⟩) n cap') := f2 0; have y3 : w2.cell? ⟨w.heap.size + 1, 1, none⟩ = some (.int .i64 d) := f2 1; have y4 : w2.cell? ⟨w.heap.size + 1 + 1, 0, none⟩ = some (.slice none 0 0) := f3 0; have y5 : w2.cell? ⟨w.heap.size + 1 + 1, 1, none⟩ = some (.int .i64 0) := f3 1; clear f1 f2 f3 hb2))
  have l0 : w.heap.size < w3.heap.size := by omega
  have l1 : w.heap.size + 1 < w3.heap.size := by omega
  have l2 : w.heap.size + 1 + 1 < w3.heap.size := by omega
  have HB3 := hid0 hB3
  clear y0 y1 y2 y3 y4 y5 f4 hB2 hB3 hb3
  go_region
  · go_wp2_with fail
    obtain ⟨W, hW⟩ : ∃ W : World, W = ((w3.alloc (.cells (madeCells #[Value.int .i64 0] n) 3)).alloc (.cells #[Value.slice (some ⟨w3.heap.size, 0, none⟩) n n, Value.int .i64 (ka * c + kb * d)] 39)).drew := ⟨_, rfl⟩
    rw [← hW]
    have HO3 : Hid (OwnInts w3.heap.size W (w3.heap.size) (fillS ka kb xs ys 0)) := by
      show OwnInts _ _ _ _
      have hl0 : (fillS ka kb xs ys 0).length = n := by rw [fillS_length _ _ _ _ _ (Nat.zero_le _) (HX.out.trans HY.out.symm)]; exact HX.out
      rw [hW]
      refine ⟨by omega, by rw [hl0]; unfold maxLen; omega, ?_, _, 3, heap_old _ _ (by simp) |>.trans (heap_new _ _ (by simp)), fun i hi => ?_⟩
      · intro x hx; simp [fillS, sumL] at hx; rw [hx.2]; constructor <;> decide
      · have hi' : i < n := by rw [hl0] at hi; exact hi
        have hi2 : i < xs.length := by rw [HX.out]; exact hi'
        rw [madeCells_int]; simp [fillS, sumL, hi', hi2]
    have HB : Hid (Below w3.heap.size w3 W) := by rw [hW]; show Below _ _ _; go_grown
    have x1 : W.cell? ⟨w3.heap.size + 1, 0, none⟩ = some (.slice (some ⟨w3.heap.size, 0, none⟩) n n) := by rw [hW]; simp
    have x2 : W.cell? ⟨w3.heap.size + 1, 1, none⟩ = some (.int .i64 (ka * c + kb * d)) := by rw [hW]; simp
    have hWs : w3.heap.size + 1 < W.heap.size := by rw [hW]; simp
    clear hW hmk
    have hgn : w3.heap.size ≠ w3.heap.size + 1 := by omega
    have hg2 : w3.heap.size ≤ w3.heap.size := by omega
    go_loopw [62] (fun v wr => ∃ k : Nat, k ≤ n ∧ v = .int .i64 k ∧ OwnInts w3.heap.size wr (w3.heap.size) (fillS ka kb xs ys k) ∧ (∀ b, b ≠ w3.heap.size → wr.heap[b]? = W.heap[b]?) ∧ Below w3.heap.size w3 wr) (fun v _ => n - (intOf v).toNat)
    case atStart => exact ⟨0, Nat.zero_le _, rfl, HO3.out, fun _ _ => rfl, HB.out⟩
    case round =>
      obtain ⟨k, hk, rfl, hO, hBut, hB⟩ := hrel
      have HOk := hid0 hO
      have HBut := hid0 hBut
      have HBr := hid0 hB
      have HB0 := hid0 (thenBelow HB3.out hB)
      obtain ⟨c1, c2⟩ := but_cell hBut
      have u0 := keep1 z0 hB
      have u1 := keep1 z2 hB
      have u2 : wr.cell? ⟨w3.heap.size + 1, 0, none⟩ = some (.slice (some ⟨w3.heap.size, 0, none⟩) n n) := (c1 _ _ (by omega)).trans x1
      have u3 : wr.cell? ⟨w3.heap.size + 1, 1, none⟩ = some (.int .i64 (ka * c + kb * d)) := (c1 _ _ (by omega)).trans x2
      by_cases h1 : k < n
      · have hkx : k < xs.length := by rw [HX.out]; exact h1
        have hky : k < ys.length := by rw [HY.out]; exact h1
        have g1 : wr.cell? ⟨b, off + k, none⟩ = some (.int .i64 (xs[k]'hkx)) := by
          have := (HB0.out.cell (p := ⟨b, off + k, none⟩) hb).trans (HC.out k h1); simpa [List.getD, hkx] using this
        have g1' : wr.cell? ⟨b', off' + k, none⟩ = some (.int .i64 (ys[k]'hky)) := by
          have := (HB0.out.cell (p := ⟨b', off' + k, none⟩) hb').trans (HC'.out k h1); simpa [List.getD, hky] using this
        obtain ⟨u, g2⟩ : ∃ u, wr.cell? ⟨w3.heap.size, k, none⟩ = some u := ⟨_, hO.cell k (by rw [fillS_length _ _ _ _ _ (by omega) (HX.out.trans HY.out.symm)]; exact hkx)⟩
        have g3 : wr.frozen? ⟨w3.heap.size, k, none⟩ = false := hO.frozen k
        have m1 := mul_fac HK.out.1 (List.all_eq_true.1 HS.out.1 _ (List.getElem_mem hkx))
        have m2 := mul_fac HK.out.2 (List.all_eq_true.1 HS'.out.1 _ (List.getElem_mem hky))
        have ew1 : IntKind.i64.wrap (ka * xs[k]'hkx) = ka * xs[k]'hkx := IntWalk.i64_in _ (by omega)
        have ew2 : IntKind.i64.wrap (kb * ys[k]'hky) = kb * ys[k]'hky := IntWalk.i64_in _ (by omega)
        have ew3 : IntKind.i64.wrap (ka * xs[k]'hkx + kb * ys[k]'hky) = ka * xs[k]'hkx + kb * ys[k]'hky := IntWalk.i64_in _ (by omega)
        have Hm := hid0 (And.intro m1 m2)
        clear m1 m2 hO hBut hB c1 c2 x1 x2 z0 z1 z2 z3 z4 z5 z6 e1 e2 e3
        go_wp2
        go_region
        go_wp2
        go_roundw
        case rel =>
          refine ⟨k + 1, by omega, by go_num, ?_, fun b hb => (Below.heap_setCell _ _ _ _ hb).trans (HBut.out b hb), (HBr.out.setCell hg2 _).drew⟩
          rw [← fillS_set _ _ _ _ _ hkx hky]
          refine HOk.out.set k _ ?_
          have := Hm.out
          constructor <;> omega
        case measure => simp [intOf]; omega
      · obtain rfl : k = n := by omega
        have hO := HOk.out
        rw [← HX.out, fillS_end _ _ _ _ (HX.out.trans HY.out.symm)] at hO
        have HOr := hid0 hO
        have hlen : (sumL ka kb xs ys).length = k := by rw [← fillS_end ka kb xs ys (HX.out.trans HY.out.symm), fillS_length _ _ _ _ _ (Nat.le_refl _) (HX.out.trans HY.out.symm)]; exact HX.out
        have v2 := keep1 z4 hB
        have v3 := keep1 z5 hB
        have v4 : ∀ o, wr.frozen? ⟨w.heap.size + 1 + 1, o, none⟩ = false := fun o => (hB.frozen (p := ⟨w.heap.size + 1 + 1, o, none⟩) l2).trans (z6 o)
        have l1 : w.heap.size + 1 + 1 < wr.heap.size := cell_lt v2
        have ln := cell_lt u2
        have HI : Hid (IsInts w3.heap.size wr (.slice (some ⟨w3.heap.size, 0, none⟩) k k) (sumL ka kb xs ys)) := by show IsInts _ _ _ _; have := HOr.out.ints; rw [hlen] at this; exact this
        have HL := hid0 hlen
        clear hO hBut hB c1 c2 x1 x2 h1 hk z0 z1 z2 z3 z4 z5 z6 hlen
        cases hsm : smR (sumL ka kb xs ys, ka * c + kb * d) with
        | true =>
          have E := hid0 (show comE xs c ka ys d kb = 0 by rw [HE.out, if_pos hsm])
          go_wp2_with (go_at_call 48; refine (small_any (ka * c + kb * d) HI.out).mono ?_; rintro e w4 ⟨rfl, hb4⟩; have t1 := keep1 u2 hb4; have t2 := keep1 u3 hb4; have t3 := keep1 v2 hb4; have t4 := keep1 v3 hb4; have t5 : (∀ o, w4.frozen? ⟨w.heap.size + 1 + 1, o, none⟩ = false) := fun o => (hb4.frozen (p := ⟨w.heap.size + 1 + 1, o, none⟩) l1).trans (v4 o))
          have HB4 := hid0 (thenBelow HB0.out hb4)
          refine bodyPost_ret (v := .tuple #[.agg #[.slice (some ⟨w3.heap.size, 0, none⟩) k k, .int .i64 (ka * c + kb * d)], .int .i64 0]) (by simp [results, Tryd.results71, go_sem, t3, t4]) rfl ⟨_, by rw [show comC xs c ka ys d kb = ka * c + kb * d by unfold comC; rw [if_pos E.out], E.out], ?_, (HB4.out.setCell (by simp; omega) _).setCell (by simp; omega) _⟩
          rw [show comX xs c ka ys d kb = sumL ka kb xs ys by unfold comX; rw [if_pos E.out]]
          have hO3 := ((HOr.out.below hb4).setOther ⟨w.heap.size + 1 + 1, 0, none⟩ (.slice (some ⟨w3.heap.size, 0, none⟩) k k) (by simp; omega)).setOther ⟨w.heap.size + 1 + 1, 1, none⟩ (.int .i64 (ka * c + kb * d)) (by simp; omega)
          exact .inr ⟨w3.heap.size, k, by rw [HL.out], by rw [HL.out]; exact Nat.le_refl _, by unfold maxLen; omega, hO3.mono (lo' := w.heap.size) (by omega)⟩
        | false =>
          have E := hid0 (show comE xs c ka ys d kb = 4 by rw [HE.out, hsm]; rfl)
          go_wp2_with (go_at_call 48; refine (small_any (ka * c + kb * d) HI.out).mono ?_; rintro e w4 ⟨rfl, hb4⟩; have t1 := keep1 u2 hb4; have t2 := keep1 u3 hb4; have t3 := keep1 v2 hb4; have t4 := keep1 v3 hb4; have t5 : (∀ o, w4.frozen? ⟨w.heap.size + 1 + 1, o, none⟩ = false) := fun o => (hb4.frozen (p := ⟨w.heap.size + 1 + 1, o, none⟩) l1).trans (v4 o))
          have HB4 := hid0 (thenBelow HB0.out hb4)
          refine bodyPost_ret (v := .tuple #[.agg #[.slice none 0 0, .int .i64 0], .int .i64 4]) (by simp [results, Tryd.results71, go_sem, t3, t4]) rfl ⟨_, by rw [show comC xs c ka ys d kb = 0 by unfold comC; rw [E.out]; rfl, E.out], ?_, (HB4.out.setCell (by simp; omega) _).setCell (by simp; omega) _⟩
          rw [show comX xs c ka ys d kb = [] by unfold comX; rw [E.out]; rfl]
          exact .inl ⟨rfl, rfl⟩
  · go_wp2_with fail
    obtain ⟨W, hW⟩ : ∃ W : World, W = ((w3.alloc (.cells #[Value.slice (some ⟨w3.heap.size + 1, 0, none⟩) n n, Value.int .i64 (ka * c + kb * d)] 39)).alloc (.cells (madeCells #[Value.int .i64 0] n) 3)).drew := ⟨_, rfl⟩
    rw [← hW]
    have HO3 : Hid (OwnInts w3.heap.size W (w3.heap.size + 1) (fillS ka kb xs ys 0)) := by
      show OwnInts _ _ _ _
      have hl0 : (fillS ka kb xs ys 0).length = n := by rw [fillS_length _ _ _ _ _ (Nat.zero_le _) (HX.out.trans HY.out.symm)]; exact HX.out
      rw [hW]
      refine ⟨by omega, by rw [hl0]; unfold maxLen; omega, ?_, _, 3, heap_new _ _ (by simp), fun i hi => ?_⟩
      · intro x hx; simp [fillS, sumL] at hx; rw [hx.2]; constructor <;> decide
      · have hi' : i < n := by rw [hl0] at hi; exact hi
        have hi2 : i < xs.length := by rw [HX.out]; exact hi'
        rw [madeCells_int]; simp [fillS, sumL, hi', hi2]
    have HB : Hid (Below w3.heap.size w3 W) := by rw [hW]; show Below _ _ _; go_grown
    have x1 : W.cell? ⟨w3.heap.size, 0, none⟩ = some (.slice (some ⟨w3.heap.size + 1, 0, none⟩) n n) := by rw [hW]; simp
    have x2 : W.cell? ⟨w3.heap.size, 1, none⟩ = some (.int .i64 (ka * c + kb * d)) := by rw [hW]; simp
    have hWs : w3.heap.size + 1 < W.heap.size := by rw [hW]; simp
    clear hW hmk
    have hgn : w3.heap.size + 1 ≠ w3.heap.size := by omega
    have hg2 : w3.heap.size ≤ w3.heap.size + 1 := by omega
    go_loopw [62] (fun v wr => ∃ k : Nat, k ≤ n ∧ v = .int .i64 k ∧ OwnInts w3.heap.size wr (w3.heap.size + 1) (fillS ka kb xs ys k) ∧ (∀ b, b ≠ w3.heap.size + 1 → wr.heap[b]? = W.heap[b]?) ∧ Below w3.heap.size w3 wr) (fun v _ => n - (intOf v).toNat)
    case atStart => exact ⟨0, Nat.zero_le _, rfl, HO3.out, fun _ _ => rfl, HB.out⟩
    case round =>
      obtain ⟨k, hk, rfl, hO, hBut, hB⟩ := hrel
      have HOk := hid0 hO
      have HBut := hid0 hBut
      have HBr := hid0 hB
      have HB0 := hid0 (thenBelow HB3.out hB)
      obtain ⟨c1, c2⟩ := but_cell hBut
      have u0 := keep1 z0 hB
      have u1 := keep1 z2 hB
      have u2 : wr.cell? ⟨w3.heap.size, 0, none⟩ = some (.slice (some ⟨w3.heap.size + 1, 0, none⟩) n n) := (c1 _ _ (by omega)).trans x1
      have u3 : wr.cell? ⟨w3.heap.size, 1, none⟩ = some (.int .i64 (ka * c + kb * d)) := (c1 _ _ (by omega)).trans x2
      by_cases h1 : k < n
      · have hkx : k < xs.length := by rw [HX.out]; exact h1
        have hky : k < ys.length := by rw [HY.out]; exact h1
        have g1 : wr.cell? ⟨b, off + k, none⟩ = some (.int .i64 (xs[k]'hkx)) := by
          have := (HB0.out.cell (p := ⟨b, off + k, none⟩) hb).trans (HC.out k h1); simpa [List.getD, hkx] using this
        have g1' : wr.cell? ⟨b', off' + k, none⟩ = some (.int .i64 (ys[k]'hky)) := by
          have := (HB0.out.cell (p := ⟨b', off' + k, none⟩) hb').trans (HC'.out k h1); simpa [List.getD, hky] using this
        obtain ⟨u, g2⟩ : ∃ u, wr.cell? ⟨w3.heap.size + 1, k, none⟩ = some u := ⟨_, hO.cell k (by rw [fillS_length _ _ _ _ _ (by omega) (HX.out.trans HY.out.symm)]; exact hkx)⟩
        have g3 : wr.frozen? ⟨w3.heap.size + 1, k, none⟩ = false := hO.frozen k
        have m1 := mul_fac HK.out.1 (List.all_eq_true.1 HS.out.1 _ (List.getElem_mem hkx))
        have m2 := mul_fac HK.out.2 (List.all_eq_true.1 HS'.out.1 _ (List.getElem_mem hky))
        have ew1 : IntKind.i64.wrap (ka * xs[k]'hkx) = ka * xs[k]'hkx := IntWalk.i64_in _ (by omega)
        have ew2 : IntKind.i64.wrap (kb * ys[k]'hky) = kb * ys[k]'hky := IntWalk.i64_in _ (by omega)
        have ew3 : IntKind.i64.wrap (ka * xs[k]'hkx + kb * ys[k]'hky) = ka * xs[k]'hkx + kb * ys[k]'hky := IntWalk.i64_in _ (by omega)
        have Hm := hid0 (And.intro m1 m2)
        clear m1 m2 hO hBut hB c1 c2 x1 x2 z0 z1 z2 z3 z4 z5 z6 e1 e2 e3
        go_wp2
        go_region
        go_wp2
        go_roundw
        case rel =>
          refine ⟨k + 1, by omega, by go_num, ?_, fun b hb => (Below.heap_setCell _ _ _ _ hb).trans (HBut.out b hb), (HBr.out.setCell hg2 _).drew⟩
          rw [← fillS_set _ _ _ _ _ hkx hky]
          refine HOk.out.set k _ ?_
          have := Hm.out
          constructor <;> omega
        case measure => simp [intOf]; omega
      · obtain rfl : k = n := by omega
        have hO := HOk.out
        rw [← HX.out, fillS_end _ _ _ _ (HX.out.trans HY.out.symm)] at hO
        have HOr := hid0 hO
        have hlen : (sumL ka kb xs ys).length = k := by rw [← fillS_end ka kb xs ys (HX.out.trans HY.out.symm), fillS_length _ _ _ _ _ (Nat.le_refl _) (HX.out.trans HY.out.symm)]; exact HX.out
        have v2 := keep1 z4 hB
        have v3 := keep1 z5 hB
        have v4 : ∀ o, wr.frozen? ⟨w.heap.size + 1 + 1, o, none⟩ = false := fun o => (hB.frozen (p := ⟨w.heap.size + 1 + 1, o, none⟩) l2).trans (z6 o)
        have l1 : w.heap.size + 1 + 1 < wr.heap.size := cell_lt v2
        have ln := cell_lt u2
        have HI : Hid (IsInts w3.heap.size wr (.slice (some ⟨w3.heap.size + 1, 0, none⟩) k k) (sumL ka kb xs ys)) := by show IsInts _ _ _ _; have := HOr.out.ints; rw [hlen] at this; exact this
        have HL := hid0 hlen
        clear hO hBut hB c1 c2 x1 x2 h1 hk z0 z1 z2 z3 z4 z5 z6 hlen
        cases hsm : smR (sumL ka kb xs ys, ka * c + kb * d) with
        | true =>
          have E := hid0 (show comE xs c ka ys d kb = 0 by rw [HE.out, if_pos hsm])
          go_wp2_with (go_at_call 48; refine (small_any (ka * c + kb * d) HI.out).mono ?_; rintro e w4 ⟨rfl, hb4⟩; have t1 := keep1 u2 hb4; have t2 := keep1 u3 hb4; have t3 := keep1 v2 hb4; have t4 := keep1 v3 hb4; have t5 : (∀ o, w4.frozen? ⟨w.heap.size + 1 + 1, o, none⟩ = false) := fun o => (hb4.frozen (p := ⟨w.heap.size + 1 + 1, o, none⟩) l1).trans (v4 o))
          have HB4 := hid0 (thenBelow HB0.out hb4)
          refine bodyPost_ret (v := .tuple #[.agg #[.slice (some ⟨w3.heap.size + 1, 0, none⟩) k k, .int .i64 (ka * c + kb * d)], .int .i64 0]) (by simp [results, Tryd.results71, go_sem, t3, t4]) rfl ⟨_, by rw [show comC xs c ka ys d kb = ka * c + kb * d by unfold comC; rw [if_pos E.out], E.out], ?_, (HB4.out.setCell (by simp; omega) _).setCell (by simp; omega) _⟩
          rw [show comX xs c ka ys d kb = sumL ka kb xs ys by unfold comX; rw [if_pos E.out]]
          have hO3 := ((HOr.out.below hb4).setOther ⟨w.heap.size + 1 + 1, 0, none⟩ (.slice (some ⟨w3.heap.size + 1, 0, none⟩) k k) (by simp; omega)).setOther ⟨w.heap.size + 1 + 1, 1, none⟩ (.int .i64 (ka * c + kb * d)) (by simp; omega)
          exact .inr ⟨w3.heap.size + 1, k, by rw [HL.out], by rw [HL.out]; exact Nat.le_refl _, by unfold maxLen; omega, hO3.mono (lo' := w.heap.size) (by omega)⟩
        | false =>
          have E := hid0 (show comE xs c ka ys d kb = 4 by rw [HE.out, hsm]; rfl)
          go_wp2_with (go_at_call 48; refine (small_any (ka * c + kb * d) HI.out).mono ?_; rintro e w4 ⟨rfl, hb4⟩; have t1 := keep1 u2 hb4; have t2 := keep1 u3 hb4; have t3 := keep1 v2 hb4; have t4 := keep1 v3 hb4; have t5 : (∀ o, w4.frozen? ⟨w.heap.size + 1 + 1, o, none⟩ = false) := fun o => (hb4.frozen (p := ⟨w.heap.size + 1 + 1, o, none⟩) l1).trans (v4 o))
          have HB4 := hid0 (thenBelow HB0.out hb4)
          refine bodyPost_ret (v := .tuple #[.agg #[.slice none 0 0, .int .i64 0], .int .i64 4]) (by simp [results, Tryd.results71, go_sem, t3, t4]) rfl ⟨_, by rw [show comC xs c ka ys d kb = 0 by unfold comC; rw [E.out]; rfl, E.out], ?_, (HB4.out.setCell (by simp; omega) _).setCell (by simp; omega) _⟩
          rw [show comX xs c ka ys d kb = [] by unfold comX; rw [E.out]; rfl]
          exact .inl ⟨rfl, rfl⟩
end Go.Proofs.YtbbglendddepfaaDoor

namespace Go.Proofs.YtbbglendddepfaaDoor
open Go.RowKit Go.Deep

theorem IsInts.zero (lo : Nat) (w : World) (g : Nat) : IsInts lo w (.slice (some ⟨g, 0, none⟩) 0 0) [] := ⟨some ⟨g, 0, none⟩, 0, rfl, Nat.le_refl _, by unfold maxLen; omega, ⟨by simp, fun e => by cases e⟩, .inl rfl⟩
set_option maxHeartbeats 3200000 in
theorem Combine_empty {lo lo' : Nat} {w : World} {a a' : Option Addr} {cap cap' : Nat} (c ka d kb : Int) (h : IsInts lo w (.slice a 0 cap) []) (h' : IsInts lo' w (.slice a' 0 cap') []) (hka : facB ka = true) (hkb : facB kb = true)
    (hs : smR ([], c) = true) (hs' : smR ([], d) = true) :
    Calls Tryd.prog 71 #[.agg #[.slice a 0 cap, .int .i64 c], .int .i64 ka, .agg #[.slice a' 0 cap', .int .i64 d], .int .i64 kb] w fun e w' => ∃ v', e = .returned (.tuple #[.agg #[v', .int .i64 (comC [] c ka [] d kb)], .int .i64 (comE [] c ka [] d kb)]) ∧ OwnV w.heap.size w' v' (comX [] c ka [] d kb) ∧ Below w.heap.size w w' := by
  have G0 := hid0 h
  have G1 := hid0 h'
  have HS := hid0 (smR_true.1 hs)
  have HS' := hid0 (smR_true.1 hs')
  have hm1 := mul_fac hka (smR_true.1 hs).2
  have hm2 := mul_fac hkb (smR_true.1 hs').2
  have e1 : IntKind.i64.wrap (ka * c) = ka * c := IntWalk.i64_in _ (by omega)
  have e2 : IntKind.i64.wrap (kb * d) = kb * d := IntWalk.i64_in _ (by omega)
  have e3 : IntKind.i64.wrap (ka * c + kb * d) = ka * c + kb * d := IntWalk.i64_in _ (by omega)
  have HE : Hid (comE [] c ka [] d kb = if smR ([], ka * c + kb * d) = true then 0 else 4) := by
    show _ = _
    unfold comE
    rw [if_neg (by rw [hka, hkb]; simp), if_neg (by rw [hs, hs']; simp)]; rfl
  have HK := hid0 (And.intro hka hkb)
  have hmk := run_make_row' (P := Tryd.prog) 25 3 (.int .i64 0) 8 Tryd.underlying25 info_int rfl .i64 .i64 0 (by omega) (by omega)
  have hM := hid0 (And.intro hm1 hm2)
  clear h h' hm1 hm2
  rw [show (((0 : Nat) : Int)) = 0 from rfl] at hmk
  go_enter Tryd.func71, Tryd.ntmps71
  go_wp2_with (first | (go_at_call 87; refine (isFactor_any _ _).mono ?_; rintro e w1 ⟨rfl, rfl⟩) | (go_at_call 48; refine (small_any d (G1.out.below hB2)).mono ?_; rintro e w3 ⟨rfl, hb3⟩; have hB3 : Below w.heap.size w w3 := thenBelow hB2 hb3; have z0 := keep1 y0 hb3; have z1 := keep1 y1 hb3; have z2 := keep1 y2 hb3; have z3 := keep1 y3 hb3; have z4 := keep1 y4 hb3; have z5 := keep1 y5 hb3; have z6 : (∀ o, w3.frozen? ⟨w.heap.size + 1 + 1, o, none⟩ = false) := fun o => (hb3.frozen (p := ⟨w.heap.size + 1 + 1, o, none⟩) (by show w.heap.size + 1 + 1 < _; omega)).trans (f4 o); have l3 : w.heap.size + 2 < w3.heap.size := (by have := hb3.size; omega)) | (go_at_call 48; refine (small_any c (G0.out.below (by go_grown))).mono ?_; rintro e w2 ⟨rfl, hb2⟩; obtain ⟨f1, f2, f3, f4, l2, hB2⟩ := boxes3 hb2; have y0 : w2.cell? ⟨w.heap.size, 0, none⟩ = some (.slice a 0 cap) := f1 0; have y1 : w2.cell? ⟨w.heap.size, 1, none⟩ = some (.int .i64 c) := f1 1; have y2 : w2.cell? ⟨w.heap.size + 1, 0, none⟩ = some (.slice a' 0 cap') := f2 0; have y3 : w2.cell? ⟨w.heap.size + 1, 1, none⟩ = some (.int .i64 d) := f2 1; have y4 : w2.cell? ⟨w.heap.size + 1 + 1, 0, none⟩ = some (.slice none 0 0) := f3 0; have y5 : w2.cell? ⟨w.heap.size + 1 + 1, 1, none⟩ = some (.int .i64 0) := f3 1; clear f1 f2 f3 hb2))
  have l0 : w.heap.size < w3.heap.size := by omega
  have l1 : w.heap.size + 1 < w3.heap.size := by omega
  have l2 : w.heap.size + 1 + 1 < w3.heap.size := by omega
  have HB3 := hid0 hB3
  clear y0 y1 y2 y3 y4 y5 f4 hB2 hB3 hb3
  go_region
  · go_wp2_with fail
    obtain ⟨W, hW⟩ : ∃ W : World, W = ((w3.alloc (.cells (madeCells #[Value.int .i64 0] 0) 3)).alloc (.cells #[Value.slice (some ⟨w3.heap.size, 0, none⟩) 0 0, Value.int .i64 (ka * c + kb * d)] 39)).drew := ⟨_, rfl⟩
    rw [← hW]
    have HO3 : Hid (OwnInts w3.heap.size W (w3.heap.size) []) := by
      show OwnInts _ _ _ _
      rw [hW]
      exact ⟨by omega, by simp [maxLen], by simp, _, 3, (heap_old _ _ (by simp)).trans (heap_new _ _ (by simp)), fun i hi => absurd hi (by simp)⟩
    have HB : Hid (Below w3.heap.size w3 W) := by rw [hW]; show Below _ _ _; go_grown
    have x1 : W.cell? ⟨w3.heap.size + 1, 0, none⟩ = some (.slice (some ⟨w3.heap.size, 0, none⟩) 0 0) := by rw [hW]; simp
    have x2 : W.cell? ⟨w3.heap.size + 1, 1, none⟩ = some (.int .i64 (ka * c + kb * d)) := by rw [hW]; simp
    have hWs : w3.heap.size + 1 < W.heap.size := by rw [hW]; simp
    clear hW hmk
    have hgn : w3.heap.size ≠ w3.heap.size + 1 := by omega
    have hg2 : w3.heap.size ≤ w3.heap.size := by omega
    have v2 := keep1 z4 HB.out
    have v3 := keep1 z5 HB.out
    have v4 : ∀ o, W.frozen? ⟨w.heap.size + 1 + 1, o, none⟩ = false := fun o => (HB.out.frozen (p := ⟨w.heap.size + 1 + 1, o, none⟩) l2).trans (z6 o)
    have l1 : w.heap.size + 1 + 1 < W.heap.size := cell_lt v2
    have ln := cell_lt x1
    clear z0 z1 z2 z3 z4 z5 z6
    have HB0 := hid0 (thenBelow HB3.out HB.out)
    cases hsm : smR ([], ka * c + kb * d) with
    | true =>
      have E := hid0 (show comE [] c ka [] d kb = 0 by rw [HE.out, if_pos hsm])
      refine wp_loop_rounds 1 ?_
      rw [rounds_succ]
      go_wp2_with (go_at_call 48; refine (small_any (ka * c + kb * d) (IsInts.zero 0 _ _)).mono ?_; rintro e w4 ⟨rfl, hb4⟩; have t1 := keep1 x1 hb4; have t2 := keep1 x2 hb4; have t3 := keep1 v2 hb4; have t4 := keep1 v3 hb4; have t5 : (∀ o, w4.frozen? ⟨w.heap.size + 1 + 1, o, none⟩ = false) := fun o => (hb4.frozen (p := ⟨w.heap.size + 1 + 1, o, none⟩) l1).trans (v4 o))
      have HB4 := hid0 (thenBelow HB0.out hb4)
      refine bodyPost_ret (v := .tuple #[.agg #[.slice (some ⟨w3.heap.size, 0, none⟩) 0 0, .int .i64 (ka * c + kb * d)], .int .i64 0]) (by simp [results, Tryd.results71, go_sem, t3, t4]) rfl ⟨_, by rw [show comC [] c ka [] d kb = ka * c + kb * d by unfold comC; rw [if_pos E.out], E.out], ?_, (HB4.out.setCell (by simp; omega) _).setCell (by simp; omega) _⟩
      rw [show comX [] c ka [] d kb = [] by unfold comX; rw [if_pos E.out]; rfl]
      have hO3 := ((HO3.out.below hb4).setOther ⟨w.heap.size + 1 + 1, 0, none⟩ (.slice (some ⟨w3.heap.size, 0, none⟩) 0 0) (by simp; omega)).setOther ⟨w.heap.size + 1 + 1, 1, none⟩ (.int .i64 (ka * c + kb * d)) (by simp; omega)
      exact .inr ⟨w3.heap.size, 0, rfl, Nat.le_refl _, by unfold maxLen; omega, hO3.mono (lo' := w.heap.size) (by omega)⟩
    | false =>
      have E := hid0 (show comE [] c ka [] d kb = 4 by rw [HE.out, hsm]; rfl)
      refine wp_loop_rounds 1 ?_
      rw [rounds_succ]
      go_wp2_with (go_at_call 48; refine (small_any (ka * c + kb * d) (IsInts.zero 0 _ _)).mono ?_; rintro e w4 ⟨rfl, hb4⟩; have t1 := keep1 x1 hb4; have t2 := keep1 x2 hb4; have t3 := keep1 v2 hb4; have t4 := keep1 v3 hb4; have t5 : (∀ o, w4.frozen? ⟨w.heap.size + 1 + 1, o, none⟩ = false) := fun o => (hb4.frozen (p := ⟨w.heap.size + 1 + 1, o, none⟩) l1).trans (v4 o))
      have HB4 := hid0 (thenBelow HB0.out hb4)
      refine bodyPost_ret (v := .tuple #[.agg #[.slice none 0 0, .int .i64 0], .int .i64 4]) (by simp [results, Tryd.results71, go_sem, t3, t4]) rfl ⟨_, by rw [show comC [] c ka [] d kb = 0 by unfold comC; rw [E.out]; rfl, E.out], ?_, (HB4.out.setCell (by simp; omega) _).setCell (by simp; omega) _⟩
      rw [show comX [] c ka [] d kb = [] by unfold comX; rw [E.out]; rfl]
      exact .inl ⟨rfl, rfl⟩
  · go_wp2_with fail
    obtain ⟨W, hW⟩ : ∃ W : World, W = ((w3.alloc (.cells #[Value.slice (some ⟨w3.heap.size + 1, 0, none⟩) 0 0, Value.int .i64 (ka * c + kb * d)] 39)).alloc (.cells (madeCells #[Value.int .i64 0] 0) 3)).drew := ⟨_, rfl⟩
    rw [← hW]
    have HO3 : Hid (OwnInts w3.heap.size W (w3.heap.size + 1) []) := by
      show OwnInts _ _ _ _
      rw [hW]
      exact ⟨by omega, by simp [maxLen], by simp, _, 3, heap_new _ _ (by simp), fun i hi => absurd hi (by simp)⟩
    have HB : Hid (Below w3.heap.size w3 W) := by rw [hW]; show Below _ _ _; go_grown
    have x1 : W.cell? ⟨w3.heap.size, 0, none⟩ = some (.slice (some ⟨w3.heap.size + 1, 0, none⟩) 0 0) := by rw [hW]; simp
    have x2 : W.cell? ⟨w3.heap.size, 1, none⟩ = some (.int .i64 (ka * c + kb * d)) := by rw [hW]; simp
    have hWs : w3.heap.size + 1 < W.heap.size := by rw [hW]; simp
    clear hW hmk
    have hgn : w3.heap.size + 1 ≠ w3.heap.size := by omega
    have hg2 : w3.heap.size ≤ w3.heap.size + 1 := by omega
    have v2 := keep1 z4 HB.out
    have v3 := keep1 z5 HB.out
    have v4 : ∀ o, W.frozen? ⟨w.heap.size + 1 + 1, o, none⟩ = false := fun o => (HB.out.frozen (p := ⟨w.heap.size + 1 + 1, o, none⟩) l2).trans (z6 o)
    have l1 : w.heap.size + 1 + 1 < W.heap.size := cell_lt v2
    have ln := cell_lt x1
    clear z0 z1 z2 z3 z4 z5 z6
    have HB0 := hid0 (thenBelow HB3.out HB.out)
    cases hsm : smR ([], ka * c + kb * d) with
    | true =>
      have E := hid0 (show comE [] c ka [] d kb = 0 by rw [HE.out, if_pos hsm])
      refine wp_loop_rounds 1 ?_
      rw [rounds_succ]
      go_wp2_with (go_at_call 48; refine (small_any (ka * c + kb * d) (IsInts.zero 0 _ _)).mono ?_; rintro e w4 ⟨rfl, hb4⟩; have t1 := keep1 x1 hb4; have t2 := keep1 x2 hb4; have t3 := keep1 v2 hb4; have t4 := keep1 v3 hb4; have t5 : (∀ o, w4.frozen? ⟨w.heap.size + 1 + 1, o, none⟩ = false) := fun o => (hb4.frozen (p := ⟨w.heap.size + 1 + 1, o, none⟩) l1).trans (v4 o))
      have HB4 := hid0 (thenBelow HB0.out hb4)
      refine bodyPost_ret (v := .tuple #[.agg #[.slice (some ⟨w3.heap.size + 1, 0, none⟩) 0 0, .int .i64 (ka * c + kb * d)], .int .i64 0]) (by simp [results, Tryd.results71, go_sem, t3, t4]) rfl ⟨_, by rw [show comC [] c ka [] d kb = ka * c + kb * d by unfold comC; rw [if_pos E.out], E.out], ?_, (HB4.out.setCell (by simp; omega) _).setCell (by simp; omega) _⟩
      rw [show comX [] c ka [] d kb = [] by unfold comX; rw [if_pos E.out]; rfl]
      have hO3 := ((HO3.out.below hb4).setOther ⟨w.heap.size + 1 + 1, 0, none⟩ (.slice (some ⟨w3.heap.size + 1, 0, none⟩) 0 0) (by simp; omega)).setOther ⟨w.heap.size + 1 + 1, 1, none⟩ (.int .i64 (ka * c + kb * d)) (by simp; omega)
      exact .inr ⟨w3.heap.size + 1, 0, rfl, Nat.le_refl _, by unfold maxLen; omega, hO3.mono (lo' := w.heap.size) (by omega)⟩
    | false =>
      have E := hid0 (show comE [] c ka [] d kb = 4 by rw [HE.out, hsm]; rfl)
      refine wp_loop_rounds 1 ?_
      rw [rounds_succ]
      go_wp2_with (go_at_call 48; refine (small_any (ka * c + kb * d) (IsInts.zero 0 _ _)).mono ?_; rintro e w4 ⟨rfl, hb4⟩; have t1 := keep1 x1 hb4; have t2 := keep1 x2 hb4; have t3 := keep1 v2 hb4; have t4 := keep1 v3 hb4; have t5 : (∀ o, w4.frozen? ⟨w.heap.size + 1 + 1, o, none⟩ = false) := fun o => (hb4.frozen (p := ⟨w.heap.size + 1 + 1, o, none⟩) l1).trans (v4 o))
      have HB4 := hid0 (thenBelow HB0.out hb4)
      refine bodyPost_ret (v := .tuple #[.agg #[.slice none 0 0, .int .i64 0], .int .i64 4]) (by simp [results, Tryd.results71, go_sem, t3, t4]) rfl ⟨_, by rw [show comC [] c ka [] d kb = 0 by unfold comC; rw [E.out]; rfl, E.out], ?_, (HB4.out.setCell (by simp; omega) _).setCell (by simp; omega) _⟩
      rw [show comX [] c ka [] d kb = [] by unfold comX; rw [E.out]; rfl]
      exact .inl ⟨rfl, rfl⟩

theorem Combine_any {lo lo' : Nat} {w : World} {v v' : Value} {xs ys : List Int} (c ka d kb : Int) (h : IsInts lo w v xs) (h' : IsInts lo' w v' ys) :
    Calls Tryd.prog 71 #[.agg #[v, .int .i64 c], .int .i64 ka, .agg #[v', .int .i64 d], .int .i64 kb] w fun e w' => ∃ u, e = .returned (.tuple #[.agg #[u, .int .i64 (comC xs c ka ys d kb)], .int .i64 (comE xs c ka ys d kb)]) ∧ OwnV w.heap.size w' u (comX xs c ka ys d kb) ∧ Below w.heap.size w w' := by
  by_cases he : xs.length ≠ ys.length ∨ 96 < xs.length ∨ facB ka = false ∨ facB kb = false
  · have E : comE xs c ka ys d kb = 1 := by unfold comE; rw [if_pos he]
    refine (Combine_err c ka d kb h h' he).mono ?_
    rintro e w' ⟨rfl, hb⟩
    exact ⟨_, by rw [show comC xs c ka ys d kb = 0 by unfold comC; rw [E]; rfl, E], by rw [show comX xs c ka ys d kb = [] by unfold comX; rw [E]; rfl]; exact .inl ⟨rfl, rfl⟩, hb⟩
  · have h1 : xs.length = ys.length := Decidable.byContradiction fun e => he (.inl e)
    have h2 : ¬ 96 < xs.length := fun e => he (.inr (.inl e))
    have hka : facB ka = true := by cases e : facB ka; · exact absurd (.inr (.inr (.inl e))) he
                                    · rfl
    have hkb : facB kb = true := by cases e : facB kb; · exact absurd (.inr (.inr (.inr e))) he
                                    · rfl
    by_cases hl : smR (xs, c) = false ∨ smR (ys, d) = false
    · have E : comE xs c ka ys d kb = 4 := by unfold comE; rw [if_neg he, if_pos hl]
      refine (Combine_large c ka d kb h h' h1 h2 hka hkb hl).mono ?_
      rintro e w' ⟨rfl, hb⟩
      exact ⟨_, by rw [show comC xs c ka ys d kb = 0 by unfold comC; rw [E]; rfl, E], by rw [show comX xs c ka ys d kb = [] by unfold comX; rw [E]; rfl]; exact .inl ⟨rfl, rfl⟩, hb⟩
    · have hs : smR (xs, c) = true := by cases e : smR (xs, c); · exact absurd (.inl e) hl
                                         · rfl
      have hs' : smR (ys, d) = true := by cases e : smR (ys, d); · exact absurd (.inr e) hl
                                          · rfl
      have H := h
      have H' := h'
      obtain ⟨a, cap, rfl, _, _, _, hc⟩ := h
      obtain ⟨a', cap', rfl, _, _, _, hc'⟩ := h'
      have hnil : ∀ {xs ys : List Int}, xs = [] → ys = [] → IsInts lo w (.slice a xs.length cap) xs → IsInts lo' w (.slice a' ys.length cap') ys → smR (xs, c) = true → smR (ys, d) = true → Calls Tryd.prog 71 #[.agg #[.slice a xs.length cap, .int .i64 c], .int .i64 ka, .agg #[.slice a' ys.length cap', .int .i64 d], .int .i64 kb] w fun e w' => ∃ u, e = .returned (.tuple #[.agg #[u, .int .i64 (comC xs c ka ys d kb)], .int .i64 (comE xs c ka ys d kb)]) ∧ OwnV w.heap.size w' u (comX xs c ka ys d kb) ∧ Below w.heap.size w w' := fun e e' G G' s s' => by
        subst e; subst e'; exact Combine_empty c ka d kb G G' hka hkb s s'
      rcases hc with e | ⟨b, off, rfl, _, hb, hc⟩
      · exact hnil e (List.eq_nil_of_length_eq_zero (by rw [← h1, e]; rfl)) H H' hs hs'
      · rcases hc' with e | ⟨b', off', rfl, _, hb', hc'⟩
        · exact hnil (List.eq_nil_of_length_eq_zero (by rw [h1, e]; rfl)) e H H' hs hs'
        · have G := H'
          rw [← h1] at G ⊢
          exact Combine_full c ka d kb rfl h1.symm H G (by omega) hka hkb hs hs' hb hb' hc (fun i hi => hc' i (by omega))
end Go.Proofs.YtbbglendddepfaaDoor

namespace Go.Proofs.YtbbglendddepfaaDoor
open Go.RowKit Go.Deep

end Go.Proofs.YtbbglendddepfaaDoor

namespace Go.Proofs.YtbbglendddepfaaDoor
open Go.RowKit Go.Deep

end Go.Proofs.YtbbglendddepfaaDoor

namespace Go.Proofs.YtbbglendddepfaaDoor
open Go.RowKit Go.Deep

end Go.Proofs.YtbbglendddepfaaDoor

namespace Go.Proofs.YtbbglendddepfaaDoor
open Go.RowKit Go.Deep
/-- What is new is that no more. -/
theorem wk_stripB {h : AHeap} {t : ATm} (k : Nat) {T : TypeId} {cs ds : List AV} (hk : h k = some (.box T cs)) (hd : cs.map AV.unfr = ds) : Wk h t (fun j => if j = k then some (.box T ds) else h j) t := by
  subst hd
  intro J w0 ρ a w s
  refine ⟨ρ, s.wf, s.hH, s.bel, s.inv, fun j X hj => ?_, fun j hl hj => ?_, s.pin, s.tl, s.tm, s.df⟩
  · by_cases e : j = k
    · subst e
      rw [if_pos rfl] at hj
      cases hj
      obtain ⟨nm, g1, b, c, n, vs, q0, q1, q2, q3⟩ := s.hp j _ hk
      refine ⟨nm, g1, b, c, n, vs, q0, q1, by simpa using q2, fun i hi => ?_⟩
      have := q3 i (by simpa using hi)
      rw [List.getElem_map]
      generalize cs[i]'(by simpa using hi) = X at this
      cases X with
      | fr X =>
        cases this with
        | pu h => exact .pu h.strip
      | _ => exact this
    · rw [if_neg e] at hj
      exact s.hp j X hj
  · by_cases e : j = k
    · rw [if_pos e] at hj; cases hj
    · rw [if_neg e] at hj; exact s.dom j hl hj
namespace Elm
variable {J : World → Prop}
def axR (p m : Nat) (c : Int) : List Int := (List.replicate p (0 : Int)).set m c
theorem axR_len (p m : Nat) (c : Int) : (axR p m c).length = p := by simp [axR]
theorem axR_zero (p : Nat) : List.replicate p (AV.v (.int .i64 0)) = (List.replicate p (0 : Int)).map iv := by simp [iv]
theorem axR_step {p m : Nat} {c : Int} : setAll ((List.replicate p (0 : Int)).map iv) m [iv c] = (axR p m c).map iv := by
  unfold axR
  rw [List.map_set]
  rfl
def cf (m : Nat) (r : Rw) : Int := r.1.getD m 0
theorem cf_at {m : Nat} {r : Rw} (h : m < r.1.length) : r.1[m] = cf m r := by unfold cf; rw [List.getD_eq_getElem?_getD, List.getElem?_eq_getElem h]; rfl
def oth (m : Nat) (rs : List Rw) : List Rw := rs.filter fun r => decide (cf m r = 0)
def lowT (m : Nat) (rs : List Rw) : List Rw := rs.filter fun r => decide (0 < cf m r)
def upp (m : Nat) (rs : List Rw) : List Rw := rs.filter fun r => decide (cf m r < 0)
def low (p m : Nat) (rs : List Rw) : List Rw := (axR p m 1, 0) :: lowT m rs
section
variable {p m k : Nat} {rs : List Rw}
theorem fil_yes {q : Rw → Bool} (hk : k < rs.length) (h : q rs[k] = true) : (rs.take (k + 1)).filter q = (rs.take k).filter q ++ [rs[k]] := by
  rw [List.take_succ_eq_append_getElem hk, List.filter_append]; simp [h]
theorem fil_no {q : Rw → Bool} (hk : k < rs.length) (h : q rs[k] = false) : (rs.take (k + 1)).filter q = (rs.take k).filter q := by
  rw [List.take_succ_eq_append_getElem hk, List.filter_append]; simp [h]
theorem st_z (hk : k < rs.length) (hm : m < rs[k].1.length) (h : rs[k].1[m] = 0) : oth m (rs.take (k + 1)) = oth m (rs.take k) ++ [rs[k]] ∧ low p m (rs.take (k + 1)) = low p m (rs.take k) ∧ upp m (rs.take (k + 1)) = upp m (rs.take k) := by
  rw [cf_at hm] at h
  exact ⟨fil_yes hk (by simp [h]), congrArg (List.cons (axR p m 1, (0 : Int))) (fil_no hk (by simp [h])), fil_no hk (by simp [h])⟩
theorem st_p (hk : k < rs.length) (hm : m < rs[k].1.length) (h : ¬ rs[k].1[m] = 0) (h' : 0 < rs[k].1[m]) : oth m (rs.take (k + 1)) = oth m (rs.take k) ∧ low p m (rs.take (k + 1)) = low p m (rs.take k) ++ [rs[k]] ∧ upp m (rs.take (k + 1)) = upp m (rs.take k) := by
  rw [cf_at hm] at h h'
  refine ⟨fil_no hk (by simp [h]), ?_, fil_no hk (by simp; omega)⟩
  unfold low lowT
  rw [fil_yes hk (by simp [h']), List.cons_append]
theorem st_n (hk : k < rs.length) (hm : m < rs[k].1.length) (h : ¬ rs[k].1[m] = 0) (h' : ¬ 0 < rs[k].1[m]) : oth m (rs.take (k + 1)) = oth m (rs.take k) ∧ low p m (rs.take (k + 1)) = low p m (rs.take k) ∧ upp m (rs.take (k + 1)) = upp m (rs.take k) ++ [rs[k]] := by
  rw [cf_at hm] at h h'
  exact ⟨fil_no hk (by simp [h]), congrArg (List.cons (axR p m 1, (0 : Int))) (fil_no hk (by simp; omega)), fil_yes hk (by simp; omega)⟩
theorem oth_len : (oth m rs).length ≤ rs.length := List.length_filter_le _ _
theorem upp_len : (upp m rs).length ≤ rs.length := List.length_filter_le _ _
theorem low_len : (low p m rs).length ≤ rs.length + 1 := by
  have : (lowT m rs).length ≤ rs.length := List.length_filter_le _ _
  simp only [low, List.length_cons]; omega
end
def mulE (p m : Nat) (rs : List Rw) : Int := ((low p m rs).length : Int) * (upp m rs).length
def szE (p m : Nat) (rs : List Rw) : Int := (oth m rs).length + mulE p m rs
theorem mulE_le {p m : Nat} {rs : List Rw} (hl : rs.length ≤ 250) : 0 ≤ mulE p m rs ∧ mulE p m rs ≤ 62750 := by
  have h1 := low_len (p := p) (m := m) (rs := rs)
  have h2 := upp_len (m := m) (rs := rs)
  have h3 : (low p m rs).length * (upp m rs).length ≤ 251 * 250 := Nat.mul_le_mul (by omega) (by omega)
  have e : mulE p m rs = (((low p m rs).length * (upp m rs).length : Nat) : Int) := by unfold mulE; rw [Int.natCast_mul]
  rw [e]
  constructor <;> omega
theorem wrap_mul {p m : Nat} {rs : List Rw} (hl : rs.length ≤ 250) : IntKind.i64.wrap (((low p m rs).length : Int) * ((upp m rs).length : Nat)) = mulE p m rs := by
  have := mulE_le (p := p) (m := m) hl
  exact w64 rfl (by omega) (by omega)
theorem wrap_sz {p m : Nat} {rs : List Rw} (hl : rs.length ≤ 250) : IntKind.i64.wrap (((oth m rs).length : Int) + mulE p m rs) = szE p m rs := by
  have := mulE_le (p := p) (m := m) hl
  have h1 := oth_len (m := m) (rs := rs)
  exact w64 rfl (by unfold szE; omega) (by unfold szE; omega)
/-- The multiples. -/
def gE (m : Nat) (l u : Rw) : Int := Int.gcd (cf m l) (-cf m u)
def kA (m : Nat) (l u : Rw) : Int := (cf m l).tdiv (gE m l u)
def kB (m : Nat) (l u : Rw) : Int := (-cf m u).tdiv (gE m l u)
def mixR (m : Nat) (l u : Rw) : Rw := (sumL (kB m l u) (kA m l u) l.1 u.1, kB m l u * l.2 + kA m l u * u.2)
def okE (m : Nat) (l u : Rw) : Bool := !decide (65536 < kA m l u) && !decide (65536 < kB m l u) && smR (mixR m l u)
def cnE (m : Nat) (l u : Rw) : Int := if okE m l u = true then 0 else 4
def cnR (m : Nat) (l u : Rw) : Rw := if okE m l u = true then mixR m l u else ([], 0)
/-- Two rows that can be joined. -/
structure Pair (m : Nat) (l u : Rw) : Prop where
  lm : m < l.1.length
  um : m < u.1.length
  e : l.1.length = u.1.length
  n : l.1.length ≤ 96
  sl : smR l = true
  su : smR u = true
  pos : 0 < cf m l
  neg : cf m u < 0
section
variable {m : Nat} {l u : Rw}
theorem sm_ok {r : Rw} (h : smR r = true) : RwOk r := by
  obtain ⟨h1, h2⟩ := smR_true.1 h
  exact ⟨fun x hx => smB_I64 (List.all_eq_true.1 h1 x hx), smB_I64 h2⟩
theorem sm_at {r : Rw} (h : smR r = true) (hm : m < r.1.length) : smB r.1[m] = true := List.all_eq_true.1 (smR_true.1 h).1 _ (List.getElem_mem hm)
theorem Pair.sa (P : Pair m l u) : smB (cf m l) = true := by rw [← cf_at P.lm]; exact sm_at P.sl P.lm
theorem Pair.sb (P : Pair m l u) : smB (cf m u) = true := by rw [← cf_at P.um]; exact sm_at P.su P.um
theorem Pair.g1 (P : Pair m l u) : 1 ≤ gE m l u := by
  unfold gE
  have : Int.gcd (cf m l) (-cf m u) ≠ 0 := fun e => by have := (Int.gcd_eq_zero_iff.1 e).1; have := P.pos; omega
  omega
theorem tdiv_in {x g : Int} (hx : 0 < x) (hg : 1 ≤ g) (hx' : x ≤ 68719476736) : 0 ≤ x.tdiv g ∧ x.tdiv g ≤ 68719476736 :=
  ⟨Int.tdiv_nonneg (by omega) (by omega), (tdiv_small (smB_true.2 ⟨by omega, hx'⟩)).2⟩
theorem Pair.ka (P : Pair m l u) : 0 ≤ kA m l u ∧ kA m l u ≤ 68719476736 := tdiv_in P.pos P.g1 (smB_true.1 P.sa).2
theorem Pair.kb (P : Pair m l u) : 0 ≤ kB m l u ∧ kB m l u ≤ 68719476736 := tdiv_in (by have := P.neg; omega) P.g1 (by have := (smB_true.1 P.sb).1; omega)
theorem Pair.wa (P : Pair m l u) : IntKind.i64.wrap ((cf m l).tdiv (gE m l u)) = kA m l u := w64 rfl (by have := P.ka; omega) (by have := P.ka; omega)
theorem Pair.wb (P : Pair m l u) : IntKind.i64.wrap ((-cf m u).tdiv (gE m l u)) = kB m l u := w64 rfl (by have := P.kb; omega) (by have := P.kb; omega)
theorem gcd_c (P : Pair m l u) : Ctr Tryd.prog J 70 [iv (cf m l), iv (-cf m u)] (iv (gE m l u)) := ctr2 fun w v v' _ h h' => by
  rw [h.v_inv, h'.v_inv]
  exact (gcd_any _ _ w P.sa (smB_neg P.sb)).mono fun _ _ => ret_sc
theorem Pair.fa (P : Pair m l u) (h : ¬ 65536 < kA m l u) : facB (kA m l u) = true := facB_true.2 ⟨P.ka.1, by omega⟩
theorem Pair.fb (P : Pair m l u) (h : ¬ 65536 < kB m l u) : facB (kB m l u) = true := facB_true.2 ⟨P.kb.1, by omega⟩
theorem ok_eq (h1 : ¬ 65536 < kA m l u) (h2 : ¬ 65536 < kB m l u) : okE m l u = smR (mixR m l u) := by unfold okE; simp [h1, h2]
theorem ownV {F : Nat → Prop} {lo : Nat} {w : World} {v : Value} {xs : List Int} (h : OwnV lo w v xs) : Pu F w (nw w lo) (intsA xs) v := by
  rcases h with ⟨rfl, rfl⟩ | ⟨g, cap, rfl, hl, hm, h1, h2, h3, cur, t, hg, hc⟩
  · exact .sl0 (by simp [maxLen]) (by simp)
  · refine .sl (b := g) (off := 0) (f := fun j => .int .i64 (xs.getD j 0)) (by simp) hl hm ⟨h1, _, _, hg⟩ (Array.getElem?_eq_some_iff.1 hg).1 (fun j hj => ?_) fun j hj => ?_
    · have hj' : j < xs.length := by simpa using hj
      rw [Nat.zero_add, cellB hg j (v := .int .i64 (xs.getD j 0)) (hc j hj')]
    · have hj' : j < xs.length := by simpa using hj
      simp only [List.getElem_map, List.getD_eq_getElem?_getD, List.getElem?_eq_getElem hj', Option.getD_some]
      exact .v _
theorem ownRow {lo : Nat} {w : World} {v : Value} {r : Rw} (h : OwnV lo w v r.1) : Pu (lo ≤ ·) w (nw w lo) (.agg (cRo r)) (.agg #[v, .int .i64 r.2]) :=
  .agg rfl fun j hj => (match j, hj with
    | 0, _ => ownV h
    | 1, _ => .v _)
theorem Combine_c (P : Pair m l u) (h1 : ¬ 65536 < kA m l u) (h2 : ¬ 65536 < kB m l u) :
    Ctr Tryd.prog J 71 [.agg (cRo l), iv (kB m l u), .agg (cRo u), iv (kA m l u)] (.tup [.agg (cRo (cnR m l u)), iv (cnE m l u)]) := fun w vs _ hl hv => by
  match vs, hl, hv with
  | ⟨[v0, v1, v2, v3]⟩, _, hv =>
    obtain ⟨x, rfl, hx⟩ := row_args (hv 0 (by simp))
    obtain ⟨y, rfl, hy⟩ := row_args (hv 2 (by simp))
    obtain rfl := (hv 1 (by simp)).v_inv
    obtain rfl := (hv 3 (by simp)).v_inv
    have e1 : comE l.1 l.2 (kB m l u) u.1 u.2 (kA m l u) = cnE m l u := by
      unfold comE cnE
      rw [if_neg (by rw [P.fa h1, P.fb h2]; have := P.e; have := P.n; simp; omega), if_neg (by rw [show smR (l.1, l.2) = true from P.sl, show smR (u.1, u.2) = true from P.su]; simp), ok_eq h1 h2]
      rfl
    have e2 : (comX l.1 l.2 (kB m l u) u.1 u.2 (kA m l u), comC l.1 l.2 (kB m l u) u.1 u.2 (kA m l u)) = cnR m l u := by
      unfold comX comC cnR
      rw [e1]
      unfold cnE
      by_cases h : okE m l u = true
      · simp [h, mixR]
      · simp [h]
    refine (Combine_any l.2 (kB m l u) u.2 (kA m l u) (pu_ints (sm_ok P.sl).coef lo00 hx) (pu_ints (sm_ok P.su).coef lo00 hy)).mono fun e w' ⟨u', he, ho, hb⟩ => ⟨_, he, ?_, hb⟩
    rw [e1]
    have e3 := congrArg Prod.fst e2
    have e4 := congrArg Prod.snd e2
    dsimp only at e3 e4
    rw [e3] at ho
    rw [e4]
    exact .tup rfl fun j hj => (match j, hj with
      | 0, _ => ownRow ho
      | 1, _ => .v _)
theorem mix_len (P : Pair m l u) : (mixR m l u).1.length = l.1.length := by
  have := P.e
  simp [mixR, sumL]; omega
theorem cn_err (h : 65536 < kA m l u ∨ 65536 < kB m l u) : AV.tup [.agg [.sl 1 0 [], iv 0], iv 4] = .tup [.agg (cRo (cnR m l u)), iv (cnE m l u)] := by
  have : okE m l u = false := by
    unfold okE
    rcases h with h | h <;> simp [h]
  unfold cnR cnE
  rw [this]
  rfl
end
theorem cellRp (r : Rw) : ∀ d ∈ cRo r, d.cell = true := fun d hd => by
  simp only [cRo, List.mem_cons, List.not_mem_nil, or_false] at hd; rcases hd with rfl | rfl <;> rfl
theorem snocRp {xs : List Rw} {r : Rw} : xs.flatMap cRo ++ rowCells false (cRo r) = (xs ++ [r]).flatMap cRo := by
  rw [List.flatMap_append]
  simp [rowCells, cRo]
end Elm
end Go.Proofs.YtbbglendddepfaaDoor
