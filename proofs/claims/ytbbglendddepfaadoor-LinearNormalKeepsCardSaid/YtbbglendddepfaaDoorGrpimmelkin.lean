import Derived.ChangeArms
import Derived.Test.YtbbglendddepfaaDoorGrpjbjcdmfm
import Derived.Test.YtbbglendddepfaaDoorGrpkmdclcel
import Derived.Test.YtbbglendddepfaaDoorGrpoieapbln
set_option linter.all false
namespace Go.Proofs.YtbbglendddepfaaDoor
open Go.RowKit Go.Deep
variable {J : World → Prop}
theorem compact_all (b n cap sz : Nat) (T : TypeId) (w : World) (els : List El) (hx : els.length = n) (hn : n ≤ 4611686018427387904) (hnc : n ≤ cap) (hW : CW w b T sz els w) (HI : ∀ W, Oth w b W → ∀ x ∈ els, IsInts 0 W x.1 x.2.1) :
    Calls Tryd.prog 67 #[.slice (some ⟨b, 0, none⟩) n cap, .func (.func 68) #[] #[]] w fun e w' => e = .returned (.slice (some ⟨b, 0, none⟩) (keptE els n).length cap) ∧ CW w b T sz (keptE els n ++ List.replicate (n - (keptE els n).length) zEl) w' := by
  by_cases h2 : n < 2
  · have e : keptE els n = els := by
      rw [keptE_all els n (by omega) (fun i hi => by obtain rfl : i = 0 := (by omega); rfl), ← hx, List.take_length]
    rw [e, hx]
    refine (compact_short b n cap w _ h2).mono fun e' w' ⟨he, hw⟩ => ⟨he, ?_⟩
    subst hw
    simpa using hW
  · exact compact_full b n cap sz T w els hx hn hnc h2 hW HI
/-- What is left of rows in their order: of those with the same coefficients the first. -/
def keepR (rs : List Rw) (i : Nat) : Bool := decide (i = 0) || !eqI (rs.getD i ([], 0)).1 (rs.getD (i - 1) ([], 0)).1
def keptR (rs : List Rw) : Nat → List Rw
  | 0 => []
  | m + 1 => keptR rs m ++ (if keepR rs m then [rs.getD m ([], 0)] else [])
def cmpt (rs : List Rw) : List Rw := keptR rs rs.length
theorem getD_map_snd (els : List El) (i : Nat) : (els.map (·.2)).getD i ([], 0) = (els.getD i zEl).2 := by
  simp only [List.getD_eq_getElem?_getD, List.getElem?_map]
  cases els[i]? <;> rfl
theorem keptE_map (els : List El) : ∀ m, (keptE els m).map (·.2) = keptR (els.map (·.2)) m
  | 0 => rfl
  | m + 1 => by
    have e : keepR (els.map (·.2)) m = keepE els m := by unfold keepR keepE; rw [getD_map_snd, getD_map_snd]
    rw [keptE, keptR, List.map_append, keptE_map els m, e, getD_map_snd]
    split <;> rfl
theorem keptE_mem {els : List El} : ∀ m, m ≤ els.length → ∀ x ∈ keptE els m, x ∈ els
  | 0, _, x, h => by simp [keptE] at h
  | m + 1, hm, x, h => by
    rw [keptE, List.mem_append] at h
    rcases h with h | h
    · exact keptE_mem m (by omega) x h
    · split at h
      · rw [List.mem_singleton] at h
        rw [h, List.getD_eq_getElem?_getD, List.getElem?_eq_getElem (by omega)]
        exact List.getElem_mem _
      · cases h
set_option maxHeartbeats 800000 in
theorem sp_compactRo {o : Oper} {c x y : Operand} {ats : Array TypeId} {e n k : Nat} {fr : Bool} {ds : List Rw} (ho : o.op = .call { callee := .value c, args := #[x, y], argTypes := ats }) (hI : ∀ r ∈ ds, RwOk r) (hsz : ds.length ≤ 4611686018427387904) {m : Nat} (hm : (cmpt ds).length = m) :
    ASpec Tryd.prog J o [(c, .v (.func (.func 67) #[] #[])), (x, .own k), (y, .v (.func (.func 68) #[] #[]))] [(k, .row fr e 2 n (ds.flatMap cRo))] (.own k) (.ap k (.row fr e 2 m ((cmpt ds).flatMap cRo))) := by
  subst hm
  intro ρ B a w K Q hwf hB hJ ha hr _ hk
  obtain ⟨nm, hk1, hx⟩ := (ha (x, .own k) (by simp)).own_inv
  have hy := (ha (y, .v (.func (.func 68) #[] #[])) (by simp)).v_inv
  obtain ⟨nm', hk1', xs, ⟨hlen, hcase⟩, hxl, hrel⟩ := hr (k, .row fr e 2 n (ds.flatMap cRo)) (by simp)
  rw [hk1] at hk1'; cases hk1'
  have hn : n = ds.length := by
    have h1 : (ds.flatMap cRo).length = ds.length * 2 := lenFlat ds
    omega
  subst hn
  refine upon_call ho (ha (c, .v (.func (.func 67) #[] #[])) (by simp)).v_inv (by kernel_rfl) ?_
  rw [Array.append_empty]
  have hargs : (#[x, y] : Array Operand).map a.eval = #[nm.val, .func (.func 68) #[] #[]] := by simp [hx, hy]
  rw [hargs]
  have hflat : ∀ (rs : List Rw) (t i j : Nat) (_ : t = i * 2 + j) (hi : i < rs.length) (hj : j < 2) (hl : t < (rs.flatMap cRo).length), (rs.flatMap cRo)[t] = (cRo rs[i])[j]'hj := fun rs t i j e hi hj hl => by
    subst e
    have := eflat_get lenRo rs i j hi hj
    rw [List.getElem?_eq_getElem hl] at this
    rw [List.getElem?_eq_getElem hj] at this
    exact Option.some.inj this
  rcases hcase with ⟨hv, hn0⟩ | ⟨g, cap, cur, hv, hBg, hg, hnc, hmx, hs, ht⟩
  · have hd : ds = [] := List.eq_nil_of_length_eq_zero hn0
    subst hd
    rw [hv]
    refine Calls.mono (compact_nil 0 w (.func (.func 68) #[] #[]) none) fun e' w' ⟨he, hw⟩ => ⟨_, he, ?_⟩
    subst hw
    have hup : (upd ρ k nm).f = ρ.f := by
      funext j
      by_cases e : j = k
      · subst e; exact (upd_same ρ j nm).trans hk1.symm
      · exact upd_other e
    have hup2 : upd ρ k nm = ρ := by
      obtain ⟨f, H⟩ := ρ
      exact congrArg (fun g => Names.mk g H) hup
    rw [show (cmpt ([] : List Rw)) = [] from rfl] at hk
    refine hk ρ w _ ⟨rfl, rfl, rfl, rfl, Nat.le_refl _, fun _ _ _ => rfl, fun _ _ => rfl, fun _ _ _ => rfl, fun k' X' he' => ?_, ?_⟩
    · cases he'
      exact ⟨nm, hk1, fun b' c' n' e => by subst e; exact ⟨(hwf.lo _ _ _ _ hk1).2, (hwf.lo _ _ _ _ hk1).1, .inr ⟨_, _, hk1⟩⟩, xs, ⟨hlen, .inl ⟨hv, rfl⟩⟩, hxl, hrel⟩
    · have : Nm.val nm = .slice none 0 0 := hv
      rw [← this]
      exact .own hk1
  · have hnm : nm = .at g cap ds.length := by
      cases nm with
      | nil => cases hv
      | «at» b c m =>
        simp only [Nm.val, Value.slice.injEq, Option.some.injEq, Addr.mk.injEq, and_true] at hv
        obtain ⟨rfl, rfl, rfl⟩ := hv
        rfl
    subst hnm
    have hfl : (ds.flatMap cRo).length = ds.length * 2 := by omega
    have hpu : ∀ i (hi : i < ds.length), Pu (B ≤ ·) w (okR ρ fr B w) (intsA ds[i].1) (xs.getD (i * 2) undef) := fun i hi => by
      have h := hrel (i * 2) (by omega)
      rwa [show (ds.flatMap cRo)[i * 2]'(by omega) = intsA ds[i].1 from hflat ds _ i 0 rfl hi (by omega) (by omega)] at h
    have hpc : ∀ i (hi : i < ds.length), xs.getD (i * 2 + 1) undef = .int .i64 ds[i].2 := fun i hi => by
      have h := hrel (i * 2 + 1) (by omega)
      rw [show (ds.flatMap cRo)[i * 2 + 1]'(by omega) = iv ds[i].2 from hflat ds _ i 1 rfl hi (by omega) (by omega)] at h
      exact h.v_inv
    obtain ⟨els, hel⟩ : ∃ els : List El, els = ds.zipIdx.map fun p => (xs.getD (p.2 * 2) undef, p.1) := ⟨_, rfl⟩
    have hes : els.length = ds.length := by rw [hel]; simp
    have heg : ∀ i (hi : i < els.length), els[i] = (xs.getD (i * 2) undef, ds[i]'(by omega)) := fun i hi => by subst hel; simp
    have her : els.map (·.2) = ds := by
      refine List.ext_getElem (by simp [hes]) fun i h1 h2 => ?_
      rw [List.getElem_map, heg i (by omega)]
    have hepu : ∀ z ∈ els, Pu (B ≤ ·) w (okR ρ fr B w) (intsA z.2.1) z.1 ∧ RwOk z.2 := fun z hz => by
      obtain ⟨i, hi, rfl⟩ := List.getElem_of_mem hz
      rw [heg i hi]
      exact ⟨hpu i (by omega), hI _ (List.getElem_mem _)⟩
    have hcur : ∀ t, t < ds.length * 2 → cur[t]? = some (xs.getD t undef) := fun t h => by
      have : xs[t]? = cur.toList[t]? := by rw [← ht, List.getElem?_take, if_pos h]
      have h3 : xs[t]? = some (xs.getD t undef) := by
        rw [List.getD_eq_getElem?_getD, List.getElem?_eq_getElem (by omega)]
        rfl
      rw [← Array.getElem?_toList, ← this]; exact h3
    have hok : ∀ b, okR ρ fr B w b → b ≠ g := fun b hb e => by subst e; exact hb.1 _ _ _ hk1
    have hCW : CW w g e (cap * 2) els w := ⟨⟨rfl, rfl, rfl, Nat.le_refl _, fun _ _ _ => rfl⟩, cur, hg, hs, fun i hi => by
      rw [heg i hi]
      refine ⟨hcur _ (by omega), ?_⟩
      rw [hcur _ (by omega), hpc i (by omega)]⟩
    have hIn : ∀ W, Oth w g W → ∀ z ∈ els, IsInts 0 W z.1 z.2.1 := fun W hW z hz =>
      pu_ints (F := fun _ => True) (ok := fun _ => True) (lo := 0) (hepu z hz).2.coef (fun _ _ => Nat.zero_le _) ((hepu z hz).1.mono (fun b hb hw => ⟨trivial, Nat.lt_of_lt_of_le hw hW.size, hW.block b hw (hok b hb)⟩) fun _ _ _ => trivial)
    refine Calls.mono (compact_all g ds.length cap (cap * 2) e w els hes hsz hnc hCW hIn) fun e' w' ⟨he, hW⟩ => ⟨_, he, ?_⟩
    have hkm : (keptE els ds.length).map (·.2) = cmpt ds := by
      rw [keptE_map, her]; rfl
    have hkl : (keptE els ds.length).length = (cmpt ds).length := by rw [← hkm, List.length_map]
    have hkle : (cmpt ds).length ≤ ds.length := by rw [← hkl]; exact keptE_len _ _
    obtain ⟨⟨hos, htp, hou, hwsz, hoth⟩, cur', h1, h2, h3⟩ := hW
    rw [hkl] at h3 ⊢
    have hup : ∀ b c' n', upd ρ k (.at g cap (cmpt ds).length) k = some (.at b c' n') → b = g := fun b c' n' h => by
      rw [upd_same] at h; cases h; rfl
    have hok2 : ∀ b, okOf ρ b → okOf (upd ρ k (.at g cap (cmpt ds).length)) b := fun b hb j c' n' h => by
      by_cases e : j = k
      · subst e
        have := hup _ _ _ h
        subst this
        exact hb _ _ _ hk1
      · rw [upd_other e] at h; exact hb _ _ _ h
    refine hk (upd ρ k (.at g cap (cmpt ds).length)) w' _ ⟨rfl, hos, htp, hou, hwsz, fun b' q1 q2 => hoth b' q1 fun e => by subst e; exact q2 k _ _ rfl hk1, fun j hj => upd_other fun e => hj (by rw [e]; rfl), (fun _ _ h => by cases h), fun k' X' he' => ?_, .own (upd_same _ _ _)⟩
    cases he'
    have hc2 : (cmpt ds).length * 2 ≤ cur'.size := by rw [h2]; omega
    refine ⟨_, upd_same _ _ _, fun b' c' n' e => by cases e; exact ⟨Nat.lt_of_lt_of_le (hwf.lo _ _ _ _ hk1).2 hwsz, (hwf.lo _ _ _ _ hk1).1, .inr ⟨_, _, hk1⟩⟩, cur'.toList.take ((cmpt ds).length * 2), ⟨by simp; omega, .inr ⟨g, cap, cur', rfl, hBg, h1, by omega, hmx, h2, rfl⟩⟩, ?_, fun j hj => ?_⟩
    · rw [lenFlat]; simp; omega
    · rw [lenFlat] at hj
      have hi : j / 2 < (keptE els ds.length).length := by omega
      obtain ⟨q1, q2⟩ := h3 (j / 2) (by simp; omega)
      rw [List.getElem_append_left hi] at q1 q2
      have hz : (cmpt ds)[j / 2]'(by omega) = ((keptE els ds.length)[j / 2]).2 := by
        have : ((keptE els ds.length).map (·.2))[j / 2]? = (cmpt ds)[j / 2]? := by rw [hkm]
        rw [List.getElem?_map, List.getElem?_eq_getElem hi, List.getElem?_eq_getElem (by omega)] at this
        exact (Option.some.inj this).symm
      have hmem := keptE_mem ds.length (by omega) _ (List.getElem_mem hi)
      have hval : (cur'.toList.take ((cmpt ds).length * 2)).getD j undef = (cur'[j]?).getD undef := by
        rw [List.getD_eq_getElem?_getD, List.getElem?_take, if_pos hj, Array.getElem?_toList]
      rw [hval]
      rcases Nat.mod_two_eq_zero_or_one j with h0 | h0
      · rw [hflat (cmpt ds) j (j / 2) 0 (by omega) (by omega) (by omega) (by rw [lenFlat]; exact hj), hz]
        rw [show j / 2 * 2 = j by omega] at q1
        rw [q1]
        exact (hepu _ hmem).1.mono (F' := (B ≤ ·)) (w' := w') (fun b hb hw => by
          have e := hoth b hw (hok b hb)
          exact ⟨⟨hok2 b hb.1, fun h => ⟨(hb.2 h).1, soft_eq e (hb.2 h).2⟩⟩, Nat.lt_of_lt_of_le hw hwsz, e⟩) (fun _ _ h => h)
      · rw [hflat (cmpt ds) j (j / 2) 1 (by omega) (by omega) (by omega) (by rw [lenFlat]; exact hj), hz]
        rw [show j / 2 * 2 + 1 = j by omega] at q2
        rw [q2]
        exact .v _
end Go.Proofs.YtbbglendddepfaaDoor

namespace Go.Proofs.YtbbglendddepfaaDoor
open Go.RowKit Go.Deep
variable {J : World → Prop}
end Go.Proofs.YtbbglendddepfaaDoor

namespace Go.Proofs.YtbbglendddepfaaDoor
open Go.RowKit Go.Deep

def negB (x : Int) : Bool := decide (x < 0)
def triB (xs : List Int) (c : Int) : Bool := decide (0 ≤ c) && !xs.any negB

theorem isNegative_any (x : Int) (w : World) : Calls Tryd.prog 80 #[.int .i64 x] w fun e w' => e = .returned (.bool (negB x)) ∧ w = w' := by
  have E : Hid (negB x = decide (x < 0)) := (rfl : negB x = _)
  by_cases h : x < 0
  · go_enter Tryd.func80, Tryd.ntmps80
    go_wp2
    go_ret
    exact ⟨ret_bool (by rw [E.out]; symm; first | (rw [decide_eq_true_iff]; omega) | (rw [decide_eq_false_iff_not]; omega)), rfl⟩
  · go_enter Tryd.func80, Tryd.ntmps80
    go_wp2
    go_ret
    exact ⟨ret_bool (by rw [E.out]; symm; first | (rw [decide_eq_true_iff]; omega) | (rw [decide_eq_false_iff_not]; omega)), rfl⟩

/-- Where the first such number stands, -1 if there is none. -/
theorem find_negB (xs : List Int) (k : Nat) (h : k < xs.length) (hp : negB xs[k] = true) : xs.any negB = true := List.any_eq_true.2 ⟨_, List.getElem_mem h, hp⟩

set_option maxHeartbeats 800000 in
theorem index_negB_full (b off n cap : Nat) (w : World) (xs : List Int) (hx : xs.length = n) (hn : n ≤ 9223372036854775807)
    (hc : ∀ i, i < n → w.cell? ⟨b, off + i, none⟩ = some (.int .i64 (xs.getD i 0))) :
    Calls Tryd.prog 91 #[.slice (some ⟨b, off, none⟩) n cap, .func (.func 80) #[] #[]] w fun e w' => ∃ r : Int, e = .returned (.int .i64 r) ∧ (decide (0 ≤ r) = xs.any negB) ∧ w = w' := by
  go_enter Tryd.func91, Tryd.ntmps91
  go_wp2_with fail
  go_loop [8] (fun v => ∃ k : Nat, k ≤ n ∧ v = .int .i64 k ∧ (xs.take k).any negB = false) (fun v => n - (intOf v).toNat)
  case atStart => exact ⟨0, Nat.zero_le _, rfl, rfl⟩
  case round =>
    obtain ⟨k, hk, rfl, hall⟩ := hrel
    have HA := hid0 hall
    clear hall
    by_cases h1 : k < n
    · have g1 : w.cell? ⟨b, off + k, none⟩ = some (.int .i64 (xs.getD k 0)) := hc k h1
      cases hp : negB (xs[k]'(by omega)) with
      | true =>
        have E := hid0 (find_negB xs k (by omega) hp)
        go_wp2_with (go_at_call 80; refine (isNegative_any _ _).mono ?_; rintro e w' ⟨rfl, rfl⟩)
        go_ret
        exact ⟨_, rfl, by rw [E.out]; simp, rfl⟩
      | false =>
        go_wp2_with (go_at_call 80; refine (isNegative_any _ _).mono ?_; rintro e w' ⟨rfl, rfl⟩)
        go_round
        case rel => exact ⟨k + 1, by omega, by go_num, by rw [List.take_succ_eq_append_getElem (by omega), List.any_append, HA.out]; simp [hp]⟩
        case measure => simp [intOf]; omega
    · have e1 : xs.take k = xs := List.take_of_length_le (by omega)
      have HA' : Hid (xs.any negB = false) := by rw [← e1]; exact HA.out
      clear e1
      go_wp2_with fail
      go_ret
      exact ⟨-1, rfl, by rw [HA'.out]; simp, rfl⟩
theorem index_negB_empty (a : Option Addr) (cap : Nat) (w : World) :
    Calls Tryd.prog 91 #[.slice a 0 cap, .func (.func 80) #[] #[]] w fun e w' => ∃ r : Int, e = .returned (.int .i64 r) ∧ (decide (0 ≤ r) = ([] : List Int).any negB) ∧ w = w' := by
  go_enter Tryd.func91, Tryd.ntmps91
  go_wp2_with fail
  refine wp_loop_rounds 1 ?_
  rw [rounds_succ]
  go_wp2_with fail
  go_ret
  exact ⟨-1, rfl, rfl, rfl⟩
theorem contains_negB {lo : Nat} {w : World} {v : Value} {xs : List Int} (h : IsInts lo w v xs) :
    Calls Tryd.prog 79 #[v, .func (.func 80) #[] #[]] w fun e w' => e = .returned (.bool (xs.any negB)) ∧ w = w' := by
  have hI : Calls Tryd.prog 91 #[v, .func (.func 80) #[] #[]] w fun e w' => ∃ r : Int, e = .returned (.int .i64 r) ∧ (decide (0 ≤ r) = xs.any negB) ∧ w = w' := by
    obtain ⟨a, cap, rfl, hl, hm, _, hc⟩ := h
    unfold maxLen at hm
    rcases hc with rfl | ⟨b, off, rfl, _, _, hc⟩
    · exact index_negB_empty _ _ _
    · exact index_negB_full _ _ _ _ _ _ rfl (by omega) hc
  obtain ⟨a, cap, rfl⟩ := h.shape
  have HI := hid0 hI
  clear hI h
  go_enter Tryd.func79, Tryd.ntmps79
  go_wp2_with (go_at_call 91; refine Calls.mono (show Calls _ _ _ _ _ from HI.out) ?_; rintro e w' ⟨r, rfl, hr, rfl⟩; have HR := hid0 hr; clear hr)
  go_ret
  exact ⟨ret_bool HR.out, rfl⟩

theorem Trivial_any {lo : Nat} {w : World} {v : Value} {xs : List Int} (c : Int) (h : IsInts lo w v xs) :
    Calls Tryd.prog 64 #[.agg #[v, .int .i64 c]] w fun e w' => e = .returned (.bool (triB xs c)) ∧ Below w.heap.size w w' := by
  have H := hid0 h
  obtain ⟨a, cap, rfl⟩ := h.shape
  clear h
  by_cases hc : 0 ≤ c
  · have E : Hid (triB xs c = !xs.any negB) := by show _ = _; simp [triB, hc]
    go_enter Tryd.func64, Tryd.ntmps64
    go_wp2_with (go_at_call 79; refine (contains_negB (H.out.below (by go_grown))).mono ?_; rintro e w' ⟨rfl, rfl⟩)
    go_ret
    exact ⟨ret_bool E.out.symm, allocBelow _ _⟩
  · have E : Hid (triB xs c = false) := by show _ = _; simp [triB, hc]
    go_enter Tryd.func64, Tryd.ntmps64
    go_wp2_with fail
    go_ret
    exact ⟨ret_bool E.out.symm, allocBelow _ _⟩

end Go.Proofs.YtbbglendddepfaaDoor

namespace Go.Proofs.YtbbglendddepfaaDoor
open Go.RowKit Go.Deep
variable {J : World → Prop}
def tR (r : Rw) : Rw := (tX r.1 r.2, tC r.1 r.2)
theorem tR_len (r : Rw) : (tR r).1.length = r.1.length := tX_length _ _
theorem smB_I64 {x : Int} (h : smB x = true) : I64 x := by rw [smB_true] at h; unfold I64; omega
theorem tR_small {xs : List Int} {c : Int} (h : smR (xs, c) = true) : smR (tX xs c, tC xs c) = true := by
  unfold tX tC
  split
  · rename_i hh
    obtain ⟨h1, h2⟩ := smR_true.1 h
    have hg : (1 : Int) ≤ gcdL xs 0 := by have := hh.2; omega
    rw [smR_true]
    constructor
    · rw [List.all_eq_true]
      intro y hy
      obtain ⟨x, hx, rfl⟩ := List.mem_map.1 hy
      rw [smB_true]
      exact tdiv_small (List.all_eq_true.1 h1 x hx)
    · rw [smB_true] at h2 ⊢
      obtain ⟨a, b⟩ := h2
      generalize ((gcdL xs 0 : Nat) : Int) = g at hg
      constructor
      · exact (Int.le_ediv_iff_mul_le (a := -68719476736) (b := c) (by omega : 0 < g)).2 (by omega)
      · by_cases hc : 0 ≤ c
        · exact Int.le_trans (Int.ediv_le_self _ hc) b
        · have h3 : c / g ≤ 0 := by
            have := Int.ediv_le_ediv (by omega : 0 < g) (by omega : c ≤ 0)
            simpa using this
          omega
  · exact h
theorem tR_ok {r : Rw} (h : RwOk r) : RwOk (tR r) := by
  by_cases hs : smR (r.1, r.2) = true
  · obtain ⟨h1, h2⟩ := smR_true.1 (tR_small hs)
    exact ⟨fun x hx => smB_I64 (List.all_eq_true.1 h1 x hx), smB_I64 h2⟩
  · have e1 : tX r.1 r.2 = r.1 := by unfold tX; rw [if_neg fun h => hs h.1]
    have e2 : tC r.1 r.2 = r.2 := by unfold tC; rw [if_neg fun h => hs h.1]
    have : tR r = r := Prod.ext e1 e2
    rw [this]; exact h
theorem Tighten_c {r : Rw} (H : RwOk r) (hn : r.1.length ≤ 1000) : Ctr Tryd.prog J 30 [.agg (cRo r)] (.agg (cRo (tR r))) := ctr1 fun w v _ h => by
  obtain ⟨u, rfl, hu⟩ := row_args h
  exact (Tighten_every r.2 (pu_ints H.coef lo00 hu) hn).mono fun _ _ ⟨g, he, ho, hb⟩ => ⟨_, he, .agg rfl fun j hj => (match j, hj with
    | 0, _ => ownI' ho (tX_length _ _).symm
    | 1, _ => .v _), hb⟩
theorem Trivial_c {r : Rw} (H : RwOk r) : Ctr Tryd.prog J 64 [.agg (cRo r)] (bv (triB r.1 r.2)) := ctr1 fun w v _ h => by
  obtain ⟨u, rfl, hu⟩ := row_args h
  exact (Trivial_any r.2 (pu_ints H.coef lo00 hu)).mono fun _ _ ⟨he, hb⟩ => ⟨_, he, .v _, hb⟩
/-- The rows that say something, tightened. -/
def tgs (rs : List Rw) : List Rw := (rs.map tR).filter fun t => !triB t.1 t.2
section
variable {rs : List Rw} {k : Nat}
theorem tgs_yes (hk : k < rs.length) (h : triB (tR rs[k]).1 (tR rs[k]).2 = false) : tgs (rs.take (k + 1)) = tgs (rs.take k) ++ [tR rs[k]] := by
  unfold tgs
  rw [List.take_succ_eq_append_getElem hk, List.map_append, List.filter_append]
  simp [h]
theorem tgs_no (hk : k < rs.length) (h : triB (tR rs[k]).1 (tR rs[k]).2 = true) : tgs (rs.take (k + 1)) = tgs (rs.take k) := by
  unfold tgs
  rw [List.take_succ_eq_append_getElem hk, List.map_append, List.filter_append]
  simp [h]
theorem tgs_ok {ss : List Rw} (h : ∀ r ∈ ss, RwOk r) : ∀ r ∈ tgs ss, RwOk r := fun r hr => by
  unfold tgs at hr
  obtain ⟨x, hx, rfl⟩ := List.mem_map.1 (List.mem_filter.1 hr).1
  exact tR_ok (h x hx)
theorem srt_ok {ss : List Rw} (h : ∀ r ∈ ss, RwOk r) : ∀ r ∈ srt ss, RwOk r := fun r hr => h r ((srt_perm ss).mem_iff.1 hr)
end
/-- The rows of a system in their normal form. -/
def nrm (rs : List Rw) : List Rw := cmpt (srt (tgs rs))
def nmE (n : Int) (rs : List Rw) : Int := valS n rs
def nmR (n : Int) (rs : List Rw) : List Rw := if valS n rs = 0 then nrm rs else []
def nmN (n : Int) (rs : List Rw) : Int := if valS n rs = 0 then n else 0
section
variable {n : Int} {rs : List Rw}
theorem cmpt_sub {ss : List Rw} : ∀ r ∈ cmpt ss, r ∈ ss := by
  have key : ∀ m, m ≤ ss.length → ∀ r ∈ keptR ss m, r ∈ ss := by
    intro m
    induction m with
    | zero => intro _ r h; simp [keptR] at h
    | succ m ih =>
      intro hm r h
      rw [keptR, List.mem_append] at h
      rcases h with h | h
      · exact ih (by omega) r h
      · split at h
        · rw [List.mem_singleton] at h
          rw [h, List.getD_eq_getElem?_getD, List.getElem?_eq_getElem (by omega)]
          exact List.getElem_mem _
        · cases h
  exact key _ (Nat.le_refl _)
theorem keptR_len (ss : List Rw) : ∀ m, (keptR ss m).length ≤ m
  | 0 => Nat.le_refl _
  | m + 1 => by
    have := keptR_len ss m
    rw [keptR, List.length_append]
    split <;> simp <;> omega
theorem nrm_ok (H : SyOk rs) : ∀ r ∈ nrm rs, RwOk r := fun r hr => srt_ok (tgs_ok H.rows) r (cmpt_sub r hr)
theorem nrm_len : (nrm rs).length ≤ rs.length := by
  unfold nrm cmpt
  have h1 := keptR_len (srt (tgs rs)) (srt (tgs rs)).length
  have h2 := srt_len (tgs rs)
  have h3 : (tgs rs).length ≤ rs.length := by
    unfold tgs
    exact Nat.le_trans (List.length_filter_le _ _) (by simp)
  omega
theorem nmR_ok (H : SyOk rs) : SyOk (nmR n rs) := by
  unfold nmR
  split
  · exact ⟨nrm_ok H, Nat.le_trans nrm_len H.len⟩
  · exact ⟨fun x hx => by simp at hx, by simp⟩
theorem nm_e1 (h : ¬ valS n rs = 0) : AV.tup [.agg [iv 0, .sl 2 0 []], iv (valS n rs)] = .tup [.agg (cSy (nmN n rs) (nmR n rs)), iv (nmE n rs)] := by
  unfold nmN nmR nmE; rw [if_neg h, if_neg h]; rfl
theorem nm_ok (h : valS n rs = 0) : AV.tup [.agg [iv n, .sl 2 (nrm rs).length ((nrm rs).flatMap cRo)], iv 0] = .tup [.agg (cSy (nmN n rs) (nmR n rs)), iv (nmE n rs)] := by
  unfold nmN nmR nmE; rw [if_pos h, if_pos h, h]; rfl
end
end Go.Proofs.YtbbglendddepfaaDoor

namespace Go.Proofs.YtbbglendddepfaaDoor
theorem eqI_iff {xs ys : List Int} : eqI xs ys = true ↔ xs = ys := by unfold eqI; exact decide_eq_true_iff
/-- One more row is put in. -/
def insT (t : Rw) : List Rw → List Rw
  | [] => [t]
  | x :: xs => if cmpI x.1 t.1 < 0 then x :: insT t xs else if eqI x.1 t.1 then (if t.2 < x.2 then (x.1, t.2) :: xs else x :: xs) else t :: x :: xs
def tdy (ts : List Rw) : List Rw := ts.foldl (fun o t => insT t o) []
def Asc (L : List Rw) : Prop := L.Pairwise fun a b => cmpI a.1 b.1 < 0
/-- A smallest one of its coefficients. -/
def Least (ts : List Rw) (r : Rw) : Prop := r ∈ ts ∧ ∀ s ∈ ts, s.1 = r.1 → r.2 ≤ s.2
theorem asc_ext : ∀ {L M : List Rw}, Asc L → Asc M → (∀ r, r ∈ L ↔ r ∈ M) → L = M
  | [], [], _, _, _ => rfl
  | [], b :: M, _, _, h => absurd ((h b).2 (by simp)) (by simp)
  | a :: L, [], _, _, h => absurd ((h a).1 (by simp)) (by simp)
  | a :: L, b :: M, h1, h2, h => by
    obtain ⟨a1, a2⟩ := List.pairwise_cons.1 h1
    obtain ⟨b1, b2⟩ := List.pairwise_cons.1 h2
    have hab : a = b := by
      rcases List.mem_cons.1 ((h a).1 (by simp)) with e | e
      · exact e
      · rcases List.mem_cons.1 ((h b).2 (by simp)) with e' | e'
        · exact e'.symm
        · have := b1 a e; have := a1 b e'; have := ordI_neg a.1 b.1; omega
    subst hab
    rw [asc_ext a2 b2 fun r => ⟨fun hr => ?_, fun hr => ?_⟩]
    · rcases List.mem_cons.1 ((h r).1 (List.mem_cons_of_mem _ hr)) with e | e
      · subst e; have := a1 r hr; rw [cmpI_self] at this; omega
      · exact e
    · rcases List.mem_cons.1 ((h r).2 (List.mem_cons_of_mem _ hr)) with e | e
      · subst e; have := b1 r hr; rw [cmpI_self] at this; omega
      · exact e
theorem insT_from (t : Rw) : ∀ L : List Rw, ∀ y ∈ insT t L, y.1 = t.1 ∨ ∃ x ∈ L, x.1 = y.1
  | [], y, h => by simp only [insT, List.mem_singleton] at h; subst h; exact .inl rfl
  | x :: xs, y, h => by
    simp only [insT] at h
    split at h
    · rcases List.mem_cons.1 h with rfl | h
      · exact .inr ⟨y, by simp, rfl⟩
      · rcases insT_from t xs y h with h | ⟨z, h1, h2⟩
        · exact .inl h
        · exact .inr ⟨z, List.mem_cons_of_mem _ h1, h2⟩
    · split at h
      · split at h
        · rcases List.mem_cons.1 h with rfl | h
          · exact .inr ⟨x, by simp, rfl⟩
          · exact .inr ⟨y, List.mem_cons_of_mem _ h, rfl⟩
        · exact .inr ⟨y, h, rfl⟩
      · rcases List.mem_cons.1 h with rfl | h
        · exact .inl rfl
        · exact .inr ⟨y, h, rfl⟩
theorem insT_asc (t : Rw) : ∀ L : List Rw, Asc L → Asc (insT t L)
  | [], _ => List.pairwise_singleton _ _
  | x :: xs, h => by
    obtain ⟨h1, h2⟩ := List.pairwise_cons.1 h
    simp only [insT]
    split
    · rename_i hx
      refine List.pairwise_cons.2 ⟨fun y hy => ?_, insT_asc t xs h2⟩
      rcases insT_from t xs y hy with e | ⟨z, hz, e⟩
      · rw [e]; exact hx
      · rw [← e]; exact h1 z hz
    · rename_i hx
      split
      · split
        · exact List.pairwise_cons.2 ⟨fun y hy => h1 y hy, h2⟩
        · exact h
      · rename_i he
        have hlt : cmpI t.1 x.1 < 0 := by
          have a := ordI_neg x.1 t.1
          have b : cmpI x.1 t.1 ≠ 0 := fun e => he (eqI_iff.2 (ordI_eq _ _ e))
          omega
        refine List.pairwise_cons.2 ⟨fun y hy => ?_, h⟩
        rcases List.mem_cons.1 hy with rfl | hy
        · exact hlt
        · exact ordI_trans _ _ _ hlt (h1 y hy)
theorem lt_ne {x y : List Int} (h : cmpI x y < 0) : x ≠ y := fun e => by subst e; rw [cmpI_self] at h; omega
theorem insT_mem (t : Rw) : ∀ L : List Rw, Asc L → ∀ r, r ∈ insT t L ↔ (r ∈ L ∧ (r.1 = t.1 → r.2 ≤ t.2)) ∨ (r = t ∧ ∀ x ∈ L, x.1 = t.1 → t.2 < x.2)
  | [], _, r => by simp [insT]
  | x :: xs, h, r => by
    obtain ⟨h1, h2⟩ := List.pairwise_cons.1 h
    simp only [insT]
    split
    · rename_i hx
      have hne := lt_ne hx
      rw [List.mem_cons, insT_mem t xs h2 r]
      constructor
      · rintro (rfl | ⟨a, b⟩ | ⟨a, b⟩)
        · exact .inl ⟨by simp, fun e => absurd e hne⟩
        · exact .inl ⟨List.mem_cons_of_mem _ a, b⟩
        · refine .inr ⟨a, fun y hy e => ?_⟩
          rcases List.mem_cons.1 hy with rfl | hy
          · exact absurd e hne
          · exact b y hy e
      · rintro (⟨a, b⟩ | ⟨a, b⟩)
        · rcases List.mem_cons.1 a with rfl | a
          · exact .inl rfl
          · exact .inr (.inl ⟨a, b⟩)
        · exact .inr (.inr ⟨a, fun y hy => b y (List.mem_cons_of_mem _ hy)⟩)
    · rename_i hx
      split
      · rename_i he
        have he := eqI_iff.1 he
        have hxs : ∀ y ∈ xs, y.1 ≠ t.1 := fun y hy e => lt_ne (h1 y hy) (by rw [e, he])
        split
        · rename_i hc
          have ht : (x.1, t.2) = t := Prod.ext he rfl
          rw [ht, List.mem_cons]
          constructor
          · rintro (rfl | a)
            · refine .inr ⟨rfl, fun y hy e => ?_⟩
              rcases List.mem_cons.1 hy with rfl | hy
              · exact hc
              · exact absurd e (hxs y hy)
            · exact .inl ⟨List.mem_cons_of_mem _ a, fun e => absurd e (hxs r a)⟩
          · rintro (⟨a, b⟩ | ⟨a, b⟩)
            · rcases List.mem_cons.1 a with rfl | a
              · have := b he; omega
              · exact .inr a
            · exact .inl a
        · rename_i hc
          constructor
          · intro a
            refine .inl ⟨a, fun e => ?_⟩
            rcases List.mem_cons.1 a with rfl | a
            · omega
            · exact absurd e (hxs r a)
          · rintro (⟨a, b⟩ | ⟨a, b⟩)
            · exact a
            · have := b x (by simp) he; omega
      · rename_i he
        have hlt : cmpI t.1 x.1 < 0 := by
          have a := ordI_neg x.1 t.1
          have b : cmpI x.1 t.1 ≠ 0 := fun e => he (eqI_iff.2 (ordI_eq _ _ e))
          omega
        have hall : ∀ y ∈ x :: xs, y.1 ≠ t.1 := fun y hy e => by
          rcases List.mem_cons.1 hy with rfl | hy
          · exact lt_ne hlt e.symm
          · exact lt_ne (ordI_trans _ _ _ hlt (h1 y hy)) e.symm
        rw [List.mem_cons]
        constructor
        · rintro (rfl | a)
          · exact .inr ⟨rfl, fun y hy e => absurd e (hall y hy)⟩
          · exact .inl ⟨a, fun e => absurd e (hall r a)⟩
        · rintro (⟨a, b⟩ | ⟨a, b⟩)
          · exact .inr a
          · exact .inl a
theorem has_least : ∀ (ts : List Rw) (s : Rw), s ∈ ts → ∃ x, Least ts x ∧ x.1 = s.1 ∧ x.2 ≤ s.2
  | [], s, h => by simp at h
  | t :: ts, s, h => by
    have key : ∀ y : Rw, y ∈ t :: ts → (∀ z ∈ ts, z.1 = y.1 → y.2 ≤ z.2) → ∃ x, Least (t :: ts) x ∧ x.1 = y.1 ∧ x.2 ≤ y.2 := fun y hy hz => by
      by_cases e : t.1 = y.1 ∧ t.2 < y.2
      · refine ⟨t, ⟨by simp, fun z hz' e' => ?_⟩, e.1, by omega⟩
        rcases List.mem_cons.1 hz' with rfl | hz'
        · exact Int.le_refl _
        · have := hz z hz' (e'.trans e.1); omega
      · refine ⟨y, ⟨hy, fun z hz' e' => ?_⟩, rfl, Int.le_refl _⟩
        rcases List.mem_cons.1 hz' with rfl | hz'
        · by_cases h2 : z.2 < y.2
          · exact absurd ⟨e', h2⟩ e
          · omega
        · exact hz z hz' e'
    by_cases hm : ∃ z ∈ ts, z.1 = s.1
    · obtain ⟨z, hz, e⟩ := hm
      obtain ⟨x, ⟨x1, x2⟩, x3, x4⟩ := has_least ts z hz
      obtain ⟨y, y1, y2, y3⟩ := key x (List.mem_cons_of_mem _ x1) x2
      refine ⟨y, y1, y2.trans (x3.trans e), y1.2 s h (by rw [y2, x3, e])⟩
    · obtain ⟨y, y1, y2, y3⟩ := key s h fun z hz e => absurd ⟨z, hz, e⟩ hm
      exact ⟨y, y1, y2, y3⟩
theorem insT_inv {L pre : List Rw} {t : Rw} (hL : Asc L) (h : ∀ r, r ∈ L ↔ Least pre r) (r : Rw) : r ∈ insT t L ↔ Least (pre ++ [t]) r := by
  rw [insT_mem t L hL r]
  constructor
  · rintro (⟨a, b⟩ | ⟨rfl, b⟩)
    · obtain ⟨c, d⟩ := (h r).1 a
      refine ⟨by simp [c], fun s hs e => ?_⟩
      rcases List.mem_append.1 hs with hs | hs
      · exact d s hs e
      · rw [List.mem_singleton] at hs; subst hs; exact b e.symm
    · refine ⟨by simp, fun s hs e => ?_⟩
      rcases List.mem_append.1 hs with hs | hs
      · obtain ⟨x, x1, x2, x3⟩ := has_least pre s hs
        have := b x ((h x).2 x1) (x2.trans e)
        omega
      · rw [List.mem_singleton] at hs; subst hs; exact Int.le_refl _
  · rintro ⟨a, b⟩
    by_cases hp : r ∈ pre
    · exact .inl ⟨(h r).2 ⟨hp, fun s hs e => b s (by simp [hs]) e⟩, fun e => b t (by simp) e.symm⟩
    · have e : r = t := by simpa [hp] using a
      subst e
      refine .inr ⟨rfl, fun x hx e => ?_⟩
      have hx := (h x).1 hx
      have h1 := b x (by simp [hx.1]) e
      by_cases h2 : x.2 = r.2
      · exact absurd hx.1 (by rw [Prod.ext e h2]; exact hp)
      · omega
theorem tdy_inv (ts : List Rw) : Asc (tdy ts) ∧ ∀ r, r ∈ tdy ts ↔ Least ts r := by
  have key : ∀ (ts L pre : List Rw), Asc L → (∀ r, r ∈ L ↔ Least pre r) → Asc (ts.foldl (fun o t => insT t o) L) ∧ ∀ r, r ∈ ts.foldl (fun o t => insT t o) L ↔ Least (pre ++ ts) r := by
    intro ts
    induction ts with
    | nil => intro L pre h1 h2; rw [List.append_nil]; exact ⟨h1, h2⟩
    | cons t ts ih =>
      intro L pre h1 h2
      have := ih (insT t L) (pre ++ [t]) (insT_asc t L h1) (insT_inv h1 h2)
      rw [List.append_assoc] at this
      exact this
  exact key ts [] [] List.Pairwise.nil fun r => by simp [Least]
/-- The i-th and the one ahead of it differ. -/
theorem keepR_succ {S : List Rw} {i : Nat} (h : i + 1 < S.length) : keepR S (i + 1) = !eqI S[i + 1].1 S[i].1 := by
  unfold keepR
  simp [List.getD_eq_getElem?_getD, List.getElem?_eq_getElem h, List.getElem?_eq_getElem (show i < S.length by omega)]
theorem keptR_mem {S : List Rw} : ∀ m, m ≤ S.length → ∀ r, r ∈ keptR S m ↔ ∃ i, ∃ h : i < S.length, i < m ∧ keepR S i = true ∧ S[i] = r
  | 0, _, r => by simp [keptR]
  | m + 1, hm, r => by
    have e : S.getD m ([], 0) = S[m]'(by omega) := by rw [List.getD_eq_getElem?_getD, List.getElem?_eq_getElem (by omega)]; rfl
    rw [keptR, List.mem_append, keptR_mem m (by omega) r, e]
    constructor
    · rintro (⟨i, h, a, b, c⟩ | h)
      · exact ⟨i, h, by omega, b, c⟩
      · split at h
        · rename_i hk
          rw [List.mem_singleton] at h
          exact ⟨m, by omega, by omega, hk, h.symm⟩
        · cases h
    · rintro ⟨i, h, a, b, c⟩
      by_cases hi : i = m
      · subst hi
        rw [if_pos b]
        exact .inr (by simp [c])
      · exact .inl ⟨i, h, by omega, b, c⟩
section
variable {S : List Rw}
/-- In their order. -/
def Srtd (S : List Rw) : Prop := ∀ i j, (h : i < S.length) → (h' : j < S.length) → i ≤ j → cmpR S[i] S[j] ≤ 0
theorem cmpR_fst {x y : Rw} (h : cmpR x y ≤ 0) : cmpI x.1 y.1 ≤ 0 := by
  unfold cmpR at h
  by_cases e : cmpI x.1 y.1 = 0
  · omega
  · rw [if_pos e] at h; exact h
theorem cmpR_snd {x y : Rw} (h : cmpR x y ≤ 0) (e : x.1 = y.1) : x.2 ≤ y.2 := by
  unfold cmpR cmpN at h
  rw [e, cmpI_self, if_neg (by simp)] at h
  by_cases h1 : x.2 < y.2
  · omega
  · rw [if_neg h1] at h
    by_cases h2 : y.2 < x.2
    · rw [if_pos h2] at h; omega
    · omega
theorem between_eq {x y z : List Int} (h : cmpI x y ≤ 0) (h' : cmpI y z ≤ 0) (e : x = z) : y = z := by
  subst e
  have := ordI_neg x y
  exact (ordI_eq x y (by omega)).symm
theorem kept_new (hS : Srtd S) {i j : Nat} (hi : i < S.length) (hk : keepR S i = true) (hj : j < i) : S[j].1 ≠ S[i].1 := fun e => by
  obtain ⟨p, rfl⟩ : ∃ p, i = p + 1 := ⟨i - 1, by omega⟩
  rw [keepR_succ hi] at hk
  have h1 := cmpR_fst (hS j p (by omega) (by omega) (by omega))
  have h2 := cmpR_fst (hS p (p + 1) (by omega) (by omega) (by omega))
  have h3 := between_eq h1 h2 e
  rw [h3] at hk
  have : eqI S[p + 1].1 S[p + 1].1 = true := eqI_iff.2 rfl
  rw [this] at hk
  cases hk
theorem kept_asc (hS : Srtd S) : ∀ m, m ≤ S.length → Asc (keptR S m)
  | 0, _ => List.Pairwise.nil
  | m + 1, hm => by
    have e : S.getD m ([], 0) = S[m]'(by omega) := by rw [List.getD_eq_getElem?_getD, List.getElem?_eq_getElem (by omega)]; rfl
    rw [keptR, e]
    refine List.pairwise_append.2 ⟨kept_asc hS m (by omega), ?_, fun a ha b hb => ?_⟩
    · split
      · exact List.pairwise_singleton _ _
      · exact List.Pairwise.nil
    · split at hb
      · rename_i hk
        rw [List.mem_singleton] at hb
        subst hb
        obtain ⟨i, h, h1, h2, rfl⟩ := (keptR_mem m (by omega) a).1 ha
        have h3 := cmpR_fst (hS i m h (by omega) (by omega))
        have h4 : cmpI S[i].1 S[m].1 ≠ 0 := fun e => kept_new hS (by omega) hk h1 (ordI_eq _ _ e)
        omega
      · cases hb
theorem kept_least (hS : Srtd S) (r : Rw) : r ∈ keptR S S.length ↔ Least S r := by
  rw [keptR_mem S.length (Nat.le_refl _) r]
  constructor
  · rintro ⟨i, h, _, hk, rfl⟩
    refine ⟨List.getElem_mem _, fun s hs e => ?_⟩
    obtain ⟨j, hj, rfl⟩ := List.getElem_of_mem hs
    by_cases hij : i ≤ j
    · exact cmpR_snd (hS i j h hj hij) e.symm
    · exact absurd e (kept_new hS h hk (by omega))
  · rintro ⟨a, b⟩
    obtain ⟨j, hj, rfl⟩ := List.getElem_of_mem a
    have key : ∀ n i, i ≤ n → (h : i < S.length) → S[i] = S[j] → ∃ i, ∃ h : i < S.length, i < S.length ∧ keepR S i = true ∧ S[i] = S[j] := by
      intro n
      induction n with
      | zero => intro i hi h e; obtain rfl : i = 0 := (by omega); exact ⟨0, h, h, rfl, e⟩
      | succ n ih =>
        intro i hi h e
        by_cases hk : keepR S i = true
        · exact ⟨i, h, h, hk, e⟩
        · by_cases h0 : i = 0
          · subst h0; exact absurd rfl hk
          · obtain ⟨p, rfl⟩ : ∃ p, i = p + 1 := ⟨i - 1, by omega⟩
            rw [keepR_succ h] at hk
            have h1 : S[p + 1].1 = S[p].1 := eqI_iff.1 (by simpa using hk)
            have h2 := cmpR_snd (hS p (p + 1) (by omega) h (by omega)) h1.symm
            have h3 := b S[p] (List.getElem_mem _) (by rw [← h1, e])
            rw [← e] at h3
            exact ih p (by omega) (by omega) ((Prod.ext h1.symm (by omega)).trans e)
    exact key j j (Nat.le_refl _) hj rfl
end
theorem srt_srtd (ts : List Rw) : Srtd (srt ts) := fun i j h h' hij => by
  rcases Nat.lt_or_ge i j with hlt | hge
  · have hp : (srt ts).Pairwise fun a b => (!ltR b a) = true := List.pairwise_mergeSort (le := fun x y => !ltR y x) (fun a b c h1 h2 => by
      simp only [Bool.not_eq_true'] at h1 h2 ⊢
      exact swoR.ntrans _ _ _ h2 h1) (fun a b => by
      cases e : ltR b a with
      | false => rfl
      | true =>
        cases e' : ltR a b with
        | false => rfl
        | true => have := swoR.trans _ _ _ e e'; rw [swoR.irrefl] at this; cases this) ts
    have := List.pairwise_iff_getElem.1 hp i j h h' hlt
    simp only [Bool.not_eq_true'] at this
    unfold ltR at this
    simp only [decide_eq_false_iff_not, Int.not_lt] at this
    have := ordR_neg (srt ts)[i] (srt ts)[j]
    omega
  · obtain rfl : i = j := by omega
    rw [ordR_self]; omega
/-- THE ONE AND THE OTHER ARE THE SAME. -/
theorem tdy_cmpt (ts : List Rw) : tdy ts = cmpt (srt ts) := by
  obtain ⟨h1, h2⟩ := tdy_inv ts
  refine asc_ext h1 (kept_asc (srt_srtd ts) _ (Nat.le_refl _)) fun r => ?_
  rw [h2 r, show (r ∈ cmpt (srt ts)) = (r ∈ keptR (srt ts) (srt ts).length) from rfl, kept_least (srt_srtd ts) r]
  unfold Least
  simp only [(srt_perm ts).mem_iff]
theorem nrm_tdy (rs : List Rw) : nrm rs = tdy (tgs rs) := (tdy_cmpt _).symm
end Go.Proofs.YtbbglendddepfaaDoor

namespace Go.Proofs.YtbbglendddepfaaDoor
open Go.RowKit Go.Deep
variable {J : World → Prop}
set_option linter.unusedSimpArgs false in
set_option linter.unusedVariables false in
set_option maxRecDepth 100000 in
set_option maxHeartbeats 6400000 in
theorem normalRows_o {rs : List Rw} (H : SyOk rs) (hl : rs.length ≤ 250) (hs : ∀ r ∈ rs, r.1.length ≤ 1000) (k : Nat) : CtrO Tryd.prog J 33 [slA 2 cRo rs] k (.row true 39 2 ((nrm rs).length) ((nrm rs).flatMap cRo)) (.own k) := by
 refine ctrO_of_tri Tryd.func33 rfl (by intro X hX; simp only [List.mem_cons, List.not_mem_nil, or_false] at hX; rcases hX with rfl; exact plain_sl plain_ro _) (n := 27) rfl (by simp) (fun w0 => ?_)
 refine kW 27 [] [(0, slA 2 cRo rs)] ?_
 refine tri_seq ?_
 refine tri_region ?_
 refine oA (sp_assign (.const (.slice none 0 0)) (.v (.slice none 0 0)) rfl) I0 ?_
 refine kN 27 [] [(0, slA 2 cRo rs), (2, .v (.slice none 0 0))] ?_
 refine t_then ?_
 refine tri_seq ?_
 refine tri_region ?_
 refine oA (sp_assign (.const (.slice none 0 0)) (.v (.slice none 0 0)) rfl) I0 ?_
 refine kN 27 [] [(0, slA 2 cRo rs), (2, .v (.slice none 0 0)), (3, .v (.slice none 0 0))] ?_
 refine t_then ?_
 refine tri_seq ?_
 refine tri_seq ?_
 refine tri_region ?_
 refine oA (sp_move (.tmp 0) (slA 2 cRo rs) rfl) I0 ?_
 refine oA (sp_lenSl (.tmp 7) rfl Tryd.underlying22) I0 ?_
 refine oA (sp_move (.const (.int .i64 0)) (iv 0) rfl) I0 ?_
 refine kN 27 [] [(2, .v (.slice none 0 0)), (3, .v (.slice none 0 0)), (7, slA 2 cRo rs), (8, iv rs.length), (9, iv 0)] ?_
 refine t_then ?_
 refine tri_block ?_
 refine tri_wk (wk_adopt 3 1 true 39 2 rfl rfl rfl) ?_
 refine tri_loop (σ := {p : Nat × List Rw // p.1 ≤ rs.length ∧ p.2 = tgs (rs.take p.1) ∧ p.2.length ≤ p.1}) (fun s => (ofL [(1, .row true 39 2 s.1.2.length (s.1.2.flatMap cRo))], ofT 27 [(2, .v (.slice none 0 0)), (3, .own 1), (7, slA 2 cRo rs), (8, iv rs.length), (9, iv s.1.1)])) (fun s => rs.length - s.1.1) ⟨(0, []), Nat.zero_le _, rfl, Nat.zero_le _⟩ (wk_keep _ _ rfl (by kernel_rfl) (by kernel_rfl)) (fun s => ?_)
 obtain ⟨⟨j, L⟩, hj0, hL, hLb⟩ := s
 show ETri J w0 (ofL [(1, .row true 39 2 L.length (L.flatMap cRo))]) (ofT 27 [(2, .v (.slice none 0 0)), (3, .own 1), (7, slA 2 cRo rs), (8, iv rs.length), (9, iv j)]) _
 dsimp only at hj0 hL hLb
 refine tri_seq ?_
 by_cases hs1 : ((j : Nat) : Int) < ((rs.length : Nat) : Int)
 refine tri_region ?_
 refine oC (sp_lss rfl (dT hs1)) I0 I0 ?_
 refine kN 27 [(1, .row true 39 2 L.length (L.flatMap cRo))] [(2, .v (.slice none 0 0)), (3, .own 1), (7, slA 2 cRo rs), (8, iv rs.length), (9, iv j), (10, bv true)] ?_
 refine t_then ?_
 refine tri_seq ?_
 refine t_condT rfl ?_
 refine tri_skip ?_
 refine t_then ?_
 refine tri_seq ?_
 refine tri_block ?_
 refine tri_seq ?_
 refine tri_region ?_
 refine oC (sp_indexSl (off := j * 2) (.tmp 7) (.tmp 9) rfl Tryd.underlying22 (by kernel_rfl) (by omega) (by omega) rfl) I0 I0 ?_
 refine oA (sp_loadElS (z := 2) (.tmp 11) rfl Tryd.underlying39 rfl (by kernel_rfl) (flat_take lenRo rs j (by omega)) rfl) I0 ?_
 refine t_op rfl (sp_alloc (z := .agg #[.slice none 0 0, .int .i64 0]) (k := 2) rfl (by kernel_rfl)) T0 T0 rfl ?_
 refine t_op rfl (sp_storeBox (T0 := 39) (X := .agg (cRo rs[j])) (cs := [.v (.slice none 0 0), iv 0]) (ds := cRo rs[j]) (z := 2) (.tmp 5) (.tmp 12) rfl (by kernel_rfl) (by kernel_rfl) (by kernel_rfl) (of_decide_eq_true (by kernel_rfl)) (by kernel_rfl)) ⟨I0, I0, T0⟩ ⟨rfl, T0⟩ rfl ?_
 refine kN 27 [(1, .row true 39 2 L.length (L.flatMap cRo)), (2, .box 39 (cRo rs[j]))] [(2, .v (.slice none 0 0)), (3, .own 1), (5, .box 2 0), (7, slA 2 cRo rs), (8, iv rs.length), (9, iv j), (10, bv true)] ?_
 refine t_then ?_
 refine tri_seq ?_
 refine tri_region ?_
 refine oB (sp_loadBoxS (Y := .box 39 (cRo rs[j])) (ds := cRo rs[j]) (z := 2) (.tmp 5) rfl Tryd.underlying39 rfl (by kernel_rfl) (by decide) (by kernel_rfl) (by kernel_rfl)) I0 rfl ?_
 refine oC (sp_call (c := .func 30) (xs := #[.tmp 13]) [] (Tighten_c (H.rows rs[j] (List.getElem_mem (by omega))) (hs rs[j] (List.getElem_mem (by omega)))) rfl (by kernel_rfl) rfl (Xs := [.agg (cRo rs[j])]) rfl rfl rfl) I0 I0 ?_
 refine t_op rfl (sp_alloc (z := .agg #[.slice none 0 0, .int .i64 0]) (k := 3) rfl (by kernel_rfl)) T0 T0 rfl ?_
 refine t_op rfl (sp_storeBox (T0 := 39) (X := .agg [.fr (intsA ((tR rs[j]).1)), iv ((tR rs[j]).2)]) (cs := [.v (.slice none 0 0), iv 0]) (ds := [.fr (intsA ((tR rs[j]).1)), iv ((tR rs[j]).2)]) (z := 2) (.tmp 6) (.tmp 14) rfl (by kernel_rfl) (by kernel_rfl) (by kernel_rfl) (of_decide_eq_true (by kernel_rfl)) (by kernel_rfl)) ⟨I0, .inr (.inr (.inl ⟨_, rfl, rfl⟩)), T0⟩ ⟨rfl, T0⟩ rfl ?_
 refine kN 27 [(1, .row true 39 2 L.length (L.flatMap cRo)), (2, .box 39 (cRo rs[j])), (3, .box 39 [.fr (intsA ((tR rs[j]).1)), iv ((tR rs[j]).2)])] [(2, .v (.slice none 0 0)), (3, .own 1), (5, .box 2 0), (6, .box 3 0), (7, slA 2 cRo rs), (8, iv rs.length), (9, iv j), (10, bv true)] ?_
 refine t_then ?_
 refine tri_seq ?_
 by_cases hs2 : (triB (tR rs[j]).1 (tR rs[j]).2) = true
 refine tri_region ?_
 refine oB (sp_loadBoxS (Y := .box 39 [.fr (intsA ((tR rs[j]).1)), iv ((tR rs[j]).2)]) (ds := [.fr (intsA ((tR rs[j]).1)), iv ((tR rs[j]).2)]) (z := 2) (.tmp 6) rfl Tryd.underlying39 rfl (by kernel_rfl) (by decide) (by kernel_rfl) (by kernel_rfl)) I0 rfl ?_
 refine oC (sp_call (c := .func 64) (xs := #[.tmp 15]) [] (ctr_b (Trivial_c (tR_ok (H.rows rs[j] (List.getElem_mem (by omega))))) hs2) rfl (by kernel_rfl) rfl (Xs := [.agg [.fr (intsA ((tR rs[j]).1)), iv ((tR rs[j]).2)]]) rfl rfl rfl) I0 I0 ?_
 refine oA (sp_not rfl rfl) I0 ?_
 refine kN 27 [(1, .row true 39 2 L.length (L.flatMap cRo)), (2, .box 39 (cRo rs[j])), (3, .box 39 [.fr (intsA ((tR rs[j]).1)), iv ((tR rs[j]).2)])] [(2, .v (.slice none 0 0)), (3, .own 1), (5, .box 2 0), (6, .box 3 0), (7, slA 2 cRo rs), (8, iv rs.length), (9, iv j), (10, bv true), (17, bv false)] ?_
 refine t_then ?_
 refine t_condF rfl ?_
 refine tri_skip ?_
 refine t_block ?_
 refine t_then ?_
 refine tri_region ?_
 refine oC (sp_add (c := ((j + 1 : Nat) : Int)) rfl (w64 (by omega) (by omega) (by omega))) I0 I0 ?_
 refine oA (sp_move (.tmp 22) (iv (j + 1 : Nat)) rfl) I0 ?_
 refine kN 27 [(1, .row true 39 2 L.length (L.flatMap cRo)), (2, .box 39 (cRo rs[j])), (3, .box 39 [.fr (intsA ((tR rs[j]).1)), iv ((tR rs[j]).2)])] [(2, .v (.slice none 0 0)), (3, .own 1), (5, .box 2 0), (6, .box 3 0), (7, slA 2 cRo rs), (8, iv rs.length), (9, iv (j + 1 : Nat)), (10, bv true), (17, bv false)] ?_
 refine t_then ?_
 refine tri_again ⟨(j + 1, L), by dsimp only; omega, by rw [tgs_no (by omega) hs2]; exact hL, by dsimp only; omega⟩ (show rs.length - (j + 1) < rs.length - j by omega) ?_
 exact wk_keep _ _ rfl (by kernel_rfl) (by kernel_rfl)
 have hs2f : (triB (tR rs[j]).1 (tR rs[j]).2) = false := by simpa using hs2
 refine tri_region ?_
 refine oB (sp_loadBoxS (Y := .box 39 [.fr (intsA ((tR rs[j]).1)), iv ((tR rs[j]).2)]) (ds := [.fr (intsA ((tR rs[j]).1)), iv ((tR rs[j]).2)]) (z := 2) (.tmp 6) rfl Tryd.underlying39 rfl (by kernel_rfl) (by decide) (by kernel_rfl) (by kernel_rfl)) I0 rfl ?_
 refine oC (sp_call (c := .func 64) (xs := #[.tmp 15]) [] (ctr_b (Trivial_c (tR_ok (H.rows rs[j] (List.getElem_mem (by omega))))) hs2f) rfl (by kernel_rfl) rfl (Xs := [.agg [.fr (intsA ((tR rs[j]).1)), iv ((tR rs[j]).2)]]) rfl rfl rfl) I0 I0 ?_
 refine oA (sp_not rfl rfl) I0 ?_
 refine kN 27 [(1, .row true 39 2 L.length (L.flatMap cRo)), (2, .box 39 (cRo rs[j])), (3, .box 39 [.fr (intsA ((tR rs[j]).1)), iv ((tR rs[j]).2)])] [(2, .v (.slice none 0 0)), (3, .own 1), (5, .box 2 0), (6, .box 3 0), (7, slA 2 cRo rs), (8, iv rs.length), (9, iv j), (10, bv true), (17, bv true)] ?_
 refine t_then ?_
 refine t_condT rfl ?_
 refine tri_region ?_
 refine oA (sp_move (.tmp 3) (.own 1) rfl) I0 ?_
 refine oB (sp_loadBoxS (Y := .box 39 [.fr (intsA ((tR rs[j]).1)), iv ((tR rs[j]).2)]) (ds := [.fr (intsA ((tR rs[j]).1)), iv ((tR rs[j]).2)]) (z := 2) (.tmp 6) rfl Tryd.underlying39 rfl (by kernel_rfl) (by decide) (by kernel_rfl) (by kernel_rfl)) I0 rfl ?_
 refine t_op rfl (sp_build (z := 2) (k := 4) (fr := false) (cs := [.fr (intsA ((tR rs[j]).1)), iv ((tR rs[j]).2)]) [.tmp 19] [.agg [.fr (intsA ((tR rs[j]).1)), iv ((tR rs[j]).2)]] rfl Tryd.underlying22 (by kernel_rfl) (by decide) (by decide) rfl rfl rfl (by kernel_rfl) (by decide) (fun h => Bool.noConfusion h) (by kernel_rfl)) ⟨I0, T0⟩ T0 rfl ?_
 refine t_op rfl (sp_appendOwn (n := L.length) (cs := (L.flatMap cRo)) (fr := true) (m := 1) (ds := [.fr (intsA ((tR rs[j]).1)), iv ((tR rs[j]).2)]) (⟨Tryd.underlying22, by kernel_rfl, by decide⟩ : Elt Tryd.prog 22 39 2 32) (.tmp 18) (.tmp 20) rfl (fun _ => newRo (tR rs[j])) (by unfold maxLen; omega) (by omega) (cellRo (tR rs[j])) (es := ((L ++ [tR rs[j]]).flatMap cRo)) snocRw) ⟨I0, I0, T0⟩ ⟨rfl, rfl, T0⟩ rfl ?_
 refine oA (sp_assign (.tmp 21) (.own 1) rfl) I0 ?_
 refine kN 27 [(1, .row true 39 2 (L.length + 1) ((L ++ [tR rs[j]]).flatMap cRo)), (2, .box 39 (cRo rs[j])), (3, .box 39 [.fr (intsA ((tR rs[j]).1)), iv ((tR rs[j]).2)])] [(2, .v (.slice none 0 0)), (3, .own 1), (5, .box 2 0), (6, .box 3 0), (7, slA 2 cRo rs), (8, iv rs.length), (9, iv j), (10, bv true), (17, bv true)] ?_
 refine t_block ?_
 refine t_then ?_
 refine tri_region ?_
 refine oC (sp_add (c := ((j + 1 : Nat) : Int)) rfl (w64 (by omega) (by omega) (by omega))) I0 I0 ?_
 refine oA (sp_move (.tmp 22) (iv (j + 1 : Nat)) rfl) I0 ?_
 refine kN 27 [(1, .row true 39 2 (L.length + 1) ((L ++ [tR rs[j]]).flatMap cRo)), (2, .box 39 (cRo rs[j])), (3, .box 39 [.fr (intsA ((tR rs[j]).1)), iv ((tR rs[j]).2)])] [(2, .v (.slice none 0 0)), (3, .own 1), (5, .box 2 0), (6, .box 3 0), (7, slA 2 cRo rs), (8, iv rs.length), (9, iv (j + 1 : Nat)), (10, bv true), (17, bv true)] ?_
 refine t_then ?_
 refine tri_again ⟨(j + 1, L ++ [tR rs[j]]), by dsimp only; omega, by rw [tgs_yes (by omega) hs2f, ← hL], by rw [List.length_append]; dsimp only [List.length]; omega⟩ (show rs.length - (j + 1) < rs.length - j by omega) ?_
 show Wk _ _ (ofL [(1, .row true 39 2 ((L ++ [tR rs[j]]).length) ((L ++ [tR rs[j]]).flatMap cRo))]) (ofT 27 [(2, .v (.slice none 0 0)), (3, .own 1), (7, slA 2 cRo rs), (8, iv rs.length), (9, iv ((j + 1) : Nat))])
 rw [List.length_append]
 exact wk_keep _ _ rfl (by kernel_rfl) (by kernel_rfl)
 refine tri_region ?_
 refine oC (sp_lss rfl (dF hs1)) I0 I0 ?_
 refine kN 27 [(1, .row true 39 2 L.length (L.flatMap cRo))] [(2, .v (.slice none 0 0)), (3, .own 1), (7, slA 2 cRo rs), (8, iv rs.length), (9, iv j), (10, bv false)] ?_
 refine t_then ?_
 refine tri_seq ?_
 refine t_condF rfl ?_
 refine tri_exit ?_
 refine t_then_exit ?_
 refine t_then_exit ?_
 refine t_hit ?_
 refine t_then ?_
 refine tri_seq ?_
 refine tri_region ?_
 refine oA (sp_move (.tmp 3) (.own 1) rfl) I0 ?_
 refine t_op rfl (sp_sortRo (c := .func 65) (x := .tmp 23) (y := .func 66) (e := 39) (n := L.length) (k := 1) (fr := true) (ds := L) rfl (hL ▸ tgs_ok fun x hx => H.rows x (List.mem_of_mem_take hx)) (by omega)) ⟨I0, I0, I0, T0⟩ ⟨rfl, T0⟩ rfl ?_
 refine kN 27 [(1, .row true 39 2 L.length ((srt L).flatMap cRo))] [(2, .v (.slice none 0 0)), (3, .own 1)] ?_
 refine t_then ?_
 refine tri_seq ?_
 refine tri_region ?_
 refine oA (sp_move (.tmp 3) (.own 1) rfl) I0 ?_
 refine t_op rfl (sp_compactRo (c := .func 67) (x := .tmp 25) (y := .func 68) (e := 39) (n := L.length) (k := 1) (fr := true) (ds := srt L) rfl (srt_ok (hL ▸ tgs_ok fun x hx => H.rows x (List.mem_of_mem_take hx))) (by rw [srt_len]; omega) (m := (cmpt (srt L)).length) rfl) ⟨I0, I0, I0, T0⟩ ⟨rfl, T0⟩ rfl ?_
 refine oA (sp_assign (.tmp 26) (.own 1) rfl) I0 ?_
 refine kN 27 [(1, .row true 39 2 ((cmpt (srt L)).length) ((cmpt (srt L)).flatMap cRo))] [(2, .own 1)] ?_
 refine t_then ?_
 refine tri_ret ?_
 have hk : j = rs.length := by omega
 have hL2 : L = tgs rs := by rw [hL, hk, List.take_length]
 subst hL2
 refine tri_give1 1 Tryd.results33 (.tmp rfl) rfl rfl
end Go.Proofs.YtbbglendddepfaaDoor

namespace Go.Proofs.YtbbglendddepfaaDoor
open Go.RowKit Go.Deep
variable {J : World → Prop}
set_option linter.unusedSimpArgs false in
set_option linter.unusedVariables false in
set_option maxRecDepth 100000 in
set_option maxHeartbeats 6400000 in
theorem lNormalize_c {n : Int} {rs : List Rw} (H : SyOk rs) (hl : rs.length ≤ 250) (hs : ∀ r ∈ rs, r.1.length ≤ 1000) : Ctr Tryd.prog J 13 [.agg (cSy n rs)] (.tup [.agg (cSy (nmN n rs) (nmR n rs)), iv (nmE n rs)]) := by
 refine ctr_of_tri Tryd.func13 rfl (by intro X hX; simp only [List.mem_cons, List.not_mem_nil, or_false] at hX; rcases hX with rfl; exact plain_agg (plain_sy n rs)) (n := 17) rfl (by simp) (fun w0 => ?_)
 refine kW 17 [] [(0, .agg (cSy n rs))] ?_
 refine tri_seq ?_
 refine tri_region ?_
 refine t_op rfl (sp_box (X := .agg (cSy n rs)) (k := 1) (.tmp 0) rfl rfl) ⟨I0, T0⟩ T0 rfl ?_
 refine t_op rfl (sp_alloc (z := .agg #[.int .i64 0, .slice none 0 0]) (k := 2) rfl (by kernel_rfl)) T0 T0 rfl ?_
 refine oA (sp_assign (.const (.int .i64 0)) (iv 0) rfl) I0 ?_
 refine kN 17 [(1, .box 24 (cSy n rs)), (2, .box 24 [iv 0, .v (.slice none 0 0)])] [(1, .box 1 0), (2, .box 2 0), (3, iv 0)] ?_
 refine t_then ?_
 refine tri_seq ?_
 refine tri_seq ?_
 refine tri_region ?_
 refine oB (sp_loadBoxS (Y := .box 24 (cSy n rs)) (ds := cSy n rs) (z := 2) (.tmp 1) rfl Tryd.underlying24 rfl (by kernel_rfl) (by decide) (by kernel_rfl) (by kernel_rfl)) I0 rfl ?_
 refine oC (sp_call (c := .func 32) (xs := #[.tmp 5]) [] (lValidate_c H) rfl (by kernel_rfl) rfl (Xs := [.agg (cSy n rs)]) rfl rfl rfl) I0 I0 ?_
 refine oA (sp_assign (.tmp 6) (iv (valS n rs)) rfl) I0 ?_
 refine kN 17 [(1, .box 24 (cSy n rs)), (2, .box 24 [iv 0, .v (.slice none 0 0)])] [(1, .box 1 0), (2, .box 2 0), (3, iv 0), (4, iv (valS n rs))] ?_
 refine t_then ?_
 refine tri_seq ?_
 by_cases hs1 : valS n rs = 0
 refine tri_region ?_
 refine oA (sp_move (.tmp 4) (iv (valS n rs)) rfl) I0 ?_
 refine oC (sp_neq rfl (dT' hs1)) I0 I0 ?_
 refine kN 17 [(1, .box 24 (cSy n rs)), (2, .box 24 [iv 0, .v (.slice none 0 0)])] [(1, .box 1 0), (2, .box 2 0), (3, iv 0), (4, iv (valS n rs)), (8, bv false)] ?_
 refine t_then ?_
 refine t_condF rfl ?_
 refine tri_skip ?_
 refine t_then ?_
 refine tri_seq ?_
 refine tri_draw [⟨[(.tmp 1, .box 1 0)], [], .box 1 0, .no⟩, ⟨[(.tmp 11, .box 1 0)], [(1, .box 24 (cSy n rs))], iv n, .no⟩, ⟨[(.tmp 1, .box 1 0)], [], .box 1 1, .no⟩, ⟨[(.tmp 13, .box 1 1)], [(1, .box 24 (cSy n rs))], slA 2 cRo rs, .no⟩, ⟨[(.func 33, .v (.func (.func 33) #[] #[])), (.tmp 14, slA 2 cRo rs)], [], .own 3, .new 3 (.row true 39 2 ((nrm rs).length) ((nrm rs).flatMap cRo))⟩, ⟨[(.tmp 12, iv n), (.tmp 15, .own 3)], [], .agg [iv n, .own 3], .no⟩, ⟨[(.tmp 2, .box 2 0), (.tmp 16, .agg [iv n, .own 3])], [(2, .box 24 [iv 0, .v (.slice none 0 0)])], .v undef, .st 2 (.box 24 [iv n, .own 3])⟩, ⟨[(.const (.int .i64 0), iv 0)], [], iv 0, .no⟩] (by kernel_rfl) (by kernel_rfl) ?_
 refine ⟨app_yes rfl (fB 0 (.tmp 1) rfl Tryd.underlying24 rfl 1 rfl) ⟨I0, T0⟩ T0 T0, ?_⟩
 refine ⟨app_yes rfl (lB (.box 24 (cSy n rs)) (iv n) (.tmp 11) rfl Tryd.underlying3 rfl rfl) ⟨I0, T0⟩ ⟨rfl, T0⟩ T0, ?_⟩
 refine ⟨app_yes rfl (fB 1 (.tmp 1) rfl Tryd.underlying24 rfl 1 rfl) ⟨I0, T0⟩ T0 T0, ?_⟩
 refine ⟨app_yes rfl (lB (.box 24 (cSy n rs)) (slA 2 cRo rs) (.tmp 13) rfl Tryd.underlying22 rfl rfl) ⟨I0, T0⟩ ⟨rfl, T0⟩ T0, ?_⟩
 refine ⟨app_yes rfl (sp_callO (c := .func 33) (xs := #[.tmp 14]) [] (normalRows_o H hl hs 3) rfl (by kernel_rfl) rfl (Xs := [slA 2 cRo rs]) rfl rfl rfl) ⟨I0, I0, T0⟩ T0 rfl, ?_⟩
 refine ⟨app_yes rfl (sp_bldN [0, 1] [.tmp 12, .tmp 15] [iv n, .own 3] [.inr 0, .inr 1] rfl rfl rfl rfl rfl (fun _ => by kernel_rfl) rfl (ds := [iv n, .own 3]) rfl) ⟨I0, I0, T0⟩ T0 T0, ?_⟩
 refine ⟨app_yes rfl (sp_storeBox (T0 := 24) (X := .agg [iv n, .own 3]) (cs := [iv 0, .v (.slice none 0 0)]) (ds := [iv n, .own 3]) (z := 2) (.tmp 2) (.tmp 16) rfl (by kernel_rfl) (by kernel_rfl) (by kernel_rfl) (of_decide_eq_true (by kernel_rfl)) (by kernel_rfl)) ⟨I0, I0, T0⟩ ⟨rfl, T0⟩ rfl, ?_⟩
 refine ⟨app_yes rfl (sp_assign (.const (.int .i64 0)) (iv 0) rfl) ⟨I0, T0⟩ T0 T0, ?_⟩
 show ETri J w0 _ _ _
 refine kW 17 [(2, .box 24 [iv n, .own 3]), (3, .row true 39 2 ((nrm rs).length) ((nrm rs).flatMap cRo))] [(2, .box 2 0), (3, iv 0)] ?_
 refine t_then ?_
 refine tri_ret ?_
 refine tri_end2 Tryd.results13 (.cellS rfl rfl Tryd.underlying24 rfl (z := 2) (by kernel_rfl) rfl (by decide)) (.tmp rfl) ?_
 exact nm_ok hs1
 refine tri_region ?_
 refine oA (sp_move (.tmp 4) (iv (valS n rs)) rfl) I0 ?_
 refine oC (sp_neq rfl (dF' hs1)) I0 I0 ?_
 refine kN 17 [(1, .box 24 (cSy n rs)), (2, .box 24 [iv 0, .v (.slice none 0 0)])] [(1, .box 1 0), (2, .box 2 0), (3, iv 0), (4, iv (valS n rs)), (8, bv true)] ?_
 refine t_then ?_
 refine t_condT rfl ?_
 refine tri_seq ?_
 refine tri_region ?_
 refine t_op rfl (sp_bld [] #[.int .i64 0, .slice none 0 0] rfl rfl (by kernel_rfl) rfl) T0 T0 T0 ?_
 refine oA (sp_move (.tmp 4) (iv (valS n rs)) rfl) I0 ?_
 refine t_op rfl (sp_storeBox (T0 := 24) (X := .agg [iv 0, .v (.slice none 0 0)]) (cs := [iv 0, .v (.slice none 0 0)]) (ds := [iv 0, .v (.slice none 0 0)]) (z := 2) (.tmp 2) (.tmp 9) rfl (by kernel_rfl) (by kernel_rfl) (by kernel_rfl) (of_decide_eq_true (by kernel_rfl)) (by kernel_rfl)) ⟨I0, I0, T0⟩ ⟨rfl, T0⟩ rfl ?_
 refine oA (sp_assign (.tmp 10) (iv (valS n rs)) rfl) I0 ?_
 refine kN 17 [(1, .box 24 (cSy n rs)), (2, .box 24 [iv 0, .v (.slice none 0 0)])] [(1, .box 1 0), (2, .box 2 0), (3, iv (valS n rs))] ?_
 refine t_then ?_
 refine tri_ret ?_
 refine t_then_ret ?_
 refine tri_wk (wk_adoptB 2 1 3 true 39 2 rfl rfl rfl rfl) ?_
 refine tri_end2 Tryd.results13 (.cellS rfl rfl Tryd.underlying24 rfl (z := 2) (by kernel_rfl) rfl (by decide)) (.tmp rfl) ?_
 exact nm_e1 hs1
end Go.Proofs.YtbbglendddepfaaDoor

namespace Go.Proofs.YtbbglendddepfaaDoor
open Go.RowKit Go.Deep
namespace Nk
variable {J : World → Prop}
theorem gcdL_dvd : ∀ (xs : List Int) (g : Nat), (gcdL xs g ∣ g) ∧ ∀ x ∈ xs, ((gcdL xs g : Nat) : Int) ∣ x
  | [], g => ⟨Nat.dvd_refl _, fun _ h => by cases h⟩
  | x :: xs, g => by
    obtain ⟨h1, h2⟩ := gcdL_dvd xs (Int.gcd g x)
    have hg : Int.gcd g x ∣ g := by have := Nat.gcd_dvd_left g x.natAbs; simpa [Int.gcd] using this
    have hx : ((Int.gcd g x : Nat) : Int) ∣ x := Int.gcd_dvd_right ..
    refine ⟨Nat.dvd_trans h1 hg, fun y hy => ?_⟩
    rcases List.mem_cons.1 hy with rfl | hy
    · exact Int.dvd_trans (Int.natCast_dvd_natCast.2 h1) hx
    · exact h2 y hy
theorem gcdL_greatest : ∀ (xs : List Int) (g d : Nat), d ∣ g → (∀ x ∈ xs, (d : Int) ∣ x) → d ∣ gcdL xs g
  | [], _, _, h, _ => h
  | x :: xs, g, d, h, hx => by
    refine gcdL_greatest xs _ d ?_ fun y hy => hx y (List.mem_cons_of_mem _ hy)
    have h2 := hx x (List.mem_cons_self ..)
    have : d ∣ x.natAbs := Int.ofNat_dvd_left.1 h2
    simpa [Int.gcd] using Nat.dvd_gcd h this
theorem dot_div (g : Int) (hg : g ≠ 0) : ∀ (xs ys : List Int), (∀ x ∈ xs, g ∣ x) → dot xs ys = g * dot (xs.map fun x => x.tdiv g) ys
  | [], ys, _ => by simp [dot]
  | x :: xs, [], _ => by simp [dot]
  | x :: xs, y :: ys, h => by
    have ih := dot_div g hg xs ys fun z hz => h z (List.mem_cons_of_mem _ hz)
    obtain ⟨k, rfl⟩ := h x (List.mem_cons_self ..)
    simp only [List.map_cons, dot, Int.mul_tdiv_cancel_left _ hg]
    rw [Int.mul_add, ← ih, Int.mul_assoc]
theorem tight_value {xs ys : List Int} {c : Int} : 0 ≤ c + dot xs ys ↔ 0 ≤ tC xs c + dot (tX xs c) ys := by
  unfold tX tC
  split
  · rename_i hh
    have hg0 : ((gcdL xs 0 : Nat) : Int) ≠ 0 := by have := hh.2; omega
    have hg : (0 : Int) < gcdL xs 0 := by omega
    have hd := dot_div _ hg0 xs ys (gcdL_dvd xs 0).2
    rw [hd]
    generalize dot (xs.map fun x => x.tdiv ((gcdL xs 0 : Nat) : Int)) ys = d
    generalize ((gcdL xs 0 : Nat) : Int) = g at *
    have h1 := Int.le_ediv_iff_mul_le (a := -d) (b := c) hg
    have h2 : -d * g = -(g * d) := by rw [Int.neg_mul, Int.mul_comm]
    rw [h2] at h1
    omega
  · exact Iff.rfl
theorem gcdL_div {xs : List Int} (h : gcdL xs 0 ≠ 0) : gcdL (xs.map fun x => x.tdiv (gcdL xs 0 : Nat)) 0 = 1 := by
  have h1 := (gcdL_dvd xs 0).2
  generalize hg : gcdL xs 0 = g at h h1 ⊢
  have h2 := (gcdL_dvd (xs.map fun x => x.tdiv (g : Nat)) 0).2
  generalize gcdL (xs.map fun x => x.tdiv (g : Nat)) 0 = e at h2 ⊢
  have h3 : g * e ∣ gcdL xs 0 := gcdL_greatest xs 0 (g * e) (Nat.dvd_zero _) fun x hx => by
    obtain ⟨a, ha⟩ := h2 _ (List.mem_map.2 ⟨x, hx, rfl⟩)
    have hgd := h1 x hx
    have := Int.mul_tdiv_cancel' hgd
    rw [← this, ha]
    exact ⟨a, by rw [Int.natCast_mul, Int.mul_assoc]⟩
  rw [hg] at h3
  obtain ⟨a, ha⟩ := h3
  have h4 : g * (e * a) = g * 1 := by rw [Nat.mul_one, ← Nat.mul_assoc]; exact ha.symm
  have h5 := Nat.eq_of_mul_eq_mul_left (Nat.pos_of_ne_zero h) h4
  exact Nat.eq_one_of_mul_eq_one_right h5
theorem tR_idem {r : Rw} (h : smR r = true) : tR (tR r) = tR r := by
  obtain ⟨xs, c⟩ := r
  by_cases g0 : gcdL xs 0 = 0
  · have e1 : tX xs c = xs := by unfold tX; rw [if_neg fun h => h.2 g0]
    have e2 : tC xs c = c := by unfold tC; rw [if_neg fun h => h.2 g0]
    have : tR (xs, c) = (xs, c) := Prod.ext e1 e2
    rw [this, this]
  · have e1 : tX xs c = xs.map fun x => x.tdiv (gcdL xs 0 : Nat) := by unfold tX; rw [if_pos ⟨h, g0⟩]
    have e2 : tC xs c = c / (gcdL xs 0 : Nat) := by unfold tC; rw [if_pos ⟨h, g0⟩]
    have hs := tR_small h
    have hg1 := gcdL_div g0
    have e : tR (xs, c) = (xs.map fun x => x.tdiv (gcdL xs 0 : Nat), c / (gcdL xs 0 : Nat)) := Prod.ext e1 e2
    rw [e1, e2] at hs
    rw [e]
    generalize xs.map (fun x => x.tdiv (gcdL xs 0 : Nat)) = ys at hs hg1
    generalize c / ((gcdL xs 0 : Nat) : Int) = d at hs
    refine Prod.ext ?_ ?_
    · show tX ys d = ys
      unfold tX
      rw [hg1]
      split
      · simp
      · rfl
    · show tC ys d = d
      unfold tC
      rw [hg1]
      split
      · simp
      · rfl
theorem tgs_self {M : List Rw} (h : ∀ r ∈ M, tR r = r ∧ triB r.1 r.2 = false) : tgs M = M := by
  unfold tgs
  have : M.map tR = M := by
    conv => rhs; rw [← List.map_id M]
    exact List.map_congr_left fun r hr => (h r hr).1
  rw [this, List.filter_eq_self]
  exact fun r hr => by rw [(h r hr).2]; rfl
theorem asc_inj {M : List Rw} (hM : Asc M) : ∀ r ∈ M, ∀ s ∈ M, s.1 = r.1 → s = r := by
  induction M with
  | nil => intro r h; cases h
  | cons x xs ih =>
    obtain ⟨h1, h2⟩ := List.pairwise_cons.1 hM
    intro r hr s hs e
    rcases List.mem_cons.1 hr with e1 | hr'
    · rcases List.mem_cons.1 hs with e2 | hs'
      · rw [e1, e2]
      · exact absurd (by rw [← e1]; exact e.symm) (lt_ne (h1 s hs'))
    · rcases List.mem_cons.1 hs with e2 | hs'
      · exact absurd (by rw [← e2]; exact e) (lt_ne (h1 r hr'))
      · exact ih h2 r hr' s hs' e
theorem tdy_self {M : List Rw} (hM : Asc M) : tdy M = M :=
  asc_ext (tdy_inv M).1 hM fun r => by
    rw [(tdy_inv M).2 r]
    refine ⟨fun h => h.1, fun h => ⟨h, fun s hs e => ?_⟩⟩
    rw [asc_inj hM r h s hs e]
    exact Int.le_refl _
theorem nrm_tdy (rs : List Rw) : nrm rs = tdy (tgs rs) := (tdy_cmpt (tgs rs)).symm
theorem nrm_mem {rs : List Rw} (r : Rw) (h : r ∈ nrm rs) : ∃ x ∈ rs, r = tR x ∧ triB r.1 r.2 = false := by
  rw [nrm_tdy] at h
  have h1 := ((tdy_inv (tgs rs)).2 r).1 h |>.1
  unfold tgs at h1
  obtain ⟨h2, h3⟩ := List.mem_filter.1 h1
  obtain ⟨x, hx, rfl⟩ := List.mem_map.1 h2
  exact ⟨x, hx, rfl, by simpa using h3⟩
theorem nrm_idem {n : Int} {rs : List Rw} (h : valS n rs = 0) : nrm (nrm rs) = nrm rs := by
  obtain ⟨_, _, h2, _⟩ := valS_zero.1 h
  have e : tgs (nrm rs) = nrm rs := tgs_self fun r hr => by
    obtain ⟨x, hx, rfl, ht⟩ := nrm_mem r hr
    exact ⟨tR_idem (List.all_eq_true.1 h2 x hx), ht⟩
  rw [nrm_tdy (nrm rs), e]
  refine tdy_self ?_
  rw [nrm_tdy]
  exact (tdy_inv _).1
theorem nrm_val {n : Int} {rs : List Rw} (h : valS n rs = 0) : valS n (nrm rs) = 0 := by
  obtain ⟨h0, h1, h2, h3⟩ := valS_zero.1 h
  refine valS_zero.2 ⟨h0, ?_, ?_, Nat.le_trans nrm_len h3⟩
  · refine List.all_eq_true.2 fun r hr => ?_
    obtain ⟨x, hx, rfl, _⟩ := nrm_mem r hr
    have := List.all_eq_true.1 h1 x hx
    unfold lenB at this ⊢
    rw [tR_len]
    exact this
  · refine List.all_eq_true.2 fun r hr => ?_
    obtain ⟨x, hx, rfl, _⟩ := nrm_mem r hr
    exact tR_small (List.all_eq_true.1 h2 x hx)
theorem dot_nonneg : ∀ (xs ys : List Int), (∀ x ∈ xs, 0 ≤ x) → (∀ y ∈ ys, 0 ≤ y) → 0 ≤ dot xs ys
  | [], _, _, _ => by simp [dot]
  | _ :: _, [], _, _ => by simp [dot]
  | x :: xs, y :: ys, h, h' => by
    have ih := dot_nonneg xs ys (fun z hz => h z (List.mem_cons_of_mem _ hz)) fun z hz => h' z (List.mem_cons_of_mem _ hz)
    have := Int.mul_nonneg (h x (List.mem_cons_self ..)) (h' y (List.mem_cons_self ..))
    simp only [dot]
    omega
theorem tri_holds {t : Rw} {ys : List Int} (h : triB t.1 t.2 = true) (hy : ys.all coB = true) : holdB ys t = true := by
  unfold triB at h
  simp only [Bool.and_eq_true, decide_eq_true_eq, Bool.not_eq_true'] at h
  obtain ⟨h1, h2⟩ := h
  have := dot_nonneg t.1 ys (fun x hx => by
    rcases Int.lt_or_le x 0 with hlt | hge
    · have : t.1.any negB = true := List.any_eq_true.2 ⟨x, hx, by unfold negB; exact decide_eq_true hlt⟩
      rw [this] at h2; cases h2
    · exact hge) (fun y hy' => (coB_true.1 (List.all_eq_true.1 hy y hy')).1)
  unfold holdB
  exact decide_eq_true (by omega)
theorem hold_tR {r : Rw} {ys : List Int} : holdB ys (tR r) = holdB ys r := by
  unfold holdB tR
  exact decide_eq_decide.2 tight_value.symm
theorem nrm_hold {rs : List Rw} {ys : List Int} (hy : ys.all coB = true) : rs.all (holdB ys) = (nrm rs).all (holdB ys) := by
  rw [Bool.eq_iff_iff, List.all_eq_true, List.all_eq_true]
  constructor
  · intro h r hr
    obtain ⟨x, hx, rfl, _⟩ := nrm_mem r hr
    rw [hold_tR]
    exact h x hx
  · intro h r hr
    rw [← hold_tR]
    cases ht : triB (tR r).1 (tR r).2 with
    | true => exact tri_holds ht hy
    | false =>
      have h1 : tR r ∈ tgs rs := by
        unfold tgs
        exact List.mem_filter.2 ⟨List.mem_map.2 ⟨r, hr, rfl⟩, by rw [ht]; rfl⟩
      obtain ⟨x, hx, e1, e2⟩ := has_least (tgs rs) (tR r) h1
      have h2 := h x (by rw [nrm_tdy]; exact ((tdy_inv _).2 x).2 hx)
      unfold holdB at h2 ⊢
      rw [e1] at h2
      have := of_decide_eq_true h2
      exact decide_eq_true (by omega)
theorem nrm_sat {n : Int} {rs : List Rw} {ys : List Int} (h : valS n rs = 0) : satS n (nrm rs) ys = satS n rs ys := by
  unfold satS
  rw [h, nrm_val h]
  cases hy : ys.all coB with
  | false => simp
  | true => rw [nrm_hold (rs := rs) hy]
theorem Satisfies_c {n : Int} {rs : List Rw} {ys : List Int} (H : SyOk rs) (Hy : InOk ys) : Ctr Tryd.prog J 15 [.agg (cSy n rs), intsA ys] (bv (satS n rs ys)) := ctr2 fun w v v' _ h h' => by
  obtain ⟨u, rfl, hu⟩ := sy_args h
  exact (Satisfies_any n (pu_rows H.rows lo00 hu) (pu_ints Hy lo00 h')).mono fun _ _ => ret_sc
theorem Normalize_again {n : Int} {rs : List Rw} (H : SyOk rs) (hl : rs.length ≤ 250) (hs : ∀ r ∈ rs, r.1.length ≤ 1000) (e : nmE n rs = 0) :
    Ctr Tryd.prog J 13 [.agg (cSy (nmN n rs) (nmR n rs))] (.tup [.agg (cSy (nmN n rs) (nmR n rs)), iv 0]) := by
  have hv : valS n rs = 0 := e
  have e1 : nmR n rs = nrm rs := by unfold nmR; rw [if_pos hv]
  have e2 : nmN n rs = n := by unfold nmN; rw [if_pos hv]
  have hs2 : ∀ r ∈ nrm rs, r.1.length ≤ 1000 := fun r hr => by
    obtain ⟨x, hx, rfl, _⟩ := nrm_mem r hr
    rw [tR_len]; exact hs x hx
  have hv2 := nrm_val hv
  have := lNormalize_c (J := J) (n := n) (rs := nrm rs) (by have := nmR_ok (n := n) H; rwa [e1] at this) (Nat.le_trans nrm_len hl) hs2
  have e3 : nmR n (nrm rs) = nrm rs := by unfold nmR; rw [if_pos hv2, nrm_idem hv]
  have e4 : nmN n (nrm rs) = n := by unfold nmN; rw [if_pos hv2]
  have e5 : nmE n (nrm rs) = 0 := hv2
  rw [e3, e4, e5] at this
  rw [e1, e2]
  exact this
theorem Satisfies_again {n : Int} {rs : List Rw} {ys : List Int} (H : SyOk rs) (Hy : InOk ys) (e : nmE n rs = 0) : Ctr Tryd.prog J 15 [.agg (cSy (nmN n rs) (nmR n rs)), intsA ys] (bv (satS n rs ys)) := by
  have hv : valS n rs = 0 := e
  have e1 : nmR n rs = nrm rs := by unfold nmR; rw [if_pos hv]
  have e2 : nmN n rs = n := by unfold nmN; rw [if_pos hv]
  have := Satisfies_c (J := J) (n := n) (ys := ys) (nmR_ok (n := n) H) Hy
  rw [e1, nrm_sat hv] at this
  rw [e1, e2]
  exact this
theorem none_left {n : Int} {rs : List Rw} (e : ¬ nmE n rs = 0) : (((nmR n rs).length : Nat) : Int) = 0 := by
  have : nmR n rs = [] := by unfold nmR; rw [if_neg (show ¬ valS n rs = 0 from e)]
  rw [this]; rfl
end Nk
end Go.Proofs.YtbbglendddepfaaDoor

namespace Go.Proofs.YtbbglendddepfaaDoor
open Go.RowKit Go.Deep
/-- Numbers may have turned, but not in the blocks of K. -/
structure Ichg (K : Nat → Prop) (w w' : World) : Prop where
  os : w'.os = w.os
  tape : w'.tape = w.tape
  output : w'.output = w.output
  size : w.heap.size ≤ w'.heap.size
  keep : ∀ b, b < w.heap.size → K b → w'.heap[b]? = w.heap[b]?
  soft : ∀ b, soft w b → soft w' b
  cell : ∀ c j x, w.cell? ⟨c, j, none⟩ = some x → w'.cell? ⟨c, j, none⟩ = some x ∨ ∃ k i i', x = .int k i ∧ w'.cell? ⟨c, j, none⟩ = some (.int k i')
theorem Ichg.refl (K : Nat → Prop) (w : World) : Ichg K w w := ⟨rfl, rfl, rfl, Nat.le_refl _, fun _ _ _ => rfl, fun _ h => h, fun _ _ _ h => .inl h⟩
theorem Ichg.set {K : Nat → Prop} {w w' : World} (h : Ichg K w w') {b o : Nat} {i i' : Int} (hb : ¬ K b) (hs : Go.Proofs.YtbbglendddepfaaDoor.soft w' b) (hc : w'.cell? ⟨b, o, none⟩ = some (.int .i64 i)) : Ichg K w (w'.setCells b o [.int .i64 i']) := by
  obtain ⟨cur, T, hg⟩ := hs
  have ho : o < cur.size := by
    simp only [World.cell?, hg] at hc
    exact (Array.getElem?_eq_some_iff.1 (by simpa using hc)).1
  obtain ⟨q1, q2, q3⟩ := setCells_os b [.int .i64 i'] o w'
  refine ⟨q1.trans h.os, q2.trans h.tape, q3.trans h.output, by rw [setCells_size]; exact h.size, fun c hc1 hK => (setCells_other (fun e => by subst e; exact hb hK) _ _ _).trans (h.keep c hc1 hK), fun c hc1 => soft_set1 hg ho (h.soft c hc1), fun c j x hx => ?_⟩
  rw [cell_set1 hg ho]
  split
  · rename_i e
    obtain ⟨rfl, rfl⟩ := e
    rcases h.cell _ _ _ hx with h1 | ⟨k, p, p', rfl, h1⟩
    · rw [hc] at h1
      cases h1
      exact .inr ⟨.i64, i, i', rfl, rfl⟩
    · rw [hc] at h1
      cases h1
      exact .inr ⟨.i64, p, i', rfl, rfl⟩
  · exact h.cell _ _ _ hx
end Go.Proofs.YtbbglendddepfaaDoor

namespace Go.Proofs.YtbbglendddepfaaDoor
open Go.RowKit Go.Deep
variable {J : World → Prop}
theorem Ichg.ints {K : Nat → Prop} {w w' : World} (h : Ichg K w w') (c j : Nat) (x : Int) (hx : w.cell? ⟨c, j, none⟩ = some (.int .i64 x)) : ∃ y, w'.cell? ⟨c, j, none⟩ = some (.int .i64 y) := by
  rcases h.cell _ _ _ hx with h1 | ⟨k, i, i', e, h1⟩
  · exact ⟨x, h1⟩
  · cases e; exact ⟨i', h1⟩
section
variable {P : Program} {o : Oper}
end
section
variable {P : Program} {w0 : Wb} {ops : Array Oper} {o : Oper} {rest : List Oper} {Q : Exit → Act → World → Prop}
end
end Go.Proofs.YtbbglendddepfaaDoor

namespace Go.Proofs.YtbbglendddepfaaDoor
open Go.RowKit Go.Deep
variable {J : World → Prop}
section
variable {n : Int} {rs : List Rw} {r : Rw}
theorem wideL (h : wideB rs = false) : rs.length ≤ 250 ∧ ∀ x ∈ rs, x.1.length ≤ 200 := by
  unfold wideB at h
  split at h
  · cases h
  · rename_i h1
    refine ⟨by omega, fun x hx => ?_⟩
    have h2 : rs.all shortB = true := by simpa using h
    have := List.all_eq_true.1 h2 x hx
    unfold shortB longB at this
    simpa using this
end
end Go.Proofs.YtbbglendddepfaaDoor

namespace Go.Proofs.YtbbglendddepfaaDoor
open Go.RowKit Go.Deep
variable {J : World → Prop}
set_option linter.unusedSimpArgs false in
set_option linter.unusedVariables false in
set_option maxRecDepth 100000 in
set_option maxHeartbeats 6400000 in
theorem SameRow_l {r : Rw} (H : RwOk r) : Ctr Tryd.prog J 34 [.agg (cRo r), .agg (cRo r)] (bv true) := by
 refine ctr_of_tri Tryd.func34 rfl (by intro X hX; simp only [List.mem_cons, List.not_mem_nil, or_false] at hX; rcases hX with rfl | rfl; exact plain_agg (plain_ro r); exact plain_agg (plain_ro r)) (n := 17) rfl (by simp) (fun w0 => ?_)
 refine kW 17 [] [(0, .agg (cRo r)), (1, .agg (cRo r))] ?_
 refine tri_seq ?_
 refine tri_region ?_
 refine t_op rfl (sp_box (X := .agg (cRo r)) (k := 1) (.tmp 0) rfl rfl) ⟨I0, T0⟩ T0 rfl ?_
 refine t_op rfl (sp_box (X := .agg (cRo r)) (k := 2) (.tmp 1) rfl rfl) ⟨I0, T0⟩ T0 rfl ?_
 refine oA (sp_assign (.const (.bool false)) (bv false) rfl) I0 ?_
 refine kN 17 [(1, .box 39 (cRo r)), (2, .box 39 (cRo r))] [(2, .box 1 0), (3, .box 2 0), (4, bv false)] ?_
 refine t_then ?_
 refine tri_seq ?_
 refine tri_region ?_
 refine oA (fB 1 (.tmp 2) rfl Tryd.underlying39 rfl 1 rfl) I0 ?_
 refine oB (lB (.box 39 (cRo r)) (iv r.2) (.tmp 5) rfl Tryd.underlying3 rfl rfl) I0 rfl ?_
 refine oA (fB 1 (.tmp 3) rfl Tryd.underlying39 rfl 1 rfl) I0 ?_
 refine oB (lB (.box 39 (cRo r)) (iv r.2) (.tmp 7) rfl Tryd.underlying3 rfl rfl) I0 rfl ?_
 refine oC (sp_eql rfl (dT rfl)) I0 I0 ?_
 refine oA (sp_move (.tmp 9) (bv true) rfl) I0 ?_
 refine gA (fB 0 (.tmp 2) rfl Tryd.underlying39 rfl 1 rfl) I0 ?_
 refine gB (lB (.box 39 (cRo r)) (intsA r.1) (.tmp 11) rfl Tryd.underlying25 rfl rfl) I0 rfl ?_
 refine gA (fB 0 (.tmp 3) rfl Tryd.underlying39 rfl 1 rfl) I0 ?_
 refine gB (lB (.box 39 (cRo r)) (intsA r.1) (.tmp 13) rfl Tryd.underlying25 rfl rfl) I0 rfl ?_
 refine gD (sp_call (c := .func 28) (xs := #[.tmp 12, .tmp 14]) [] (sameIntsL r.1 H.coef) rfl (by kernel_rfl) rfl (Xs := [intsA r.1, intsA r.1]) rfl rfl rfl) I0 I0 I0 ?_
 refine oD (sp_pick (.tmp 10) (.tmp 15) (.const (.bool false)) true (bv true) (bv false) rfl) I0 I0 I0 ?_
 refine oA (sp_assign (.tmp 16) (bv true) rfl) I0 ?_
 refine kN 17 [] [(4, bv true)] ?_
 refine t_then ?_
 refine tri_ret ?_
 refine tri_end1 Tryd.results34 (.tmp rfl) ?_
 exact rfl
set_option linter.unusedSimpArgs false in
set_option linter.unusedVariables false in
set_option maxRecDepth 100000 in
set_option maxHeartbeats 6400000 in
theorem SameSystem_l {n : Int} {rs : List Rw} (H : SyOk rs) : Ctr Tryd.prog J 14 [.agg (cSy n rs), .agg (cSy n rs)] (bv true) := by
 have l1 := H.len
 refine ctr_of_tri Tryd.func14 rfl (by intro X hX; simp only [List.mem_cons, List.not_mem_nil, or_false] at hX; rcases hX with rfl | rfl; exact plain_agg (plain_sy n rs); exact plain_agg (plain_sy n rs)) (n := 39) rfl (by simp) (fun w0 => ?_)
 refine kW 39 [] [(0, .agg (cSy n rs)), (1, .agg (cSy n rs))] ?_
 refine tri_seq ?_
 refine tri_region ?_
 refine t_op rfl (sp_box (X := .agg (cSy n rs)) (k := 1) (.tmp 0) rfl rfl) ⟨I0, T0⟩ T0 rfl ?_
 refine t_op rfl (sp_box (X := .agg (cSy n rs)) (k := 2) (.tmp 1) rfl rfl) ⟨I0, T0⟩ T0 rfl ?_
 refine oA (sp_assign (.const (.bool false)) (bv false) rfl) I0 ?_
 refine kN 39 [(1, .box 24 (cSy n rs)), (2, .box 24 (cSy n rs))] [(2, .box 1 0), (3, .box 2 0), (4, bv false)] ?_
 refine t_then ?_
 refine tri_seq ?_
 refine tri_seq ?_
 refine tri_region ?_
 refine oA (fB 0 (.tmp 2) rfl Tryd.underlying24 rfl 1 rfl) I0 ?_
 refine oB (lB (.box 24 (cSy n rs)) (iv n) (.tmp 6) rfl Tryd.underlying3 rfl rfl) I0 rfl ?_
 refine oA (fB 0 (.tmp 3) rfl Tryd.underlying24 rfl 1 rfl) I0 ?_
 refine oB (lB (.box 24 (cSy n rs)) (iv n) (.tmp 8) rfl Tryd.underlying3 rfl rfl) I0 rfl ?_
 refine oC (sp_neq rfl (dT' rfl)) I0 I0 ?_
 refine oA (sp_move (.tmp 10) (bv false) rfl) I0 ?_
 refine gA (fB 1 (.tmp 2) rfl Tryd.underlying24 rfl 1 rfl) I0 ?_
 refine gB (lB (.box 24 (cSy n rs)) (slA 2 cRo rs) (.tmp 12) rfl Tryd.underlying22 rfl rfl) I0 rfl ?_
 refine gA (sp_lenSl (.tmp 13) rfl Tryd.underlying22) I0 ?_
 refine gA (fB 1 (.tmp 3) rfl Tryd.underlying24 rfl 1 rfl) I0 ?_
 refine gB (lB (.box 24 (cSy n rs)) (slA 2 cRo rs) (.tmp 15) rfl Tryd.underlying22 rfl rfl) I0 rfl ?_
 refine gA (sp_lenSl (.tmp 16) rfl Tryd.underlying22) I0 ?_
 refine gC (sp_neq rfl (dT' rfl)) I0 I0 ?_
 refine oD (sp_pick (.tmp 11) (.const (.bool true)) (.tmp 18) false (bv true) (bv false) rfl) I0 I0 I0 ?_
 refine kN 39 [(1, .box 24 (cSy n rs)), (2, .box 24 (cSy n rs))] [(2, .box 1 0), (3, .box 2 0), (4, bv false), (19, bv false)] ?_
 refine t_then ?_
 refine t_condF rfl ?_
 refine tri_skip ?_
 refine t_then ?_
 refine tri_seq ?_
 refine tri_seq ?_
 refine tri_region ?_
 refine oA (sp_assign (.const (.int .i64 0)) (iv 0) rfl) I0 ?_
 refine kN 39 [(1, .box 24 (cSy n rs)), (2, .box 24 (cSy n rs))] [(2, .box 1 0), (3, .box 2 0), (4, bv false), (5, iv 0)] ?_
 refine t_then ?_
 refine tri_block ?_
 refine tri_loop (σ := {k : Nat // k ≤ rs.length}) (fun s => (ofL [(1, .box 24 (cSy n rs)), (2, .box 24 (cSy n rs))], ofT 39 [(2, .box 1 0), (3, .box 2 0), (5, iv s.1)])) (fun s => rs.length - s.1) ⟨0, Nat.zero_le _⟩ (wk_keep _ _ rfl (by kernel_rfl) (by kernel_rfl)) (fun s => ?_)
 obtain ⟨k, hk0⟩ := s
 show ETri J w0 (ofL [(1, .box 24 (cSy n rs)), (2, .box 24 (cSy n rs))]) (ofT 39 [(2, .box 1 0), (3, .box 2 0), (5, iv k)]) _
 refine tri_seq ?_
 refine tri_seq ?_
 by_cases hs1 : ((k : Nat) : Int) < ((rs.length : Nat) : Int)
 refine tri_region ?_
 refine oA (sp_move (.tmp 5) (iv k) rfl) I0 ?_
 refine oA (fB 1 (.tmp 2) rfl Tryd.underlying24 rfl 1 rfl) I0 ?_
 refine oB (lB (.box 24 (cSy n rs)) (slA 2 cRo rs) (.tmp 21) rfl Tryd.underlying22 rfl rfl) I0 rfl ?_
 refine oA (sp_lenSl (.tmp 22) rfl Tryd.underlying22) I0 ?_
 refine oC (sp_lss rfl (dT hs1)) I0 I0 ?_
 refine kN 39 [(1, .box 24 (cSy n rs)), (2, .box 24 (cSy n rs))] [(2, .box 1 0), (3, .box 2 0), (5, iv k), (24, bv true)] ?_
 refine t_then ?_
 refine t_condT rfl ?_
 refine tri_skip ?_
 refine t_then ?_
 refine tri_seq ?_
 refine tri_block ?_
 refine tri_seq ?_
 refine tri_draw [⟨[(.tmp 2, .box 1 0)], [], .box 1 1, .no⟩, ⟨[(.tmp 27, .box 1 1)], [(1, .box 24 (cSy n rs))], slA 2 cRo rs, .no⟩, ⟨[(.tmp 5, iv k)], [], iv k, .no⟩, ⟨[(.tmp 28, slA 2 cRo rs), (.tmp 29, iv k)], [], .el (rs.flatMap cRo) (k * 2), .no⟩, ⟨[(.tmp 30, .el (rs.flatMap cRo) (k * 2))], [], .agg (cRo rs[k]), .no⟩, ⟨[(.tmp 3, .box 2 0)], [], .box 2 1, .no⟩, ⟨[(.tmp 32, .box 2 1)], [(2, .box 24 (cSy n rs))], slA 2 cRo rs, .no⟩, ⟨[(.tmp 5, iv k)], [], iv k, .no⟩, ⟨[(.tmp 33, slA 2 cRo rs), (.tmp 34, iv k)], [], .el (rs.flatMap cRo) (k * 2), .no⟩, ⟨[(.tmp 35, .el (rs.flatMap cRo) (k * 2))], [], .agg (cRo rs[k]), .no⟩, ⟨[(.func 34, .v (.func (.func 34) #[] #[])), (.tmp 31, .agg (cRo rs[k])), (.tmp 36, .agg (cRo rs[k]))], [], bv true, .no⟩, ⟨[(.tmp 37, bv true)], [], bv false, .no⟩] (by kernel_rfl) (by kernel_rfl) ?_
 refine ⟨app_yes rfl (fB 1 (.tmp 2) rfl Tryd.underlying24 rfl 1 rfl) ⟨I0, T0⟩ T0 T0, ?_⟩
 refine ⟨app_yes rfl (lB (.box 24 (cSy n rs)) (slA 2 cRo rs) (.tmp 27) rfl Tryd.underlying22 rfl rfl) ⟨I0, T0⟩ ⟨rfl, T0⟩ T0, ?_⟩
 refine ⟨app_yes rfl (sp_move (.tmp 5) (iv k) rfl) ⟨I0, T0⟩ T0 T0, ?_⟩
 refine ⟨app_yes rfl (sp_indexSl (off := k * 2) (.tmp 28) (.tmp 29) rfl Tryd.underlying22 (by kernel_rfl) (by omega) (by omega) rfl) ⟨I0, I0, T0⟩ T0 T0, ?_⟩
 refine ⟨app_yes rfl (sp_loadElS (z := 2) (.tmp 30) rfl Tryd.underlying39 rfl (by kernel_rfl) (flat_take lenRo rs k (by omega)) rfl) ⟨I0, T0⟩ T0 T0, ?_⟩
 refine ⟨app_yes rfl (fB 1 (.tmp 3) rfl Tryd.underlying24 rfl 1 rfl) ⟨I0, T0⟩ T0 T0, ?_⟩
 refine ⟨app_yes rfl (lB (.box 24 (cSy n rs)) (slA 2 cRo rs) (.tmp 32) rfl Tryd.underlying22 rfl rfl) ⟨I0, T0⟩ ⟨rfl, T0⟩ T0, ?_⟩
 refine ⟨app_yes rfl (sp_move (.tmp 5) (iv k) rfl) ⟨I0, T0⟩ T0 T0, ?_⟩
 refine ⟨app_yes rfl (sp_indexSl (off := k * 2) (.tmp 33) (.tmp 34) rfl Tryd.underlying22 (by kernel_rfl) (by omega) (by omega) rfl) ⟨I0, I0, T0⟩ T0 T0, ?_⟩
 refine ⟨app_yes rfl (sp_loadElS (z := 2) (.tmp 35) rfl Tryd.underlying39 rfl (by kernel_rfl) (flat_take lenRo rs k (by omega)) rfl) ⟨I0, T0⟩ T0 T0, ?_⟩
 refine ⟨app_yes rfl (sp_call (c := .func 34) (xs := #[.tmp 31, .tmp 36]) [] (SameRow_l (H.rows rs[k] (List.getElem_mem (by omega)))) rfl (by kernel_rfl) rfl (Xs := [.agg (cRo rs[k]), .agg (cRo rs[k])]) rfl rfl rfl) ⟨I0, I0, I0, T0⟩ T0 T0, ?_⟩
 refine ⟨app_yes rfl (sp_not rfl rfl) ⟨I0, T0⟩ T0 T0, ?_⟩
 show ETri J w0 _ _ _
 refine kW 39 [(1, .box 24 (cSy n rs)), (2, .box 24 (cSy n rs))] [(2, .box 1 0), (3, .box 2 0), (5, iv k), (24, bv true), (38, bv false)] ?_
 refine t_then ?_
 refine t_condF rfl ?_
 refine tri_skip ?_
 refine t_block ?_
 refine t_then ?_
 refine tri_region ?_
 refine oA (sp_move (.tmp 5) (iv k) rfl) I0 ?_
 refine oC (sp_add (c := ((k + 1 : Nat) : Int)) rfl (w64 (by omega) (by omega) (by omega))) I0 I0 ?_
 refine oA (sp_assign (.tmp 26) (iv (k + 1 : Nat)) rfl) I0 ?_
 refine kN 39 [(1, .box 24 (cSy n rs)), (2, .box 24 (cSy n rs))] [(2, .box 1 0), (3, .box 2 0), (5, iv (k + 1 : Nat)), (24, bv true), (38, bv false)] ?_
 refine t_then ?_
 refine tri_again ⟨k + 1, by omega⟩ (show rs.length - (k + 1) < rs.length - k by omega) ?_
 exact wk_keep _ _ rfl (by kernel_rfl) (by kernel_rfl)
 refine tri_region ?_
 refine oA (sp_move (.tmp 5) (iv k) rfl) I0 ?_
 refine oA (fB 1 (.tmp 2) rfl Tryd.underlying24 rfl 1 rfl) I0 ?_
 refine oB (lB (.box 24 (cSy n rs)) (slA 2 cRo rs) (.tmp 21) rfl Tryd.underlying22 rfl rfl) I0 rfl ?_
 refine oA (sp_lenSl (.tmp 22) rfl Tryd.underlying22) I0 ?_
 refine oC (sp_lss rfl (dF hs1)) I0 I0 ?_
 refine kN 39 [(1, .box 24 (cSy n rs)), (2, .box 24 (cSy n rs))] [(2, .box 1 0), (3, .box 2 0), (5, iv k), (24, bv false)] ?_
 refine t_then ?_
 refine t_condF rfl ?_
 refine tri_exit ?_
 refine t_then_exit ?_
 refine t_then_exit ?_
 refine t_hit ?_
 refine t_then ?_
 refine tri_seq ?_
 refine tri_region ?_
 refine oA (sp_assign (.const (.bool true)) (bv true) rfl) I0 ?_
 refine kN 39 [] [(4, bv true)] ?_
 refine t_then ?_
 refine tri_ret ?_
 refine tri_end1 Tryd.results14 (.tmp rfl) ?_
 exact rfl
end Go.Proofs.YtbbglendddepfaaDoor

namespace Go.Proofs.YtbbglendddepfaaDoor
open Go.RowKit Go.Deep Go.ChangeShapes Go.WideShapes Go.ChangeAt Go.Joins

theorem cells_int : Tryd.prog.cellsOf 3 = 1 := by kernel_rfl
theorem cells_ints : Tryd.prog.cellsOf 25 = 1 := by kernel_rfl
theorem cells_row : Tryd.prog.cellsOf 39 = 2 := by kernel_rfl
theorem cells_rows : Tryd.prog.cellsOf 22 = 1 := by kernel_rfl
theorem cells_sys : Tryd.prog.cellsOf 24 = 2 := by kernel_rfl

section
variable {H : Type} {enc : TypeId × Value → H} {w : World} {base : Nat} {sp : Nat → Bool} {held : Bool}

theorem int_of_trod {n : Nat} {v : Value} {x : DataW H × List MemPlace} (h : DataW.trod enc Tryd.prog w base sp held n 3 [v] = some x) : ∃ c, v = .int .i64 c ∧ I64 c := by
  obtain ⟨c, e1, _, e3⟩ := DataW.trod_int Tryd.underlying3 h
  simp at e1
  exact ⟨c, e1, I64.of_wf e3⟩

set_option maxRecDepth 100000 in
theorem row_of_trod {n : Nat} {cs : List Value} {x : DataW H × List MemPlace} (h : DataW.trod enc Tryd.prog w base sp held n 39 cs = some x) :
    ∃ v c xs, cs = [v, .int .i64 c] ∧ IsInts 0 w v xs ∧ I64 c := by
  obtain ⟨ys, m, _, _, hlen, _, hf⟩ := DataW.trod_struct Tryd.underlying39 h
  rw [cells_row] at hlen
  match cs, hlen with
  | [v0, v1], _ =>
    have h0 : DataW.trod enc Tryd.prog w base sp held m 25 (([v0, v1].drop 0).take (Tryd.prog.cellsOf 25)) = ys[0]? := hf 0 _ rfl
    have h1 : DataW.trod enc Tryd.prog w base sp held m 3 (([v0, v1].drop 1).take (Tryd.prog.cellsOf 3)) = ys[1]? := hf 1 _ rfl
    rw [cells_ints] at h0
    rw [cells_int] at h1
    simp only [List.drop_zero, List.take_succ_cons, List.take_zero] at h0
    simp only [List.drop_succ_cons, List.drop_zero, List.take_succ_cons, List.take_zero] at h1
    have hx : ∀ i, i < 2 → ∃ y, ys[i]? = some y := fun i hi => ⟨ys[i]'(by simp at *; omega), List.getElem?_eq_getElem _⟩
    obtain ⟨y0, e0⟩ := hx 0 (by omega)
    obtain ⟨y1, e1⟩ := hx 1 (by omega)
    rw [e0] at h0
    rw [e1] at h1
    obtain ⟨xs, hxs⟩ := ints_of_trod Tryd.underlying25 Tryd.underlying3 cells_int h0
    obtain ⟨c, rfl, hc⟩ := int_of_trod h1
    exact ⟨v0, c, xs, rfl, hxs, hc⟩

end

set_option maxRecDepth 100000 in
theorem arg_ints {H : Type} {enc : TypeId × Value → H} {w : World} {r : Reach} {b0 : Nat} {v : Value} {d : DataW H} {p : List MemPlace} (hv : Value.okWide Tryd.prog w r b0 25 v) (h : DataW.Trod enc Tryd.prog w 0 (fun _ => true) true 25 v d p) :
    ∃ xs, IsInts 0 w v xs := by
  obtain ⟨a, len, cap, rfl⟩ := okWide_slice Tryd.underlying25 hv
  obtain ⟨fuel, hf⟩ := h
  exact ints_of_trod Tryd.underlying25 Tryd.underlying3 cells_int (by simpa [Value.cells] using hf)
end Go.Proofs.YtbbglendddepfaaDoor

namespace Go.Proofs.YtbbglendddepfaaDoor
open Go.RowKit Go.Deep Go.ChangeShapes Go.WideShapes Go.ChangeAt Go.Joins
def RoEl (lo : Nat) (w : World) (cs : List Value) (r : Rw) : Prop := ∃ v, cs = [v, .int .i64 r.2] ∧ IsInts lo w v r.1 ∧ I64 r.2
def IsSysX (lo : Nat) (w : World) (v : Value) (n : Int) (rs : List Rw) : Prop := ∃ u, v = .agg #[.int .i64 n, u] ∧ IsSl 2 RoEl lo w u rs ∧ I64 n
section
variable {H : Type} {enc : TypeId × Value → H} {w : World} {base : Nat} {sp : Nat → Bool} {held : Bool}
theorem ro_of_trod {n : Nat} {cs : List Value} {x : DataW H × List MemPlace} (h : DataW.trod enc Tryd.prog w base sp held n 39 cs = some x) : ∃ r, RoEl 0 w cs r := by
  obtain ⟨v, c, xs, e, h1, h2⟩ := row_of_trod h
  exact ⟨(xs, c), v, e, h1, h2⟩
set_option maxRecDepth 100000 in
theorem sysx_of_trod {n : Nat} {cs : List Value} {x : DataW H × List MemPlace} (h : DataW.trod enc Tryd.prog w base sp held n 24 cs = some x) :
    ∃ vars v rs, cs = [.int .i64 vars, v] ∧ IsSl 2 RoEl 0 w v rs ∧ I64 vars := by
  obtain ⟨ys, m, _, _, hlen, _, hf⟩ := DataW.trod_struct Tryd.underlying24 h
  rw [cells_sys] at hlen
  match cs, hlen with
  | [v0, v1], _ =>
    have h0 : DataW.trod enc Tryd.prog w base sp held m 3 (([v0, v1].drop 0).take (Tryd.prog.cellsOf 3)) = ys[0]? := hf 0 _ rfl
    have h1 : DataW.trod enc Tryd.prog w base sp held m 22 (([v0, v1].drop 1).take (Tryd.prog.cellsOf 22)) = ys[1]? := hf 1 _ rfl
    rw [cells_int] at h0
    rw [cells_rows] at h1
    simp only [List.drop_zero, List.take_succ_cons, List.take_zero] at h0
    simp only [List.drop_succ_cons, List.drop_zero, List.take_succ_cons, List.take_zero] at h1
    have hx : ∀ i, i < 2 → ∃ y, ys[i]? = some y := fun i hi => ⟨ys[i]'(by simp at *; omega), List.getElem?_eq_getElem _⟩
    obtain ⟨y0, e0⟩ := hx 0 (by omega)
    obtain ⟨y1, e1⟩ := hx 1 (by omega)
    rw [e0] at h0
    rw [e1] at h1
    obtain ⟨vars, rfl, hc⟩ := int_of_trod h0
    obtain ⟨rs, hrs⟩ := sl_of_trod Tryd.underlying22 cells_row (by omega) (fun _ _ _ hh _ => ro_of_trod hh) h1
    exact ⟨vars, v1, rs, rfl, hrs, hc⟩
end
set_option maxRecDepth 100000 in
theorem arg_sysx {H : Type} {enc : TypeId × Value → H} {w : World} {r : Reach} {b0 : Nat} {v : Value} {d : DataW H} {p : List MemPlace} (hv : Value.okWide Tryd.prog w r b0 24 v) (h : DataW.Trod enc Tryd.prog w 0 (fun _ => true) true 24 v d p) :
    ∃ n rs, IsSysX 0 w v n rs := by
  obtain ⟨cs, rfl, _⟩ := okWide_struct Tryd.underlying24 hv
  obtain ⟨fuel, hf⟩ := h
  obtain ⟨vars, u, rs, e, h1, h2⟩ := sysx_of_trod hf
  have e2 : cs = #[.int .i64 vars, u] := by obtain ⟨l⟩ := cs; simp [Value.cells] at e; simpa using e
  exact ⟨vars, rs, u, by rw [e2], h1, h2⟩
theorem IsSysX.ok {lo : Nat} {w : World} {v : Value} {n : Int} {rs : List Rw} (h : IsSysX lo w v n rs) : SyOk rs := by
  obtain ⟨u, _, h1, _⟩ := h
  exact ⟨h1.all fun cs r hr => by obtain ⟨v, _, a, b⟩ := hr; exact ⟨a.ok, b⟩, h1.bound⟩
section
variable {F ok : Nat → Prop} {lo : Nat} {w : World}
theorem sysx_pu (hok : ∀ b, lo ≤ b → b < w.heap.size → ok b) {v : Value} {n : Int} {rs : List Rw} (h : IsSysX lo w v n rs) : Pu F w ok (.agg (cSy n rs)) v := by
  obtain ⟨u, rfl, h1, _⟩ := h
  refine .agg rfl fun j hj => ?_
  match j, hj with
  | 0, _ => exact .v _
  | 1, _ =>
    refine sl_pu lenRo hok (fun r vs hr j hj => ?_) h1
    obtain ⟨v, rfl, a, _⟩ := hr
    match j, hj with
    | 0, _ => exact ints_pu hok a
    | 1, _ => exact .v _
end
theorem lwalk2 {f : FuncId} {A B : AV} {w : World} {v v' : Value} (h : Ctr Tryd.prog (fun _ => True) f [A, B] (bv true)) (hA : Pu (fun _ => True) w (fun b => b < w.heap.size) A v) (hB : Pu (fun _ => True) w (fun b => b < w.heap.size) B v') :
    Calls Tryd.prog f #[v, v'] w fun e w' => e = .returned (.bool true) ∧ Below w.heap.size w w' :=
  (h w #[v, v'] (fun _ _ => trivial) rfl fun j hj => (match j, hj with | 0, _ => hA | 1, _ => hB)).mono fun _ _ ⟨_, he, hp, hb⟩ => ⟨by rw [he, hp.v_inv], hb⟩
end Go.Proofs.YtbbglendddepfaaDoor
