import Derived.Test.YtoefmdjgnabgfaaProg
import Derived.WalkSpells
import Derived.WalkLawsBesides
import Derived.Deep.QuietTactic
import Derived.BigQuiet
import Derived.Laws.AppendOwnNone
import Derived.Deep.RegionWith
import Derived.StillTailTactics
import Derived.Deep.RegionHeld3
import Derived.LoopTactic
import Derived.Lib.Hide
import Derived.Outline
import Derived.Test.YtoefmdjgnabgfaaGrpdaleiikp
import Derived.Test.YtoefmdjgnabgfaaGrpciobdeem
set_option linter.all false
namespace Go.Proofs.Ytoefmdjgnabgfaa
open Go.RowKit Go.Deep
def cmpI : List Int → List Int → Int
  | [], [] => 0
  | [], _ :: _ => -1
  | _ :: _, [] => 1
  | x :: xs, y :: ys => if x < y then -1 else if y < x then 1 else cmpI xs ys
set_option maxHeartbeats 400000 in
theorem cmpInts_full (b off n cap b' off' n' cap' : Nat) (w : World) (xs ys : List Int) (hx : xs.length = n) (hy : ys.length = n') (hn : n ≤ 9223372036854775807)
    (hc : ∀ i, i < n → w.cell? ⟨b, off + i, none⟩ = some (.int .i64 (xs.getD i 0))) (hc' : ∀ i, i < n' → w.cell? ⟨b', off' + i, none⟩ = some (.int .i64 (ys.getD i 0))) :
    Calls Try.prog 33 #[.slice (some ⟨b, off, none⟩) n cap, .slice (some ⟨b', off', none⟩) n' cap'] w fun e w' => e = .returned (.int .i64 (cmpI xs ys)) ∧ Below w.heap.size w w' := by
  go_enter Try.func33, Try.ntmps33
  go_wp2
  go_loopw [5] (fun v wr => ∃ k : Nat, k ≤ n ∧ k ≤ n' ∧ v = .int .i64 k ∧ cmpI (xs.drop k) (ys.drop k) = cmpI xs ys ∧ Below w.heap.size w wr ∧ (∀ p : Addr, wr.cell? p = w.cell? p)) (fun v _ => n - (intOf v).toNat)
  case atStart => exact ⟨0, Nat.zero_le _, Nat.zero_le _, rfl, rfl, Below.refl _ _, fun _ => rfl⟩
  case round =>
    obtain ⟨k, hk, hk', rfl, hcm, hb, hsame⟩ := hrel
    have HS : Hid (∀ p : Addr, wr.cell? p = w.cell? p) := hsame
    have HB : Hid (Below w.heap.size w wr) := hb
    by_cases h1 : k < n
    · by_cases h2 : k < n'
      · have g1 : wr.cell? ⟨b, off + k, none⟩ = some (.int .i64 (xs.getD k 0)) := (hsame _).trans (hc k h1)
        have g2 : wr.cell? ⟨b', off' + k, none⟩ = some (.int .i64 (ys.getD k 0)) := (hsame _).trans (hc' k h2)
        have HC : Hid (cmpI xs ys = (if xs[k]'(by omega) < ys[k]'(by omega) then -1 else if ys[k]'(by omega) < xs[k]'(by omega) then 1 else cmpI (xs.drop (k+1)) (ys.drop (k+1)))) := by
          show _ = _
          rw [← hcm, List.drop_eq_getElem_cons (l := xs) (by omega), List.drop_eq_getElem_cons (l := ys) (by omega), cmpI]
        clear hsame hcm hb
        go_wp2
        go_quiet (fail)
        go_wp2
        · have hlt : xs[k] < ys[k] := by assumption
          go_ret
          exact ⟨ZM (by rw [HC.out, if_pos hlt]), quietBelow HB.out _⟩
        have hle : ys[k] ≤ xs[k] := by assumption
        go_quiet (fail)
        go_wp2
        · have hlt : ys[k] < xs[k] := by assumption
          go_ret
          exact ⟨ZM (by rw [HC.out, if_neg (by omega), if_pos hlt]), (by (repeat refine quietBelow ?_ _); exact HB.out)⟩
        have hle' : xs[k] ≤ ys[k] := by assumption
        go_roundw
        case rel => exact ⟨k + 1, by omega, by omega, by go_num, by rw [HC.out, if_neg (by omega), if_neg (by omega)], (by (repeat refine quietBelow ?_ _); exact HB.out), fun p => HS.out p⟩
        case measure => simp [intOf]; omega
      have hd : ys.drop k = [] := List.drop_eq_nil_of_le (by omega)
      have HC : Hid (cmpI xs ys = 1) := by
        show _ = _
        rw [← hcm, hd, List.drop_eq_getElem_cons (by omega), cmpI]
      have hlt : n' < n := by omega
      clear hsame hcm hb hd
      go_wp2
      go_ret
      exact ⟨ZM HC.out.symm, HB.out⟩
    have hkn : k = n := by omega
    have hd : xs.drop k = [] := List.drop_eq_nil_of_le (by omega)
    by_cases h2 : n < n'
    · have HC : Hid (cmpI xs ys = -1) := by
        show _ = _
        rw [← hcm, hd, List.drop_eq_getElem_cons (by omega), cmpI]
      clear hsame hcm hb hd hkn
      go_wp2
      go_ret
      exact ⟨ZM HC.out.symm, HB.out⟩
    have HC : Hid (cmpI xs ys = 0) := by
      show _ = _
      rw [← hcm, hd, List.drop_eq_nil_of_le (by omega), cmpI]
    have hnn : ¬ n' < n := by omega
    clear hsame hcm hb hd hkn
    go_wp2
    go_ret
    exact ⟨ZM HC.out.symm, HB.out⟩
set_option maxHeartbeats 400000 in
theorem cmpInts_left (a a' : Option Addr) (cap n' cap' : Nat) (w : World) (ys : List Int) (hy : ys.length = n') (hn' : n' ≤ 9223372036854775807) :
    Calls Try.prog 33 #[.slice a 0 cap, .slice a' n' cap'] w fun e w' => e = .returned (.int .i64 (cmpI [] ys)) ∧ Below w.heap.size w w' := by
  have HC : Hid (cmpI [] ys = if 0 < n' then -1 else 0) := by
    show _ = _
    cases ys <;> simp_all [cmpI] <;> omega
  by_cases h2 : 0 < n'
  · go_enter Try.func33, Try.ntmps33
    go_wp2
    go_rounds 1
    go_ret
    exact ⟨ZM (by rw [HC.out, if_pos h2]), Below.refl _ _⟩
  obtain rfl : n' = 0 := by omega
  clear h2
  go_enter Try.func33, Try.ntmps33
  go_wp2
  go_rounds 1
  go_ret
  exact ⟨ZM (by rw [HC.out]; rfl), Below.refl _ _⟩
set_option maxHeartbeats 400000 in
theorem cmpInts_right (a a' : Option Addr) (n cap cap' : Nat) (w : World) (x : Int) (xs : List Int) (hx : (x :: xs).length = n) (hn : n ≤ 9223372036854775807) :
    Calls Try.prog 33 #[.slice a n cap, .slice a' 0 cap'] w fun e w' => e = .returned (.int .i64 (cmpI (x :: xs) [])) ∧ Below w.heap.size w w' := by
  have h2 : 0 < n := by simp at hx; omega
  clear hx
  go_enter Try.func33, Try.ntmps33
  go_wp2
  go_rounds 1
  go_ret
  exact ⟨rfl, Below.refl _ _⟩
theorem cmpInts_any {lo lo' : Nat} {w : World} {v v' : Value} {xs ys : List Int} (h : IsInts lo w v xs) (h' : IsInts lo' w v' ys) :
    Calls Try.prog 33 #[v, v'] w fun e w' => e = .returned (.int .i64 (cmpI xs ys)) ∧ Below w.heap.size w w' := by
  obtain ⟨a, cap, rfl, hl, hm, hi, hc⟩ := h
  obtain ⟨a', cap', rfl, hl', hm', hi', hc'⟩ := h'
  unfold maxLen at hm hm'
  rcases hc with rfl | ⟨b, off, rfl, _, _, hc⟩
  · exact cmpInts_left _ _ _ _ _ _ _ rfl (by omega)
  rcases hc' with rfl | ⟨b', off', rfl, _, _, hc'⟩
  · cases xs with
    | nil => exact cmpInts_left _ _ _ _ _ _ _ rfl (by simp)
    | cons x xs => exact cmpInts_right _ _ _ _ _ _ _ _ rfl (by omega)
  exact cmpInts_full _ _ _ _ _ _ _ _ _ _ _ rfl rfl (by omega) hc hc'
end Go.Proofs.Ytoefmdjgnabgfaa

namespace Go.Proofs.Ytoefmdjgnabgfaa
open Go.RowKit Go.Deep
def OwnV (lo : Nat) (w : World) (v : Value) (xs : List Int) : Prop :=
  (v = .slice none 0 0 ∧ xs = []) ∨ ∃ g cap, v = .slice (some ⟨g, 0, none⟩) xs.length cap ∧ xs.length ≤ cap ∧ cap ≤ maxLen ∧ OwnInts lo w g xs
theorem OwnV.ints {lo : Nat} {w : World} {v : Value} {xs : List Int} (h : OwnV lo w v xs) : IsInts lo w v xs := by
  rcases h with ⟨rfl, rfl⟩ | ⟨g, cap, rfl, hl, hm, h1, h2, h3, cur, t, hg, hc⟩
  · exact ⟨none, 0, rfl, by simp, by simp [maxLen], by simp, .inl rfl⟩
  exact Ky hg h1 rfl hl hm h3 hc
theorem OwnV.below {lo : Nat} {w w' : World} {v : Value} {xs : List Int} (h : OwnV lo w v xs) (hb : Below w.heap.size w w') : OwnV lo w' v xs := by
  rcases h with h | ⟨g, cap, hv, hl, hm, h⟩
  · exact .inl h
  exact .inr ⟨g, cap, hv, hl, hm, h.below hb⟩
theorem OwnV.mono {lo lo' : Nat} {w : World} {v : Value} {xs : List Int} (h : OwnV lo w v xs) (hl' : lo' ≤ lo) : OwnV lo' w v xs := by
  rcases h with h | ⟨g, cap, hv, hl, hm, h⟩
  · exact .inl h
  exact .inr ⟨g, cap, hv, hl, hm, h.mono hl'⟩
theorem OwnV.shape {lo : Nat} {w : World} {v : Value} {xs : List Int} (h : OwnV lo w v xs) : ∃ a cap, v = .slice a xs.length cap := h.ints.shape
theorem own_of_row {lo : Nat} {w : World} {v : Value} {e : TypeId} {xs : List Int} (h : w.ownsRow lo e 1 v xs.length (xs.map (Value.int .i64))) (hi : ∀ x ∈ xs, I64 x) : OwnV lo w v xs := by
  obtain ⟨_, h⟩ := h
  rcases h with ⟨hv, hn⟩ | ⟨g, cap, cur, hv, hb, hg, hnc, hcm, hcs, htake⟩
  · exact .inl ⟨hv, List.eq_nil_of_length_eq_zero hn⟩
  refine .inr ⟨g, cap, hv, hnc, hcm, hb, Nat.le_trans hnc hcm, hi, cur, e, hg, fun i h => ?_⟩
  have h1 : (cur.toList.take (xs.length * 1))[i]? = some (.int .i64 (xs.getD i 0)) := by rw [htake]; simp [h]
  rw [List.getElem?_take, if_pos (by omega)] at h1
  simpa using h1
theorem info_int4 : ∃ i, Try.prog.info? 3 = some i ∧ i.zero = some (.int .i64 0) ∧ i.size = 1 ∧ i.bytes = 8 := by
  obtain ⟨i, hi, h⟩ := Option.map_eq_some_iff.1 (show (Try.prog.info? 3).map (fun i => (i.zero, i.size, i.bytes)) = some (some (.int .i64 0), 1, 8) by kernel_rfl)
  simp only [Prod.mk.injEq] at h
  exact ⟨i, hi, h.1, h.2.1, h.2.2⟩
theorem cmpI_self : ∀ xs, cmpI xs xs = 0
  | [] => rfl
  | x :: xs => by simp [cmpI, cmpI_self xs]
theorem cmpI_zero : ∀ {xs ys : List Int}, cmpI xs ys = 0 → xs = ys
  | [], [], _ => rfl
  | [], _ :: _, h => by simp [cmpI] at h
  | _ :: _, [], h => by simp [cmpI] at h
  | x :: xs, y :: ys, h => by
    unfold cmpI at h
    split at h
    · cases h
    split at h
    · cases h
    rw [show x = y by omega, cmpI_zero h]
def eqI (xs ys : List Int) : Bool := decide (xs = ys)
theorem eqI_cmp (xs ys : List Int) : (cmpI xs ys == 0) = eqI xs ys := by
  unfold eqI
  rw [Bool.eq_iff_iff, beq_iff_eq, decide_eq_true_iff]
  exact ⟨cmpI_zero, fun h => by rw [h]; exact cmpI_self _⟩
theorem SameInts_any {lo lo' : Nat} {w : World} {v v' : Value} {xs ys : List Int} (h : IsInts lo w v xs) (h' : IsInts lo' w v' ys) :
    Calls Try.prog 14 #[v, v'] w fun e w' => e = .returned (.bool (eqI xs ys)) ∧ Below w.heap.size w w' := by
  obtain ⟨a, cap, rfl⟩ := h.shape
  obtain ⟨a', cap', rfl⟩ := h'.shape
  have E := hid0 (eqI_cmp xs ys)
  go_enter Try.func14, Try.ntmps14
  go_wp2_with (go_at_call 33; refine (cmpInts_any h h').mono ?_; rintro e w1 ⟨rfl, hb1⟩)
  go_ret
  exact ⟨Zl E.out, hb1⟩
end Go.Proofs.Ytoefmdjgnabgfaa

namespace Go.Proofs.Ytoefmdjgnabgfaa
open Go.RowKit Go.Deep
def samK {α : Type} (xs ys : List α) (k : Nat) : Prop := xs.take k = ys.take k
theorem samK_succ {α : Type} {xs ys : List α} {k : Nat} (h : k < xs.length) (h' : k < ys.length) (hk : samK xs ys k) (e : xs[k] = ys[k]) : samK xs ys (k + 1) := by
  unfold samK at *; rw [List.take_succ_eq_append_getElem h, List.take_succ_eq_append_getElem h', hk, e]
section
variable {α : Type} [DecidableEq α]
theorem KI {xs ys : List α} {k : Nat} (h : k < xs.length) (h' : k < ys.length) (e : xs[k] ≠ ys[k]) : decide (xs = ys) = false := by
  rw [decide_eq_false_iff_not]; rintro rfl; exact e rfl
theorem eq_len {xs ys : List α} (h : xs.length ≠ ys.length) : decide (xs = ys) = false := by
  rw [decide_eq_false_iff_not]; rintro rfl; exact h rfl
theorem eq_end {xs ys : List α} {k : Nat} (h : k = xs.length) (h' : k = ys.length) (hk : samK xs ys k) : decide (xs = ys) = true := by
  unfold samK at hk; rw [List.take_of_length_le (by omega), List.take_of_length_le (by omega)] at hk
  rw [decide_eq_true_iff]; exact hk
end
set_option maxHeartbeats 1600000 in
theorem eqIntsQ_full (b off n cap b' off' n' cap' : Nat) (w : World) (xs ys : List Int) (hx : xs.length = n) (hy : ys.length = n') (hn : n ≤ 9223372036854775807)
    (hc : ∀ i, i < n → w.cell? ⟨b, off + i, none⟩ = some (.int .i64 (xs.getD i 0))) (hc' : ∀ i, i < n' → w.cell? ⟨b', off' + i, none⟩ = some (.int .i64 (ys.getD i 0))) :
    Calls Try.prog 118 #[.slice (some ⟨b, off, none⟩) n cap, .slice (some ⟨b', off', none⟩) n' cap'] w fun e w' => e = .returned (.bool (decide (xs = ys))) ∧ ∃ q, w' = w.drewN q := by
  have HC := Lib.hid hc
  have HC' := Lib.hid hc'
  have HX := Lib.hid hx
  have HY := Lib.hid hy
  clear hc hc' hx hy
  by_cases hnn : n = n'
  · subst hnn
    go_enter Try.func118, Try.ntmps118
    go_wp2_with fail
    go_loopw [13] (fun v wr => ∃ (k q : Nat), k ≤ n ∧ v = .int .i64 k ∧ samK xs ys k ∧ wr = w.drewN q) (fun v _ => n - (intOf v).toNat)
    case atStart => exact ⟨0, 0, Nat.zero_le _, rfl, rfl, rfl⟩
    case round =>
      obtain ⟨k, q, hk, rfl, hs, rfl⟩ := hrel
      have HS := Lib.hid hs
      clear hs
      by_cases h1 : k < n
      · have hkx : k < xs.length := by rw [HX.out]; exact h1
        have hky : k < ys.length := by rw [HY.out]; exact h1
        have g1 := HC.out k h1
        have g2 := HC'.out k h1
        rw [show xs.getD k 0 = xs[k] by simp [List.getD, List.getElem?_eq_getElem hkx]] at g1
        rw [show ys.getD k 0 = ys[k] by simp [List.getD, List.getElem?_eq_getElem hky]] at g2
        generalize hX : xs[k] = x at g1
        generalize hY : ys[k] = y at g2
        have HXk := Lib.hid hX
        have HYk := Lib.hid hY
        clear hX hY
        by_cases he : x = y
        · have HE := Lib.hid he
          have e1 : (x == y) = true := by simp [he]
          have e2 : (x != y) = false := by rw [bne, e1]; rfl
          clear he
          go_wp2_with fail
          go_quiet (fail)
          go_wp2_with fail
          go_roundw
          case rel => exact ⟨k + 1, q + nq, by omega, by go_num, samK_succ hkx hky HS.out (by rw [HXk.out, HYk.out]; exact HE.out), by first | rfl | rw [World.drewN_drewN]⟩
          case measure => simp [intOf]; omega
        have HE := Lib.hid he
        have e1 : (x == y) = false := by simp [he]
        have e2 : (x != y) = true := by rw [bne, e1]; rfl
        clear he
        go_wp2_with fail
        go_quiet (fail)
        go_wp2_with fail
        go_ret
        exact ⟨Zl (by rw [KI hkx hky (by rw [HXk.out, HYk.out]; exact HE.out)]), q + nq, by first | rfl | rw [World.drewN_drewN]⟩
      have HE := Lib.hid (eq_end (k := k) (by rw [HX.out]; omega) (by rw [HY.out]; omega) HS.out)
      go_wp2_with fail
      go_ret
      exact ⟨Zl (by rw [HE.out]), q, rfl⟩
  have h1 : (((n : Nat) : Int) == ((n' : Nat) : Int)) = false := by simp; omega
  have h2 : (((n : Nat) : Int) != ((n' : Nat) : Int)) = true := by rw [bne, h1]; rfl
  have E := Lib.hid (eq_len (xs := xs) (ys := ys) (by rw [HX.out, HY.out]; exact hnn))
  clear hnn
  go_enter Try.func118, Try.ntmps118
  go_wp2_with fail
  go_ret
  exact ⟨Zl (by rw [E.out]), 0, rfl⟩
set_option maxHeartbeats 800000 in
theorem eqIntsQ_left (a a' : Option Addr) (cap n' cap' : Nat) (w : World) (ys : List Int) (hy : ys.length = n') (hn : n' ≤ 9223372036854775807) :
    Calls Try.prog 118 #[.slice a 0 cap, .slice a' n' cap'] w fun e w' => e = .returned (.bool (decide ([] = ys))) ∧ ∃ q, w' = w.drewN q := by
  by_cases h0 : n' = 0
  · subst h0
    obtain rfl := List.eq_nil_of_length_eq_zero hy
    go_enter Try.func118, Try.ntmps118
    go_wp2_with fail
    refine wp_loop_rounds 1 ?_
    rw [rounds_succ]
    go_wp2_with fail
    go_ret
    exact ⟨rfl, 0, rfl⟩
  have h1' : ((0 : Int) == ((n' : Nat) : Int)) = false := by simp; omega
  have h2 : ((0 : Int) != ((n' : Nat) : Int)) = true := by rw [bne, h1']; rfl
  have E := Lib.hid (eq_len (xs := []) (ys := ys) (by simp; omega))
  clear h0
  go_enter Try.func118, Try.ntmps118
  go_wp2_with fail
  go_ret
  exact ⟨Zl (by rw [E.out]), 0, rfl⟩
set_option maxHeartbeats 800000 in
theorem eqIntsQ_right (a a' : Option Addr) (n cap cap' : Nat) (w : World) (x : Int) (xs : List Int) (hx : (x :: xs).length = n) (hn : n ≤ 9223372036854775807) :
    Calls Try.prog 118 #[.slice a n cap, .slice a' 0 cap'] w fun e w' => e = .returned (.bool (decide (x :: xs = []))) ∧ ∃ q, w' = w.drewN q := by
  have h0 : 0 < n := by simp at hx; omega
  have h1 : (((n : Nat) : Int) == (0 : Int)) = false := by simp; omega
  have h2 : (((n : Nat) : Int) != (0 : Int)) = true := by rw [bne, h1]; rfl
  have E := Lib.hid (eq_len (xs := x :: xs) (ys := []) (by simp))
  clear hx
  go_enter Try.func118, Try.ntmps118
  go_wp2_with fail
  go_ret
  exact ⟨Zl (by rw [E.out]), 0, rfl⟩
theorem eqIntsQ_any {lo lo' : Nat} {w : World} {v v' : Value} {xs ys : List Int} (h : IsInts lo w v xs) (h' : IsInts lo' w v' ys) :
    Calls Try.prog 118 #[v, v'] w fun e w' => e = .returned (.bool (decide (xs = ys))) ∧ ∃ q, w' = w.drewN q := by
  obtain ⟨a, cap, rfl, hl, hm, hi, hc⟩ := h
  obtain ⟨a', cap', rfl, hl', hm', hi', hc'⟩ := h'
  unfold maxLen at hm hm'
  rcases hc with rfl | ⟨b, off, rfl, _, _, hc⟩
  · exact eqIntsQ_left _ _ _ _ _ _ _ rfl (by omega)
  rcases hc' with rfl | ⟨b', off', rfl, _, _, hc'⟩
  · cases xs with
    | nil => exact eqIntsQ_left _ _ _ _ _ _ _ rfl (by simp)
    | cons x xs => exact eqIntsQ_right _ _ _ _ _ _ _ _ rfl (by omega)
  exact eqIntsQ_full _ _ _ _ _ _ _ _ _ _ _ rfl rfl (by omega) hc hc'
set_option maxHeartbeats 1600000 in
theorem eqThsQ_full (b off n cap b' off' n' cap' : Nat) (w : World) (xs ys : List Th) (hx : xs.length = n) (hy : ys.length = n') (hn : n ≤ 9223372036854775807)
    (hc : ∀ i (hi : i < xs.length), ∃ cs : List Value, cs.length = 6 ∧ (∀ j, j < 6 → w.cell? ⟨b, off + i * 6 + j, none⟩ = cs[j]?) ∧ ThEl 0 w cs xs[i]) (hc' : ∀ i (hi : i < ys.length), ∃ cs : List Value, cs.length = 6 ∧ (∀ j, j < 6 → w.cell? ⟨b', off' + i * 6 + j, none⟩ = cs[j]?) ∧ ThEl 0 w cs ys[i]) :
    Calls Try.prog 119 #[.slice (some ⟨b, off, none⟩) n cap, .slice (some ⟨b', off', none⟩) n' cap'] w fun e w' => e = .returned (.bool (decide (xs = ys))) ∧ ∃ q, w' = w.drewN q := by
  have HC := Lib.hid hc
  have HC' := Lib.hid hc'
  have HX := Lib.hid hx
  have HY := Lib.hid hy
  clear hc hc' hx hy
  by_cases hnn : n = n'
  · subst hnn
    go_enter Try.func119, Try.ntmps119
    go_wp2_with fail
    go_loopw [13] (fun v wr => ∃ (k q : Nat), k ≤ n ∧ v = .int .i64 k ∧ samK xs ys k ∧ wr = w.drewN q) (fun v _ => n - (intOf v).toNat)
    case atStart => exact ⟨0, 0, Nat.zero_le _, rfl, rfl, rfl⟩
    case round =>
      obtain ⟨k, q, hk, rfl, hs, rfl⟩ := hrel
      have HS := Lib.hid hs
      clear hs
      by_cases h1 : k < n
      · have hkx : k < xs.length := by rw [HX.out]; exact h1
        have hky : k < ys.length := by rw [HY.out]; exact h1
        obtain ⟨cs, _, r1, p1, _⟩ := HC.out k hkx
        obtain ⟨cs', _, r2, p2, _⟩ := HC'.out k hky
        generalize hX : xs[k] = x at p1
        generalize hY : ys[k] = y at p2
        have HXk := Lib.hid hX
        have HYk := Lib.hid hY
        obtain ⟨x1, x2, ⟨x3, x4, x5, x6⟩⟩ := x
        obtain ⟨y1, y2, ⟨y3, y4, y5, y6⟩⟩ := y
        subst p1 p2
        clear hX hY
        have g0 : w.cell? ⟨b, off + k * 6, none⟩ = some (.int .i64 x1) := r1 0 (by omega)
        have j0 : w.cell? ⟨b', off' + k * 6, none⟩ = some (.int .i64 y1) := r2 0 (by omega)
        have g1 : w.cell? ⟨b, off + k * 6 + 1, none⟩ = some (.int .i64 x2) := r1 1 (by omega)
        have j1 : w.cell? ⟨b', off' + k * 6 + 1, none⟩ = some (.int .i64 y2) := r2 1 (by omega)
        have g2 : w.cell? ⟨b, off + k * 6 + 2, none⟩ = some (.int .i64 x3) := r1 2 (by omega)
        have j2 : w.cell? ⟨b', off' + k * 6 + 2, none⟩ = some (.int .i64 y3) := r2 2 (by omega)
        have g3 : w.cell? ⟨b, off + k * 6 + 3, none⟩ = some (.int .i64 x4) := r1 3 (by omega)
        have j3 : w.cell? ⟨b', off' + k * 6 + 3, none⟩ = some (.int .i64 y4) := r2 3 (by omega)
        have g4 : w.cell? ⟨b, off + k * 6 + 4, none⟩ = some (.int .i64 x5) := r1 4 (by omega)
        have j4 : w.cell? ⟨b', off' + k * 6 + 4, none⟩ = some (.int .i64 y5) := r2 4 (by omega)
        have g5 : w.cell? ⟨b, off + k * 6 + 5, none⟩ = some (.int .i64 x6) := r1 5 (by omega)
        have j5 : w.cell? ⟨b', off' + k * 6 + 5, none⟩ = some (.int .i64 y6) := r2 5 (by omega)
        clear r1 r2
        by_cases e0 : x1 = y1
        · subst e0
          by_cases e1 : x2 = y2
          · subst e1
            by_cases e2 : x3 = y3
            · subst e2
              by_cases e3 : x4 = y4
              · subst e3
                by_cases e4 : x5 = y5
                · subst e4
                  by_cases e5 : x6 = y6
                  · subst e5
                    go_wp2_with fail
                    go_quiet (fail)
                    go_wp2_with fail
                    go_roundw
                    case rel => exact ⟨k + 1, q + nq, by omega, by go_num, samK_succ hkx hky HS.out (by rw [HXk.out, HYk.out]), by first | rfl | rw [World.drewN_drewN]⟩
                    case measure => simp [intOf]; omega
                  have e5' : (x6 == y6) = false := by simp [e5]
                  have HE := Lib.hid (show (⟨x1, x2, ⟨x3, x4, x5, x6⟩⟩ : Th) ≠ ⟨x1, x2, ⟨x3, x4, x5, y6⟩⟩ by intro h; simp only [Th.mk.injEq, Ln.mk.injEq] at h; simp_all)
                  clear e5
                  go_wp2_with fail
                  go_quiet (fail)
                  go_wp2_with fail
                  go_ret
                  exact ⟨Zl (by rw [KI hkx hky (by rw [HXk.out, HYk.out]; exact HE.out)]), q + nq, by first | rfl | rw [World.drewN_drewN]⟩
                have e4' : (x5 == y5) = false := by simp [e4]
                have HE := Lib.hid (show (⟨x1, x2, ⟨x3, x4, x5, x6⟩⟩ : Th) ≠ ⟨x1, x2, ⟨x3, x4, y5, y6⟩⟩ by intro h; simp only [Th.mk.injEq, Ln.mk.injEq] at h; simp_all)
                clear e4
                go_wp2_with fail
                go_quiet (fail)
                go_wp2_with fail
                go_ret
                exact ⟨Zl (by rw [KI hkx hky (by rw [HXk.out, HYk.out]; exact HE.out)]), q + nq, by first | rfl | rw [World.drewN_drewN]⟩
              have e3' : (x4 == y4) = false := by simp [e3]
              have HE := Lib.hid (show (⟨x1, x2, ⟨x3, x4, x5, x6⟩⟩ : Th) ≠ ⟨x1, x2, ⟨x3, y4, y5, y6⟩⟩ by intro h; simp only [Th.mk.injEq, Ln.mk.injEq] at h; simp_all)
              clear e3
              go_wp2_with fail
              go_quiet (fail)
              go_wp2_with fail
              go_ret
              exact ⟨Zl (by rw [KI hkx hky (by rw [HXk.out, HYk.out]; exact HE.out)]), q + nq, by first | rfl | rw [World.drewN_drewN]⟩
            have e2' : (x3 == y3) = false := by simp [e2]
            have HE := Lib.hid (show (⟨x1, x2, ⟨x3, x4, x5, x6⟩⟩ : Th) ≠ ⟨x1, x2, ⟨y3, y4, y5, y6⟩⟩ by intro h; simp only [Th.mk.injEq, Ln.mk.injEq] at h; simp_all)
            clear e2
            go_wp2_with fail
            go_quiet (fail)
            go_wp2_with fail
            go_ret
            exact ⟨Zl (by rw [KI hkx hky (by rw [HXk.out, HYk.out]; exact HE.out)]), q + nq, by first | rfl | rw [World.drewN_drewN]⟩
          have e1' : (x2 == y2) = false := by simp [e1]
          have HE := Lib.hid (show (⟨x1, x2, ⟨x3, x4, x5, x6⟩⟩ : Th) ≠ ⟨x1, y2, ⟨y3, y4, y5, y6⟩⟩ by intro h; simp only [Th.mk.injEq, Ln.mk.injEq] at h; simp_all)
          clear e1
          go_wp2_with fail
          go_quiet (fail)
          go_wp2_with fail
          go_ret
          exact ⟨Zl (by rw [KI hkx hky (by rw [HXk.out, HYk.out]; exact HE.out)]), q + nq, by first | rfl | rw [World.drewN_drewN]⟩
        have e0' : (x1 == y1) = false := by simp [e0]
        have HE := Lib.hid (show (⟨x1, x2, ⟨x3, x4, x5, x6⟩⟩ : Th) ≠ ⟨y1, y2, ⟨y3, y4, y5, y6⟩⟩ by intro h; simp only [Th.mk.injEq, Ln.mk.injEq] at h; simp_all)
        clear e0
        go_wp2_with fail
        go_quiet (fail)
        go_wp2_with fail
        go_ret
        exact ⟨Zl (by rw [KI hkx hky (by rw [HXk.out, HYk.out]; exact HE.out)]), q + nq, by first | rfl | rw [World.drewN_drewN]⟩
      have HE := Lib.hid (eq_end (k := k) (by rw [HX.out]; omega) (by rw [HY.out]; omega) HS.out)
      go_wp2_with fail
      go_ret
      exact ⟨Zl (by rw [HE.out]), q, rfl⟩
  have h1 : (((n : Nat) : Int) == ((n' : Nat) : Int)) = false := by simp; omega
  have h2 : (((n : Nat) : Int) != ((n' : Nat) : Int)) = true := by rw [bne, h1]; rfl
  have E := Lib.hid (eq_len (xs := xs) (ys := ys) (by rw [HX.out, HY.out]; exact hnn))
  clear hnn
  go_enter Try.func119, Try.ntmps119
  go_wp2_with fail
  go_ret
  exact ⟨Zl (by rw [E.out]), 0, rfl⟩
set_option maxHeartbeats 800000 in
theorem eqThsQ_left (a a' : Option Addr) (cap n' cap' : Nat) (w : World) (ys : List Th) (hy : ys.length = n') (hn : n' ≤ 9223372036854775807) :
    Calls Try.prog 119 #[.slice a 0 cap, .slice a' n' cap'] w fun e w' => e = .returned (.bool (decide ([] = ys))) ∧ ∃ q, w' = w.drewN q := by
  by_cases h0 : n' = 0
  · subst h0
    obtain rfl := List.eq_nil_of_length_eq_zero hy
    go_enter Try.func119, Try.ntmps119
    go_wp2_with fail
    refine wp_loop_rounds 1 ?_
    rw [rounds_succ]
    go_wp2_with fail
    go_ret
    exact ⟨rfl, 0, rfl⟩
  have h1' : ((0 : Int) == ((n' : Nat) : Int)) = false := by simp; omega
  have h2 : ((0 : Int) != ((n' : Nat) : Int)) = true := by rw [bne, h1']; rfl
  have E := Lib.hid (eq_len (xs := []) (ys := ys) (by simp; omega))
  clear h0
  go_enter Try.func119, Try.ntmps119
  go_wp2_with fail
  go_ret
  exact ⟨Zl (by rw [E.out]), 0, rfl⟩
set_option maxHeartbeats 800000 in
theorem eqThsQ_right (a a' : Option Addr) (n cap cap' : Nat) (w : World) (x : Th) (xs : List Th) (hx : (x :: xs).length = n) (hn : n ≤ 9223372036854775807) :
    Calls Try.prog 119 #[.slice a n cap, .slice a' 0 cap'] w fun e w' => e = .returned (.bool (decide (x :: xs = []))) ∧ ∃ q, w' = w.drewN q := by
  have h0 : 0 < n := by simp at hx; omega
  have h1 : (((n : Nat) : Int) == (0 : Int)) = false := by simp; omega
  have h2 : (((n : Nat) : Int) != (0 : Int)) = true := by rw [bne, h1]; rfl
  have E := Lib.hid (eq_len (xs := x :: xs) (ys := []) (by simp))
  clear hx
  go_enter Try.func119, Try.ntmps119
  go_wp2_with fail
  go_ret
  exact ⟨Zl (by rw [E.out]), 0, rfl⟩
theorem eqThsQ_any {lo lo' : Nat} {w : World} {v v' : Value} {xs ys : List Th} (h : IsSl 6 ThEl lo w v xs) (h' : IsSl 6 ThEl lo' w v' ys) :
    Calls Try.prog 119 #[v, v'] w fun e w' => e = .returned (.bool (decide (xs = ys))) ∧ ∃ q, w' = w.drewN q := by
  obtain ⟨a, cap, rfl, hl, hm, _, hc⟩ := h.mono ThEl.mono (Nat.zero_le lo)
  obtain ⟨a', cap', rfl, hl', hm', _, hc'⟩ := h'.mono ThEl.mono (Nat.zero_le lo')
  unfold maxLen at hm hm'
  rcases hc with rfl | ⟨b, off, rfl, _, _, hc⟩
  · exact eqThsQ_left _ _ _ _ _ _ _ rfl (by omega)
  rcases hc' with rfl | ⟨b', off', rfl, _, _, hc'⟩
  · cases xs with
    | nil => exact eqThsQ_left _ _ _ _ _ _ _ rfl (by simp)
    | cons x xs => exact eqThsQ_right _ _ _ _ _ _ _ _ rfl (by omega)
  exact eqThsQ_full _ _ _ _ _ _ _ _ _ _ _ rfl rfl (by omega) hc hc'
end Go.Proofs.Ytoefmdjgnabgfaa

namespace Go.Proofs.Ytoefmdjgnabgfaa
open Go
section
variable {P : Program} {ops : Array Oper} {C : World → Prop}
theorem Kl {Q : Exit → Act → World → Prop} : ∀ (l : List Oper) (a : Act) (w : World), C w → wpQuiet P ops C (fun a' => ∀ w', C w' → Q .normal a' w') l a → wpList P ops Q l a w
  | [], _, w, hC, h => h w hC
  | o :: l, a, w, hC, h => by
    refine wpList_step fun K hK => ?_
    unfold wpQuiet at h
    split
    · rename_i hw
      rw [if_pos hw] at h
      exact Oper.wp_of_quiet hC (fun a' w' hC' hh => hK _ _ (Kl l a' w' hC' hh)) h
    rename_i hw
    rw [if_neg hw] at h
    exact hK _ _ (Kl l _ w hC h)
theorem wp_seq_quiet {id : Nat} {Q : Exit → Act → World → Prop} {a : Act} {w : World} {l : List Oper}
    (h : wpQuiet P l.toArray (fun w' => ∃ n, w' = w.drewN n) (fun a' => ∀ w', (∃ n, w' = w.drewN n) → Q .normal a' w') l a) : (Code.region id l.toArray false).wp P Q a w :=
  wp_region_lit (Kl l a w ⟨0, rfl⟩ h)
theorem Zh {id k : Nat} {Q : Exit → Act → World → Prop} {a : Act} {w : World} {l : List Oper}
    (h : wpQuiet P l.toArray (fun w' => ∃ n, w' = w.drewN n) (fun a' => ∀ w', (∃ n, w' = w.drewN n) → Q .normal a' w') l a) : (Code.region id l.toArray false).wp P Q a (w.drewN k) :=
  wp_region_lit (Kl l a (w.drewN k) ⟨k, rfl⟩ h)
end
end Go.Proofs.Ytoefmdjgnabgfaa
