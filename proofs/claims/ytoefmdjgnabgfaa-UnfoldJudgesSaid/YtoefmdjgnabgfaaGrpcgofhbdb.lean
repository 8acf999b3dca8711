import Derived.Test.YtoefmdjgnabgfaaGrpnfmidmgj
set_option linter.all false
namespace Go.Proofs.Ytoefmdjgnabgfaa
open Go.RowKit Go.Deep
set_option maxHeartbeats 800000 in
theorem positionError_any (pos top : Int) (w : World) : Calls Try.prog 101 #[.int .i64 pos, .int .i64 top] w fun e w' => e = .returned (.int .i64 (posE pos top)) ∧ w = w' := by
  have E : Hid (posE pos top = if inB 0 2 pos = false ∨ (pos ≠ 0 ∧ top = 3) then 1 else 0) := (rfl : posE pos top = _)
  cases h1 : inB 0 2 pos with
  | false =>
    have H1 := Lib.hid h1
    clear h1
    go_enter Try.func101, Try.ntmps101
    go_wp2_with (go_at_call 42; refine (Yq _ _ _ _).mono ?_; rintro e w' ⟨rfl, rfl⟩; rw [H1.out])
    go_ret
    exact ⟨ZM (by have := H1.out; rw [E.out]; simp [this]), rfl⟩
  | true =>
    have H1 := Lib.hid h1
    clear h1
    by_cases h2 : pos = 0
    · subst h2
      go_enter Try.func101, Try.ntmps101
      go_wp2_with (go_at_call 42; refine (Yq _ _ _ _).mono ?_; rintro e w' ⟨rfl, rfl⟩; rw [H1.out])
      go_ret
      exact ⟨ZM (by have := H1.out; rw [E.out]; simp [this]), rfl⟩
    have b2 : (pos != 0) = true := by simpa using h2
    have H2 := Lib.hid h2
    clear h2
    by_cases h3 : top = 3
    · subst h3
      go_enter Try.func101, Try.ntmps101
      go_wp2_with (go_at_call 42; refine (Yq _ _ _ _).mono ?_; rintro e w' ⟨rfl, rfl⟩; rw [H1.out])
      go_ret
      exact ⟨ZM (by have := H2.out; rw [E.out]; simp [this]), rfl⟩
    have b3 : (top == 3) = false := by simpa using h3
    have H3 := Lib.hid h3
    clear h3
    go_enter Try.func101, Try.ntmps101
    go_wp2_with (go_at_call 42; refine (Yq _ _ _ _).mono ?_; rintro e w' ⟨rfl, rfl⟩; rw [H1.out])
    go_ret
    exact ⟨ZM (by have h1 := H1.out; have h3 := H3.out; rw [E.out]; simp [h1, h3]), rfl⟩
set_option maxHeartbeats 800000 in
theorem directionError_any (dir top : Int) (w : World) : Calls Try.prog 102 #[.int .i64 dir, .int .i64 top] w fun e w' => e = .returned (.int .i64 (dirE dir top)) ∧ w = w' := by
  have E : Hid (dirE dir top = if top = 4 then (if dir = 3 ∨ dir = 4 then 0 else 1) else (if dir = 1 ∨ dir = 2 then 0 else 1)) := (rfl : dirE dir top = _)
  by_cases ht : top = 4
  · subst ht
    by_cases h1 : dir = 3
    · subst h1
      go_enter Try.func102, Try.ntmps102
      go_wp2_with fail
      go_ret
      exact ⟨ZM (by rw [E.out]; simp), rfl⟩
    have b1 : (dir != 3) = true := by simpa using h1
    have b1' : (dir == 3) = false := by simpa using h1
    by_cases h2 : dir = 4
    · subst h2
      go_enter Try.func102, Try.ntmps102
      go_wp2_with fail
      go_ret
      exact ⟨ZM (by rw [E.out]; simp), rfl⟩
    have b2 : (dir != 4) = true := by simpa using h2
    have H := Lib.hid (And.intro h1 h2)
    clear h1 h2
    go_enter Try.func102, Try.ntmps102
    go_wp2_with fail
    go_ret
    exact ⟨ZM (by have := H.out; rw [E.out]; simp [this]), rfl⟩
  have bt : (top == 4) = false := by simpa using ht
  have HT := Lib.hid ht
  clear ht
  by_cases h1 : dir = 1
  · subst h1
    go_enter Try.func102, Try.ntmps102
    go_wp2_with fail
    go_ret
    exact ⟨ZM (by have := HT.out; rw [E.out]; simp [this]), rfl⟩
  have b1 : (dir != 1) = true := by simpa using h1
  have b1' : (dir == 1) = false := by simpa using h1
  by_cases h2 : dir = 2
  · subst h2
    go_enter Try.func102, Try.ntmps102
    go_wp2_with fail
    go_ret
    exact ⟨ZM (by have := HT.out; rw [E.out]; simp [this]), rfl⟩
  have b2 : (dir != 2) = true := by simpa using h2
  have H := Lib.hid (And.intro h1 h2)
  clear h1 h2
  go_enter Try.func102, Try.ntmps102
  go_wp2_with fail
  go_ret
  exact ⟨ZM (by have := H.out; have t := HT.out; rw [E.out]; simp [this, t]), rfl⟩
set_option maxHeartbeats 800000 in
theorem KU {lo : Nat} {w : World} {v : Value} {xs : List Int} (n : Nat) (hn : n ≤ 9223372036854775807) (h : IsInts lo w v xs) :
    Calls Try.prog 98 #[v, .int .i64 n] w fun e w' => e = .returned (.int .i64 (reE n xs)) ∧ w = w' := by
  obtain ⟨a, cap, rfl, hl, hm, hi, hc⟩ := h
  unfold maxLen at hm
  by_cases hne : xs.length = n
  · rcases hc with rfl | ⟨b, off, rfl, _, _, hc⟩
    · obtain rfl : n = 0 := by simpa using hne.symm
      go_enter Try.func98, Try.ntmps98
      go_wp2_with fail
      refine wp_loop_rounds 1 ?_
      rw [rounds_succ]
      go_wp2_with fail
      go_ret
      exact ⟨rfl, rfl⟩
    have HC := Lib.hid hc
    have HE : Hid (reE n xs = if allK n xs xs.length = false then 5 else 0) := by show _ = _; unfold reE; rw [if_neg (by simpa using hne)]
    have b1 : ((xs.length : Int) == (n : Int)) = true := by rw [hne]; simp
    have b2 : ((xs.length : Int) != (n : Int)) = false := by rw [hne]; simp
    clear hc hi hne
    go_enter Try.func98, Try.ntmps98
    go_wp2_with fail
    go_loop [13] (fun u => ∃ k : Nat, k ≤ xs.length ∧ u = .int .i64 k ∧ allK n xs k = true) (fun u => xs.length - (intOf u).toNat)
    case atStart => exact ⟨0, Nat.zero_le _, rfl, rfl⟩
    case round =>
      obtain ⟨k, hk, rfl, hs⟩ := hrel
      have HS := Lib.hid hs
      clear hs
      by_cases hlt : k < xs.length
      · have g1 := HC.out k hlt
        have ex : xs.getD k 0 = xs[k] := by simp [List.getD, List.getElem?_eq_getElem hlt]
        have HX := Lib.hid ex
        generalize hX : xs.getD k 0 = x at g1 HX
        clear ex hX
        cases hp : ixB n x with
        | true =>
          have HP := Lib.hid hp
          clear hp
          go_wp2_with (go_at_call 74; refine (ZS x n hn _).mono ?_; rintro e w1 ⟨rfl, rfl⟩; rw [HP.out])
          go_round
          case rel => exact ⟨k + 1, by omega, by go_num, allK_succ hlt HS.out (by rw [← HX.out]; exact HP.out)⟩
          case measure => simp [intOf]; omega
        | false =>
          have HP := Lib.hid hp
          clear hp
          go_wp2_with (go_at_call 74; refine (ZS x n hn _).mono ?_; rintro e w1 ⟨rfl, rfl⟩; rw [HP.out])
          go_ret
          exact ⟨ZM (by rw [HE.out, if_pos (allK_no hlt (by rw [← HX.out]; exact HP.out))]), rfl⟩
      have hke : k = xs.length := by omega
      have HF := Lib.hid (show reE n xs = 0 by rw [HE.out, if_neg (by rw [← hke, HS.out]; simp)])
      clear hke
      go_wp2_with fail
      go_ret
      exact ⟨ZM (by rw [HF.out]), rfl⟩
  have HE := Lib.hid (show reE n xs = 1 by unfold reE; rw [if_pos hne])
  have b1 : ((xs.length : Int) == (n : Int)) = false := by rw [beq_eq_false_iff_ne]; omega
  have b2 : ((xs.length : Int) != (n : Int)) = true := by rw [bne, b1]; rfl
  clear hne hc hi
  go_enter Try.func98, Try.ntmps98
  go_wp2_with fail
  go_ret
  exact ⟨ZM (by rw [HE.out]), rfl⟩
end Go.Proofs.Ytoefmdjgnabgfaa

namespace Go.Proofs.Ytoefmdjgnabgfaa
open Go.RowKit Go.Deep
set_option maxHeartbeats 1600000 in
theorem KG {lo : Nat} {w : World} {cs : List Value} {r : Ru} (n : Nat) (hn : n ≤ 9223372036854775807) (h : RuEl lo w cs r) :
    Calls Try.prog 99 #[.agg cs.toArray, .int .i64 n] w fun e w' => e = .returned (.int .i64 (shE n r.rd r.wr)) ∧ Below w.heap.size w w' := by
  obtain ⟨v6, v7, v8, v9, v12, v14, v15, v16, rfl, _, _, _, _, _, _, _, _, _, _, _, _, _, _, _, _, _, _⟩ := h
  obtain ⟨nm, kind, frm, tt, pf, pt, resp, guards, ex, fa, rd, wr, send, pos, left, right, parent, dir⟩ := r
  dsimp only
  have E : Hid (shE n rd wr = if (rd ≠ -1 ∧ ixB n rd = false) ∨ (wr ≠ -1 ∧ ixB n wr = false) then 5 else 0) := (rfl : shE n rd wr = _)
  by_cases r0 : rd = -1
  · subst r0
    have R := Lib.hid (show ¬ ((-1 : Int) ≠ -1 ∧ ixB n (-1) = false) by simp)
    by_cases w0 : wr = -1
    · subst w0
      go_enter Try.func99, Try.ntmps99
      go_wp2_with fail
      go_ret
      exact ⟨ZM (by rw [E.out]; have t := R.out; simp), Zg _ _⟩
    have c0 : (wr != -1) = true := by simpa using w0
    have W0 := Lib.hid w0
    clear w0
    cases w1 : ixB n wr with
    | true =>
      have W1 := Lib.hid w1
      clear w1
      go_enter Try.func99, Try.ntmps99
      go_wp2_with (first | (go_at_call 74; (with_reducible refine (ZS wr n hn _).mono ?_); rintro e w1 ⟨rfl, rfl⟩; rw [W1.out]))
      go_ret
      exact ⟨ZM (by rw [E.out]; have t := R.out; have t1 := W1.out; simp [t1]), Zg _ _⟩
    | false =>
      have W1 := Lib.hid w1
      clear w1
      go_enter Try.func99, Try.ntmps99
      go_wp2_with (first | (go_at_call 74; (with_reducible refine (ZS wr n hn _).mono ?_); rintro e w1 ⟨rfl, rfl⟩; rw [W1.out]))
      go_ret
      exact ⟨ZM (by rw [E.out]; have t := R.out; have t1 := W1.out; have t2 := W0.out; simp [t1, t2]), Zg _ _⟩
  have b0 : (rd != -1) = true := by simpa using r0
  have R0 := Lib.hid r0
  clear r0
  cases r1 : ixB n rd with
  | true =>
    have R1 := Lib.hid r1
    have R := Lib.hid (show ¬ (rd ≠ -1 ∧ ixB n rd = false) by rw [r1]; simp)
    clear r1
    by_cases w0 : wr = -1
    · subst w0
      go_enter Try.func99, Try.ntmps99
      go_wp2_with (go_at_call 74; (with_reducible refine (ZS rd n hn _).mono ?_); rintro e w1 ⟨rfl, rfl⟩; rw [R1.out])
      go_ret
      exact ⟨ZM (by rw [E.out]; have t := R.out; simp [t]), Zg _ _⟩
    have c0 : (wr != -1) = true := by simpa using w0
    have W0 := Lib.hid w0
    clear w0
    cases w1 : ixB n wr with
    | true =>
      have W1 := Lib.hid w1
      clear w1
      go_enter Try.func99, Try.ntmps99
      go_wp2_with (first | (go_at_call 74; (with_reducible refine (ZS rd n hn _).mono ?_); rintro e w1 ⟨rfl, rfl⟩; rw [R1.out]) | (go_at_call 74; (with_reducible refine (ZS wr n hn _).mono ?_); rintro e w1 ⟨rfl, rfl⟩; rw [W1.out]))
      go_ret
      exact ⟨ZM (by rw [E.out]; have t := R.out; have t1 := W1.out; simp [t, t1]), Zg _ _⟩
    | false =>
      have W1 := Lib.hid w1
      clear w1
      go_enter Try.func99, Try.ntmps99
      go_wp2_with (first | (go_at_call 74; (with_reducible refine (ZS rd n hn _).mono ?_); rintro e w1 ⟨rfl, rfl⟩; rw [R1.out]) | (go_at_call 74; (with_reducible refine (ZS wr n hn _).mono ?_); rintro e w1 ⟨rfl, rfl⟩; rw [W1.out]))
      go_ret
      exact ⟨ZM (by rw [E.out]; have t := R.out; have t1 := W1.out; have t2 := W0.out; simp [t1, t2]), Zg _ _⟩
  | false =>
    have R1 := Lib.hid r1
    clear r1
    go_enter Try.func99, Try.ntmps99
    go_wp2_with (go_at_call 74; (with_reducible refine (ZS rd n hn _).mono ?_); rintro e w1 ⟨rfl, rfl⟩; rw [R1.out])
    go_ret
    exact ⟨ZM (by rw [E.out]; have t := R0.out; have t1 := R1.out; simp [t, t1]), Zg _ _⟩
set_option maxHeartbeats 1600000 in
theorem statesExist_any {lo : Nat} {w : World} {cs : List Value} {r : Ru} (n : Nat) (hn : n ≤ 9223372036854775807) (h : RuEl lo w cs r) :
    Calls Try.prog 78 #[.agg cs.toArray, .int .i64 n] w fun e w' => e = .returned (.bool (stB r n)) ∧ Below w.heap.size w w' := by
  obtain ⟨v6, v7, v8, v9, v12, v14, v15, v16, rfl, _, _, _, _, _, _, _, _, _, _, _, _, _, _, _, _, _, _⟩ := h
  obtain ⟨nm, kind, frm, tt, pf, pt, resp, guards, ex, fa, rd, wr, send, pos, left, right, parent, dir⟩ := r
  dsimp only
  have E : Hid (stB ⟨nm, kind, frm, tt, pf, pt, resp, guards, ex, fa, rd, wr, send, pos, left, right, parent, dir⟩ n = (ixB n frm && ixB n tt && ixB n pf && ixB n pt)) := (rfl : stB _ n = _)
  cases h0 : ixB n frm with
  | false =>
    have H0 := Lib.hid h0
    clear h0
    go_enter Try.func78, Try.ntmps78
    go_wp2_with (first | (go_at_call 74; (with_reducible refine (ZS frm n hn _).mono ?_); rintro e w1 ⟨rfl, rfl⟩; rw [H0.out]))
    go_ret
    exact ⟨Zl (by have t0 := H0.out; rw [E.out]; simp [t0]), Zg _ _⟩
  | true =>
    have H0 := Lib.hid h0
    clear h0
    cases h1 : ixB n tt with
    | false =>
      have H1 := Lib.hid h1
      clear h1
      go_enter Try.func78, Try.ntmps78
      go_wp2_with (first | (go_at_call 74; (with_reducible refine (ZS frm n hn _).mono ?_); rintro e w1 ⟨rfl, rfl⟩; rw [H0.out]) | (go_at_call 74; (with_reducible refine (ZS tt n hn _).mono ?_); rintro e w1 ⟨rfl, rfl⟩; rw [H1.out]))
      go_ret
      exact ⟨Zl (by have t0 := H0.out; have t1 := H1.out; rw [E.out]; simp [t0, t1]), Zg _ _⟩
    | true =>
      have H1 := Lib.hid h1
      clear h1
      cases h2 : ixB n pf with
      | false =>
        have H2 := Lib.hid h2
        clear h2
        go_enter Try.func78, Try.ntmps78
        go_wp2_with (first | (go_at_call 74; (with_reducible refine (ZS frm n hn _).mono ?_); rintro e w1 ⟨rfl, rfl⟩; rw [H0.out]) | (go_at_call 74; (with_reducible refine (ZS tt n hn _).mono ?_); rintro e w1 ⟨rfl, rfl⟩; rw [H1.out]) | (go_at_call 74; (with_reducible refine (ZS pf n hn _).mono ?_); rintro e w1 ⟨rfl, rfl⟩; rw [H2.out]))
        go_ret
        exact ⟨Zl (by have t0 := H0.out; have t1 := H1.out; have t2 := H2.out; rw [E.out]; simp [t0, t1, t2]), Zg _ _⟩
      | true =>
        have H2 := Lib.hid h2
        clear h2
        cases h3 : ixB n pt with
        | false =>
          have H3 := Lib.hid h3
          clear h3
          go_enter Try.func78, Try.ntmps78
          go_wp2_with (first | (go_at_call 74; (with_reducible refine (ZS frm n hn _).mono ?_); rintro e w1 ⟨rfl, rfl⟩; rw [H0.out]) | (go_at_call 74; (with_reducible refine (ZS tt n hn _).mono ?_); rintro e w1 ⟨rfl, rfl⟩; rw [H1.out]) | (go_at_call 74; (with_reducible refine (ZS pf n hn _).mono ?_); rintro e w1 ⟨rfl, rfl⟩; rw [H2.out]) | (go_at_call 74; (with_reducible refine (ZS pt n hn _).mono ?_); rintro e w1 ⟨rfl, rfl⟩; rw [H3.out]))
          go_ret
          exact ⟨Zl (by have t0 := H0.out; have t1 := H1.out; have t2 := H2.out; have t3 := H3.out; rw [E.out]; simp [t0, t1, t2, t3]), Zg _ _⟩
        | true =>
          have H3 := Lib.hid h3
          clear h3
          go_enter Try.func78, Try.ntmps78
          go_wp2_with (first | (go_at_call 74; (with_reducible refine (ZS frm n hn _).mono ?_); rintro e w1 ⟨rfl, rfl⟩; rw [H0.out]) | (go_at_call 74; (with_reducible refine (ZS tt n hn _).mono ?_); rintro e w1 ⟨rfl, rfl⟩; rw [H1.out]) | (go_at_call 74; (with_reducible refine (ZS pf n hn _).mono ?_); rintro e w1 ⟨rfl, rfl⟩; rw [H2.out]) | (go_at_call 74; (with_reducible refine (ZS pt n hn _).mono ?_); rintro e w1 ⟨rfl, rfl⟩; rw [H3.out]))
          go_ret
          exact ⟨Zl (by have t0 := H0.out; have t1 := H1.out; have t2 := H2.out; have t3 := H3.out; rw [E.out]; simp [t0, t1, t2, t3]), Zg _ _⟩
theorem gusE_drop {m : Nat} {gs : List Th} {k : Nat} (h : k < gs.length) (h0 : guE m gs[k] = 0) : gusE m (gs.drop k) = gusE m (gs.drop (k + 1)) := by
  rw [List.drop_eq_getElem_cons h, gusE, if_pos h0]
theorem gusE_bad {m : Nat} {gs : List Th} {k : Nat} (h : k < gs.length) (h0 : guE m gs[k] ≠ 0) : gusE m (gs.drop k) = guE m gs[k] := by
  rw [List.drop_eq_getElem_cons h, gusE, if_neg h0]
set_option maxHeartbeats 3200000 in
theorem guardsError_any {lo : Nat} {w : World} {v : Value} {gs : List Th} (n : Nat) (hn : n ≤ 9223372036854775807) (h : IsSl 6 ThEl lo w v gs) :
    Calls Try.prog 100 #[v, .int .i64 n] w fun e w' => e = .returned (.int .i64 (guardE n gs)) ∧ Below w.heap.size w w' := by
  have H := Lib.hid h
  have hbd := h.bound
  obtain ⟨a, cap, rfl⟩ := h.shape
  clear h
  have E : Hid (guardE n gs = if gusE n gs = 0 then (if 2 < gs.length then 4 else 0) else gusE n gs) := (rfl : guardE n gs = _)
  go_enter Try.func100, Try.ntmps100
  go_wp2_with fail
  go_loopw [9] (fun u wr => ∃ k : Nat, k ≤ gs.length ∧ u = .int .i64 k ∧ gusE n (gs.drop k) = gusE n gs ∧ Below w.heap.size w wr) (fun u _ => gs.length - (intOf u).toNat)
  case atStart => exact ⟨0, Nat.zero_le _, rfl, rfl, Below.refl _ _⟩
  case round =>
    obtain ⟨k, hk, rfl, hs, hB⟩ := hrel
    have HS := Lib.hid hs
    have HB := Lib.hid hB
    by_cases hlt : k < gs.length
    · obtain ⟨b, off, cs, rfl, _, hbw, _, hc, hg⟩ := H.out.at k hlt
      have HG := Lib.hid (@gusE_drop n gs k hlt)
      have HG' := Lib.hid (@gusE_bad n gs k hlt)
      generalize hgk : gs[k]'hlt = g at hg HG HG'
      obtain ⟨msg, coef, ⟨c, nn, t, f⟩⟩ := g
      obtain ⟨rfl, _⟩ := hg
      have g0 := keep1 (show w.cell? ⟨b, off + k * 6, none⟩ = some (.int .i64 msg) from hc 0 (by omega)) hB
      have g1 := keep1 (show w.cell? ⟨b, off + k * 6 + 1, none⟩ = some (.int .i64 coef) from hc 1 (by omega)) hB
      have g2 := keep1 (show w.cell? ⟨b, off + k * 6 + 2, none⟩ = some (.int .i64 c) from hc 2 (by omega)) hB
      have g3 := keep1 (show w.cell? ⟨b, off + k * 6 + 3, none⟩ = some (.int .i64 nn) from hc 3 (by omega)) hB
      have g4 := keep1 (show w.cell? ⟨b, off + k * 6 + 4, none⟩ = some (.int .i64 t) from hc 4 (by omega)) hB
      have g5 := keep1 (show w.cell? ⟨b, off + k * 6 + 5, none⟩ = some (.int .i64 f) from hc 5 (by omega)) hB
      have HE : Hid (guE n ⟨msg, coef, ⟨c, nn, t, f⟩⟩ = if ixB n msg = false then 5 else if inB 1 100 coef = false then 1 else if smL c nn t f = false then 4 else 0) := (rfl : guE n _ = _)
      have hbr : b < wr.heap.size := cell_lt g0
      clear hs hB hc hgk
      cases m1 : ixB n msg with
      | false =>
        have M1 := Lib.hid m1
        clear m1
        go_wp2_with (first | (go_at_call 74; (with_reducible refine (ZS msg n hn _).mono ?_); rintro e w1 ⟨rfl, rfl⟩; rw [M1.out]))
        go_ret
        exact ⟨ZM (by have t1 := M1.out; have q : guE n ⟨msg, coef, ⟨c, nn, t, f⟩⟩ = 5 := (by rw [HE.out]; simp [t1]); rw [E.out, ← HS.out, HG'.out (by rw [q]; omega), q]; rfl), Zs HB.out (Zg _ _)⟩
      | true =>
        have M1 := Lib.hid m1
        clear m1
        cases m2 : inB 1 100 coef with
        | false =>
          have M2 := Lib.hid m2
          clear m2
          go_wp2_with (first | (go_at_call 74; (with_reducible refine (ZS msg n hn _).mono ?_); rintro e w1 ⟨rfl, rfl⟩; rw [M1.out]) | (go_at_call 42; (with_reducible refine (Yq coef 1 100 _).mono ?_); rintro e w1 ⟨rfl, rfl⟩; rw [M2.out]))
          go_ret
          exact ⟨ZM (by have t1 := M1.out; have t2 := M2.out; have q : guE n ⟨msg, coef, ⟨c, nn, t, f⟩⟩ = 1 := (by rw [HE.out]; simp [t1, t2]); rw [E.out, ← HS.out, HG'.out (by rw [q]; omega), q]; rfl), Zs HB.out (Zg _ _)⟩
        | true =>
          have M2 := Lib.hid m2
          clear m2
          cases m3 : smL c nn t f with
          | false =>
            have M3 := Lib.hid m3
            clear m3
            go_wp2_with (first | (go_at_call 74; (with_reducible refine (ZS msg n hn _).mono ?_); rintro e w1 ⟨rfl, rfl⟩; rw [M1.out]) | (go_at_call 42; (with_reducible refine (Yq coef 1 100 _).mono ?_); rintro e w1 ⟨rfl, rfl⟩; rw [M2.out]) | (go_at_call 47; (with_reducible refine (isLarge_any c nn t f _).mono ?_); rintro e w2 ⟨rfl, hb2⟩; rw [M3.out]))
            go_ret
            exact ⟨ZM (by have t1 := M1.out; have t2 := M2.out; have t3 := M3.out; have q : guE n ⟨msg, coef, ⟨c, nn, t, f⟩⟩ = 4 := (by rw [HE.out]; simp [t1, t2, t3]); rw [E.out, ← HS.out, HG'.out (by rw [q]; omega), q]; rfl), Zs HB.out (Zs (Zg _ _) hb2)⟩
          | true =>
            have M3 := Lib.hid m3
            have HZ := Lib.hid (show gusE n (gs.drop (k + 1)) = gusE n gs by rw [← HS.out]; exact (HG.out (by rw [HE.out, M1.out, M2.out, m3]; simp)).symm)
            clear m3
            go_wp2_with (first | (go_at_call 74; (with_reducible refine (ZS msg n hn _).mono ?_); rintro e w1 ⟨rfl, rfl⟩; rw [M1.out]) | (go_at_call 42; (with_reducible refine (Yq coef 1 100 _).mono ?_); rintro e w1 ⟨rfl, rfl⟩; rw [M2.out]) | (go_at_call 47; (with_reducible refine (isLarge_any c nn t f _).mono ?_); rintro e w2 ⟨rfl, hb2⟩; rw [M3.out]))
            go_roundw
            case rel => exact ⟨k + 1, by omega, by go_num, HZ.out, Zs HB.out (Zs (Zg _ _) hb2)⟩
            case measure => simp [intOf]; omega
    have HZ := Lib.hid (show gusE n gs = 0 by rw [← HS.out, List.drop_eq_nil_of_le (by omega)]; rfl)
    clear hs hB
    by_cases h2 : 2 < gs.length
    · have b2 : (2 : Int) < (gs.length : Int) := by omega
      go_wp2_with fail
      go_ret
      exact ⟨ZM (by rw [E.out, if_pos HZ.out, if_pos h2]), HB.out⟩
    have b2 : ¬ (2 : Int) < (gs.length : Int) := by omega
    go_wp2_with fail
    go_ret
    exact ⟨ZM (by rw [E.out, if_pos HZ.out, if_neg h2]), HB.out⟩
end Go.Proofs.Ytoefmdjgnabgfaa
