import Derived.Test.YtpadmggccpgajaaDoorGrphfdclkag
set_option linter.all false
namespace Go.Proofs.YtpadmggccpgajaaDoor
open Go.RowKit Go.Deep
set_option maxHeartbeats 1600000 in
theorem sharedError_any {lo : Nat} {w : World} {cs : List Value} {r : Ru} (n : Nat) (hn : n ≤ 9223372036854775807) (h : RuEl lo w cs r) :
    Calls Tryd.prog 171 #[.agg cs.toArray, .int .i64 n] w fun e w' => e = .returned (.int .i64 (shE n r.rd r.wr)) ∧ Below w.heap.size w w' := by
  obtain ⟨v6, v7, v8, v9, v12, v14, v15, v16, rfl, _, _, _, _, _, _, _, _, _, _, _, _, _, _, _, _, _, _⟩ := h
  obtain ⟨nm, kind, frm, tt, pf, pt, resp, guards, ex, fa, rd, wr, send, pos, left, right, parent, dir⟩ := r
  dsimp only
  have E : Hid (shE n rd wr = if (rd ≠ -1 ∧ ixB n rd = false) ∨ (wr ≠ -1 ∧ ixB n wr = false) then 5 else 0) := (rfl : shE n rd wr = _)
  by_cases r0 : rd = -1
  · subst r0
    have R := Lib.hid (show ¬ ((-1 : Int) ≠ -1 ∧ ixB n (-1) = false) by simp)
    by_cases w0 : wr = -1
    · subst w0
      go_enter Tryd.func171, Tryd.ntmps171
      go_wp2_with fail
      go_ret
      exact ⟨ret_int (by rw [E.out]; have t := R.out; simp), allocBelow _ _⟩
    · have c0 : (wr != -1) = true := by simpa using w0
      have W0 := Lib.hid w0
      clear w0
      cases w1 : ixB n wr with
      | true =>
        have W1 := Lib.hid w1
        clear w1
        go_enter Tryd.func171, Tryd.ntmps171
        go_wp2_with (first | (go_at_call 139; (with_reducible refine (isIndex_any wr n hn _).mono ?_); rintro e w1 ⟨rfl, rfl⟩; rw [W1.out]))
        go_ret
        exact ⟨ret_int (by rw [E.out]; have t := R.out; have t1 := W1.out; simp [t1]), allocBelow _ _⟩
      | false =>
        have W1 := Lib.hid w1
        clear w1
        go_enter Tryd.func171, Tryd.ntmps171
        go_wp2_with (first | (go_at_call 139; (with_reducible refine (isIndex_any wr n hn _).mono ?_); rintro e w1 ⟨rfl, rfl⟩; rw [W1.out]))
        go_ret
        exact ⟨ret_int (by rw [E.out]; have t := R.out; have t1 := W1.out; have t2 := W0.out; simp [t1, t2]), allocBelow _ _⟩
  · have b0 : (rd != -1) = true := by simpa using r0
    have R0 := Lib.hid r0
    clear r0
    cases r1 : ixB n rd with
    | true =>
      have R1 := Lib.hid r1
      have R := Lib.hid (show ¬ (rd ≠ -1 ∧ ixB n rd = false) by rw [r1]; simp)
      clear r1
      by_cases w0 : wr = -1
      · subst w0
        go_enter Tryd.func171, Tryd.ntmps171
        go_wp2_with (go_at_call 139; (with_reducible refine (isIndex_any rd n hn _).mono ?_); rintro e w1 ⟨rfl, rfl⟩; rw [R1.out])
        go_ret
        exact ⟨ret_int (by rw [E.out]; have t := R.out; simp [t]), allocBelow _ _⟩
      · have c0 : (wr != -1) = true := by simpa using w0
        have W0 := Lib.hid w0
        clear w0
        cases w1 : ixB n wr with
        | true =>
          have W1 := Lib.hid w1
          clear w1
          go_enter Tryd.func171, Tryd.ntmps171
          go_wp2_with (first | (go_at_call 139; (with_reducible refine (isIndex_any rd n hn _).mono ?_); rintro e w1 ⟨rfl, rfl⟩; rw [R1.out]) | (go_at_call 139; (with_reducible refine (isIndex_any wr n hn _).mono ?_); rintro e w1 ⟨rfl, rfl⟩; rw [W1.out]))
          go_ret
          exact ⟨ret_int (by rw [E.out]; have t := R.out; have t1 := W1.out; simp [t, t1]), allocBelow _ _⟩
        | false =>
          have W1 := Lib.hid w1
          clear w1
          go_enter Tryd.func171, Tryd.ntmps171
          go_wp2_with (first | (go_at_call 139; (with_reducible refine (isIndex_any rd n hn _).mono ?_); rintro e w1 ⟨rfl, rfl⟩; rw [R1.out]) | (go_at_call 139; (with_reducible refine (isIndex_any wr n hn _).mono ?_); rintro e w1 ⟨rfl, rfl⟩; rw [W1.out]))
          go_ret
          exact ⟨ret_int (by rw [E.out]; have t := R.out; have t1 := W1.out; have t2 := W0.out; simp [t1, t2]), allocBelow _ _⟩
    | false =>
      have R1 := Lib.hid r1
      clear r1
      go_enter Tryd.func171, Tryd.ntmps171
      go_wp2_with (go_at_call 139; (with_reducible refine (isIndex_any rd n hn _).mono ?_); rintro e w1 ⟨rfl, rfl⟩; rw [R1.out])
      go_ret
      exact ⟨ret_int (by rw [E.out]; have t := R0.out; have t1 := R1.out; simp [t, t1]), allocBelow _ _⟩
set_option maxHeartbeats 1600000 in
theorem statesExist_any {lo : Nat} {w : World} {cs : List Value} {r : Ru} (n : Nat) (hn : n ≤ 9223372036854775807) (h : RuEl lo w cs r) :
    Calls Tryd.prog 149 #[.agg cs.toArray, .int .i64 n] w fun e w' => e = .returned (.bool (stB r n)) ∧ Below w.heap.size w w' := by
  obtain ⟨v6, v7, v8, v9, v12, v14, v15, v16, rfl, _, _, _, _, _, _, _, _, _, _, _, _, _, _, _, _, _, _⟩ := h
  obtain ⟨nm, kind, frm, tt, pf, pt, resp, guards, ex, fa, rd, wr, send, pos, left, right, parent, dir⟩ := r
  dsimp only
  have E : Hid (stB ⟨nm, kind, frm, tt, pf, pt, resp, guards, ex, fa, rd, wr, send, pos, left, right, parent, dir⟩ n = (ixB n frm && ixB n tt && ixB n pf && ixB n pt)) := (rfl : stB _ n = _)
  cases h0 : ixB n frm with
  | false =>
    have H0 := Lib.hid h0
    clear h0
    go_enter Tryd.func149, Tryd.ntmps149
    go_wp2_with (first | (go_at_call 139; (with_reducible refine (isIndex_any frm n hn _).mono ?_); rintro e w1 ⟨rfl, rfl⟩; rw [H0.out]))
    go_ret
    exact ⟨ret_bool (by have t0 := H0.out; rw [E.out]; simp [t0]), allocBelow _ _⟩
  | true =>
    have H0 := Lib.hid h0
    clear h0
    cases h1 : ixB n tt with
    | false =>
      have H1 := Lib.hid h1
      clear h1
      go_enter Tryd.func149, Tryd.ntmps149
      go_wp2_with (first | (go_at_call 139; (with_reducible refine (isIndex_any frm n hn _).mono ?_); rintro e w1 ⟨rfl, rfl⟩; rw [H0.out]) | (go_at_call 139; (with_reducible refine (isIndex_any tt n hn _).mono ?_); rintro e w1 ⟨rfl, rfl⟩; rw [H1.out]))
      go_ret
      exact ⟨ret_bool (by have t0 := H0.out; have t1 := H1.out; rw [E.out]; simp [t0, t1]), allocBelow _ _⟩
    | true =>
      have H1 := Lib.hid h1
      clear h1
      cases h2 : ixB n pf with
      | false =>
        have H2 := Lib.hid h2
        clear h2
        go_enter Tryd.func149, Tryd.ntmps149
        go_wp2_with (first | (go_at_call 139; (with_reducible refine (isIndex_any frm n hn _).mono ?_); rintro e w1 ⟨rfl, rfl⟩; rw [H0.out]) | (go_at_call 139; (with_reducible refine (isIndex_any tt n hn _).mono ?_); rintro e w1 ⟨rfl, rfl⟩; rw [H1.out]) | (go_at_call 139; (with_reducible refine (isIndex_any pf n hn _).mono ?_); rintro e w1 ⟨rfl, rfl⟩; rw [H2.out]))
        go_ret
        exact ⟨ret_bool (by have t0 := H0.out; have t1 := H1.out; have t2 := H2.out; rw [E.out]; simp [t0, t1, t2]), allocBelow _ _⟩
      | true =>
        have H2 := Lib.hid h2
        clear h2
        cases h3 : ixB n pt with
        | false =>
          have H3 := Lib.hid h3
          clear h3
          go_enter Tryd.func149, Tryd.ntmps149
          go_wp2_with (first | (go_at_call 139; (with_reducible refine (isIndex_any frm n hn _).mono ?_); rintro e w1 ⟨rfl, rfl⟩; rw [H0.out]) | (go_at_call 139; (with_reducible refine (isIndex_any tt n hn _).mono ?_); rintro e w1 ⟨rfl, rfl⟩; rw [H1.out]) | (go_at_call 139; (with_reducible refine (isIndex_any pf n hn _).mono ?_); rintro e w1 ⟨rfl, rfl⟩; rw [H2.out]) | (go_at_call 139; (with_reducible refine (isIndex_any pt n hn _).mono ?_); rintro e w1 ⟨rfl, rfl⟩; rw [H3.out]))
          go_ret
          exact ⟨ret_bool (by have t0 := H0.out; have t1 := H1.out; have t2 := H2.out; have t3 := H3.out; rw [E.out]; simp [t0, t1, t2, t3]), allocBelow _ _⟩
        | true =>
          have H3 := Lib.hid h3
          clear h3
          go_enter Tryd.func149, Tryd.ntmps149
          go_wp2_with (first | (go_at_call 139; (with_reducible refine (isIndex_any frm n hn _).mono ?_); rintro e w1 ⟨rfl, rfl⟩; rw [H0.out]) | (go_at_call 139; (with_reducible refine (isIndex_any tt n hn _).mono ?_); rintro e w1 ⟨rfl, rfl⟩; rw [H1.out]) | (go_at_call 139; (with_reducible refine (isIndex_any pf n hn _).mono ?_); rintro e w1 ⟨rfl, rfl⟩; rw [H2.out]) | (go_at_call 139; (with_reducible refine (isIndex_any pt n hn _).mono ?_); rintro e w1 ⟨rfl, rfl⟩; rw [H3.out]))
          go_ret
          exact ⟨ret_bool (by have t0 := H0.out; have t1 := H1.out; have t2 := H2.out; have t3 := H3.out; rw [E.out]; simp [t0, t1, t2, t3]), allocBelow _ _⟩
theorem gusE_drop {m : Nat} {gs : List Th} {k : Nat} (h : k < gs.length) (h0 : guE m gs[k] = 0) : gusE m (gs.drop k) = gusE m (gs.drop (k + 1)) := by
  rw [List.drop_eq_getElem_cons h, gusE, if_pos h0]
theorem gusE_bad {m : Nat} {gs : List Th} {k : Nat} (h : k < gs.length) (h0 : guE m gs[k] ≠ 0) : gusE m (gs.drop k) = guE m gs[k] := by
  rw [List.drop_eq_getElem_cons h, gusE, if_neg h0]
set_option maxHeartbeats 3200000 in
theorem guardsError_any {lo : Nat} {w : World} {v : Value} {gs : List Th} (n : Nat) (hn : n ≤ 9223372036854775807) (h : IsSl 6 ThEl lo w v gs) :
    Calls Tryd.prog 172 #[v, .int .i64 n] w fun e w' => e = .returned (.int .i64 (guardE n gs)) ∧ Below w.heap.size w w' := by
  have H := Lib.hid h
  have hbd := h.bound
  obtain ⟨a, cap, rfl⟩ := h.shape
  clear h
  have E : Hid (guardE n gs = if gusE n gs = 0 then (if 2 < gs.length then 4 else 0) else gusE n gs) := (rfl : guardE n gs = _)
  go_enter Tryd.func172, Tryd.ntmps172
  go_wp2_with fail
  go_loopw [9] (fun u wr => ∃ k : Nat, k ≤ gs.length ∧ u = .int .i64 k ∧ gusE n (gs.drop k) = gusE n gs ∧ Below w.heap.size w wr) (fun u _ => gs.length - (intOf u).toNat)
  case atStart => exact ⟨0, Nat.zero_le _, rfl, rfl, Below.refl _ _⟩
  case round =>
    obtain ⟨k, hk, rfl, hs, hB⟩ := hrel
    have HS := Lib.hid hs
    have HB := Lib.hid hB
    by_cases hlt : k < gs.length
    · obtain ⟨b, off, cs, rfl, _, hbw, _, hc, hg⟩ := H.out.at k hlt
      have HG := Lib.hid (@gusE_drop n gs k hlt)
      have HG' := Lib.hid (@gusE_bad n gs k hlt)
      generalize hgk : gs[k]'hlt = g at hg HG HG'
      obtain ⟨msg, coef, ⟨c, nn, t, f⟩⟩ := g
      obtain ⟨rfl, _⟩ := hg
      have g0 := keep1 (show w.cell? ⟨b, off + k * 6, none⟩ = some (.int .i64 msg) from hc 0 (by omega)) hB
      have g1 := keep1 (show w.cell? ⟨b, off + k * 6 + 1, none⟩ = some (.int .i64 coef) from hc 1 (by omega)) hB
      have g2 := keep1 (show w.cell? ⟨b, off + k * 6 + 2, none⟩ = some (.int .i64 c) from hc 2 (by omega)) hB
      have g3 := keep1 (show w.cell? ⟨b, off + k * 6 + 3, none⟩ = some (.int .i64 nn) from hc 3 (by omega)) hB
      have g4 := keep1 (show w.cell? ⟨b, off + k * 6 + 4, none⟩ = some (.int .i64 t) from hc 4 (by omega)) hB
      have g5 := keep1 (show w.cell? ⟨b, off + k * 6 + 5, none⟩ = some (.int .i64 f) from hc 5 (by omega)) hB
      have HE : Hid (guE n ⟨msg, coef, ⟨c, nn, t, f⟩⟩ = if ixB n msg = false then 5 else if inB 1 100 coef = false then 1 else if smL c nn t f = false then 4 else 0) := (rfl : guE n _ = _)
      have hbr : b < wr.heap.size := cell_lt g0
      clear hs hB hc hgk
      cases m1 : ixB n msg with
      | false =>
        have M1 := Lib.hid m1
        clear m1
        go_wp2_with (first | (go_at_call 139; (with_reducible refine (isIndex_any msg n hn _).mono ?_); rintro e w1 ⟨rfl, rfl⟩; rw [M1.out]))
        go_ret
        exact ⟨ret_int (by have t1 := M1.out; have q : guE n ⟨msg, coef, ⟨c, nn, t, f⟩⟩ = 5 := (by rw [HE.out]; simp [t1]); rw [E.out, ← HS.out, HG'.out (by rw [q]; omega), q]; rfl), thenBelow HB.out (allocBelow _ _)⟩
      | true =>
        have M1 := Lib.hid m1
        clear m1
        cases m2 : inB 1 100 coef with
        | false =>
          have M2 := Lib.hid m2
          clear m2
          go_wp2_with (first | (go_at_call 139; (with_reducible refine (isIndex_any msg n hn _).mono ?_); rintro e w1 ⟨rfl, rfl⟩; rw [M1.out]) | (go_at_call 103; (with_reducible refine (between_any coef 1 100 _).mono ?_); rintro e w1 ⟨rfl, rfl⟩; rw [M2.out]))
          go_ret
          exact ⟨ret_int (by have t1 := M1.out; have t2 := M2.out; have q : guE n ⟨msg, coef, ⟨c, nn, t, f⟩⟩ = 1 := (by rw [HE.out]; simp [t1, t2]); rw [E.out, ← HS.out, HG'.out (by rw [q]; omega), q]; rfl), thenBelow HB.out (allocBelow _ _)⟩
        | true =>
          have M2 := Lib.hid m2
          clear m2
          cases m3 : smL c nn t f with
          | false =>
            have M3 := Lib.hid m3
            clear m3
            go_wp2_with (first | (go_at_call 139; (with_reducible refine (isIndex_any msg n hn _).mono ?_); rintro e w1 ⟨rfl, rfl⟩; rw [M1.out]) | (go_at_call 103; (with_reducible refine (between_any coef 1 100 _).mono ?_); rintro e w1 ⟨rfl, rfl⟩; rw [M2.out]) | (go_at_call 89; (with_reducible refine (isLarge_any c nn t f _).mono ?_); rintro e w2 ⟨rfl, hb2⟩; rw [M3.out]))
            go_ret
            exact ⟨ret_int (by have t1 := M1.out; have t2 := M2.out; have t3 := M3.out; have q : guE n ⟨msg, coef, ⟨c, nn, t, f⟩⟩ = 4 := (by rw [HE.out]; simp [t1, t2, t3]); rw [E.out, ← HS.out, HG'.out (by rw [q]; omega), q]; rfl), thenBelow HB.out (thenBelow (allocBelow _ _) hb2)⟩
          | true =>
            have M3 := Lib.hid m3
            have HZ := Lib.hid (show gusE n (gs.drop (k + 1)) = gusE n gs by rw [← HS.out]; exact (HG.out (by rw [HE.out, M1.out, M2.out, m3]; simp)).symm)
            clear m3
            go_wp2_with (first | (go_at_call 139; (with_reducible refine (isIndex_any msg n hn _).mono ?_); rintro e w1 ⟨rfl, rfl⟩; rw [M1.out]) | (go_at_call 103; (with_reducible refine (between_any coef 1 100 _).mono ?_); rintro e w1 ⟨rfl, rfl⟩; rw [M2.out]) | (go_at_call 89; (with_reducible refine (isLarge_any c nn t f _).mono ?_); rintro e w2 ⟨rfl, hb2⟩; rw [M3.out]))
            go_roundw
            case rel => exact ⟨k + 1, by omega, by go_num, HZ.out, thenBelow HB.out (thenBelow (allocBelow _ _) hb2)⟩
            case measure => simp [intOf]; omega
    · have HZ := Lib.hid (show gusE n gs = 0 by rw [← HS.out, List.drop_eq_nil_of_le (by omega)]; rfl)
      clear hs hB
      by_cases h2 : 2 < gs.length
      · have b2 : (2 : Int) < (gs.length : Int) := by omega
        go_wp2_with fail
        go_ret
        exact ⟨ret_int (by rw [E.out, if_pos HZ.out, if_pos h2]), HB.out⟩
      · have b2 : ¬ (2 : Int) < (gs.length : Int) := by omega
        go_wp2_with fail
        go_ret
        exact ⟨ret_int (by rw [E.out, if_pos HZ.out, if_neg h2]), HB.out⟩
end Go.Proofs.YtpadmggccpgajaaDoor
