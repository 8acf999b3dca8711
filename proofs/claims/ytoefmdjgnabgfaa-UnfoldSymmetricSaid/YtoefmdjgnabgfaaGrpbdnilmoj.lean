import Derived.Test.YtoefmdjgnabgfaaProg
import Derived.Deep.QuietTactic
import Derived.BigQuiet
import Derived.LoopTactic
import Derived.Lib.Hide
import Derived.StillTailTactics
import Derived.Outline
import Derived.Laws.MakeOwn
import Derived.Shelf.Sort.Plain
import Derived.Shelf.Lay
import Derived.Ground.NamesProg
import Derived.Test.YtoefmdjgnabgfaaGrpdcemlfcd
import Derived.Test.YtoefmdjgnabgfaaGrpgpecfoeg
import Derived.Test.YtoefmdjgnabgfaaGrpipbfodfj
import Derived.Test.YtoefmdjgnabgfaaGrpaflcfklf
import Derived.Test.YtoefmdjgnabgfaaGrplkahbljo
import Derived.Test.YtoefmdjgnabgfaaGrpobiopcno
import Derived.Test.YtoefmdjgnabgfaaGrphpbloooh
import Derived.Test.YtoefmdjgnabgfaaGrpmamlilom
import Derived.Test.YtoefmdjgnabgfaaGrpnkffmpgk
import Derived.Test.YtoefmdjgnabgfaaGrpcoacpmej
import Derived.Test.YtoefmdjgnabgfaaGrpjbgfhgdl
set_option linter.all false
namespace Go.Proofs.Ytoefmdjgnabgfaa
open Go.RowKit Go.Deep
theorem info_int : (Try.prog.info? 3).map (fun i => (i.zero, i.size, i.bytes)) = some (some (.int .i64 0), 1, 8) := by kernel_rfl
theorem elInts : ElT Try.prog 56 24 (.slice none 0 0) 1 24 := ⟨Try.underlying56, by kernel_rfl, rfl, by decide⟩
theorem and_one : ∀ m, m < 256 → bits BinOp.and IntKind.i64 (m : Nat) 1 = ((m % 2 : Nat) : Int) := by decide +kernel
theorem own_ints {lo : Nat} {w : World} {g n : Nat} {f : Nat → Int} {xs : List Int} (h : OwnF lo w g n f) (hl : xs.length = n) (hn : n ≤ 1000) (hx : ∀ x ∈ xs, I64 x) (hf : ∀ j, j < n → f j = xs.getD j 0) : IsInts lo w (.slice (some ⟨g, 0, none⟩) n n) xs := by
  obtain ⟨h1, cur, t, hg, hc⟩ := h
  exact Y6 hg h1 hl (Nat.le_refl _) (by unfold maxLen; omega) hx (fun i hi => by rw [hc i hi, hf i hi])
theorem dig_small (n k : Nat) : ∀ x ∈ dig n k, I64 x := by
  intro x hx
  obtain ⟨j, _, rfl⟩ := List.mem_map.1 hx
  have := digF_small n k j
  constructor <;> omega
set_option maxHeartbeats 1600000 in
theorem Shapes_own (n : Nat) (h0 : 1 ≤ n) (h1 : n ≤ 8) (w : World) :
    Calls Try.prog 20 #[.int .i64 n] w fun e w' => ∃ u, e = .returned (.tuple #[u, .int .i64 0]) ∧ (∃ ps, OwnLL (w.heap.size + 1) w' u ps ∧ ps.map (·.2) = shL n) ∧ Below w.heap.size w w' := by
  have hmk := make_n (P := Try.prog) 24 3 _ 1 8 Try.underlying24 info_int n (by omega) (by omega)
  obtain ⟨M, hM⟩ : ∃ M : Nat, M = 2 ^ n := ⟨_, rfl⟩
  have hM2 : M ≤ 256 := by rw [hM]; exact Nat.pow_le_pow_right (by omega) h1
  have hw : wrap64 ((2 : Int) ^ n) = (M : Int) := by
    have e : ((2 : Int) ^ n) = (M : Int) := by rw [hM]; simp
    rw [e]; unfold wrap64; omega
  have HM := Lib.hid hM
  clear hM
  go_enter Try.func20, Try.ntmps20
  go_wp2_with fail
  rw [hw]
  clear hw hmk
  obtain ⟨W, hW⟩ : ∃ W : World, W = w.alloc (.cells (madeCells #[Value.int IntKind.i64 0] n) 3) := ⟨_, rfl⟩
  rw [← hW]
  have HO0 := Lib.hid (show OwnF w.heap.size W w.heap.size n (fun _ => 0) by
    rw [hW]; exact ⟨Nat.le_refl _, _, _, heap_alloc_new _ _, fun j hj => made_get _ _ _ _ hj (by simp [Nat.mod_one])⟩)
  have HB0 := Lib.hid (show Below w.heap.size w W by rw [hW]; exact Ze _ _)
  clear hW
  go_loopw [4, 18] (fun v u wr => ∃ (k : Nat) (a : Option Addr) (c : Nat) (ps : List (Value × List Int)) (f : Nat → Int), k ≤ M ∧ u = .int .i64 k ∧ v = .slice a ps.length c ∧ ps.map (·.2) = shK n k ∧ OwnLL (w.heap.size + 1) wr (.slice a ps.length c) ps ∧ OwnF w.heap.size wr w.heap.size n f ∧ Below w.heap.size w wr) (fun _ u _ => M - (intOf u).toNat)
  case atStart => exact ⟨0, none, 0, [], fun _ => 0, Nat.zero_le _, rfl, rfl, rfl, OwnLL.nil _ _, HO0.out, HB0.out⟩
  case round =>
    obtain ⟨k, a, c, ps, f, hk, rfl, rfl, hps, hL, hF, hB⟩ := hrel
    have HPS := Lib.hid hps
    have HL := Lib.hid hL
    have HF := Lib.hid hF
    have HB := Lib.hid hB
    have hpl : ps.length ≤ k := by have := congrArg List.length hps; simp at this; have := shK_len n k; omega
    clear hps hL hF hB
    by_cases hlt : k < M
    · go_wp2_with fail
      go_loopw [23] (fun u w2 => ∃ (i : Nat) (f : Nat → Int), i ≤ n ∧ u = .int .i64 i ∧ (∀ j, j < i → f j = digF n k j) ∧ OwnLL (w.heap.size + 1) w2 (.slice a ps.length c) ps ∧ OwnF w.heap.size w2 w.heap.size n f ∧ Below w.heap.size w w2) (fun u _ => n - (intOf u).toNat)
      case atStart => exact ⟨0, f, Nat.zero_le _, rfl, fun _ h => by omega, HL.out, HF.out, HB.out⟩
      case round =>
        obtain ⟨i, f', hi, rfl, hd, hL2, hF2, hB2⟩ := hrel
        have HD := Lib.hid hd
        have HL2 := Lib.hid hL2
        have HF2 := Lib.hid hF2
        have HB2 := Lib.hid hB2
        have hgw := hF2.lt
        clear hd hL2 hB2
        by_cases hlt2 : i < n
        · have c1 := hF2.cell i hlt2
          have c2 := hF2.frozen i
          have HE := Lib.hid (show wrap64 (bits BinOp.and IntKind.i64 ((k : Int) / 2 ^ (n - 1 - i)) 1 * 2) = digF n k i by
            have e1 : ((k : Int) / 2 ^ (n - 1 - i)) = ((k / 2 ^ (n - 1 - i) : Nat) : Int) := by simp
            have e2 : k / 2 ^ (n - 1 - i) < 256 := by have := Nat.div_le_self k (2 ^ (n - 1 - i)); omega
            rw [e1, and_one _ e2]
            unfold digF wrap64; omega)
          clear hF2
          go_wp2_with fail
          go_roundw
          case rel =>
            refine ⟨i + 1, up f' i (digF n k i), by omega, by go_num, fun j hj => ?_, HL2.out.setOut _ (by simp) _, ?_, HB2.out.setCell (by simp) _⟩
            · by_cases e : j = i
              · subst e; exact YS _ _ _
              rw [up_ne _ _ e]; exact HD.out j (by omega)
            rw [← HE.out]; exact HF2.out.set i _
          case measure => simp [intOf]; omega
        obtain rfl : i = n := by omega
        have HI := Lib.hid (own_ints HF2.out (Kb i k) (by omega) (dig_small i k) (fun j hj => by rw [HD.out j hj, dig_get _ _ _ hj]))
        clear hF2 hlt2
        have HS0 := Lib.hid (shK_succ i k)
        cases hs : isShp (dig i k) i with
        | false =>
          have HS : Hid (shK i (k + 1) = shK i k) := by
            show _ = _
            have h : shp (dig i k) = false := by unfold isShp at hs; simpa [Kb] using hs
            rw [HS0.out, h]; rfl
          go_wp2_with (go_at_call 26; refine (Kf (i : Int) HI.out (by rw [Kb]; omega)).mono ?_; rintro e w1 ⟨rfl, rfl⟩)
          go_roundw
          case rel => exact ⟨k + 1, a, c, ps, f', by omega, by go_num, rfl, by rw [HS.out]; exact HPS.out, HL2.out, HF2.out, HB2.out⟩
          case measure => simp [intOf]; omega
        | true =>
          have HS : Hid (shK i (k + 1) = shK i k ++ [dig i k]) := by
            show _ = _
            have h : shp (dig i k) = true := by unfold isShp at hs; simpa [Kb] using hs
            rw [HS0.out, h]; rfl
          go_wp2_with (first | (go_at_call 26; refine (Kf (i : Int) HI.out (by rw [Kb]; omega)).mono ?_; rintro e w1 ⟨rfl, rfl⟩) | (go_at_call 23; refine (Clone_any HI.out (by rw [Kb]; omega)).mono ?_; rintro e w3 ⟨v', rfl, hv, hb⟩; have HV := Lib.hid hv; have HB3 := Lib.hid hb; have hs3 := hb.size; obtain ⟨av, cv, rfl⟩ := hv.shape; clear hv hb) | (at_builtin; refine Kz elInts (by rfl) (.tmp 41) (.tmp 44) (by rfl) (w.heap.size + 1) _ ps.length _ [.slice av (dig i k).length cv] w3.heap.size (by rfl) (by rfl) (by rfl) (HL2.out.below HB3.out).1 (by rfl) (by intro u hu; simp at hu; subst hu; rfl) (by omega) (by unfold maxLen; omega) (by omega) (by rfl) ?_; intro g cap w4 hown hgrow hat hlo hlt hsz))
          go_roundw
          case rel =>
            refine ⟨k + 1, some ⟨g, 0, none⟩, cap, ps ++ [(.slice av (dig i k).length cv, dig i k)], f', by omega, by go_num, by simp, ?_, ?_, ?_, ?_⟩
            · rw [HS.out, List.map_append, HPS.out]; rfl
            · rw [List.length_append]; exact OwnLL.snoc HL2.out HB3.out HV.out (by omega) hown hgrow hat
            · exact (HF2.out.below HB3.out).grown hgrow (fun e => by have := ((HL2.out.below HB3.out).1.lt _ e).1; omega)
            exact (Zg HB2.out HB3.out).grown hgrow (by omega) (fun j hj => by have := ((HL2.out.below HB3.out).1.lt _ hj).1; omega)
          case measure => simp [intOf]; omega
    obtain rfl : k = M := by omega
    go_wp2_with fail
    go_ret2
    refine ⟨_, rfl, ⟨ps, HL.out, ?_⟩, HB.out⟩
    rw [HPS.out, HM.out]
    rfl
theorem Shapes_ok (n : Nat) (h0 : 1 ≤ n) (h1 : n ≤ 8) (w : World) :
    Calls Try.prog 20 #[.int .i64 n] w fun e w' => ∃ u, e = .returned (.tuple #[u, .int .i64 0]) ∧ IsSl 1 IntsEl w.heap.size w' u (shL n) ∧ Below w.heap.size w w' :=
  (Shapes_own n h0 h1 w).mono fun e w' ⟨u, he, ⟨ps, hL, hp⟩, hb⟩ => ⟨u, he, by have := hL.reads; rw [hp] at this; exact this.mono IntsEl.mono (by omega), hb⟩
end Go.Proofs.Ytoefmdjgnabgfaa

namespace Go.Proofs.Ytoefmdjgnabgfaa
open Go.RowKit Go.Deep
end Go.Proofs.Ytoefmdjgnabgfaa

namespace Go.Proofs.Ytoefmdjgnabgfaa
open Go.RowKit Go.Deep
theorem shL_five : shL 5 = [[2, 0, 2, 0, 0], [2, 2, 0, 0, 0]] := by decide +kernel
theorem nbr_known (w : World) : Calls Try.prog 19 #[.int .i64 3, .slice none 0 0, .int .i64 2, .int .i64 0] w fun e w' => e = .returned (.tuple #[.int .i64 1, .int .i64 1, .int .i64 (-1)]) ∧ Below w.heap.size w w' := by
  have h := Neighbors_any (lo := 0) (w := w) (v := .slice none 0 0) (xs := []) 3 2 0 ⟨none, 0, rfl, by simp, by simp [maxLen], by simp, .inl rfl⟩ (by simp) (by omega)
  have e : nbr 3 [] 2 0 = (1, 1, -1) := by decide
  rw [e] at h
  exact h
theorem shapes_known (w : World) : Calls Try.prog 20 #[.int .i64 5] w fun e w' => ∃ u, e = .returned (.tuple #[u, .int .i64 0]) ∧ IsSl 1 IntsEl w.heap.size w' u [[2, 0, 2, 0, 0], [2, 2, 0, 0, 0]] ∧ Below w.heap.size w w' := by
  have h := Shapes_ok 5 (by omega) (by omega) w
  rw [shL_five] at h
  exact h
theorem lit5 {w : World} {g : Nat} {t : TypeId} (h : w.heap[g]? = some (.cells #[.int .i64 2, .int .i64 0, .int .i64 2, .int .i64 0, .int .i64 0] t (0, 0))) : IsInts 0 w (.slice (some ⟨g, 0, none⟩) 5 5) [2, 0, 2, 0, 0] :=
  Y6 (xs := [2, 0, 2, 0, 0]) h (Nat.zero_le _) rfl (Nat.le_refl _) (by simp [maxLen]) (fun x hx => by have : x = 0 ∨ x = 2 := (by simp at hx; omega); constructor <;> omega)
    fun i hi => match i, hi with
      | 0, _ => rfl
      | 1, _ => rfl
      | 2, _ => rfl
      | 3, _ => rfl
      | 4, _ => rfl
set_option maxHeartbeats 1600000 in
theorem zknown_any (w : World) : Calls Try.prog 8 #[] w fun e w' => e = .returned (.bool true) ∧ Below w.heap.size w w' := by
  go_enter Try.func8, Try.ntmps8
  go_wp2_with (first | (go_at_call 19; refine (nbr_known _).mono ?_; rintro e w1 ⟨rfl, hb1⟩; have HB1 := Lib.hid hb1; clear hb1) | (go_at_call 20; refine (shapes_known _).mono ?_; rintro e w2 ⟨u, rfl, hu, hb2⟩; obtain ⟨au, cu, rfl⟩ := hu.shape; obtain ⟨b, off, cs, rfl, hlb, hbw, _, hcell, v0, rfl, hv0⟩ := hu.at 0 (by simp); obtain ⟨a0, c0, rfl⟩ := hv0.shape; have g0 := hcell 0 (by omega); have HB2 := Lib.hid (Zg HB1.out hb2); have HV := Lib.hid hv0; simp only [Nat.zero_mul, Nat.add_zero, List.getElem?_cons_zero] at g0; clear hcell hv0 hu hb2) | (go_at_call 14; refine (SameInts_any (HV.out.below (by go_grown)) (lit5 (ZS _ _ (by go_size)))).mono ?_; rintro e w3 ⟨rfl, hb3⟩))
  go_ret
  exact ⟨rfl, Zg HB2.out (Below.trans (by go_grown) (hb3.mono (by go_size)))⟩
end Go.Proofs.Ytoefmdjgnabgfaa

namespace Go.Proofs.Ytoefmdjgnabgfaa
open Go.RowKit Go.Deep
variable {J : World → Prop}
namespace Sh
abbrev InOk (xs : List Int) : Prop := ∀ x ∈ xs, I64 x
section
variable {P : Program} {f : FuncId}
theorem ctr2 {A B u : AV} (H : ∀ (w : World) (v v' : Value), (∀ w', Below w.heap.size w w' → J w') → Pu (fun _ => True) w (fun b => b < w.heap.size) A v → Pu (fun _ => True) w (fun b => b < w.heap.size) B v' → Calls P f #[v, v'] w fun e w' => ∃ v, e = .returned v ∧ Pu (w.heap.size ≤ ·) w' (nw w' w.heap.size) u v ∧ Below w.heap.size w w') : Ctr P J f [A, B] u := fun w vs hJ hl hv => by
  obtain ⟨v, v', rfl⟩ : ∃ v v', vs = #[v, v'] := by
    match vs, hl with
    | ⟨[v, v']⟩, _ => exact ⟨v, v', rfl⟩
  exact H w v v' hJ (hv 0 (by simp)) (hv 1 (by simp))
theorem ret_sc {w : World} {r : Value} {e : Ending} {w' : World} (h : e = .returned r ∧ Below w.heap.size w w') : ∃ v, e = .returned v ∧ Pu (w.heap.size ≤ ·) w' (nw w' w.heap.size) (.v r) v ∧ Below w.heap.size w w' := ⟨r, h.1, .v r, h.2⟩
end
theorem zknown_c : Ctr Try.prog J 8 [] (bv true) := fun w vs _ hl _ => by
  have : vs = #[] := Array.eq_empty_of_size_eq_zero (by simpa using hl)
  subst this
  exact (zknown_any w).mono fun _ _ => ret_sc
end Sh
end Go.Proofs.Ytoefmdjgnabgfaa

namespace Go.Proofs.Ytoefmdjgnabgfaa
open Go.RowKit Go.Deep
variable {J : World → Prop}
structure RuLen (r : Ru) : Prop where
  resp : r.resp.length ≤ 17592186044416
  guards : r.guards.length ≤ 1000000000
  ex : r.ex.length ≤ 17592186044416
  fa : r.fa.length ≤ 17592186044416
  send : r.send.length ≤ 17592186044416
  left : r.left.length ≤ 17592186044416
  right : r.right.length ≤ 17592186044416
  parent : r.parent.length ≤ 17592186044416
end Go.Proofs.Ytoefmdjgnabgfaa

namespace Go.Proofs.Ytoefmdjgnabgfaa
open Go.RowKit Go.Deep
structure FamLen (q : Fm) : Prop where
  states : q.states.length ≤ 60
  msgs : q.msgs.length ≤ 60
  vals : q.vals.length ≤ 60
  res : q.res.length ≤ 60
  init : q.init.length ≤ 60
  leader : q.leader.length ≤ 60
  lrules : q.rules.length ≤ 30
  rules : ∀ r ∈ q.rules, RuLen r
theorem famLen {q : Fm} (h : bigF q = false) : FamLen q := by
  unfold bigF at h
  simp only [Bool.or_eq_false_iff, decide_eq_false_iff_not] at h
  obtain ⟨⟨⟨⟨⟨⟨⟨⟨⟨⟨⟨h0, h1⟩, h2⟩, h3⟩, h4⟩, h5⟩, h6⟩, h7⟩, h8⟩, _⟩, _⟩, _⟩ := h
  refine ⟨by omega, by omega, by omega, by omega, by omega, by omega, by omega, fun r hr => ?_⟩
  unfold bigRk at h8
  rw [List.take_length, List.any_eq_false] at h8
  have h9 := h8 r hr
  have h10 : bigR r = false := by simpa using h9
  unfold bigR at h10
  simp only [Bool.or_eq_false_iff, decide_eq_false_iff_not] at h10
  obtain ⟨⟨⟨⟨⟨⟨⟨⟨_, a1⟩, a2⟩, a3⟩, a4⟩, a5⟩, a6⟩, a7⟩, a8⟩ := h10
  exact ⟨by omega, by omega, by omega, by omega, by omega, by omega, by omega, by omega⟩
end Go.Proofs.Ytoefmdjgnabgfaa

namespace Go.Proofs.Ytoefmdjgnabgfaa
open Go.RowKit Go.Deep
variable {J : World → Prop}
theorem eqI_self (xs : List Int) : eqI xs xs = true := by unfold eqI; simp
theorem sameInts_c (xs : List Int) (hx : InOk xs) : Ctr Try.prog J 14 [Zc xs, Zc xs] (bv true) := ctr2 fun w v v' _ h h' => by
  have := SameInts_any (Ya hx lo0 h) (Ya hx lo0 h')
  rw [eqI_self] at this
  exact this.mono fun _ _ => ret_sc
end Go.Proofs.Ytoefmdjgnabgfaa

namespace Go.Proofs.Ytoefmdjgnabgfaa
open Go.RowKit Go.Deep
end Go.Proofs.Ytoefmdjgnabgfaa

namespace Go.Proofs.Ytoefmdjgnabgfaa
open Go.RowKit Go.Deep
deriving instance DecidableEq for Ru
deriving instance DecidableEq for Fm
section
variable {α : Type} {xs ys : List α} {k : Nat}
variable [DecidableEq α]
end
section
variable {P : Program} {J : World → Prop} {o : Oper}
end
variable {J : World → Prop}
structure SP (r s : Ru) : Prop where
  n9 : [r.kind, r.frm, r.to, r.pf, r.pt, r.rd, r.wr, r.pos, r.dir] = [s.kind, s.frm, s.to, s.pf, s.pt, s.rd, s.wr, s.pos, s.dir]
  resp : r.resp = s.resp
  guards : r.guards = s.guards
  ex : r.ex = s.ex
  fa : r.fa = s.fa
  send : r.send = s.send
  left : r.left = s.left
  right : r.right = s.right
  parent : r.parent = s.parent
end Go.Proofs.Ytoefmdjgnabgfaa

namespace Go.Proofs.Ytoefmdjgnabgfaa
open Go.RowKit Go.Deep
set_option maxHeartbeats 800000 in
theorem sCompare_full (b off n cap b' off' n' cap' : Nat) (w : World) (xs ys : List Int) (hx : xs.length = n) (hy : ys.length = n') (hn : n ≤ 9223372036854775807)
    (hc : ∀ i, i < n → w.cell? ⟨b, off + i, none⟩ = some (.int .i64 (xs.getD i 0))) (hc' : ∀ i, i < n' → w.cell? ⟨b', off' + i, none⟩ = some (.int .i64 (ys.getD i 0))) :
    Calls Try.prog 31 #[.slice (some ⟨b, off, none⟩) n cap, .slice (some ⟨b', off', none⟩) n' cap'] w fun e w' => e = .returned (.int .i64 (cmpI xs ys)) ∧ w = w' := by
  go_enter Try.func31, Try.ntmps31
  go_wp2_with fail
  go_loop [11] (fun v => ∃ k : Nat, k ≤ n ∧ k ≤ n' ∧ v = .int .i64 k ∧ cmpI (xs.drop k) (ys.drop k) = cmpI xs ys) (fun v => n - (intOf v).toNat)
  case atStart => exact ⟨0, Nat.zero_le _, Nat.zero_le _, rfl, rfl⟩
  case round =>
    obtain ⟨k, hk, hk', rfl, hcm⟩ := hrel
    by_cases h1 : k < n
    · by_cases h2 : k < n'
      · have g1 := hc k h1
        have g2 := hc' k h2
        have HC : Hid (cmpI xs ys = (if xs[k]'(by omega) < ys[k]'(by omega) then -1 else if ys[k]'(by omega) < xs[k]'(by omega) then 1 else cmpI (xs.drop (k+1)) (ys.drop (k+1)))) := by
          show _ = _
          rw [← hcm, List.drop_eq_getElem_cons (l := xs) (by omega), List.drop_eq_getElem_cons (l := ys) (by omega), cmpI]
        clear hcm
        by_cases hlt : (xs[k]'(by omega)) < (ys[k]'(by omega))
        · have hN : cmpN (xs[k]'(by omega)) (ys[k]'(by omega)) = -1 := by simp [cmpN, hlt]
          have E : Hid (cmpI xs ys = -1) := by show _ = _; rw [HC.out, if_pos hlt]
          clear hlt
          go_wp2_with (go_at_call 32; refine (YK _ _ _).mono ?_; rintro e w' ⟨rfl, rfl⟩)
          go_ret
          exact ⟨Zo E.out.symm, rfl⟩
        by_cases hgt : (ys[k]'(by omega)) < (xs[k]'(by omega))
        · have hN : cmpN (xs[k]'(by omega)) (ys[k]'(by omega)) = 1 := by simp [cmpN, hlt, hgt]
          have E : Hid (cmpI xs ys = 1) := by show _ = _; rw [HC.out, if_neg hlt, if_pos hgt]
          clear hlt hgt
          go_wp2_with (go_at_call 32; refine (YK _ _ _).mono ?_; rintro e w' ⟨rfl, rfl⟩)
          go_ret
          exact ⟨Zo E.out.symm, rfl⟩
        have hN : cmpN (xs[k]'(by omega)) (ys[k]'(by omega)) = 0 := by simp [cmpN, hlt, hgt]
        have E : Hid (cmpI (xs.drop (k + 1)) (ys.drop (k + 1)) = cmpI xs ys) := by show _ = _; rw [HC.out, if_neg hlt, if_neg hgt]
        clear hlt hgt
        go_wp2_with (go_at_call 32; refine (YK _ _ _).mono ?_; rintro e w' ⟨rfl, rfl⟩)
        go_round
        case rel => exact ⟨k + 1, by omega, by omega, by go_num, E.out⟩
        case measure => simp [intOf]; omega
      have hd : ys.drop k = [] := List.drop_eq_nil_of_le (by omega)
      have HC : Hid (cmpI xs ys = 1) := by
        show _ = _
        rw [← hcm, hd, List.drop_eq_getElem_cons (by omega), cmpI]
      have g1 := hc k h1
      have hlt : n' ≤ k := by omega
      clear hcm hd
      go_wp2_with fail
      go_ret
      exact ⟨Zo HC.out.symm, rfl⟩
    have hkn : k = n := by omega
    have hd : xs.drop k = [] := List.drop_eq_nil_of_le (by omega)
    by_cases h2 : n < n'
    · have HC : Hid (cmpI xs ys = -1) := by
        show _ = _
        rw [← hcm, hd, List.drop_eq_getElem_cons (by omega), cmpI]
      clear hcm hd hkn
      go_wp2_with fail
      go_ret
      exact ⟨Zo HC.out.symm, rfl⟩
    have HC : Hid (cmpI xs ys = 0) := by
      show _ = _
      rw [← hcm, hd, List.drop_eq_nil_of_le (by omega), cmpI]
    clear hcm hd hkn
    go_wp2_with fail
    go_ret
    exact ⟨Zo HC.out.symm, rfl⟩
theorem sCompare_left (a a' : Option Addr) (cap n' cap' : Nat) (w : World) (ys : List Int) (hy : ys.length = n') :
    Calls Try.prog 31 #[.slice a 0 cap, .slice a' n' cap'] w fun e w' => e = .returned (.int .i64 (cmpI [] ys)) ∧ w = w' := by
  have HC : Hid (cmpI [] ys = if 0 < n' then -1 else 0) := by
    show _ = _
    cases ys <;> simp_all [cmpI] <;> omega
  by_cases h2 : 0 < n'
  · go_enter Try.func31, Try.ntmps31
    go_wp2_with fail
    go_rounds 1
    go_ret
    exact ⟨Zo (by rw [HC.out, if_pos h2]), rfl⟩
  obtain rfl : n' = 0 := by omega
  clear h2
  go_enter Try.func31, Try.ntmps31
  go_wp2_with fail
  go_rounds 1
  go_ret
  exact ⟨Zo (by rw [HC.out]; rfl), rfl⟩
theorem sCompare_right (b off n cap cap' : Nat) (a' : Option Addr) (w : World) (x : Int) (xs : List Int) (hx : (x :: xs).length = n) (hn : n ≤ 9223372036854775807) (hc : w.cell? ⟨b, off, none⟩ = some (.int .i64 x)) :
    Calls Try.prog 31 #[.slice (some ⟨b, off, none⟩) n cap, .slice a' 0 cap'] w fun e w' => e = .returned (.int .i64 (cmpI (x :: xs) [])) ∧ w = w' := by
  have h2 : 0 < n := by simp at hx; omega
  clear hx
  go_enter Try.func31, Try.ntmps31
  go_wp2_with fail
  go_rounds 1
  go_ret
  exact ⟨rfl, rfl⟩
theorem Kl {lo lo' : Nat} {w : World} {v v' : Value} {xs ys : List Int} (h : IsInts lo w v xs) (h' : IsInts lo' w v' ys) :
    Calls Try.prog 31 #[v, v'] w fun e w' => e = .returned (.int .i64 (cmpI xs ys)) ∧ w = w' := by
  obtain ⟨a, cap, rfl, hl, hm, hi, hc⟩ := h
  obtain ⟨a', cap', rfl, hl', hm', hi', hc'⟩ := h'
  unfold maxLen at hm hm'
  rcases hc with rfl | ⟨b, off, rfl, _, _, hc⟩
  · exact sCompare_left _ _ _ _ _ _ _ rfl
  rcases hc' with rfl | ⟨b', off', rfl, _, _, hc'⟩
  · cases xs with
    | nil => exact sCompare_left _ _ _ _ _ _ _ rfl
    | cons x xs => exact sCompare_right _ _ _ _ _ _ _ _ _ rfl (by omega) (by simpa using hc 0 (by simp))
  exact sCompare_full _ _ _ _ _ _ _ _ _ _ _ rfl rfl (by omega) hc hc'
end Go.Proofs.Ytoefmdjgnabgfaa

namespace Go.Proofs.Ytoefmdjgnabgfaa
open Go.RowKit Go.Deep
structure Cf where
  sh : List Int
  st : List Int
  cor : Int
  se : List Int
  fa : List Int
  val : Int
def IsCf (lo : Nat) (w : World) (v : Value) (q : Cf) : Prop :=
  ∃ u0 u1 u3 u4, v = .agg #[u0, u1, .int .i64 q.cor, u3, u4, .int .i64 q.val] ∧ IsInts lo w u0 q.sh ∧ IsInts lo w u1 q.st ∧ I64 q.cor ∧ IsInts lo w u3 q.se ∧ IsInts lo w u4 q.fa ∧ I64 q.val
theorem IsCf.below {lo : Nat} {w w' : World} {v : Value} {q : Cf} (h : IsCf lo w v q) (hb : Below w.heap.size w w') : IsCf lo w' v q := by
  obtain ⟨u0, u1, u3, u4, e, h0, h1, h2, h3, h4, h5⟩ := h
  exact ⟨u0, u1, u3, u4, e, h0.below hb, h1.below hb, h2, h3.below hb, h4.below hb, h5⟩
def cmpCf (a b : Cf) : Int := orL [cmpI a.sh b.sh, cmpI a.st b.st, cmpI a.se b.se, cmpI a.fa b.fa, cmpN a.cor b.cor, cmpN a.val b.val]
set_option maxRecDepth 100000 in
set_option maxHeartbeats 1600000 in
theorem cfCompare_any {lo lo' : Nat} {w : World} {v v' : Value} {p q : Cf} (h : IsCf lo w v p) (h' : IsCf lo' w v' q) :
    Calls Try.prog 13 #[v, v'] w fun e w' => e = .returned (.int .i64 (cmpCf p q)) ∧ Below w.heap.size w w' := by
  obtain ⟨u0, u1, u3, u4, rfl, h0, h1, _, h3, h4, _⟩ := h
  obtain ⟨v0, v1, v3, v4, rfl, k0, k1, _, k3, k4, _⟩ := h'
  obtain ⟨a0, c0, rfl⟩ := h0.shape
  obtain ⟨a1, c1, rfl⟩ := h1.shape
  obtain ⟨a3, c3, rfl⟩ := h3.shape
  obtain ⟨a4, c4, rfl⟩ := h4.shape
  obtain ⟨b0, d0, rfl⟩ := k0.shape
  obtain ⟨b1, d1, rfl⟩ := k1.shape
  obtain ⟨b3, d3, rfl⟩ := k3.shape
  obtain ⟨b4, d4, rfl⟩ := k4.shape
  have H0 := Lib.hid h0
  have H1 := Lib.hid h1
  have H3 := Lib.hid h3
  have H4 := Lib.hid h4
  have K0 := Lib.hid k0
  have K1 := Lib.hid k1
  have K3 := Lib.hid k3
  have K4 := Lib.hid k4
  clear h0 h1 h3 h4 k0 k1 k3 k4
  go_enter Try.func13, Try.ntmps13
  go_wp2_with fail
  obtain ⟨W, hW⟩ : ∃ W, W = (w.alloc (.cells #[.slice a0 p.sh.length c0, .slice a1 p.st.length c1, .int .i64 p.cor, .slice a3 p.se.length c3, .slice a4 p.fa.length c4, .int .i64 p.val] 32)).alloc (.cells #[.slice b0 q.sh.length d0, .slice b1 q.st.length d1, .int .i64 q.cor, .slice b3 q.se.length d3, .slice b4 q.fa.length d4, .int .i64 q.val] 32) := ⟨_, rfl⟩
  rw [← hW]
  have HB := Lib.hid (show Below w.heap.size w W by rw [hW]; show Below _ _ _; go_grown)
  have x0 : W.drew.cell? ⟨w.heap.size, 0, none⟩ = some (.slice a0 p.sh.length c0) := by rw [hW]; show World.cell? (World.alloc _ _) _ = _; exact keep1 ((Zp w _ _ 0 rfl).trans rfl) (Ze _ _)
  have x1 : W.drew.cell? ⟨w.heap.size, 1, none⟩ = some (.slice a1 p.st.length c1) := by rw [hW]; show World.cell? (World.alloc _ _) _ = _; exact keep1 ((Zp w _ _ 1 rfl).trans rfl) (Ze _ _)
  have x2 : W.drew.cell? ⟨w.heap.size, 2, none⟩ = some (.int .i64 p.cor) := by rw [hW]; show World.cell? (World.alloc _ _) _ = _; exact keep1 ((Zp w _ _ 2 rfl).trans rfl) (Ze _ _)
  have x3 : W.drew.cell? ⟨w.heap.size, 3, none⟩ = some (.slice a3 p.se.length c3) := by rw [hW]; show World.cell? (World.alloc _ _) _ = _; exact keep1 ((Zp w _ _ 3 rfl).trans rfl) (Ze _ _)
  have x4 : W.drew.cell? ⟨w.heap.size, 4, none⟩ = some (.slice a4 p.fa.length c4) := by rw [hW]; show World.cell? (World.alloc _ _) _ = _; exact keep1 ((Zp w _ _ 4 rfl).trans rfl) (Ze _ _)
  have x5 : W.drew.cell? ⟨w.heap.size, 5, none⟩ = some (.int .i64 p.val) := by rw [hW]; show World.cell? (World.alloc _ _) _ = _; exact keep1 ((Zp w _ _ 5 rfl).trans rfl) (Ze _ _)
  have y0 : W.drew.cell? ⟨w.heap.size + 1, 0, none⟩ = some (.slice b0 q.sh.length d0) := by rw [hW]; exact (Zp _ _ _ 0 (by simp)).trans rfl
  have y1 : W.drew.cell? ⟨w.heap.size + 1, 1, none⟩ = some (.slice b1 q.st.length d1) := by rw [hW]; exact (Zp _ _ _ 1 (by simp)).trans rfl
  have y2 : W.drew.cell? ⟨w.heap.size + 1, 2, none⟩ = some (.int .i64 q.cor) := by rw [hW]; exact (Zp _ _ _ 2 (by simp)).trans rfl
  have y3 : W.drew.cell? ⟨w.heap.size + 1, 3, none⟩ = some (.slice b3 q.se.length d3) := by rw [hW]; exact (Zp _ _ _ 3 (by simp)).trans rfl
  have y4 : W.drew.cell? ⟨w.heap.size + 1, 4, none⟩ = some (.slice b4 q.fa.length d4) := by rw [hW]; exact (Zp _ _ _ 4 (by simp)).trans rfl
  have y5 : W.drew.cell? ⟨w.heap.size + 1, 5, none⟩ = some (.int .i64 q.val) := by rw [hW]; exact (Zp _ _ _ 5 (by simp)).trans rfl
  have HD := Lib.hid (show Below w.heap.size w W.drew from HB.out.trans ((drewBelow W).mono HB.out.size))
  clear hW
  refine wp_region_still_tail 30 (by kernel_rfl) (by kernel_rfl) ?_
  simp only [List.take_succ_cons, List.take_zero, List.drop_succ_cons, List.drop_zero]
  change wpStill _ _ W.drew _ _ _
  iterate 4 still_step
  still_call ((Kl (H0.out.below HD.out) (K0.out.below HD.out)).mono fun _ _ hh => ⟨hh.1, hh.2.symm⟩)
  iterate 4 still_step
  still_call ((Kl (H1.out.below HD.out) (K1.out.below HD.out)).mono fun _ _ hh => ⟨hh.1, hh.2.symm⟩)
  iterate 4 still_step
  still_call ((Kl (H3.out.below HD.out) (K3.out.below HD.out)).mono fun _ _ hh => ⟨hh.1, hh.2.symm⟩)
  iterate 4 still_step
  still_call ((Kl (H4.out.below HD.out) (K4.out.below HD.out)).mono fun _ _ hh => ⟨hh.1, hh.2.symm⟩)
  iterate 4 still_step
  still_call ((YK _ _ _).mono fun _ _ hh => ⟨hh.1, hh.2.symm⟩)
  iterate 4 still_step
  still_call ((YK _ _ _).mono fun _ _ hh => ⟨hh.1, hh.2.symm⟩)
  refine wpStill_nil ?_
  go_wp2_with (go_at_call 30; refine (Or_block [cmpI p.sh q.sh, cmpI p.st q.st, cmpI p.se q.se, cmpI p.fa q.fa, cmpN p.cor q.cor, cmpN p.val q.val] (by exact ZS W _ rfl) (by rfl) (by rfl) (by simp)).mono ?_; rintro e w1 ⟨rfl, rfl⟩)
  go_ret
  exact ⟨rfl, Zg HB.out (Ze W _).drew⟩
end Go.Proofs.Ytoefmdjgnabgfaa

namespace Go.Proofs.Ytoefmdjgnabgfaa
open Go.RowKit Go.Deep
variable {J : World → Prop}
section
variable {P : Program} {o : Oper}
theorem sp_makeZ {t e k bytes z : Nat} {zv : Value} (fr : Bool) {kl kc : IntKind} {n : Nat} {x y : Operand} (ho : o.op = .makeSlice t x y) (hu : P.underlying t = some (.slice e)) (hi : (P.info? e).map (fun i => (i.size, i.bytes, i.zero)) = some (z, bytes, some zv)) (hz : zv.cells.size = z) (h0 : 0 < z)
    (hb : bytes * n ≤ 281474976710656) (h63 : n ≤ maxLen) {cs : List AV} (hcs : (List.range (n * z)).map (fun j => AV.v (zv.cells.getD (j % z) undef)) = cs) :
    ASpec P J o [(x, .v (.int kl (n : Int))), (y, .v (.int kc (n : Int)))] [] (.own k) (.new k (.row fr e z n cs)) :=
  aspec_new fun ρ B a w _ hB ha _ hk => by
    subst hcs
    obtain ⟨i, hi1, hi2⟩ := Option.map_eq_some_iff.1 hi
    simp only [Prod.mk.injEq] at hi2
    obtain ⟨e1, e2, e3⟩ := hi2
    have hx := (ha (x, .v (.int kl (n : Int))) (by simp)).v_inv
    have hy := (ha (y, .v (.int kc (n : Int))) (by simp)).v_inv
    have hsz : (madeCells zv.cells (n * z)).size = n * z := size_madeCells _ _
    have hget : ∀ j, j < n * z → (madeCells zv.cells (n * z))[j]? = some (zv.cells.getD (j % z) undef) := fun j hj => by
      have hlt : j % zv.cells.size < zv.cells.size := Nat.mod_lt _ (by omega)
      have hlt' : j % z < zv.cells.size := by rw [← hz]; exact hlt
      subst hz
      simp [madeCells, hj, Array.getD, hlt]
    have hrun := run_make (P := P) w t e i zv hu hi1 e3 kl kc n n (by omega) (by omega) (by rw [e2]; have := hb; omega) (by have := h63; simp only [maxLen] at this; omega)
    simp only [Int.toNat_natCast, e1] at hrun
    refine ⟨_, n, n, madeCells zv.cells (n * z), e, ?_, .own (nm := .at w.heap.size n n) (Yj _ _ _), (madeCells zv.cells (n * z)).toList, ⟨by simp [hsz], .inr ⟨w.heap.size, n, madeCells zv.cells (n * z), rfl, rowB_le hB, heap_alloc_new w _, Nat.le_refl _, h63, hsz, by rw [List.take_of_length_le]; simp [hsz]⟩⟩, by simp [hsz], fun j hj => ?_⟩
    · simp only [execOp, ho, hx, hy]
      exact Yq hrun
    have hj' : j < n * z := by simpa using hj
    have : (madeCells zv.cells (n * z)).toList.getD j undef = zv.cells.getD (j % z) undef := by
      rw [List.getD_eq_getElem?_getD, Array.getElem?_toList, hget j hj']; rfl
    rw [this]
    simp only [List.getElem_map, List.getElem_range]
    exact .v _
end
theorem setAll_mid (ds : List AV) : ∀ (A C D : List AV), C.length = ds.length → setAll (A ++ C ++ D) A.length ds = A ++ ds ++ D := by
  induction ds with
  | nil => intro A C D h; rw [List.eq_nil_of_length_eq_zero h]; rfl
  | cons d ds ih =>
    intro A C D h
    cases C with
    | nil => cases h
    | cons c C =>
      rw [setAll]
      have e : (A ++ c :: C ++ D).set A.length d = (A ++ [d]) ++ C ++ D := by
        rw [List.append_assoc, List.set_append_right _ _ (Nat.le_refl _)]
        simp
      rw [e]
      have := ih (A ++ [d]) C D (by simpa using h)
      simp only [List.length_append, List.length_cons, List.length_nil, Nat.zero_add] at this
      rw [this]
      simp
end Go.Proofs.Ytoefmdjgnabgfaa

namespace Go.Proofs.Ytoefmdjgnabgfaa
open Go.RowKit Go.Deep
variable {J : World → Prop}
end Go.Proofs.Ytoefmdjgnabgfaa

namespace Go.Proofs.Ytoefmdjgnabgfaa
open Go.RowKit Go.Deep
variable {J : World → Prop}
namespace Ns
def lk3 (top c i : Int) : List AV := [iv (rowL top c i).1, iv (rowL top c i).2.1, iv (rowL top c i).2.2]
def lkZ (top : Int) (n k : Nat) : List AV := (List.range k).flatMap (fun i : Nat => lk3 top n i) ++ (List.replicate (n - k) [iv 0, iv 0, iv 0]).flatten
theorem lkZ_zero (top : Int) (n : Nat) : (List.range (n * 3)).map (fun j => AV.v ((#[Value.int .i64 0, Value.int .i64 0, Value.int .i64 0] : Array Value).getD (j % 3) undef)) = lkZ top n 0 := by
  unfold lkZ
  rw [List.range_zero, List.flatMap_nil, List.nil_append, Nat.sub_zero]
  induction n with
  | zero => rfl
  | succ m ih =>
    rw [show (m + 1) * 3 = m * 3 + 1 + 1 + 1 by omega, List.range_succ, List.range_succ, List.range_succ, List.map_append, List.map_append, List.map_append, ih, List.replicate_succ', List.flatten_append]
    have e1 : (m * 3) % 3 = 0 := by omega
    have e2 : (m * 3 + 1) % 3 = 1 := by omega
    have e3 : (m * 3 + 1 + 1) % 3 = 2 := by omega
    simp [e2, e3]
theorem lkZ_pre (top : Int) (n : Nat) : ∀ k, ((List.range k).flatMap (fun i : Nat => lk3 top n i)).length = k * 3
  | 0 => rfl
  | k + 1 => by rw [List.range_succ, List.flatMap_append, List.length_append, lkZ_pre top n k]; simp [lk3]; omega
theorem lkZ_len {top : Int} {n k : Nat} (h : k ≤ n) : (lkZ top n k).length = n * 3 := by
  unfold lkZ
  rw [List.length_append, lkZ_pre, List.length_flatten]
  simp
  omega
theorem lkZ_step {top : Int} {n k : Nat} (h : k < n) : setAll (lkZ top n k) (k * 3) (YM true (lk3 top n k)) = lkZ top n (k + 1) := by
  unfold lkZ
  have e : n - k = (n - (k + 1)) + 1 := by omega
  rw [e, List.replicate_succ, List.flatten_cons]
  have := setAll_mid (YM true (lk3 top n k)) ((List.range k).flatMap (fun i : Nat => lk3 top n i)) [iv 0, iv 0, iv 0] (List.replicate (n - (k + 1)) [iv 0, iv 0, iv 0]).flatten rfl
  rw [lkZ_pre, List.append_assoc] at this
  rw [this, List.range_succ, List.flatMap_append]
  simp [YM, AV.unfr, lk3]
def lkT (xs : List Int) : AV := .sl 3 xs.length ((List.range (xs.length * 3)).map fun j => iv (cf (trun xs xs.length) j))
theorem treeLinks_c {xs : List Int} (hI : InOk xs) (h0 : 0 < xs.length) (h1 : xs.length ≤ 100) : Ctr Try.prog J 40 [Zc xs] (lkT xs) := ctr1 fun w v _ h => by
  have hi := Ya hI (fun _ _ => Nat.zero_le _) h
  obtain ⟨a, cap, rfl, _, _, _, hc⟩ := hi
  rcases hc with rfl | ⟨b, off, rfl, _, hb, hc⟩
  · simp at h0
  refine (treeLinks_full b off xs.length cap w xs rfl h1 h0 hc).mono fun _ w' ⟨g, he, ho, hb⟩ => ⟨_, he, ?_, hb⟩
  obtain ⟨h2, cur, t, hg, hcur⟩ := ho
  refine .sl (b := g) (off := 0) (f := fun j => .int .i64 (cf (trun xs xs.length) j)) (by simp) (Nat.le_refl _) (by unfold maxLen; omega) ⟨h2, _, _, hg⟩ (Array.getElem?_eq_some_iff.1 hg).1 (fun j hj => ?_) fun j hj => ?_
  · have hj' : j < xs.length * 3 := by simpa using hj
    rw [Nat.zero_add, ZF hg j (v := .int .i64 (cf (trun xs xs.length) j)) (hcur j hj')]
  simp only [List.getElem_map, List.getElem_range]
  exact .v _
def cntE (p : Fm) (n f : Int) : Int := if p.fault = 3 then n - f else n
end Ns
end Go.Proofs.Ytoefmdjgnabgfaa

namespace Go.Proofs.Ytoefmdjgnabgfaa
open Go.RowKit Go.Deep
variable {J : World → Prop}
namespace Rd
def ixP {α : Type} (l : List α) (p : α → Bool) : Int := match l.findIdx? p with | some i => (i : Int) | none => -1
def noP {α : Type} (l : List α) (p : α → Bool) (k : Nat) : Prop := ∀ i (h : i < l.length), i < k → p l[i] = false
theorem noP_zero {α : Type} (l : List α) (p : α → Bool) : noP l p 0 := fun _ _ h => absurd h (by omega)
theorem noP_succ {α : Type} {l : List α} {p : α → Bool} {k : Nat} (hk : k < l.length) (h : noP l p k) (e : p l[k] = false) : noP l p (k + 1) := fun i a b => by
  by_cases hi : i < k
  · exact h i a hi
  obtain rfl : i = k := by omega
  exact e
theorem ixP_at {α : Type} {l : List α} {p : α → Bool} {k : Nat} (hk : k < l.length) (h : noP l p k) (e : p l[k] = true) : ixP l p = ((k : Nat) : Int) := by
  unfold ixP
  rw [List.findIdx?_eq_some_iff_getElem.2 ⟨hk, e, fun j hj => by simp [h j (by omega) hj]⟩]
theorem ixP_none {α : Type} {l : List α} {p : α → Bool} {k : Nat} (hk : ¬ k < l.length) (h : noP l p k) : ixP l p = -1 := by
  unfold ixP
  rw [List.findIdx?_eq_none_iff.2 fun x hx => by
    obtain ⟨i, hi, rfl⟩ := List.mem_iff_getElem.1 hx
    exact h i hi (by omega)]
theorem anyP_ix {α : Type} (l : List α) (p : α → Bool) : decide (0 ≤ ixP l p) = l.any p := by
  unfold ixP
  cases hf : l.findIdx? p with
  | none =>
    rw [List.findIdx?_eq_none_iff] at hf
    have : l.any p = false := by simpa using hf
    simp [this]
  | some i =>
    obtain ⟨hi, h1, _⟩ := List.findIdx?_eq_some_iff_getElem.1 hf
    have : l.any p = true := List.any_eq_true.2 ⟨_, List.getElem_mem hi, h1⟩
    simp [this]
def outB (m x : Int) : Bool := decide (x < 0) || decide (m ≤ x)
theorem outB_lo {m x : Int} (h : x < 0) : outB m x = true := by unfold outB; simp [h]
theorem outB_hi {m x : Int} (h : ¬ x < 0) : outB m x = decide (m ≤ x) := by unfold outB; simp [h]
def belB (l : List Int) (m : Int) : Bool := !l.any (outB m)
def cCg (c : Cf) : List AV := [Zc c.sh, Zc c.st, iv c.cor, Zc c.se, Zc c.fa, iv c.val]
structure CgOk (c : Cf) : Prop where
  sh : InOk c.sh
  st : InOk c.st
  se : InOk c.se
  fa : InOk c.fa
  lsh : c.sh.length ≤ 100
  lst : c.st.length ≤ 100
  lse : c.se.length ≤ 100
  lfa : c.fa.length ≤ 100
theorem plain_cg (c : Cf) : ∀ X ∈ cCg c, Plain X := by
  intro X hX
  simp only [cCg, List.mem_cons, List.not_mem_nil, or_false] at hX
  rcases hX with rfl | rfl | rfl | rfl | rfl | rfl <;> first | exact .v _ | exact ZI _
def mfE (p : Fm) : Int := if p.fault = 1 ∨ p.fault = 2 then 1048577 else 1
def rdB (p : Fm) (cnt cor : Int) (c : Cf) (b : Bool) : Bool :=
  b && decide (((c.st.length : Nat) : Int) = cnt) && belB c.st ((p.states.length : Nat) : Int) && decide (c.cor = cor) && decide (((c.se.length : Nat) : Int) = ((p.msgs.length : Nat) : Int)) && belB c.se 1048577 &&
  decide (((c.fa.length : Nat) : Int) = ((p.msgs.length : Nat) : Int)) && belB c.fa (mfE p) && !decide (c.val < 0) && !decide (max ((p.vals.length : Nat) : Int) 1 ≤ c.val)
def zz (b : Bool) (x : Int) : Int := if b = true then x else 0
end Rd
end Go.Proofs.Ytoefmdjgnabgfaa

namespace Go.Proofs.Ytoefmdjgnabgfaa
open Go.RowKit Go.Deep
variable {J : World → Prop}
namespace Rd
end Rd
end Go.Proofs.Ytoefmdjgnabgfaa

namespace Go.Proofs.Ytoefmdjgnabgfaa
open Go.RowKit Go.Deep
namespace Ct
def plB (p : Fm) (c : Cf) : Bool := Rd.belB c.st ((p.states.length : Nat) : Int) && (decide (0 ≤ c.cor) && decide (c.cor ≤ ((c.st.length : Nat) : Int)))
def ctE (p : Fm) (c : Cf) : Int := if valE p = 0 then (if plB p c = true then 0 else 1) else valE p
theorem ctE_v {p : Fm} {c : Cf} (h : ¬ valE p = 0) : ctE p c = valE p := if_neg h
theorem ctE_n {p : Fm} {c : Cf} (h : valE p = 0) (h' : plB p c = false) : ctE p c = 1 := by unfold ctE; rw [if_pos h, h']; rfl
theorem ctE_o {p : Fm} {c : Cf} (h : valE p = 0) (h' : plB p c = true) : ctE p c = 0 := by unfold ctE; rw [if_pos h, h']; rfl
theorem ctE_ne {p : Fm} {c : Cf} (h : ¬ (valE p = 0 ∧ plB p c = true)) : ¬ ctE p c = 0 := by
  unfold ctE
  split
  · rename_i hv
    rw [if_neg fun h' => h ⟨hv, h'⟩]; decide
  assumption
theorem bel_at {xs : List Int} {m : Int} (h : Rd.belB xs m = true) {k : Nat} (hk : k < xs.length) : 0 ≤ xs[k] ∧ xs[k] < m := by
  unfold Rd.belB at h
  simp only [Bool.not_eq_true', List.any_eq_false] at h
  have := h _ (List.getElem_mem hk)
  unfold Rd.outB at this
  simp at this
  omega
def bump (L : List Int) (x : Int) : List Int := L.set x.toNat (L.getD x.toNat 0 + 1)
def cnt (S : Nat) (xs : List Int) : List Int := xs.foldl bump (List.replicate S 0)
theorem bump_len (L : List Int) (x : Int) : (bump L x).length = L.length := by simp [bump]
theorem fold_len (xs : List Int) : ∀ L : List Int, (xs.foldl bump L).length = L.length := by
  induction xs with
  | nil => intro L; rfl
  | cons x xs ih => intro L; rw [List.foldl_cons, ih, bump_len]
theorem cnt_len (S : Nat) (xs : List Int) : (cnt S xs).length = S := by unfold cnt; rw [fold_len]; simp
theorem cnt_zero (S : Nat) (xs : List Int) : List.replicate S (AV.v (.int .i64 0)) = (cnt S (xs.take 0)).map iv := by simp [cnt, iv]
theorem cnt_succ {S : Nat} {xs : List Int} {k : Nat} (hk : k < xs.length) : cnt S (xs.take (k + 1)) = bump (cnt S (xs.take k)) xs[k] := by
  unfold cnt
  rw [List.take_succ_eq_append_getElem hk, List.foldl_append]
  rfl
theorem fold_le (xs : List Int) : ∀ (L : List Int) (b : Int), (∀ j, 0 ≤ L.getD j 0 ∧ L.getD j 0 ≤ b) → ∀ j, 0 ≤ (xs.foldl bump L).getD j 0 ∧ (xs.foldl bump L).getD j 0 ≤ b + xs.length := by
  induction xs with
  | nil => intro L b h j; have := h j; simp only [List.foldl_nil, List.length_nil]; omega
  | cons x xs ih =>
    intro L b h j
    rw [List.foldl_cons]
    have := ih (bump L x) (b + 1) (fun i => ?_) j
    · simp only [List.length_cons]; omega
    unfold bump
    have h1 := h x.toNat
    have h2 := h i
    rw [List.getD_eq_getElem?_getD, List.getElem?_set]
    split
    · split
      · simp only [Option.getD_some]; omega
      simp only [Option.getD_none]; omega
    rw [← List.getD_eq_getElem?_getD]; omega
theorem cnt_le (S : Nat) (xs : List Int) (j : Nat) : 0 ≤ (cnt S xs).getD j 0 ∧ (cnt S xs).getD j 0 ≤ xs.length := by
  have := fold_le xs (List.replicate S 0) 0 (fun i => ?_) j
  · unfold cnt; omega
  rw [List.getD_eq_getElem?_getD, List.getElem?_replicate]; split <;> simp
theorem cnt_step {S : Nat} {xs : List Int} {k : Nat} (hk : k < xs.length) : setAll ((cnt S (xs.take k)).map iv) xs[k].toNat [iv ((cnt S (xs.take k)).getD xs[k].toNat 0 + 1)] = (cnt S (xs.take (k + 1))).map iv := by
  rw [cnt_succ hk]
  unfold bump
  rw [List.map_set]
  rfl
theorem cnt_at {S : Nat} {xs : List Int} {i : Nat} (h : i < S) : ((cnt S xs).map iv)[i * 1]? = some (iv ((cnt S xs).getD i 0)) := by
  rw [Nat.mul_one]
  have hl : i < (cnt S xs).length := by rw [cnt_len]; exact h
  rw [List.getElem?_map, List.getD_eq_getElem?_getD, List.getElem?_eq_getElem hl]
  rfl
theorem cnt_ok {S : Nat} {xs : List Int} (h : xs.length ≤ 1000) : InOk (cnt S xs) := fun x hx => by
  obtain ⟨i, hi, rfl⟩ := List.mem_iff_getElem.1 hx
  have := cnt_le S xs i
  rw [List.getD_eq_getElem?_getD, List.getElem?_eq_getElem hi] at this
  simp only [Option.getD_some] at this
  unfold I64
  omega
theorem app_bel {A B : List Int} {m : Int} (h : Rd.belB (A ++ B) m = true) {k : Nat} (hk : k < A.length) : 0 ≤ A[k] ∧ A[k] < m := by
  have := bel_at h (k := k) (by rw [List.length_append]; omega)
  rwa [List.getElem_append_left hk] at this
def two (sh A B se fa : List Int) (val : Int) : Cf := ⟨sh, A ++ B, ((A.length : Nat) : Int), se, fa, val⟩
theorem two_pl {p : Fm} {sh A B se fa : List Int} {val : Int} : plB p (two sh A B se fa val) = Rd.belB (A ++ B) ((p.states.length : Nat) : Int) := by
  unfold plB two
  have h1 : decide ((0 : Int) ≤ ((A.length : Nat) : Int)) = true := decide_eq_true (by omega)
  have h2 : decide (((A.length : Nat) : Int) ≤ (((A ++ B).length : Nat) : Int)) = true := decide_eq_true (by rw [List.length_append]; omega)
  dsimp only
  rw [h1, h2, Bool.and_true, Bool.and_true]
theorem pl_two {p : Fm} {c : Cf} (h : plB p c = true) : ∃ sh A B se fa val, c = two sh A B se fa val := by
  obtain ⟨sh, st, cor, se, fa, val⟩ := c
  unfold plB at h
  simp only [Bool.and_eq_true, decide_eq_true_eq] at h
  obtain ⟨_, h1, h2⟩ := h
  refine ⟨sh, st.take cor.toNat, st.drop cor.toNat, se, fa, val, ?_⟩
  unfold two
  rw [List.take_append_drop, List.length_take, Nat.min_eq_left (by omega), Int.toNat_of_nonneg h1]
def ctL (p : Fm) (c : Cf) : List Int := if ctE p c = 0 then cnt p.states.length (c.st.take c.cor.toNat) else []
theorem ctL_n {p : Fm} {c : Cf} (h : ¬ ctE p c = 0) : ctL p c = [] := if_neg h
theorem ctL_o {p : Fm} {sh A B se fa : List Int} {val : Int} (h : valE p = 0) (h' : plB p (two sh A B se fa val) = true) : ctL p (two sh A B se fa val) = cnt p.states.length A := by
  unfold ctL
  rw [if_pos (ctE_o h h')]
  unfold two
  dsimp only
  rw [Int.toNat_natCast, List.take_left']
  rfl
theorem ctL_ok {p : Fm} {c : Cf} (HC : Rd.CgOk c) : InOk (ctL p c) := by
  unfold ctL
  split
  · exact cnt_ok (Nat.le_trans (List.length_take_le' _ _) (Nat.le_trans HC.lst (by decide)))
  exact fun x hx => (List.not_mem_nil hx).elim
theorem row_at {L : List Int} {i : Nat} (h : i < L.length) : (L.map iv)[i * 1]? = some (iv (L.getD i 0)) := by
  rw [Nat.mul_one, List.getElem?_map, List.getD_eq_getElem?_getD, List.getElem?_eq_getElem h]
  rfl
theorem getD_at {L : List Int} {i : Nat} (h : i < L.length) : L.getD i 0 = L[i] := by
  rw [List.getD_eq_getElem?_getD, List.getElem?_eq_getElem h]; rfl
def srt (xs : List Int) : List Int := xs.mergeSort fun x y => decide (x ≤ y)
theorem srt_perm (xs : List Int) : (srt xs).Perm xs := List.mergeSort_perm _ _
theorem srt_len (xs : List Int) : (srt xs).length = xs.length := (srt_perm xs).length_eq
theorem srt_pw (xs : List Int) : List.Pairwise (fun a b => a ≤ b) (srt xs) := by
  have := List.pairwise_mergeSort (le := fun x y : Int => decide (x ≤ y)) (fun a b c h1 h2 => by simp at *; omega) (fun a b => by simp; omega) xs
  exact this.imp fun h => by simpa using h
theorem srt_eq {xs L : List Int} (hp : L.Perm xs) (hs : ∀ a b, (h : a < b) → (hb : b < L.length) → L[a] ≤ L[b]) : L = srt xs :=
  List.Perm.eq_of_pairwise (le := fun a b : Int => a ≤ b) (fun a b _ _ h1 h2 => by omega) (List.pairwise_iff_getElem.2 fun i j _ hj hij => hs i j hij hj) (srt_pw xs) (hp.trans (srt_perm xs).symm)
theorem srt_ok {xs : List Int} (h : InOk xs) : InOk (srt xs) := fun x hx => h x ((srt_perm xs).mem_iff.1 hx)
def srtP (top : Int) (A B : List Int) : List Int := if top = 1 then srt A ++ srt B else A ++ B
theorem srtP_len (top : Int) (A B : List Int) : (srtP top A B).length = A.length + B.length := by
  unfold srtP; split <;> simp [srt_len]
def cnC (p : Fm) (c : Cf) : Cf := if ctE p c = 0 then ⟨c.sh, srtP p.top (c.st.take c.cor.toNat) (c.st.drop c.cor.toNat), c.cor, c.se, c.fa, c.val⟩ else ⟨[], [], 0, [], [], 0⟩
theorem cnC_n {p : Fm} {c : Cf} (h : ¬ ctE p c = 0) : cnC p c = ⟨[], [], 0, [], [], 0⟩ := if_neg h
theorem cnC_o {p : Fm} {sh A B se fa : List Int} {val : Int} (h : valE p = 0) (h' : plB p (two sh A B se fa val) = true) : cnC p (two sh A B se fa val) = ⟨sh, srtP p.top A B, ((A.length : Nat) : Int), se, fa, val⟩ := by
  unfold cnC
  rw [if_pos (ctE_o h h')]
  unfold two
  dsimp only
  rw [Int.toNat_natCast, List.take_left' rfl, List.drop_left' rfl]
theorem srtP_one {top : Int} {A B : List Int} (h : top = 1) : srt A ++ srt B = srtP top A B := (if_pos h).symm
theorem srtP_no {top : Int} {A B : List Int} (h : ¬ top = 1) : A ++ B = srtP top A B := (if_neg h).symm
theorem pt_y1 {A B : List Int} : ∀ j, j < A.length → ((A ++ B).map iv)[0 + j]? = some (iv (A.getD j 0)) := fun j h => by
  rw [Nat.zero_add, List.getElem?_map, List.getElem?_append_left h, List.getD_eq_getElem?_getD, List.getElem?_eq_getElem h]
  rfl
theorem pt_y2 {X B : List Int} {l : Nat} (hl : X.length = l) : ∀ j, j < B.length → ((X ++ B).map iv)[l + j]? = some (iv (B.getD j 0)) := fun j h => by
  rw [List.getElem?_map, List.getElem?_append_right (by omega), List.getD_eq_getElem?_getD, show l + j - X.length = j by omega, List.getElem?_eq_getElem h]
  rfl
theorem pt_d1 {A A' B : List Int} (h : A'.length = A.length) {n : Nat} : ∀ t, t < n → ((A' ++ B).map iv)[t]? = if 0 ≤ t ∧ t < 0 + A.length then some (iv (A'.getD (t - 0) 0)) else ((A ++ B).map iv)[t]? := fun t _ => by
  split
  · rename_i ht
    rw [List.getElem?_map, List.getElem?_append_left (by omega), List.getD_eq_getElem?_getD, Nat.sub_zero, List.getElem?_eq_getElem (by omega)]
    rfl
  rw [List.getElem?_map, List.getElem?_map, List.getElem?_append_right (by omega), List.getElem?_append_right (by omega), h]
theorem pt_d2 {X B B' : List Int} {l : Nat} (hl : X.length = l) (h : B'.length = B.length) {n : Nat} (hn : n = l + B.length) : ∀ t, t < n → ((X ++ B').map iv)[t]? = if l ≤ t ∧ t < l + B.length then some (iv (B'.getD (t - l) 0)) else ((X ++ B).map iv)[t]? := fun t ht => by
  split
  · rename_i hh
    rw [List.getElem?_map, List.getElem?_append_right (by omega), List.getD_eq_getElem?_getD, hl, List.getElem?_eq_getElem (by omega)]
    rfl
  rw [List.getElem?_map, List.getElem?_map, List.getElem?_append_left (by omega), List.getElem?_append_left (by omega)]
theorem srtP_ok {top : Int} {A B : List Int} (hA : InOk A) (hB : InOk B) : InOk (srtP top A B) := by
  unfold srtP
  split
  · intro x hx
    rcases List.mem_append.1 hx with h | h
    · exact srt_ok hA x h
    exact srt_ok hB x h
  intro x hx
  rcases List.mem_append.1 hx with h | h
  · exact hA x h
  exact hB x h
structure Ins (xs L : List Int) (i k : Nat) : Prop where
  perm : L.Perm xs
  le : k ≤ i
  ord : ∀ a b, (h1 : a < b) → b ≤ i → (hb : b < L.length) → a ≠ k → b ≠ k → L[a]'(by omega) ≤ L[b]
  low : ∀ b, (h1 : k < b) → b ≤ i → (hb : b < L.length) → L[k]'(by omega) < L[b]
structure Srd (xs L : List Int) (i : Nat) : Prop where
  perm : L.Perm xs
  ord : ∀ a b, (h1 : a < b) → b < i → (hb : b < L.length) → L[a]'(by omega) ≤ L[b]
theorem Srd.one (xs : List Int) : Srd xs xs 1 := ⟨List.Perm.refl _, fun a b h1 h2 _ => by omega⟩
theorem Ins.out {xs L : List Int} {i k : Nat} (h : Ins xs L i k) (hi : i < L.length) (hk : 0 < k → L[k - 1]'(by have := h.le; omega) ≤ L[k]'(by have := h.le; omega)) : Srd xs L (i + 1) := by
  have hle := h.le
  refine ⟨h.perm, fun a b h1 h2 hb => ?_⟩
  by_cases ea : a = k
  · subst ea; exact Int.le_of_lt (h.low b h1 (by omega) hb)
  by_cases eb : b = k
  · subst eb
    have h3 := hk (by omega)
    by_cases e : a = b - 1
    · subst e; exact h3
    exact Int.le_trans (h.ord a (b - 1) (by omega) (by omega) (by omega) ea (by omega)) h3
  exact h.ord a b h1 (by omega) hb ea eb
def swp (L : List Int) (k : Nat) : List Int := (L.set (k - 1) (L.getD k 0)).set k (L.getD (k - 1) 0)
theorem swp_at {L : List Int} {k j : Nat} (hk : 0 < k) (hj : j < (swp L k).length) (hkl : k < L.length) : (swp L k)[j] = if j = k then L[k - 1] else if j = k - 1 then L[k] else L[j]'(by simpa [swp] using hj) := by
  show ((L.set (k - 1) (L.getD k 0)).set k (L.getD (k - 1) 0))[j]'(by simpa [swp] using hj) = _
  rw [List.getElem_set, List.getElem_set]
  by_cases e : k = j
  · subst e; simp [List.getD_eq_getElem?_getD, List.getElem?_eq_getElem (show k - 1 < L.length by omega)]
  rw [if_neg e, if_neg (Ne.symm e)]
  by_cases e2 : k - 1 = j
  · rw [if_pos e2, if_pos e2.symm]; simp [List.getD_eq_getElem?_getD, List.getElem?_eq_getElem hkl]
  rw [if_neg e2, if_neg (Ne.symm e2)]
theorem swp_perm {L : List Int} {k : Nat} (hkl : k < L.length) : (swp L k).Perm L := by
  have h1 : k - 1 < L.length := by omega
  have := List.set_set_perm h1 hkl
  unfold swp
  rw [List.getD_eq_getElem?_getD, List.getD_eq_getElem?_getD, List.getElem?_eq_getElem hkl, List.getElem?_eq_getElem h1]
  exact this
theorem Ins.step {xs L : List Int} {i k : Nat} (h : Ins xs L i k) (hi : i < L.length) (hk : 0 < k) (hgt : L[k]'(by have := h.le; omega) < L[k - 1]'(by have := h.le; omega)) : Ins xs (swp L k) i (k - 1) := by
  have hle := h.le
  have hkl : k < L.length := by omega
  refine ⟨(swp_perm hkl).trans h.perm, by omega, fun a b h1 h2 hb ha hb' => ?_, fun b h1 h2 hb => ?_⟩
  · have hb2 : b < L.length := by simpa [swp] using hb
    rw [swp_at hk _ hkl, swp_at hk _ hkl]
    by_cases eb : b = k
    · rw [if_neg (by omega), if_neg ha, if_pos eb]
      exact h.ord a (k - 1) (by omega) (by omega) (by omega) (by omega) (by omega)
    rw [if_neg eb, if_neg hb']
    by_cases ea : a = k
    · rw [if_pos ea]
      exact h.ord (k - 1) b (by omega) h2 hb2 (by omega) eb
    rw [if_neg ea, if_neg ha]
    exact h.ord a b h1 h2 hb2 ea eb
  have hb2 : b < L.length := by simpa [swp] using hb
  rw [swp_at hk _ hkl, swp_at hk _ hkl]
  rw [if_neg (by omega), if_pos rfl]
  by_cases eb : b = k
  · rw [if_pos eb]; exact hgt
  rw [if_neg eb, if_neg (by omega)]
  exact h.low b (by omega) h2 hb2
theorem Srd.eq {xs L : List Int} {i : Nat} (h : Srd xs L i) (hi : L.length ≤ i) : L = srt xs := srt_eq h.perm fun a b h1 hb => h.ord a b h1 (by omega) hb
end Ct
end Go.Proofs.Ytoefmdjgnabgfaa

namespace Go.Proofs.Ytoefmdjgnabgfaa
set_option maxRecDepth 100000
set_option maxHeartbeats 6400000
open Go.RowKit Go.Deep
variable {J : World → Prop}
theorem outB_c {x m : Int} : Ctr Try.prog J 81 [iv x, .el ([iv m]) 0] (bv (Rd.outB m x)) := by
 refine Zy Try.func81 rfl (by intro X hX; simp only [List.mem_cons, List.not_mem_nil, or_false] at hX; rcases hX with rfl | rfl; exact .v _; exact .el (Yl (by intro X hX; rw [List.mem_singleton.1 hX]; exact .v _))) (n := 11) rfl (by simp) (fun w0 => ?_)
 refine kW 11 [] [(0, iv x), (1, .el ([iv m]) 0)] (Zb (Za (pM (aC (.bool false)) (kN 11 [] [(0, iv x), (1, .el ([iv m]) 0), (3, bv false)] (Zd (Zb ?_))))))
 by_cases hs1 : x < 0
 refine Za (pM (mT 0 (iv x)) (oC (Z4 rfl (dT hs1)) I0 I0 (pM (mT 5 (bv true)) (qK (qK (qK (pP (Zt (.tmp 6) (.const (.bool true)) (.tmp 9) true (bv true) (.v (.tuple #[])) rfl) (pM (aT 10 (bv true)) (Zr (Zd (Zl ?_)))))))))))
 refine Zn Try.results81 (.tmp rfl) ?_
 exact congrArg (fun x : Bool => AV.v (.bool x)) ((Rd.outB_lo hs1).symm)
 refine Za (pM (mT 0 (iv x)) (oC (Z4 rfl (dF hs1)) I0 I0 (pM (mT 5 (bv false)) (qM (mT 0 (iv x)) (gA (Zz (X := iv m) (.tmp 1) rfl U3 rfl rfl) I0 (gC (sp_geq rfl rfl) I0 I0 (pP (Zt (.tmp 6) (.const (.bool true)) (.tmp 9) false (bv true) (bv (decide (m ≤ x))) rfl) (pM (aT 10 (bv (decide (m ≤ x)))) (Zr (Zd (Zl ?_)))))))))))
 refine Zn Try.results81 (.tmp rfl) ?_
 exact congrArg (fun x : Bool => AV.v (.bool x)) ((Rd.outB_hi hs1).symm)
theorem ixOut_c (xs : List Int) {m : Int} (lx : xs.length ≤ 9223372036854775807) : Ctr Try.prog J 87 [Zc xs, .clo 81 [.el ([iv m]) 0]] (iv (Rd.ixP xs (Rd.outB m))) := by
 refine Zy Try.func87 rfl (by intro X hX; simp only [List.mem_cons, List.not_mem_nil, or_false] at hX; rcases hX with rfl | rfl; exact ZI _; exact .clo (fun j hj => match j, hj with | 0, _ => .el (Yl (by intro X hX; rw [List.mem_singleton.1 hX]; exact .v _)))) (n := 19) rfl (by simp) (fun w0 => ?_)
 refine kW 19 [] [(0, Zc xs), (1, .clo 81 [.el ([iv m]) 0])] (Zb (Za (pM (aC (.int .i64 0)) (kN 19 [] [(0, Zc xs), (1, .clo 81 [.el ([iv m]) 0]), (4, iv 0)] (Zd (Zb (Zb (Za (pM (mT 0 (Zc xs)) (oA (Zs (.tmp 6) rfl U24) I0 (pM (YH (.const (.int .i64 0)) (iv 0) rfl) ?_)))))))))))
 refine kN 19 [] [(0, Zc xs), (1, .clo 81 [.el ([iv m]) 0]), (4, iv 0), (7, iv xs.length), (8, iv 0)] (Zd (ZC ?_))
 refine Yk (σ := {k : Nat // k ≤ xs.length ∧ Rd.noP xs (Rd.outB m) k}) (fun s => (ofL [], ofT 19 [(0, Zc xs), (1, .clo 81 [.el ([iv m]) 0]), (7, iv xs.length), (8, iv s.1)])) (fun s => xs.length - s.1) ⟨0, Nat.zero_le _, Rd.noP_zero _ _⟩ (ZL [] _ rfl (by kernel_rfl) (by kernel_rfl)) (fun s => ?_)
 obtain ⟨k, hk0, hs0⟩ := s
 show ETri J w0 (ofL []) (ofT 19 [(0, Zc xs), (1, .clo 81 [.el ([iv m]) 0]), (7, iv xs.length), (8, iv k)]) _
 refine Zb ?_
 by_cases hs1 : ((k : Nat) : Int) < ((xs.length : Nat) : Int)
 refine Za (oC (Z4 rfl (dT hs1)) I0 I0 (kN 19 [] [(0, Zc xs), (1, .clo 81 [.el ([iv m]) 0]), (7, iv xs.length), (8, iv k), (9, bv true)] (Zd (Zb (Zu rfl (Zm (Zd (Zb (ZC (Zb (Za ?_)))))))))))
 refine pM (mT 8 (iv k)) (pM (aT 10 (iv k)) (kN 19 [] [(0, Zc xs), (1, .clo 81 [.el ([iv m]) 0]), (5, iv k), (7, iv xs.length), (8, iv k), (9, bv true)] (Zd (Zb ?_))))
 by_cases hs2 : (Rd.outB m xs[k]) = true
 refine Za (pM (mT 1 (.clo 81 [.el ([iv m]) 0])) (pM (mT 0 (Zc xs)) (pM (mT 5 (iv k)) (oC (ZA (off := k * 1) (.tmp 12) (.tmp 13) rfl U24 (by kernel_rfl) (by omega) (by omega) rfl) I0 I0 (oA (Zz (X := iv xs[k]) (.tmp 14) rfl U3 rfl (Yc xs (by omega))) I0 (oC (sp_callClo (c := .tmp 11) (xs := #[.tmp 15]) (Cs := [.el ([iv m]) 0]) [] (Z6 outB_c hs2) rfl (by kernel_rfl) rfl (Xs := [iv xs[k]]) rfl rfl rfl rfl rfl) I0 I0 (kN 19 [] [(0, Zc xs), (1, .clo 81 [.el ([iv m]) 0]), (5, iv k), (7, iv xs.length), (8, iv k), (9, bv true), (16, bv true)] (Zd (Zu rfl (Zb (Za ?_)))))))))))
 refine pM (mT 5 (iv k)) (pM (aT 17 (iv k)) (Zr (Zd (Zl (Zk (Zh (Zh (Zk (Zh ?_)))))))))
 refine Zn Try.results87 (.tmp rfl) ?_
 exact congrArg (fun x : Int => AV.v (.int .i64 x)) ((Rd.ixP_at (by omega) hs0 hs2).symm)
 have hs2f : (Rd.outB m xs[k]) = false := by simpa using hs2
 refine Za (pM (mT 1 (.clo 81 [.el ([iv m]) 0])) (pM (mT 0 (Zc xs)) (pM (mT 5 (iv k)) (oC (ZA (off := k * 1) (.tmp 12) (.tmp 13) rfl U24 (by kernel_rfl) (by omega) (by omega) rfl) I0 I0 (oA (Zz (X := iv xs[k]) (.tmp 14) rfl U3 rfl (Yc xs (by omega))) I0 (oC (sp_callClo (c := .tmp 11) (xs := #[.tmp 15]) (Cs := [.el ([iv m]) 0]) [] (Z6 outB_c hs2f) rfl (by kernel_rfl) rfl (Xs := [iv xs[k]]) rfl rfl rfl rfl rfl) I0 I0 (kN 19 [] [(0, Zc xs), (1, .clo 81 [.el ([iv m]) 0]), (5, iv k), (7, iv xs.length), (8, iv k), (9, bv true), (16, bv false)] (Zd (Zq rfl (Zm (Yg ?_)))))))))))
 refine Zd (Za (oC (Yz (c := ((k + 1 : Nat) : Int)) rfl (w64 (by omega) (by omega) (by omega))) I0 I0 (pM (mT 18 (iv (k + 1 : Nat))) (kN 19 [] [(0, Zc xs), (1, .clo 81 [.el ([iv m]) 0]), (5, iv k), (7, iv xs.length), (8, iv (k + 1 : Nat)), (9, bv true), (16, bv false)] (Zd ?_)))))
 refine ZY ⟨k + 1, by omega, Rd.noP_succ (by omega) hs0 hs2f⟩ (show xs.length - (k + 1) < xs.length - k by omega) ?_
 exact ZL [] _ rfl (by kernel_rfl) (by kernel_rfl)
 refine Za (oC (Z4 rfl (dF hs1)) I0 I0 (kN 19 [] [(0, Zc xs), (1, .clo 81 [.el ([iv m]) 0]), (7, iv xs.length), (8, iv k), (9, bv false)] (Zd (Zb (Zq rfl (Yo (Zv (Zv (t_hit (Zd (Zb ?_)))))))))))
 refine Za (pM (aC (.int .i64 (-1))) (Zr (Zd (Zl ?_))))
 refine Zn Try.results87 (.tmp rfl) ?_
 exact congrArg (fun x : Int => AV.v (.int .i64 x)) ((Rd.ixP_none (k := k) (by omega) hs0).symm)
theorem hasOut_c (xs : List Int) {m : Int} (lx : xs.length ≤ 9223372036854775807) : Ctr Try.prog J 58 [Zc xs, .clo 81 [.el ([iv m]) 0]] (bv (xs.any (Rd.outB m))) := by
 refine Zy Try.func58 rfl (by intro X hX; simp only [List.mem_cons, List.not_mem_nil, or_false] at hX; rcases hX with rfl | rfl; exact ZI _; exact .clo (fun j hj => match j, hj with | 0, _ => .el (Yl (by intro X hX; rw [List.mem_singleton.1 hX]; exact .v _)))) (n := 9) rfl (by simp) (fun w0 => ?_)
 refine kW 9 [] [(0, Zc xs), (1, .clo 81 [.el ([iv m]) 0])] (Zb (Za (pM (aC (.bool false)) (kN 9 [] [(0, Zc xs), (1, .clo 81 [.el ([iv m]) 0]), (4, bv false)] (Zd (Zb (Za (pM (mT 0 (Zc xs)) (pM (mT 1 (.clo 81 [.el ([iv m]) 0])) (oD (Zj (c := .func 87) (xs := #[.tmp 5, .tmp 6]) [] (ixOut_c xs lx) rfl (by kernel_rfl) rfl (Xs := [Zc xs, .clo 81 [.el ([iv m]) 0]]) rfl rfl rfl) I0 I0 I0 (oC (sp_geq rfl rfl) I0 I0 ?_)))))))))))
 refine pM (aT 8 (bv (decide (0 ≤ (Rd.ixP xs (Rd.outB m)))))) (Zr (Zd (Zl ?_)))
 refine Zn Try.results58 (.tmp rfl) ?_
 exact congrArg (fun x : Bool => AV.v (.bool x)) (Rd.anyP_ix xs (Rd.outB m))
theorem areBelow_c (xs : List Int) {m : Int} (lx : xs.length ≤ 9223372036854775807) : Ctr Try.prog J 53 [Zc xs, iv m] (bv (Rd.belB xs m)) := by
 refine Zy Try.func53 rfl (by intro X hX; simp only [List.mem_cons, List.not_mem_nil, or_false] at hX; rcases hX with rfl | rfl; exact ZI _; exact .v _) (n := 9) rfl (by simp) (fun w0 => ?_)
 refine kW 9 [] [(0, Zc xs), (1, iv m)] (Zb (Za (Z9 rfl (ZT (X := iv m) (k := 1) (.tmp 1) rfl rfl) ⟨I0, T0⟩ T0 rfl (pM (aC (.bool false)) (kN 9 [(1, .box 3 [iv m])] [(0, Zc xs), (3, .box 1 0), (4, bv false)] (Zd (Zb (Za (pM (mT 0 (Zc xs)) (oA (sp_makeFunc (xs := #[.tmp 3]) (Xs := [.box 1 0]) rfl rfl) I0 (Z9 rfl (Zj (c := .func 58) (xs := #[.tmp 5, .tmp 6]) [(1, .box 3 [iv m])] (hasOut_c xs lx) rfl (by kernel_rfl) rfl (Xs := [Zc xs, .clo 81 [.box 1 0]]) rfl rfl rfl) ⟨I0, I0, I0, T0⟩ ⟨rfl, T0⟩ T0 ?_)))))))))))
 refine oA (Yb rfl rfl) I0 (pM (aT 8 (bv (!(xs.any (Rd.outB m))))) (Zr (Zd (Zl ?_))))
 refine Zn Try.results53 (.tmp rfl) ?_
 exact rfl
end Go.Proofs.Ytoefmdjgnabgfaa

namespace Go.Proofs.Ytoefmdjgnabgfaa
open Go.RowKit Go.Deep
variable {J : World → Prop}
end Go.Proofs.Ytoefmdjgnabgfaa

namespace Go.Proofs.Ytoefmdjgnabgfaa
set_option maxRecDepth 100000
set_option maxHeartbeats 6400000
open Go.RowKit Go.Deep
variable {J : World → Prop}
theorem Yx {p : Fm} (HP : FmOk p) {c : Cf} (HC : Rd.CgOk c) : Ctr Try.prog J 22 [.agg (cFm p), .agg (Rd.cCg c)] (bv (Ct.plB p c)) := by
 have l1 := HP.lstates
 have l2 := HC.lst
 refine Zy Try.func22 rfl (by intro X hX; simp only [List.mem_cons, List.not_mem_nil, or_false] at hX; rcases hX with rfl | rfl; exact Zx (Yi p); exact Zx (Rd.plain_cg c)) (n := 24) rfl (by simp) (fun w0 => ?_)
 refine kW 24 [] [(0, .agg (cFm p)), (1, .agg (Rd.cCg c))] (Zb (Za (Z9 rfl (ZT (X := .agg (cFm p)) (k := 1) (.tmp 0) rfl rfl) ⟨I0, T0⟩ T0 rfl (Z9 rfl (ZT (X := .agg (Rd.cCg c)) (k := 2) (.tmp 1) rfl rfl) ⟨I0, T0⟩ T0 rfl (pM (aC (.bool false)) (kN 24 [(1, .box 27 (cFm p)), (2, .box 32 (Rd.cCg c))] [(2, .box 1 0), (3, .box 2 0), (4, bv false)] (Zd (Zb ?_))))))))
 by_cases hs1 : (Rd.belB c.st ((p.states.length : Nat) : Int)) = true
 by_cases hs2 : 0 ≤ c.cor
 refine Za (oA (fb 1 3 U32 1) I0 (oB (lb (Zc c.st) 5 U24) I0 rfl (oA (fb 2 2 U27 1) I0 (oB (lb (Y3 p.states) 7 U22) I0 rfl (oA (Zs (.tmp 8) rfl U22) I0 (oD (Zj (c := .func 53) (xs := #[.tmp 6, .tmp 9]) [] (Z6 (areBelow_c c.st (Nat.le_trans HC.lst (by decide))) hs1) rfl (by kernel_rfl) rfl (Xs := [Zc c.st, iv p.states.length]) rfl rfl rfl) I0 I0 I0 (pM (mT 10 (bv true)) (gA (fb 2 3 U32 1) I0 (gB (lb (iv c.cor) 12 U3) I0 rfl (gC (sp_geq rfl (dT hs2)) I0 I0 (pP (Zt (.tmp 11) (.tmp 14) (.const (.bool false)) true (bv true) (bv false) rfl) ?_)))))))))))
 refine pM (mT 15 (bv true)) (gA (fb 2 3 U32 1) I0 (gB (lb (iv c.cor) 17 U3) I0 rfl (gA (fb 1 3 U32 1) I0 (gB (lb (Zc c.st) 19 U24) I0 rfl (gA (Zs (.tmp 20) rfl U24) I0 (gC (sp_leq rfl rfl) I0 I0 (pP (Zt (.tmp 16) (.tmp 22) (.const (.bool false)) true (bv (decide (c.cor ≤ ((c.st.length : Nat) : Int)))) (bv false) rfl) (pM (aT 23 (bv (decide (c.cor ≤ ((c.st.length : Nat) : Int))))) (Zr (Zd (Zl ?_)))))))))))
 refine Zn Try.results22 (.tmp rfl) ?_
 exact congrArg (fun x : Bool => AV.v (.bool x)) ((by simp only [Ct.plB, hs1, hs2, decide_true, decide_false, Bool.and_true, Bool.true_and, Bool.false_and, Bool.and_false]))
 refine Za (oA (fb 1 3 U32 1) I0 (oB (lb (Zc c.st) 5 U24) I0 rfl (oA (fb 2 2 U27 1) I0 (oB (lb (Y3 p.states) 7 U22) I0 rfl (oA (Zs (.tmp 8) rfl U22) I0 (oD (Zj (c := .func 53) (xs := #[.tmp 6, .tmp 9]) [] (Z6 (areBelow_c c.st (Nat.le_trans HC.lst (by decide))) hs1) rfl (by kernel_rfl) rfl (Xs := [Zc c.st, iv p.states.length]) rfl rfl rfl) I0 I0 I0 (pM (mT 10 (bv true)) (gA (fb 2 3 U32 1) I0 (gB (lb (iv c.cor) 12 U3) I0 rfl (gC (sp_geq rfl (dF hs2)) I0 I0 (pP (Zt (.tmp 11) (.tmp 14) (.const (.bool false)) true (bv false) (bv false) rfl) ?_)))))))))))
 refine pM (mT 15 (bv false)) (qK (qK (qK (qK (qK (qK (pP (Zt (.tmp 16) (.tmp 22) (.const (.bool false)) false (.v (.tuple #[])) (bv false) rfl) (pM (aT 23 (bv false)) (Zr (Zd (Zl ?_)))))))))))
 refine Zn Try.results22 (.tmp rfl) ?_
 exact congrArg (fun x : Bool => AV.v (.bool x)) ((by simp only [Ct.plB, hs1, hs2, decide_true, decide_false, Bool.and_true, Bool.true_and, Bool.false_and, Bool.and_false]))
 have hs1f : (Rd.belB c.st ((p.states.length : Nat) : Int)) = false := by simpa using hs1
 refine Za (oA (fb 1 3 U32 1) I0 (oB (lb (Zc c.st) 5 U24) I0 rfl (oA (fb 2 2 U27 1) I0 (oB (lb (Y3 p.states) 7 U22) I0 rfl (oA (Zs (.tmp 8) rfl U22) I0 (oD (Zj (c := .func 53) (xs := #[.tmp 6, .tmp 9]) [] (Z6 (areBelow_c c.st (Nat.le_trans HC.lst (by decide))) hs1f) rfl (by kernel_rfl) rfl (Xs := [Zc c.st, iv p.states.length]) rfl rfl rfl) I0 I0 I0 (pM (mT 10 (bv false)) (qK (qK (qK (pP (Zt (.tmp 11) (.tmp 14) (.const (.bool false)) false (.v (.tuple #[])) (bv false) rfl) ?_)))))))))))
 refine pM (mT 15 (bv false)) (qK (qK (qK (qK (qK (qK (pP (Zt (.tmp 16) (.tmp 22) (.const (.bool false)) false (.v (.tuple #[])) (bv false) rfl) (pM (aT 23 (bv false)) (Zr (Zd (Zl ?_)))))))))))
 refine Zn Try.results22 (.tmp rfl) ?_
 exact congrArg (fun x : Bool => AV.v (.bool x)) ((by simp only [Ct.plB, hs1f, decide_true, decide_false, Bool.and_true, Bool.true_and, Bool.false_and, Bool.and_false]))
theorem qCounts_err {p : Fm} (HP : FmOk p) {c : Cf} (HC : Rd.CgOk c) (hn : valE p = 0 → Ct.plB p c = false) : Ctr Try.prog J 10 [.agg (cFm p), .agg (Rd.cCg c)] (.tup [Zc (Ct.ctL p c), iv (Ct.ctE p c)]) := by
 refine Zy Try.func10 rfl (by intro X hX; simp only [List.mem_cons, List.not_mem_nil, or_false] at hX; rcases hX with rfl | rfl; exact Zx (Yi p); exact Zx (Rd.plain_cg c)) (n := 41) rfl (by simp) (fun w0 => ?_)
 refine kW 41 [] [(0, .agg (cFm p)), (1, .agg (Rd.cCg c))] (Zb (Za (Z9 rfl (ZT (X := .agg (cFm p)) (k := 1) (.tmp 0) rfl rfl) ⟨I0, T0⟩ T0 rfl (Z9 rfl (ZT (X := .agg (Rd.cCg c)) (k := 2) (.tmp 1) rfl rfl) ⟨I0, T0⟩ T0 rfl (pM (YI (.const (.slice none 0 0)) (.v (.slice none 0 0)) rfl) (pM (aC (.int .i64 0)) (kN 41 [(1, .box 27 (cFm p)), (2, .box 32 (Rd.cCg c))] [(2, .box 1 0), (3, .box 2 0), (4, .v (.slice none 0 0)), (5, iv 0)] (Zd (Zb (Zb (Za ?_)))))))))))
 refine oB (Zf (Y := .box 27 (cFm p)) (ds := cFm p) (z := 10) (.tmp 2) rfl U27 rfl (by kernel_rfl) (by decide) (by kernel_rfl) (by kernel_rfl)) I0 rfl (oC (Zj (c := .func 21) (xs := #[.tmp 10]) [] (Ke HP) rfl (by kernel_rfl) rfl (Xs := [.agg (cFm p)]) rfl rfl rfl) I0 I0 (pM (aT 11 (iv (valE p))) (kN 41 [(1, .box 27 (cFm p)), (2, .box 32 (Rd.cCg c))] [(2, .box 1 0), (3, .box 2 0), (4, .v (.slice none 0 0)), (5, iv 0), (6, iv (valE p))] (Zd (Zb ?_)))))
 by_cases hs1 : valE p = 0
 refine Za (pM (mT 6 (iv (valE p))) (oC (Z8 rfl (dT' hs1)) I0 I0 (kN 41 [(1, .box 27 (cFm p)), (2, .box 32 (Rd.cCg c))] [(2, .box 1 0), (3, .box 2 0), (4, .v (.slice none 0 0)), (5, iv 0), (6, iv (valE p)), (13, bv false)] (Zd (Zq rfl (Zm (Zd (Zb (Zb (Za (oB (Zf (Y := .box 27 (cFm p)) (ds := cFm p) (z := 10) (.tmp 2) rfl U27 rfl (by kernel_rfl) (by decide) (by kernel_rfl) (by kernel_rfl)) I0 rfl ?_)))))))))))
 refine oB (Zf (Y := .box 32 (Rd.cCg c)) (ds := Rd.cCg c) (z := 6) (.tmp 3) rfl U32 rfl (by kernel_rfl) (by decide) (by kernel_rfl) (by kernel_rfl)) I0 rfl (oD (Zj (c := .func 22) (xs := #[.tmp 15, .tmp 16]) [] (Z6 (Yx HP HC) (hn hs1)) rfl (by kernel_rfl) rfl (Xs := [.agg (cFm p), .agg (Rd.cCg c)]) rfl rfl rfl) I0 I0 I0 (oA (Yb rfl rfl) I0 (kN 41 [(1, .box 27 (cFm p)), (2, .box 32 (Rd.cCg c))] [(2, .box 1 0), (3, .box 2 0), (4, .v (.slice none 0 0)), (5, iv 0), (18, bv true)] (Zd (Zu rfl (Zb (Za (pM (YI (.const (.slice none 0 0)) (.v (.slice none 0 0)) rfl) (pM (aC (.int .i64 1)) (Zr (Zd ?_)))))))))))
 refine Zl (Zh ?_)
 refine tri_wk (wk_adopt 4 3 true 3 1 rfl rfl rfl) ?_
 refine Yp Try.results10 (.tmp rfl) (.tmp rfl) ?_
 rw [Ct.ctL_n (Ct.ctE_ne fun h => by rw [hn hs1] at h; cases h.2), Ct.ctE_n hs1 (hn hs1)]
 exact rfl
 refine Za (pM (mT 6 (iv (valE p))) (oC (Z8 rfl (dF' hs1)) I0 I0 (kN 41 [(1, .box 27 (cFm p)), (2, .box 32 (Rd.cCg c))] [(2, .box 1 0), (3, .box 2 0), (4, .v (.slice none 0 0)), (5, iv 0), (6, iv (valE p)), (13, bv true)] (Zd (Zu rfl (Zb (Za (pM (mT 6 (iv (valE p))) (pM (YI (.const (.slice none 0 0)) (.v (.slice none 0 0)) rfl) (pM (aT 14 (iv (valE p))) (Zr ?_)))))))))))
 refine Zd (Zl (Zh ?_))
 refine tri_wk (wk_adopt 4 3 true 3 1 rfl rfl rfl) ?_
 refine Yp Try.results10 (.tmp rfl) (.tmp rfl) ?_
 rw [Ct.ctL_n (Ct.ctE_ne fun h => hs1 h.1), Ct.ctE_v hs1]
 exact rfl
end Go.Proofs.Ytoefmdjgnabgfaa

namespace Go.Proofs.Ytoefmdjgnabgfaa
open Go.RowKit Go.Deep
variable {J : World → Prop}
set_option maxRecDepth 100000 in
set_option maxHeartbeats 6400000 in
theorem qCounts_ok {p : Fm} (HP : FmOk p) (lS : p.states.length ≤ 60) {sh A B se fa : List Int} {val : Int} (HC : Rd.CgOk (Ct.two sh A B se fa val)) (hv : valE p = 0) (hb : Rd.belB (A ++ B) ((p.states.length : Nat) : Int) = true) : Ctr Try.prog J 10 [.agg (cFm p), .agg (Rd.cCg (Ct.two sh A B se fa val))] (.tup [Zc (Ct.ctL p (Ct.two sh A B se fa val)), iv (Ct.ctE p (Ct.two sh A B se fa val))]) := by
 have hl0 : (A ++ B).length ≤ 100 := HC.lst
 have hl2 : (A ++ B).length = A.length + B.length := List.length_append
 have hpl : Ct.plB p (Ct.two sh A B se fa val) = true := Ct.two_pl.trans hb
 refine Zy Try.func10 rfl (by intro X hX; simp only [List.mem_cons, List.not_mem_nil, or_false] at hX; rcases hX with rfl | rfl; exact Zx (Yi p); exact Zx (Rd.plain_cg _)) (n := 41) rfl (by simp) (fun w0 => ?_)
 refine kW 41 [] [(0, .agg (cFm p)), (1, .agg (Rd.cCg (Ct.two sh A B se fa val)))] (Zb (Za (Z9 rfl (ZT (X := .agg (cFm p)) (k := 1) (.tmp 0) rfl rfl) ⟨I0, T0⟩ T0 rfl (Z9 rfl (ZT (X := .agg (Rd.cCg (Ct.two sh A B se fa val))) (k := 2) (.tmp 1) rfl rfl) ⟨I0, T0⟩ T0 rfl (pM (YI (.const (.slice none 0 0)) (.v (.slice none 0 0)) rfl) (pM (aC (.int .i64 0)) (kN 41 [(1, .box 27 (cFm p)), (2, .box 32 (Rd.cCg (Ct.two sh A B se fa val)))] [(2, .box 1 0), (3, .box 2 0), (4, .v (.slice none 0 0)), (5, iv 0)] (Zd (Zb (Zb (Za ?_)))))))))))
 refine oB (Zf (Y := .box 27 (cFm p)) (ds := cFm p) (z := 10) (.tmp 2) rfl U27 rfl (by kernel_rfl) (by decide) (by kernel_rfl) (by kernel_rfl)) I0 rfl (oC (Zj (c := .func 21) (xs := #[.tmp 10]) [] (Ke HP) rfl (by kernel_rfl) rfl (Xs := [.agg (cFm p)]) rfl rfl rfl) I0 I0 (pM (aT 11 (iv (valE p))) (kN 41 [(1, .box 27 (cFm p)), (2, .box 32 (Rd.cCg (Ct.two sh A B se fa val)))] [(2, .box 1 0), (3, .box 2 0), (4, .v (.slice none 0 0)), (5, iv 0), (6, iv (valE p))] (Zd (Zb (Za (pM (mT 6 (iv (valE p))) (oC (Z8 rfl (dT' hv)) I0 I0 (kN 41 [(1, .box 27 (cFm p)), (2, .box 32 (Rd.cCg (Ct.two sh A B se fa val)))] [(2, .box 1 0), (3, .box 2 0), (4, .v (.slice none 0 0)), (5, iv 0), (6, iv (valE p)), (13, bv false)] (Zd (Zq rfl ?_)))))))))))
 refine Zm (Zd (Zb (Zb (Za (oB (Zf (Y := .box 27 (cFm p)) (ds := cFm p) (z := 10) (.tmp 2) rfl U27 rfl (by kernel_rfl) (by decide) (by kernel_rfl) (by kernel_rfl)) I0 rfl (oB (Zf (Y := .box 32 (Rd.cCg (Ct.two sh A B se fa val))) (ds := Rd.cCg (Ct.two sh A B se fa val)) (z := 6) (.tmp 3) rfl U32 rfl (by kernel_rfl) (by decide) (by kernel_rfl) (by kernel_rfl)) I0 rfl (oD (Zj (c := .func 22) (xs := #[.tmp 15, .tmp 16]) [] (Z6 (Yx HP HC) hpl) rfl (by kernel_rfl) rfl (Xs := [.agg (cFm p), .agg (Rd.cCg (Ct.two sh A B se fa val))]) rfl rfl rfl) I0 I0 I0 (oA (Yb rfl rfl) I0 (kN 41 [(1, .box 27 (cFm p)), (2, .box 32 (Rd.cCg (Ct.two sh A B se fa val)))] [(2, .box 1 0), (3, .box 2 0), (4, .v (.slice none 0 0)), (5, iv 0), (18, bv false)] (Zd (Zq rfl ?_)))))))))))
 refine Zm (Zd (Zb (Za (oA (fb 2 2 U27 1) I0 (oB (lb (Y3 p.states) 19 U22) I0 rfl (oA (Zs (.tmp 20) rfl U22) I0 (Z9 rfl (sp_make (k := 3) (n := p.states.length) (zv := .int .i64 0) true rfl U24 (by kernel_rfl) rfl (by first | (show 8 * p.states.length ≤ _; omega) | omega) (by first | (show 8 * p.states.length ≤ _; omega) | omega) (cs := ((Ct.cnt p.states.length (A.take 0)).map iv)) (Ct.cnt_zero _ _)) ⟨I0, I0, T0⟩ T0 rfl (pM (aT 22 (.own 3)) (kN 41 [(2, .box 32 (Rd.cCg (Ct.two sh A B se fa val))), (3, .row true 3 1 p.states.length ((Ct.cnt p.states.length (A.take 0)).map iv))] [(3, .box 2 0), (4, .v (.slice none 0 0)), (5, iv 0), (7, .own 3)] (Zd (Zb ?_)))))))))))
 refine Zb (Za (oA (fb 1 3 U32 1) I0 (oB (lb (Zc (A ++ B)) 23 U24) I0 rfl (oA (fb 2 3 U32 1) I0 (oB (lb (iv A.length) 25 U3) I0 rfl (oC (sp_sliceSl (l := 0) (h := A.length) (ds := (A.map iv)) (.tmp 24) none (some (.tmp 26)) rfl U24 (by kernel_rfl) [] [(.tmp 26, iv A.length)] (.inl ⟨rfl, rfl, rfl⟩) (.inr ⟨_, _, rfl, rfl⟩) (Nat.zero_le _) (by rw [List.length_append]; omega) (by simp)) I0 I0 (oA (Zs (.tmp 27) rfl U24) I0 (pM (YH (.const (.int .i64 0)) (iv 0) rfl) (kN 41 [(3, .row true 3 1 p.states.length ((Ct.cnt p.states.length (A.take 0)).map iv))] [(4, .v (.slice none 0 0)), (5, iv 0), (7, .own 3), (27, Zc A), (28, iv A.length), (29, iv 0)] (Zd (ZC ?_)))))))))))
 refine Yk (σ := {k : Nat // k ≤ A.length}) (fun s => (ofL [(3, .row true 3 1 p.states.length ((Ct.cnt p.states.length (A.take s.1)).map iv))], ofT 41 [(4, .v (.slice none 0 0)), (5, iv 0), (7, .own 3), (27, Zc A), (28, iv A.length), (29, iv s.1)])) (fun s => A.length - s.1) ⟨0, Nat.zero_le _⟩ (ZL _ _ rfl (by kernel_rfl) (by kernel_rfl)) (fun s => ?_)
 obtain ⟨k, hk0⟩ := s
 show ETri J w0 (ofL [(3, .row true 3 1 p.states.length ((Ct.cnt p.states.length (A.take k)).map iv))]) (ofT 41 [(4, .v (.slice none 0 0)), (5, iv 0), (7, .own 3), (27, Zc A), (28, iv A.length), (29, iv k)]) _
 refine Zb ?_
 by_cases hs1 : ((k : Nat) : Int) < ((A.length : Nat) : Int)
 have hk1 : k < A.length := by omega
 have hx := Ct.app_bel hb hk1
 have hcl := Ct.cnt_le p.states.length (A.take k) A[k].toNat
 have hcm : (A.take k).length ≤ A.length := List.length_take_le' _ _
 refine Za (oC (Z4 rfl (dT hs1)) I0 I0 (kN 41 [(3, .row true 3 1 p.states.length ((Ct.cnt p.states.length (A.take k)).map iv))] [(4, .v (.slice none 0 0)), (5, iv 0), (7, .own 3), (27, Zc A), (28, iv A.length), (29, iv k), (30, bv true)] (Zd (Zb (Zu rfl (Zm (Zd (Zb (ZC (Zb (Za ?_)))))))))))
 refine oC (ZA (off := k * 1) (.tmp 27) (.tmp 29) rfl U24 (by kernel_rfl) (by omega) (by omega) rfl) I0 I0 (oA (Zz (X := iv A[k]) (.tmp 31) rfl U3 rfl (Yc A (by omega))) I0 (pM (aT 32 (iv A[k])) (kN 41 [(3, .row true 3 1 p.states.length ((Ct.cnt p.states.length (A.take k)).map iv))] [(4, .v (.slice none 0 0)), (5, iv 0), (7, .own 3), (9, iv A[k]), (27, Zc A), (28, iv A.length), (29, iv k), (30, bv true)] (Zd (Za (pM (mT 7 (.own 3)) (pM (mT 9 (iv A[k])) (Z9 rfl (sp_indexOwn (off := A[k].toNat * 1) (.tmp 33) (.tmp 34) rfl U24 (by kernel_rfl) (by omega) (by omega) rfl) ⟨I0, I0, T0⟩ ⟨rfl, T0⟩ T0 (oB (sp_loadBox1  (Y := .row true 3 1 p.states.length ((Ct.cnt p.states.length (A.take k)).map iv)) (.tmp 35) rfl U3 rfl (Ct.cnt_at (by omega))) I0 rfl (oC (Yz (c := ((Ct.cnt p.states.length (A.take k)).getD A[k].toNat 0) + 1) rfl (w64 (by omega) (by omega) (by omega))) I0 I0 (Z9 rfl (sp_indexOwn (off := A[k].toNat * 1) (.tmp 33) (.tmp 34) rfl U24 (by kernel_rfl) (by omega) (by omega) rfl) ⟨I0, I0, T0⟩ ⟨rfl, T0⟩ T0 ?_)))))))))))
 refine Z9 rfl (sp_storeRow (X := iv (((Ct.cnt p.states.length (A.take k)).getD A[k].toNat 0) + 1)) (off := A[k].toNat * 1) (cs := ((Ct.cnt p.states.length (A.take k)).map iv)) (ds := ((Ct.cnt p.states.length (A.take (k + 1))).map iv)) (zz := 1) (.tmp 38) (.tmp 37) rfl (by kernel_rfl) (by kernel_rfl) (fun _ d hd => by simp only [AV.cellsOf, List.mem_cons, List.not_mem_nil, or_false] at hd; subst hd; rfl) (by kernel_rfl) (by simp [Ct.cnt_len]; omega) (by rw [Nat.mul_one]; exact Ct.cnt_step (by omega))) ⟨I0, I0, T0⟩ ⟨rfl, T0⟩ rfl (kN 41 [(3, .row true 3 1 p.states.length ((Ct.cnt p.states.length (A.take (k + 1))).map iv))] [(4, .v (.slice none 0 0)), (5, iv 0), (7, .own 3), (9, iv A[k]), (27, Zc A), (28, iv A.length), (29, iv k), (30, bv true)] (Yg (Zd (Za (oC (Yz (c := ((k + 1 : Nat) : Int)) rfl (w64 (by omega) (by omega) (by omega))) I0 I0 (pM (mT 39 (iv (k + 1 : Nat))) (kN 41 [(3, .row true 3 1 p.states.length ((Ct.cnt p.states.length (A.take (k + 1))).map iv))] [(4, .v (.slice none 0 0)), (5, iv 0), (7, .own 3), (9, iv A[k]), (27, Zc A), (28, iv A.length), (29, iv (k + 1 : Nat)), (30, bv true)] (Zd ?_))))))))
 refine ZY ⟨k + 1, by omega⟩ (show A.length - (k + 1) < A.length - k by omega) ?_
 exact ZL _ _ rfl (by kernel_rfl) (by kernel_rfl)
 refine Za (oC (Z4 rfl (dF hs1)) I0 I0 (kN 41 [(3, .row true 3 1 p.states.length ((Ct.cnt p.states.length (A.take k)).map iv))] [(4, .v (.slice none 0 0)), (5, iv 0), (7, .own 3), (27, Zc A), (28, iv A.length), (29, iv k), (30, bv false)] (Zd (Zb (Zq rfl (Yo (Zv (Zv (t_hit (Zd (Zb ?_)))))))))))
 refine Za (pM (mT 7 (.own 3)) (pM (aT 40 (.own 3)) (pM (aC (.int .i64 0)) (Zr (Zd (Zl ?_))))))
 refine Yp Try.results10 (.tmp rfl) (.tmp rfl) ?_
 obtain rfl : k = A.length := by omega
 rw [List.take_length, Ct.ctL_o hv hpl, Ct.ctE_o hv hpl]
 exact congrArg (fun q => AV.tup [.sl 1 q ((Ct.cnt p.states.length A).map iv), iv 0]) (Ct.cnt_len _ _).symm
theorem qCounts_c {p : Fm} (HP : FmOk p) (lS : p.states.length ≤ 60) {c : Cf} (HC : Rd.CgOk c) : Ctr Try.prog J 10 [.agg (cFm p), .agg (Rd.cCg c)] (.tup [Zc (Ct.ctL p c), iv (Ct.ctE p c)]) := by
  by_cases hv : valE p = 0
  · by_cases hp : Ct.plB p c = true
    · obtain ⟨sh, A, B, se, fa, val, rfl⟩ := Ct.pl_two hp
      exact qCounts_ok HP lS HC hv (Ct.two_pl.symm.trans hp)
    exact qCounts_err HP HC fun _ => by simpa using hp
  exact qCounts_err HP HC fun h => absurd h hv
end Go.Proofs.Ytoefmdjgnabgfaa

namespace Go.Proofs.Ytoefmdjgnabgfaa
open Go.RowKit Go.Deep
variable {J : World → Prop}
section
variable {P : Program} {w0 : Wb} {h : AHeap} {t : ATm}
end
end Go.Proofs.Ytoefmdjgnabgfaa

namespace Go.Proofs.Ytoefmdjgnabgfaa
open Go.RowKit Go.Deep
variable {J : World → Prop}
theorem Rel.bsl_part {ρ : Names} {B : Nat} {w : World} {k off n : Nat} {x : Value} (h : Rel ρ B w (.bsl k off n) x) : ∃ nm, ρ k = some nm ∧ PartV nm off n x := by
  cases h with
  | pu h => cases h
  | bsl h hx => exact ⟨_, h, hx⟩
section
variable {P : Program} {o : Oper}
theorem sp_sliceOwn {t e e' : TypeId} {n k l h q : Nat} {fr : Bool} {cs : List AV} (x : Operand) (lo hi : Option Operand) (ho : o.op = .slice t x lo hi none) (hu : P.underlying t = some (.slice e)) (hz : (P.info? e).map (·.size) = some 1)
    (Lo Hi : List (Operand × AV)) (hlo : (lo = none ∧ l = 0 ∧ Lo = []) ∨ ∃ y ik, lo = some y ∧ Lo = [(y, .v (.int ik (l : Int)))]) (hhi : (hi = none ∧ h = n ∧ Hi = []) ∨ ∃ y ik, hi = some y ∧ Hi = [(y, .v (.int ik (h : Int)))]) (h1 : l ≤ h) (h2 : h ≤ n) (hq : h - l = q) :
    ASpec P J o ((x, .own k) :: (Lo ++ Hi)) [(k, .row fr e' 1 n cs)] (.bsl k l q) .no := by
  subst hq
  exact ZU fun ρ B a w _ ha hr => by
    obtain ⟨nm, h3, h4⟩ := (ha (x, .own k) (by simp)).own_inv
    obtain ⟨nm', h3', xs, ⟨hlen, hcase⟩, hxl, hrel⟩ := hr (k, .row fr e' 1 n cs) (by simp)
    rw [h3] at h3'; cases h3'
    have hbd : ∀ (ad : Option Addr) (cap : Nat), n ≤ cap → a.eval x = .slice ad n cap → (execOp a.eval o).run P w = .ok (.value (.slice (if cap = l then ad else ad.map (·.add (l * 1))) (h - l) (cap - l))) w := fun ad cap hc e => by
      obtain ⟨i, hi', hiz⟩ := Option.map_eq_some_iff.1 hz
      simp only [execOp, ho, e]
      refine Yq ?_
      have r1 : ∀ (v : Value) (ik : IntKind) (m y : Nat) (code : BoundsCode), m ≤ y → v = .int ik (m : Int) → (Instr.sliceBound v y code).run P w = .ok m w := fun v ik m y code hm hv => by
        subst hv
        simp [Instr.sliceBound, asIntOf, hm]
      have hb : (Instr.sliceBounds true n cap (lo.map a.eval) (hi.map a.eval) none).run P w = .ok (l, h, cap) w := by
        rcases hhi with ⟨rfl, rfl, rfl⟩ | ⟨y, ik, rfl, rfl⟩
        · rcases hlo with ⟨rfl, rfl, rfl⟩ | ⟨y', ik', rfl, rfl⟩
          · simp [Instr.sliceBounds]
          have e2 := (ha (y', .v (.int ik' (l : Int))) (by simp)).v_inv
          simp [Instr.sliceBounds, r1 _ ik' l h .sliceB h1 e2]
        have e1 := (ha (y, .v (.int ik (h : Int))) (by simp)).v_inv
        rcases hlo with ⟨rfl, rfl, rfl⟩ | ⟨y', ik', rfl, rfl⟩
        · simp [Instr.sliceBounds, r1 _ ik h cap .sliceAcap (by omega) e1]
        have e2 := (ha (y', .v (.int ik' (l : Int))) (by simp)).v_inv
        simp [Instr.sliceBounds, r1 _ ik h cap .sliceAcap (by omega) e1, r1 _ ik' l h .sliceB h1 e2]
      simp [Instr.sliceAt, Instr.slice, run_underlying hu, hb, sizeOf, typeInfo, hi', hiz]
    rcases hcase with ⟨hv, hn0⟩ | ⟨g, cap, cur, hv, hBg, hg, hnc, hm, hs, ht⟩
    · have hl0 : l = 0 := by omega
      have hh0 : h = 0 := by omega
      subst hl0 hh0
      refine ⟨_, hbd none 0 (by omega) (by rw [h4, hv, hn0]), .bsl h3 (.inr ⟨rfl, by simp⟩)⟩
    have hnm : nm = .at g cap n := by
      cases nm with
      | nil => cases hv
      | «at» b c m =>
        simp only [Nm.val, Value.slice.injEq, Option.some.injEq, Addr.mk.injEq, and_true] at hv
        obtain ⟨rfl, rfl, rfl⟩ := hv
        rfl
    subst hnm
    refine ⟨_, hbd (some ⟨g, 0, none⟩) cap hnc h4, .bsl h3 (.inl ⟨g, cap, n, if cap = l then 0 else l, cap - l, rfl, ?_, fun hne => ?_⟩)⟩
    · by_cases e : cap = l
      · simp [e]
      simp [e, Addr.add_mid]
    rw [if_neg (by omega)]
theorem YU {c : Operand} {xs : Array Operand} {ats : Array TypeId} {f : FuncId} {Xs Ys Cs Ds : List AV} {u U : AV} (rd : List (Nat × ABlk)) (hC : Ctr P J f (Ys ++ Ds) u) (ho : o.op = .call { callee := .value c, args := xs, argTypes := ats })
    (hf : (P.funcs[f]?).map (fun fn => (fn.name == "runtime.NumGoroutine") || fn.body.isNone) = some false) (hl : xs.size = Xs.length) (hv : Xs.map (AV.view rd) = Ys) (hfl : Xs.all AV.flat2 = true) (hcl : (AV.clo f Cs).flat2 = true) (hcv : Cs.map (AV.viewC rd) = Ds) (hU : u.res = U) :
    ASpec P J o ((c, .clo f Cs) :: xs.toList.zip Xs) rd U .no := by
  subst hv hU
  intro ρ B a w K Q hwf hB hJ ha hr _ hk
  have hcc := (ha (c, .clo f Cs) (by simp)).view hwf hr hcl
  simp only [AV.view, hcv] at hcc
  generalize hx : a.eval c = x at hcc
  cases hcc with
  | clo hcl' hcp =>
  rename_i caps
  refine Ks ho hx hf ?_
  have hsz : (xs.map a.eval).size = Xs.length := by simpa using hl
  refine (hC w (xs.map a.eval ++ caps) (fun w' h => hJ w' (Kq h)) (by simp [hl, hcl']) fun j hj => ?_).mono fun e w' ⟨v, he, hp, hb⟩ => ⟨v, he, hk ρ w' v ⟨rfl, hb.os, hb.tape, hb.output, hb.size, fun b hb' _ => hb.block b hb', fun _ _ => rfl, (fun _ _ h => by cases h), (fun _ _ h => by cases h), .pu (hp.mono (fun b hb' hw => ⟨⟨fun k c n hk => ?_, Nat.le_trans hB hb'.1, hb'.2⟩, hw, rfl⟩) fun b _ h => Nat.le_trans hB h).res⟩⟩
  · have hj0 : j < Xs.length + Ds.length := by simpa using hj
    by_cases hjx : j < Xs.length
    · have hj2 : j < xs.size := by omega
      rw [List.getElem_append_left (by simpa using hjx), List.getElem_map]
      have hm : (xs[j], Xs[j]) ∈ (c, AV.clo f Cs) :: xs.toList.zip Xs := by
        refine List.mem_cons_of_mem _ ?_
        rw [List.mem_iff_getElem]
        exact ⟨j, by simp; omega, by simp⟩
      have := (ha _ hm).view hwf hr (List.all_eq_true.1 hfl _ (List.getElem_mem hjx))
      have e : (xs.map a.eval ++ caps).getD j undef = a.eval xs[j] := by
        simp [Array.getD, hj2]; omega
      rw [e]; exact this
    rw [List.getElem_append_right (by simp; omega)]
    have hjc : j - Xs.length < Ds.length := by omega
    have := hcp (j - Xs.length) hjc
    have e : (xs.map a.eval ++ caps).getD j undef = caps.getD (j - Xs.length) undef := by
      have h1 : ¬ j < xs.size := by omega
      have h2 : j - xs.size < caps.size := by omega
      have h3 : j < xs.size + caps.size := by omega
      have h4 : j - Xs.length = j - xs.size := by omega
      simp [Array.getD, Array.getElem_append, h1, h2, h3, h4]
    rw [e]
    simpa using this
  have := (hwf.lo _ _ _ _ hk).2; have := hb'.1; omega
end
end Go.Proofs.Ytoefmdjgnabgfaa

namespace Go.Proofs
open Go.Shelf
shelf_lay Lays.n189 Nm 189 at Try as Try.lays189
shelf_lay Lays.n125 Nm 125 at Try as Try.lays125
end Go.Proofs
namespace Go.Proofs.Ytoefmdjgnabgfaa
open Go.RowKit Go.Deep Go.Shelf
open Go.Sort (grow putRow mapBlock putCells)
variable {J : World → Prop}
structure PartW (w w' : World) (g o : Nat) (vs : List Value) : Prop where
  os : w'.os = w.os
  tape : w'.tape = w.tape
  output : w'.output = w.output
  size : w.heap.size ≤ w'.heap.size
  other : ∀ b, b < w.heap.size → b ≠ g → w'.heap[b]? = w.heap[b]?
  here : ∀ (cur : Array Value) (e : TypeId) (fz : Nat × Nat), w.heap[g]? = some (.cells cur e fz) → ∃ cur', w'.heap[g]? = some (.cells cur' e fz) ∧ cur'.size = cur.size ∧ ∀ t, t < cur.size → cur'[t]? = if o ≤ t ∧ t < o + vs.length then vs[t - o]? else cur[t]?
theorem partW_put {w : World} {g o m : Nat} {ys : List Int} {os : Array Obj} (hg : g < w.heap.size) : PartW w (grow (putRow (Value.int .i64) (Go.Sort.ahead w m) g o ys.toArray) os) g o (ys.map (Value.int .i64)) := by
  refine ⟨rfl, rfl, rfl, ?_, fun b hb hne => ?_, fun cur e fz hgc => ?_⟩
  · show w.heap.size ≤ ((w.heap.modify g _) ++ os).size
    simp
  · show ((w.heap.modify g _) ++ os)[b]? = _
    rw [Array.getElem?_append_left (by simpa using hb), Array.getElem?_modify, if_neg (Ne.symm hne)]
  refine ⟨putCells (Value.int .i64) o ys.toArray cur, ?_, by simp [putCells], fun t ht => ?_⟩
  · show ((w.heap.modify g _) ++ os)[g]? = _
    rw [Array.getElem?_append_left (by simpa using hg), Array.getElem?_modify, if_pos rfl, hgc]
    rfl
  unfold putCells
  rw [Array.getElem?_mapIdx, Array.getElem?_eq_getElem ht]
  simp only [Option.map_some, List.size_toArray, List.length_map]
  split
  · rename_i h
    rw [List.getElem?_map, List.getElem?_eq_getElem (by omega)]
    simp only [Option.map_some, Option.some.injEq, Value.int.injEq, true_and]
    rw [getElem!_pos _ _ (by simp; omega)]
    simp
  rfl
theorem sort_nil (w : World) (S0 : Ctr Try.prog (fun _ => True) 54 [Zc []] (.v (.tuple #[]))) : Calls Try.prog 54 #[.slice none 0 0] w fun e w' => e = .returned (.tuple #[]) ∧ Below w.heap.size w w' :=
  (S0 w #[.slice none 0 0] (fun _ _ => trivial) rfl fun j hj => (match j, hj with
    | 0, _ => .sl0 (by simp [maxLen]) (by simp))).mono fun _ _ ⟨_, he, hp, hb⟩ => ⟨by rw [he, hp.v_inv], hb⟩
theorem sp_sortB {o : Oper} {c x : Operand} {ats : Array TypeId} {e n k l q : Nat} {fr : Bool} {ys : List Int} {cs ds : List AV} (S0 : Ctr Try.prog (fun _ => True) 54 [Zc []] (.v (.tuple #[])))
    (ho : o.op = .call { callee := .value c, args := #[x], argTypes := ats }) (hq : ys.length = q) (hy : ∀ j, j < q → cs[l + j]? = some (iv (ys.getD j 0))) (hlq : l + q ≤ n) (hcs : cs.length = n) (hdl : ds.length = n)
    (hd : ∀ t, t < n → ds[t]? = if l ≤ t ∧ t < l + q then some (iv ((Ct.srt ys).getD (t - l) 0)) else cs[t]?) (hsz : n < 4611686018427387904) :
    ASpec Try.prog J o [(c, .v (.func (.func 54) #[] #[])), (x, .bsl k l q)] [(k, .row fr e 1 n cs)] (.v (.tuple #[])) (.st k (.row fr e 1 n ds)) := by
  intro ρ B a w K Q hwf hB hJ ha hr _ hk
  obtain ⟨nm, hk1, hx⟩ := (ha (x, .bsl k l q) (by simp)).bsl_part
  obtain ⟨nm', hk1', xs, ⟨hlen, hcase⟩, hxl, hrel⟩ := hr (k, .row fr e 1 n cs) (by simp)
  rw [hk1] at hk1'; cases hk1'
  refine Ks ho (ha (c, .v (.func (.func 54) #[] #[])) (by simp)).v_inv (by kernel_rfl) ?_
  rw [Array.append_empty, show (#[x] : Array Operand).map a.eval = #[a.eval x] by simp]
  rcases hx with ⟨g, cap, n', o', cp, rfl, hv, ho'⟩ | ⟨hq0, hv⟩
  · rcases hcase with ⟨hv2, _⟩ | ⟨g2, cap2, cur, hv2, hBg, hg, hnc, hm, hs, ht⟩
    · cases hv2
    simp only [Nm.val, Value.slice.injEq, Option.some.injEq, Addr.mk.injEq, and_true] at hv2
    obtain ⟨rfl, rfl, rfl⟩ := hv2
    rw [hv]
    have hgs : g < w.heap.size := (Array.getElem?_eq_some_iff.1 hg).1
    have hcur : ∀ t, t < n' → cur[t]? = some (xs.getD t undef) := fun t h => by
      have h2 : xs[t]? = cur.toList[t]? := by rw [← ht, List.getElem?_take, if_pos (by omega)]
      have h3 : xs[t]? = some (xs.getD t undef) := by
        rw [List.getD_eq_getElem?_getD, List.getElem?_eq_getElem (by omega)]
        rfl
      rw [← Array.getElem?_toList, ← h2]; exact h3
    have hxy : ∀ j, j < q → xs.getD (l + j) undef = .int .i64 (ys.getD j 0) := fun j hj => by
      obtain ⟨h1, h2⟩ := List.getElem?_eq_some_iff.1 (hy j hj)
      have h3 := hrel (l + j) h1
      rw [h2] at h3
      exact h3.v_inv
    have hH : Go.Sort.Holds (Value.int .i64) w g o' ys.toArray := fun j hj => by
      have hj2 : j < q := by simpa [hq] using hj
      have e1 := ho' (by omega)
      subst e1
      refine ⟨?_, frozenB hg _⟩
      rw [getElem!_pos ys.toArray j hj]
      simp only [World.cell?, hg, Option.isSome_none, Bool.false_eq_true, if_false]
      rw [hcur _ (by omega), hxy j hj2, List.getD_eq_getElem?_getD, List.getElem?_eq_getElem (by omega)]
      simp
    have hcon := Any.slices_Sort_int Try.lays189 g o' cp ys w hH hgs (by omega)
    rw [hq] at hcon
    refine Calls.mono hcon fun e' w' ⟨he, m, os, hw⟩ => ⟨_, he, ?_⟩
    have hP : PartW w w' g o' ((Ct.srt ys).map (Value.int .i64)) := by rw [hw]; exact partW_put hgs
    clear hw hcon
    obtain ⟨cur', hg', hcs', hcc⟩ := hP.here _ _ _ hg
    have hok : ∀ b, okR ρ fr B w b → b ≠ g := fun b hb e => by subst e; exact hb.1 _ _ _ hk1
    have hlen2 : (Ct.srt ys).length = q := (Ct.srt_len ys).trans hq
    refine hk ρ w' _ ⟨rfl, hP.os, hP.tape, hP.output, hP.size, fun b' h1 h2 => hP.other b' h1 fun e => by subst e; exact h2 k _ _ rfl hk1, fun _ _ => rfl, fun _ _ _ => rfl, fun k' X' he' => ?_, .pu (.v _)⟩
    cases he'
    have hcur2 : ∀ t, t < n' → cur'[t]? = some (if l ≤ t ∧ t < l + q then .int .i64 ((Ct.srt ys).getD (t - l) 0) else xs.getD t undef) := fun t h => by
      have h1 := hcc t (by omega)
      rw [List.length_map, hlen2] at h1
      by_cases hq0 : q = 0
      · rw [if_neg (by omega)] at h1 ⊢
        rw [h1, hcur t h]
      have e1 := ho' hq0
      subst e1
      rw [h1]
      split
      · rename_i hh
        rw [List.getElem?_map, List.getD_eq_getElem?_getD, List.getElem?_eq_getElem (by omega)]
        rfl
      exact hcur t h
    have hsz' : n' ≤ cur'.size := by omega
    refine ⟨_, hk1, fun b' c' n' e => by cases e; exact ⟨Nat.lt_of_lt_of_le hgs hP.size, (hwf.lo _ _ _ _ hk1).1, .inr ⟨_, _, hk1⟩⟩, cur'.toList.take (n' * 1), ⟨by simp; omega, .inr ⟨g, cap, cur', rfl, hBg, hg', hnc, hm, by omega, rfl⟩⟩, by simp; omega, fun j hj => ?_⟩
    have hj2 : j < n' := by omega
    have hgd : (cur'.toList.take (n' * 1)).getD j undef = if l ≤ j ∧ j < l + q then .int .i64 ((Ct.srt ys).getD (j - l) 0) else xs.getD j undef := by
      rw [List.getD_eq_getElem?_getD, List.getElem?_take, if_pos (by omega), Array.getElem?_toList, hcur2 j hj2]
      rfl
    rw [hgd]
    have hdj := hd j hj2
    rw [List.getElem?_eq_getElem hj] at hdj
    by_cases hin : l ≤ j ∧ j < l + q
    · rw [if_pos hin] at hdj ⊢
      rw [Option.some.inj hdj]
      exact .v _
    rw [if_neg hin] at hdj ⊢
    obtain ⟨h5, h6⟩ := List.getElem?_eq_some_iff.1 hdj.symm
    rw [← h6]
    exact (hrel j h5).mono (fun b hb hw => by
      have e := hP.other b hw (hok b hb)
      exact ⟨⟨hb.1, fun h => ⟨(hb.2 h).1, soft_eq e (hb.2 h).2⟩⟩, Nat.lt_of_lt_of_le hw hP.size, e⟩) fun _ _ h => h
  rw [hv]
  subst hq0
  have hds : ds = cs := List.ext_getElem? fun t => by
    by_cases h : t < n
    · rw [hd t h, if_neg (by omega)]
    rw [List.getElem?_eq_none (by omega), List.getElem?_eq_none (by omega)]
  subst hds
  refine Calls.mono (sort_nil w S0) fun e' w' ⟨he, hb⟩ => ⟨_, he, ?_⟩
  refine hk ρ w' _ ⟨rfl, hb.os, hb.tape, hb.output, hb.size, fun b' h1 _ => hb.block b' h1, fun _ _ => rfl, fun _ _ _ => rfl, fun k' X' he' => ?_, .pu (.v _)⟩
  cases he'
  have hsame : ∀ b c' n', nm = .at b c' n' → w'.heap[b]? = w.heap[b]? := fun b c' n' e => hb.block b (by subst e; exact (hwf.lo _ _ _ _ hk1).2)
  refine ⟨nm, hk1, fun b' c' n' e => by subst e; exact ⟨Nat.lt_of_lt_of_le (hwf.lo _ _ _ _ hk1).2 hb.size, (hwf.lo _ _ _ _ hk1).1, .inr ⟨_, _, hk1⟩⟩, ?_⟩
  exact BlkR.keep (w := w) (w' := w') (ρ := ρ) (ρ' := ρ) (fun fr X x hx => hx.mono (fun b hb1 hw => ⟨⟨hb1.1, fun h => ⟨(hb1.2 h).1, soft_eq (hb.block b hw) (hb1.2 h).2⟩⟩, Nat.lt_of_lt_of_le hw hb.size, hb.block b hw⟩) fun _ _ h => h) (fun X x hx => hx.mono (fun b hb1 hw => ⟨hb1, Nat.lt_of_lt_of_le hw hb.size, hb.block b hw⟩) fun _ _ h => h) (fun _ _ h => h) hsame ⟨xs, ⟨hlen, hcase⟩, hxl, hrel⟩
end Go.Proofs.Ytoefmdjgnabgfaa

namespace Go.Proofs.Ytoefmdjgnabgfaa
open Go.RowKit Go.Deep
variable {J : World → Prop}
end Go.Proofs.Ytoefmdjgnabgfaa

namespace Go.Proofs.Ytoefmdjgnabgfaa
open Go.RowKit Go.Deep
section
variable {P : Program} {J : World → Prop} {o : Oper}
theorem sp_conv {src dst : TypeId} {x : Operand} {k k' : IntKind} {n c : Int} {d : TypeDesc} (ho : o.op = .convert src dst x) (hs : P.underlying src = some d) (hd : P.underlying dst = some (.int k')) (hc : k'.wrap n = c) : ASpec P J o [(x, .v (.int k n))] [] (.v (.int k' c)) .no :=
  ZU fun ρ B a w _ ha _ => by
    subst hc
    have h1 := (ha (x, .v (.int k n)) (by simp)).v_inv
    refine ⟨_, ?_, .pu (.v _)⟩
    simp only [execOp, ho, h1]
    exact Yq (by simp [convert, run_underlying hs, run_underlying hd, Conv.intToInt])
end
theorem addT_le (l : List Th) (g : Th) : l.length ≤ (addT l g).length := by unfold addT; split <;> simp
theorem fold_le : ∀ (gs l : List Th), l.length ≤ (gs.foldl addT l).length
  | [], _ => Nat.le_refl _
  | g :: gs, l => Nat.le_trans (addT_le l g) (fold_le gs (addT l g))
variable {J : World → Prop}
end Go.Proofs.Ytoefmdjgnabgfaa

namespace Go.Proofs.Ytoefmdjgnabgfaa
set_option maxRecDepth 100000
set_option maxHeartbeats 6400000
open Go.RowKit Go.Deep
variable {J : World → Prop}
theorem bitsLen_c : Ctr Try.prog J 83 [.v (.int .u64 0)] (iv 0) := fun w vs _ hl hv => by
  match vs, hl, hv with
  | ⟨[v0]⟩, _, hv =>
    obtain rfl := (hv 0 (by simp)).v_inv
    refine (calls_of_every_depth fun D => AnyS.bits_LenIn Try.lays125 D 0 w (by decide) (by decide)).mono fun e w' ⟨he, hw⟩ => ⟨_, he, ?_, by rw [hw]; exact Below.refl _ _⟩
    exact .v _
theorem insNil_c : Ctr Try.prog J 104 [Zc [], iv 0, iv 0] (.v (.tuple #[])) := by
 refine Zy Try.func104 rfl (by intro X hX; simp only [List.mem_cons, List.not_mem_nil, or_false] at hX; rcases hX with rfl | rfl | rfl; exact ZI []; exact .v _; exact .v _) (n := 49) rfl (by simp) (fun w0 => ?_)
 refine kW 49 [] [(0, Zc []), (1, iv 0), (2, iv 0)] (Zb (Za (pM (mT 1 (iv 0)) (oC (Yz (c := 1) rfl (w64 (by omega) (by omega) (by omega))) I0 I0 (pM (aT 9 (iv 1)) (kN 49 [] [(0, Zc []), (1, iv 0), (2, iv 0), (6, iv 1)] (Zd (ZC ?_))))))))
 refine Yk (σ := {u : Nat // u = 0}) (fun s => (ofL [], ofT 49 [(0, Zc []), (1, iv 0), (2, iv 0), (6, iv 1)])) (fun _ => 0) ⟨0, rfl⟩ (ZL [] _ rfl (by kernel_rfl) (by kernel_rfl)) (fun s => ?_)
 obtain ⟨u, hu⟩ := s
 show ETri J w0 (ofL []) (ofT 49 [(0, Zc []), (1, iv 0), (2, iv 0), (6, iv 1)]) _
 refine Zb (Zb (Za (pM (mT 6 (iv 1)) (pM (mT 2 (iv 0)) (oC (Z4 (r := false) rfl (by decide)) I0 I0 (kN 49 [] [(0, Zc []), (1, iv 0), (2, iv 0), (6, iv 1), (12, bv false)] (Zd (Zq rfl (Yo (Zv (Zv ?_)))))))))))
 refine t_hit ?_
 refine t_end_normal ?_
 refine tri_end0 Try.results104  ?_
 exact rfl
theorem pdqNil_c : Ctr Try.prog J 82 [Zc [], iv 0, iv 0, iv 0] (.v (.tuple #[])) := by
 refine Zy Try.func82 rfl (by intro X hX; simp only [List.mem_cons, List.not_mem_nil, or_false] at hX; rcases hX with rfl | rfl | rfl | rfl; exact ZI []; exact .v _; exact .v _; exact .v _) (n := 134) rfl (by simp) (fun w0 => ?_)
 refine kW 134 [] [(0, Zc []), (1, iv 0), (2, iv 0), (3, iv 0)] (Zb (Za (pM (aC (.bool true)) (kN 134 [] [(0, Zc []), (1, iv 0), (2, iv 0), (3, iv 0), (8, bv true)] (Zd (Zb (Za (pM (aC (.bool true)) (kN 134 [] [(0, Zc []), (1, iv 0), (2, iv 0), (3, iv 0), (8, bv true), (9, bv true)] (Zd (ZC ?_)))))))))))
 refine Yk (σ := {u : Nat // u = 0}) (fun s => (ofL [], ofT 134 [(0, Zc []), (1, iv 0), (2, iv 0), (3, iv 0), (8, bv true), (9, bv true)])) (fun _ => 0) ⟨0, rfl⟩ (ZL [] _ rfl (by kernel_rfl) (by kernel_rfl)) (fun s => ?_)
 obtain ⟨u, hu⟩ := s
 show ETri J w0 (ofL []) (ofT 134 [(0, Zc []), (1, iv 0), (2, iv 0), (3, iv 0), (8, bv true), (9, bv true)]) _
 refine ZC (Zb (Za (pM (mT 2 (iv 0)) (pM (mT 1 (iv 0)) (oC (sp_sub (c := 0) rfl (w64 (by omega) (by omega) (by omega))) I0 I0 (pM (aT 21 (iv 0)) (kN 134 [] [(0, Zc []), (1, iv 0), (2, iv 0), (3, iv 0), (8, bv true), (9, bv true), (10, iv 0)] (Zd (Zb (Zb (Za ?_)))))))))))
 refine pM (mT 10 (iv 0)) (oC (sp_leq (r := true) rfl (by decide)) I0 I0 (kN 134 [] [(0, Zc []), (1, iv 0), (2, iv 0), (3, iv 0), (8, bv true), (9, bv true), (10, iv 0), (23, bv true)] (Zd (Zu rfl (Zb (Za (pM (mT 0 (Zc [])) (pM (mT 1 (iv 0)) (pM (mT 2 (iv 0)) (Z9 rfl (Zj (c := .func 104) (xs := #[.tmp 24, .tmp 25, .tmp 26]) [] insNil_c rfl (by kernel_rfl) rfl (Xs := [Zc [], iv 0, iv 0]) rfl rfl rfl) ⟨I0, I0, I0, I0, T0⟩ T0 T0 (Zr ?_)))))))))))
 refine Zd (Zl (Zh (Zk (Zh (Zk ?_)))))
 refine tri_end0 Try.results82  ?_
 exact rfl
theorem sortNil_c : Ctr Try.prog J 54 [Zc []] (.v (.tuple #[])) := by
 refine Zy Try.func54 rfl (by intro X hX; simp only [List.mem_cons, List.not_mem_nil, or_false] at hX; rcases hX with rfl; exact ZI []) (n := 11) rfl (by simp) (fun w0 => ?_)
 refine kW 11 [] [(0, Zc [])] (Zb (Za (pM (mT 0 (Zc [])) (oA (Zs (.tmp 3) rfl U24) I0 (pM (aT 4 (iv 0)) (kN 11 [] [(0, Zc []), (2, iv 0)] (Zd (Za (pM (mT 0 (Zc [])) (pM (mT 2 (iv 0)) (pM (mT 2 (iv 0)) ?_)))))))))))
 refine oA (sp_conv (c := 0) rfl U3 U109 rfl) I0 (oC (Zj (c := .func 83) (xs := #[.tmp 8]) [] bitsLen_c rfl (by kernel_rfl) rfl (Xs := [.v (.int .u64 0)]) rfl rfl rfl) I0 I0 (Z9 rfl (Zj (c := .func 82) (xs := #[.tmp 5, .const (.int .i64 0), .tmp 6, .tmp 9]) [] pdqNil_c rfl (by kernel_rfl) rfl (Xs := [Zc [], iv 0, iv 0, iv 0]) rfl rfl rfl) ⟨I0, I0, I0, I0, I0, T0⟩ T0 T0 (kN 11 [] [] ?_)))
 refine t_end_normal ?_
 refine tri_end0 Try.results54  ?_
 exact rfl
end Go.Proofs.Ytoefmdjgnabgfaa

namespace Go.Proofs.Ytoefmdjgnabgfaa
open Go.RowKit Go.Deep
variable {J : World → Prop}
set_option maxRecDepth 100000 in
set_option maxHeartbeats 6400000 in
theorem sortProc_w {p : Fm} {A B : List Int} (hl0 : (A ++ B).length ≤ 100) : CtrW Try.prog J 24 [.agg (cFm p), .own 1000000, iv A.length] 1000000 (.row false 3 1 ((A ++ B).length) ((A ++ B).map iv)) (.row false 3 1 ((A ++ B).length) ((Ct.srtP p.top A B).map iv)) (.v (.tuple #[])) := by
 have hl2 : (A ++ B).length = A.length + B.length := List.length_append
 refine ctrW_of_tri (by decide) Try.func24 rfl (n := 17) rfl (by simp) (fun w0 => ?_)
 refine kW 17 [(1000000, .row false 3 1 ((A ++ B).length) ((A ++ B).map iv))] [(0, .agg (cFm p)), (1, .own 1000000), (2, iv A.length)] (Zb (Za (Z9 rfl (ZT (X := .agg (cFm p)) (k := 1) (.tmp 0) rfl rfl) ⟨I0, T0⟩ T0 rfl (kN 17 [(1, .box 27 (cFm p)), (1000000, .row false 3 1 ((A ++ B).length) ((A ++ B).map iv))] [(1, .own 1000000), (2, iv A.length), (3, .box 1 0)] (Zd (Zb ?_))))))
 by_cases hs1 : p.top = 1
 refine Za (oA (fb 1 3 U27 1) I0 (oB (lb (iv p.top) 6 U3) I0 rfl (oC (ZM rfl (dT hs1)) I0 I0 (kN 17 [(1000000, .row false 3 1 ((A ++ B).length) ((A ++ B).map iv))] [(1, .own 1000000), (2, iv A.length), (8, bv true)] (Zd (Zu rfl (Zb (Za (pM (mT 1 (.own 1000000)) (pM (mT 2 (iv A.length)) (Z9 rfl (sp_sliceOwn (l := 0) (h := A.length) (q := A.length) (.tmp 9) none (some (.tmp 10)) rfl U24 (by kernel_rfl) [] [(.tmp 10, iv A.length)] (.inl ⟨rfl, rfl, rfl⟩) (.inr ⟨_, _, rfl, rfl⟩) (Nat.zero_le _) (by omega) rfl) ⟨I0, I0, T0⟩ ⟨rfl, T0⟩ T0 ?_)))))))))))
 refine Z9 rfl (sp_sortB (c := .func 54) (x := .tmp 11) (e := 3) (n := (A ++ B).length) (k := 1000000) (fr := false) (l := 0) (ys := A) sortNil_c rfl rfl Ct.pt_y1 (by omega) (by simp) (by simp [Ct.srt_len]) (Ct.pt_d1 (Ct.srt_len A)) (by omega)) ⟨I0, I0, T0⟩ ⟨rfl, T0⟩ rfl (kN 17 [(1000000, .row false 3 1 ((A ++ B).length) ((Ct.srt A ++ B).map iv))] [(1, .own 1000000), (2, iv A.length)] (Zd (Za (pM (mT 1 (.own 1000000)) (pM (mT 2 (iv A.length)) (Z9 rfl (sp_sliceOwn (l := A.length) (h := (A ++ B).length) (q := B.length) (.tmp 13) (some (.tmp 14)) none rfl U24 (by kernel_rfl) [(.tmp 14, iv A.length)] [] (.inr ⟨_, _, rfl, rfl⟩) (.inl ⟨rfl, rfl, rfl⟩) (by omega) (Nat.le_refl _) (by omega)) ⟨I0, I0, T0⟩ ⟨rfl, T0⟩ T0 (Z9 rfl (sp_sortB (c := .func 54) (x := .tmp 15) (e := 3) (n := (A ++ B).length) (k := 1000000) (fr := false) (l := A.length) (ys := B) sortNil_c rfl rfl (Ct.pt_y2 (Ct.srt_len A)) (by omega) (by simp [Ct.srt_len]) (by simp [Ct.srt_len]) (Ct.pt_d2 (Ct.srt_len A) (Ct.srt_len B) hl2) (by omega)) ⟨I0, I0, T0⟩ ⟨rfl, T0⟩ rfl (kN 17 [(1000000, .row false 3 1 ((A ++ B).length) ((Ct.srt A ++ Ct.srt B).map iv))] [] ?_))))))))
 refine t_end_normalW ?_
 exact tri_back0 Try.results24  (by decide) (by exact congrArg (fun c => some (ABlk.row false 3 1 (A ++ B).length (c.map iv))) (Ct.srtP_one hs1))
 refine Za (oA (fb 1 3 U27 1) I0 (oB (lb (iv p.top) 6 U3) I0 rfl (oC (ZM rfl (dF hs1)) I0 I0 (kN 17 [(1000000, .row false 3 1 ((A ++ B).length) ((A ++ B).map iv))] [(1, .own 1000000), (2, iv A.length), (8, bv false)] (Zd (Zq rfl (Zm ?_)))))))
 refine t_end_normalW ?_
 exact tri_back0 Try.results24  (by decide) (by exact congrArg (fun c => some (ABlk.row false 3 1 (A ++ B).length (c.map iv))) (Ct.srtP_no hs1))
end Go.Proofs.Ytoefmdjgnabgfaa
