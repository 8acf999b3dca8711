import Derived.Test.YtpadmggccpgajaaDoorProg
import Derived.Deep.QuietTactic
import Derived.BigQuiet
import Derived.LoopTactic
import Derived.Lib.Hide
import Derived.Test.YtpadmggccpgajaaDoorGrpbjbiajdf
import Derived.Test.YtpadmggccpgajaaDoorGrpcbghmhjg
import Derived.Test.YtpadmggccpgajaaDoorGrppbcncjnd
import Derived.Test.YtpadmggccpgajaaDoorGrpbkjlamji
import Derived.Test.YtpadmggccpgajaaDoorGrpcaagmlkd
import Derived.Test.YtpadmggccpgajaaDoorGrplcgeihik
set_option linter.all false
namespace Go.Proofs.YtpadmggccpgajaaDoor
open Go.RowKit Go.Deep
variable {J : World → Prop}
end Go.Proofs.YtpadmggccpgajaaDoor

namespace Go.Proofs.YtpadmggccpgajaaDoor
open Go.RowKit Go.Deep
theorem wk_adoptB {h : AHeap} {t : ATm} (k0 i k : Nat) (fr : Bool) (e z : Nat) {T : TypeId} {cs ds : List AV} (hk : h k = none) (hb : h k0 = some (.box T cs)) (hi : cs[i]? = some (.v (.slice none 0 0))) (hd : cs.set i (.own k) = ds) :
    Wk h t (fun j => if j = k then some (.row fr e z 0 []) else if j = k0 then some (.box T ds) else h j) t := by
  subst hd
  intro J w0 ρ a w s
  have hρ := s.dom k hk
  have hkk : k0 ≠ k := by rintro rfl; rw [hb] at hk; cases hk
  refine ⟨upd ρ k .nil, ?_⟩
  have hok : ∀ b, okOf ρ b → okOf (upd ρ k .nil) b := fun b hb j c n hj => by
    by_cases e : j = k
    · subst e; rw [upd_same] at hj; cases hj
    · rw [upd_other e] at hj; exact hb _ _ _ hj
  have hn : ∀ j nm, ρ j = some nm → upd ρ k .nil j = some nm := fun j nm hj => by rw [upd_other (by rintro rfl; rw [hρ] at hj; cases hj)]; exact hj
  have hp : ∀ X x, Pu (w0.heap.size ≤ ·) w (okOf ρ) X x → Pu (w0.heap.size ≤ ·) w (okOf (upd ρ k .nil)) X x := fun X x hx => hx.weak hok
  have hat : ∀ j b c n, upd ρ k .nil j = some (.at b c n) → ρ j = some (.at b c n) := fun j b c n hj => by
    by_cases e : j = k
    · subst e; rw [upd_same] at hj; cases hj
    · rw [upd_other e] at hj; exact hj
  refine ⟨⟨fun j k b c d m n hj hk => s.wf.inj _ _ _ _ _ _ _ (hat _ _ _ _ hj) (hat _ _ _ _ hk), fun k b c n hk => s.wf.lo _ _ _ _ (hat _ _ _ _ hk)⟩, s.bel, s.inv, fun j X hj => ?_, fun j hj => ?_, s.tl, fun j hj => (s.tm j hj).keep hp hn, s.df⟩
  · by_cases e : j = k
    · subst e
      rw [if_pos rfl] at hj
      cases hj
      exact ⟨.nil, upd_same _ _ _, blk_nil _ _ _ _ _ _⟩
    · rw [if_neg e] at hj
      by_cases e0 : j = k0
      · subst e0
        rw [if_pos rfl] at hj
        cases hj
        obtain ⟨nm, g1, g2⟩ := s.hp j _ hb
        obtain ⟨b, c, n, vs, q0, q1, q2, q3⟩ := g2
        refine ⟨nm, hn _ _ g1, b, c, n, vs, q0, q1, by simpa using q2, fun l hl => ?_⟩
        have hl' : l < cs.length := by simpa using hl
        rw [List.getElem_set]
        split
        · rename_i e1
          subst e1
          have h1 := q3 i hl'
          have h2 : cs[i] = .v (.slice none 0 0) := by
            rw [List.getElem?_eq_getElem hl'] at hi
            exact Option.some.inj hi
          rw [h2] at h1
          rw [h1.v_inv]
          exact .own (nm := .nil) (upd_same _ _ _)
        · exact (q3 l hl').keep hp hn
      · rw [if_neg e0] at hj
        obtain ⟨nm, g1, g2⟩ := s.hp j X hj
        exact ⟨nm, hn _ _ g1, g2.keep (fun fr X x hx => hx.weak fun b hb => ⟨hok _ hb.1, hb.2⟩) hp hn fun _ _ _ _ => rfl⟩
  · by_cases e : j = k
    · rw [if_pos e] at hj; cases hj
    · rw [if_neg e] at hj
      rw [upd_other e]
      by_cases e0 : j = k0
      · rw [if_pos e0] at hj; cases hj
      · rw [if_neg e0] at hj; exact s.dom j hj
end Go.Proofs.YtpadmggccpgajaaDoor

namespace Go.Proofs.YtpadmggccpgajaaDoor
open Go.RowKit Go.Deep
end Go.Proofs.YtpadmggccpgajaaDoor

namespace Go.Proofs.YtpadmggccpgajaaDoor
open Go.RowKit Go.Deep
variable {J : World → Prop}
theorem ruInts {r : Ru} (h : RuOk r) : InOk [r.kind, r.frm, r.to, r.pf, r.pt, r.rd, r.wr, r.pos, r.dir] := fun x hx => by
  simp only [List.mem_cons, List.not_mem_nil, or_false] at hx
  rcases hx with rfl | rfl | rfl | rfl | rfl | rfl | rfl | rfl | rfl
  · exact h.kind
  · exact h.frm
  · exact h.to
  · exact h.pf
  · exact h.pt
  · exact h.rd
  · exact h.wr
  · exact h.pos
  · exact h.dir
end Go.Proofs.YtpadmggccpgajaaDoor

namespace Go.Proofs.YtpadmggccpgajaaDoor
open Go.RowKit Go.Deep

/-- The first k elements are the same. -/
def sameK (xs ys : List Int) (k : Nat) : Prop := xs.take k = ys.take k
theorem sameK_succ {xs ys : List Int} {k : Nat} (h : k < xs.length) (h' : k < ys.length) (hk : sameK xs ys k) (e : xs[k] = ys[k]) : sameK xs ys (k + 1) := by
  unfold sameK at *; rw [List.take_succ_eq_append_getElem h, List.take_succ_eq_append_getElem h', hk, e]
theorem eqI_differ {xs ys : List Int} {k : Nat} (h : k < xs.length) (h' : k < ys.length) (e : xs[k] ≠ ys[k]) : eqI xs ys = false := by
  unfold eqI; rw [decide_eq_false_iff_not]; rintro rfl; exact e rfl
theorem eqI_len {xs ys : List Int} (h : xs.length ≠ ys.length) : eqI xs ys = false := by
  unfold eqI; rw [decide_eq_false_iff_not]; rintro rfl; exact h rfl
theorem eqI_end {xs ys : List Int} {k : Nat} (h : k = xs.length) (h' : k = ys.length) (hk : sameK xs ys k) : eqI xs ys = true := by
  unfold sameK at hk; rw [List.take_of_length_le (by omega), List.take_of_length_le (by omega)] at hk
  unfold eqI; rw [decide_eq_true_iff]; exact hk

set_option maxHeartbeats 800000 in
theorem Equal_full (b off n cap b' off' n' cap' : Nat) (w : World) (xs ys : List Int) (hx : xs.length = n) (hy : ys.length = n') (hn : n ≤ 9223372036854775807) (hb : b < w.heap.size) (hb' : b' < w.heap.size)
    (hc : ∀ i, i < n → w.cell? ⟨b, off + i, none⟩ = some (.int .i64 (xs.getD i 0))) (hc' : ∀ i, i < n' → w.cell? ⟨b', off' + i, none⟩ = some (.int .i64 (ys.getD i 0))) :
    Calls Tryd.prog 112 #[.slice (some ⟨b, off, none⟩) n cap, .slice (some ⟨b', off', none⟩) n' cap'] w fun e w' => e = .returned (.bool (eqI xs ys)) ∧ Below w.heap.size w w' := by
  by_cases hnn : n = n'
  · subst hnn
    go_enter Tryd.func112, Tryd.ntmps112
    go_wp2_with fail
    go_loopw [13] (fun v wr => ∃ k : Nat, k ≤ n ∧ v = .int .i64 k ∧ sameK xs ys k ∧ Below w.heap.size w wr) (fun v _ => n - (intOf v).toNat)
    case atStart => exact ⟨0, Nat.zero_le _, rfl, rfl, Below.refl _ _⟩
    case round =>
      obtain ⟨k, hk, rfl, hs, hB⟩ := hrel
      have HS := Lib.hid hs
      have HB := Lib.hid hB
      clear hs
      by_cases h1 : k < n
      · have g1 : wr.cell? ⟨b, off + k, none⟩ = some (.int .i64 (xs.getD k 0)) := (hB.cell (p := ⟨b, off + k, none⟩) hb).trans (hc k h1)
        have g2 : wr.cell? ⟨b', off' + k, none⟩ = some (.int .i64 (ys.getD k 0)) := (hB.cell (p := ⟨b', off' + k, none⟩) hb').trans (hc' k h1)
        have ex : xs.getD k 0 = xs[k]'(by omega) := by simp [List.getD, List.getElem?_eq_getElem (show k < xs.length by omega)]
        have ey : ys.getD k 0 = ys[k]'(by omega) := by simp [List.getD, List.getElem?_eq_getElem (show k < ys.length by omega)]
        rw [ex] at g1
        rw [ey] at g2
        generalize hX : xs[k]'(by omega) = x at g1
        generalize hY : ys[k]'(by omega) = y at g2
        have HX := Lib.hid hX
        have HY := Lib.hid hY
        clear hB ex ey hX hY
        by_cases he : x = y
        · have HE := Lib.hid he
          have e1 : (x == y) = true := by simp [he]
          have e2 : (x != y) = false := by rw [bne, e1]; rfl
          clear he
          go_wp2_with fail
          go_quiet (fail)
          go_wp2_with fail
          go_roundw
          case rel => exact ⟨k + 1, by omega, by go_num, sameK_succ (by omega) (by omega) HS.out (by rw [HX.out, HY.out]; exact HE.out), quietBelow HB.out _⟩
          case measure => simp [intOf]; omega
        · have HE := Lib.hid he
          have e1 : (x == y) = false := by simp [he]
          have e2 : (x != y) = true := by rw [bne, e1]; rfl
          clear he
          go_wp2_with fail
          go_quiet (fail)
          go_wp2_with fail
          go_ret
          exact ⟨ret_bool (by rw [eqI_differ (k := k) (by omega) (by omega) (by rw [HX.out, HY.out]; exact HE.out)]), quietBelow HB.out _⟩
      · clear hB
        go_wp2_with fail
        go_ret
        exact ⟨ret_bool (by rw [eqI_end (k := k) (by omega) (by omega) HS.out]), HB.out⟩
  · have h1 : (((n : Nat) : Int) == ((n' : Nat) : Int)) = false := by simp; omega
    have h2 : (((n : Nat) : Int) != ((n' : Nat) : Int)) = true := by rw [bne, h1]; rfl
    have E := Lib.hid (eqI_len (xs := xs) (ys := ys) (by rw [hx, hy]; exact hnn))
    clear hnn
    go_enter Tryd.func112, Tryd.ntmps112
    go_wp2_with fail
    go_ret
    exact ⟨ret_bool (by rw [E.out]), Below.refl _ _⟩
theorem Equal_left (a a' : Option Addr) (cap n' cap' : Nat) (w : World) (ys : List Int) (hy : ys.length = n') (hn : n' ≤ 9223372036854775807) :
    Calls Tryd.prog 112 #[.slice a 0 cap, .slice a' n' cap'] w fun e w' => e = .returned (.bool (eqI [] ys)) ∧ Below w.heap.size w w' := by
  by_cases h0 : n' = 0
  · subst h0
    obtain rfl := List.eq_nil_of_length_eq_zero hy
    go_enter Tryd.func112, Tryd.ntmps112
    go_wp2_with fail
    refine wp_loop_rounds 1 ?_
    rw [rounds_succ]
    go_wp2_with fail
    go_ret
    exact ⟨rfl, Below.refl _ _⟩
  · have h1 : (((0 : Nat) : Int) == ((n' : Nat) : Int)) = false := by simp; omega
    have h1' : ((0 : Int) == ((n' : Nat) : Int)) = false := by simp; omega
    have h2 : ((0 : Int) != ((n' : Nat) : Int)) = true := by rw [bne, h1']; rfl
    have E := Lib.hid (eqI_len (xs := []) (ys := ys) (by simp; omega))
    clear h0
    go_enter Tryd.func112, Tryd.ntmps112
    go_wp2_with fail
    go_ret
    exact ⟨ret_bool (by rw [E.out]), Below.refl _ _⟩
theorem Equal_right (a a' : Option Addr) (n cap cap' : Nat) (w : World) (x : Int) (xs : List Int) (hx : (x :: xs).length = n) (hn : n ≤ 9223372036854775807) :
    Calls Tryd.prog 112 #[.slice a n cap, .slice a' 0 cap'] w fun e w' => e = .returned (.bool (eqI (x :: xs) [])) ∧ Below w.heap.size w w' := by
  have h0 : 0 < n := by simp at hx; omega
  have h1 : (((n : Nat) : Int) == (0 : Int)) = false := by simp; omega
  have h2 : (((n : Nat) : Int) != (0 : Int)) = true := by rw [bne, h1]; rfl
  have E := Lib.hid (eqI_len (xs := x :: xs) (ys := []) (by simp))
  clear hx
  go_enter Tryd.func112, Tryd.ntmps112
  go_wp2_with fail
  go_ret
  exact ⟨ret_bool (by rw [E.out]), Below.refl _ _⟩
theorem Equal_any {lo lo' : Nat} {w : World} {v v' : Value} {xs ys : List Int} (h : IsInts lo w v xs) (h' : IsInts lo' w v' ys) :
    Calls Tryd.prog 112 #[v, v'] w fun e w' => e = .returned (.bool (eqI xs ys)) ∧ Below w.heap.size w w' := by
  obtain ⟨a, cap, rfl, hl, hm, hi, hc⟩ := h
  obtain ⟨a', cap', rfl, hl', hm', hi', hc'⟩ := h'
  unfold maxLen at hm hm'
  rcases hc with rfl | ⟨b, off, rfl, _, hb, hc⟩
  · exact Equal_left _ _ _ _ _ _ _ rfl (by omega)
  · rcases hc' with rfl | ⟨b', off', rfl, _, hb', hc'⟩
    · cases xs with
      | nil => exact Equal_left _ _ _ _ _ _ _ rfl (by simp)
      | cons x xs => exact Equal_right _ _ _ _ _ _ _ _ rfl (by omega)
    · exact Equal_full _ _ _ _ _ _ _ _ _ _ _ rfl rfl (by omega) hb hb' hc hc'
end Go.Proofs.YtpadmggccpgajaaDoor

namespace Go.Proofs.YtpadmggccpgajaaDoor
open Go.RowKit Go.Deep
deriving instance DecidableEq for Ru
deriving instance DecidableEq for Fm
def agK {α : Type} (xs ys : List α) (k : Nat) : Prop := ∀ i (h : i < xs.length) (h' : i < ys.length), i < k → xs[i] = ys[i]
section
variable {α : Type} {xs ys : List α} {k : Nat}
theorem agK_zero (xs ys : List α) : agK xs ys 0 := fun _ _ _ h => absurd h (by omega)
theorem agK_succ (h1 : k < xs.length) (h2 : k < ys.length) (h : agK xs ys k) (e : xs[k] = ys[k]) : agK xs ys (k + 1) := fun i a b c => by
  by_cases x : i = k
  · subst x; exact e
  · exact h i a b (by omega)
variable [DecidableEq α]
theorem ag_end (hl : ((xs.length : Nat) : Int) = ((ys.length : Nat) : Int)) (hk : ¬ k < xs.length) (h : agK xs ys k) : decide (xs = ys) = true := by
  rw [decide_eq_true_eq]; exact List.ext_getElem (by omega) fun i a b => h i a b (by omega)
theorem ag_no (h1 : k < xs.length) (h2 : k < ys.length) (e : ¬ xs[k] = ys[k]) : decide (xs = ys) = false := by
  rw [decide_eq_false_iff_not]; rintro rfl; exact e rfl
theorem ag_len (hl : ¬ ((xs.length : Nat) : Int) = ((ys.length : Nat) : Int)) : decide (xs = ys) = false := by
  rw [decide_eq_false_iff_not]; rintro rfl; exact hl rfl
end
section
variable {P : Program} {J : World → Prop} {o : Oper}
theorem sp_aggNeqG {T ty : TypeId} {x y : Operand} (xs ys : List Value) {b : Bool} (r : Bool) (ho : o.op = .binOp .neq T x y ty) (hm : P.eqGuardType P.depth T = false) (H : ∀ w, (Op.equalIn 10000 T (.agg xs.toArray) (.agg ys.toArray)).run P w = .ok b w) (hr : b = !r) :
    ASpec P J o [(x, .agg (xs.map AV.v)), (y, .agg (ys.map AV.v))] [] (.v (.bool r)) .no :=
  aspec_val fun ρ B a w _ ha _ => by
    have h1 := agg_known (ha (x, .agg (xs.map AV.v)) (by simp))
    have h2 := agg_known (ha (y, .agg (ys.map AV.v)) (by simp))
    refine ⟨.bool r, ?_, .pu (.v _)⟩
    simp only [execOp, ho, h1, h2]
    refine run_val ?_
    rw [Sem.run_bind, run_eqGuard_agg w .neq T x y _ _ hm, Result.andThen_ok, run_neq_struct, H w, hr]
    simp
end
theorem eqg_ln (l m : Ln) (w : World) : (Op.equalIn 10000 87 (.agg [.int .i64 l.c, .int .i64 l.n, .int .i64 l.t, .int .i64 l.f].toArray) (.agg [.int .i64 m.c, .int .i64 m.n, .int .i64 m.t, .int .i64 m.f].toArray)).run Tryd.prog w = .ok (decide (l = m)) w := by
  rw [run_equalIn_agg w 9999 _ _ _ (by kernel_rfl) (by kernel_rfl)]
  rw [show (Program.fieldsOf Tryd.prog 87).toList = _ from by unfold Program.fieldsOf; rw [Tryd.underlying87]]
  obtain ⟨a, b, c, d⟩ := l
  obtain ⟨e, f, g, h⟩ := m
  by_cases h1 : a = e
  · by_cases h2 : b = f
    · by_cases h3 : c = g
      · by_cases h4 : d = h
        · simp [go_sem, Op.eqFields, part, asAgg, isAgg, Tryd.underlying3, run_underlying, h1, h2, h3, h4]
        · simp [go_sem, Op.eqFields, part, asAgg, isAgg, Tryd.underlying3, run_underlying, h1, h2, h3, h4]
      · simp [go_sem, Op.eqFields, part, asAgg, isAgg, Tryd.underlying3, run_underlying, h1, h2, h3]
    · simp [go_sem, Op.eqFields, part, asAgg, isAgg, Tryd.underlying3, run_underlying, h1, h2]
  · simp [go_sem, Op.eqFields, part, asAgg, isAgg, Tryd.underlying3, run_underlying, h1]
variable {J : World → Prop}
theorem sameIntsG (xs ys : List Int) (hx : InOk xs) (hy : InOk ys) : Ctr Tryd.prog J 19 [intsA xs, intsA ys] (bv (decide (xs = ys))) := ctr2 fun w v v' _ h h' =>
  (SameInts_any (pu_ints hx lo0 h) (pu_ints hy lo0 h')).mono fun _ _ => ret_sc
theorem eqIntsG (xs ys : List Int) (hx : InOk xs) (hy : InOk ys) : Ctr Tryd.prog J 112 [intsA xs, intsA ys] (bv (decide (xs = ys))) := ctr2 fun w v v' _ h h' =>
  (Equal_any (pu_ints hx lo0 h) (pu_ints hy lo0 h')).mono fun _ _ => ret_sc
theorem sameThG (g k : Th) : Ctr Tryd.prog J 102 [.agg (cTh g), .agg (cTh k)] (bv (decide (g = k))) := ctr2 fun w v v' _ h h' => by
  have e : ∀ {g : Th} {v : Value}, Pu (fun _ => True) w (fun b => b < w.heap.size) (.agg (cTh g)) v → v = .agg #[.int .i64 g.msg, .int .i64 g.coef, .int .i64 g.bd.c, .int .i64 g.bd.n, .int .i64 g.bd.t, .int .i64 g.bd.f] := fun {g} {v} h => by
    obtain ⟨vs, rfl, hl, hv⟩ := agg_cells h
    rw [cells6 hl, (hv 0 (by simp [cTh])).v_inv, (hv 1 (by simp [cTh])).v_inv, (hv 2 (by simp [cTh])).v_inv, (hv 3 (by simp [cTh])).v_inv, (hv 4 (by simp [cTh])).v_inv, (hv 5 (by simp [cTh])).v_inv]
  rw [e h, e h']
  exact (SameTh_any g.msg g.coef g.bd.c g.bd.n g.bd.t g.bd.f k.msg k.coef k.bd.c k.bd.n k.bd.t k.bd.f w).mono fun _ _ => ret_sc
theorem samePartsG {r s : Ru} (hr : RuOk r) (hs : RuOk s) : Ctr Tryd.prog J 60 [.agg (cRu r), .agg (cRu s)] (bv (samP r s)) := ctr2 fun w v v' _ h h' => by
  obtain ⟨vs, rfl, hl, hv⟩ := agg_cells h
  obtain ⟨us, rfl, hl', hu⟩ := agg_cells h'
  exact (sameParts_any (ru_of (lo := 0) hr lo0 hl hv) (ru_of (lo := 0) hs lo0 hl' hu)).mono fun _ _ => ret_sc
structure SP (r s : Ru) : Prop where
  n9 : [r.kind, r.frm, r.to, r.pf, r.pt, r.rd, r.wr, r.pos, r.dir] = [s.kind, s.frm, s.to, s.pf, s.pt, s.rd, s.wr, s.pos, s.dir]
  resp : r.resp = s.resp
  guards : r.guards = s.guards
  ex : r.ex = s.ex
  fa : r.fa = s.fa
  send : r.send = s.send
  left : r.left = s.left
  right : r.right = s.right
  parent : r.parent = s.parent
theorem samP_sp {r s : Ru} : samP r s = true ↔ SP r s := by
  rw [samP_iff]
  constructor
  · rintro ⟨h1, h2, h3, h4, h5, h6, h7, h8, h9, h10, h11, h12, h13, h14, h15, h16, h17⟩
    exact ⟨by rw [h1, h2, h3, h4, h5, h10, h11, h13, h17], h6, h7, h8, h9, h12, h14, h15, h16⟩
  · rintro ⟨h, h6, h7, h8, h9, h12, h14, h15, h16⟩
    simp only [List.cons.injEq, and_true] at h
    obtain ⟨h1, h2, h3, h4, h5, h10, h11, h13, h17⟩ := h
    exact ⟨h1, h2, h3, h4, h5, h6, h7, h8, h9, h10, h11, h12, h13, h14, h15, h16, h17⟩
theorem samP_not {r s : Ru} {Q : Prop} (h : SP r s → Q) (n : ¬ Q) : samP r s = false := by
  cases e : samP r s with
  | false => rfl
  | true => exact absurd (h (samP_sp.1 e)) n
theorem dec_t {p : Prop} [Decidable p] (h : p) : decide p = true := decide_eq_true h
end Go.Proofs.YtpadmggccpgajaaDoor

namespace Go.Proofs.YtpadmggccpgajaaDoor
open Go.RowKit Go.Deep
variable {J : World → Prop}
set_option linter.unusedSimpArgs false in
set_option linter.unusedVariables false in
set_option maxRecDepth 100000 in
set_option maxHeartbeats 6400000 in
theorem sameLinearsG (xs ys : List Ln) (hx : xs.length ≤ 9223372036854775807) (hy : ys.length ≤ 9223372036854775807) : Ctr Tryd.prog J 56 [slA 4 cLn xs, slA 4 cLn ys] (bv (decide (xs = ys))) := by
 refine ctr_of_tri Tryd.func56 rfl (by intro X hX; simp only [List.mem_cons, List.not_mem_nil, or_false] at hX; rcases hX with rfl | rfl; exact plain_sl plain_ln _; exact plain_sl plain_ln _) (n := 26) rfl (by simp) (fun w0 => ?_)
 refine tri_wk (wk_keep [] [(0, slA 4 cLn xs), (1, slA 4 cLn ys)] (n := 26)) ?_
 refine tri_seq ?_
 refine tri_region ?_
 refine t_op rfl (sp_assign (.const (.bool false)) (bv false) rfl) ⟨I0, T0⟩ T0 T0 ?_
 refine tri_nil ?_
 refine tri_wk (wk_keep [] [(0, slA 4 cLn xs), (1, slA 4 cLn ys), (4, bv false)] (n := 26)) ?_
 refine t_then ?_
 refine tri_seq ?_
 refine tri_seq ?_
 by_cases hs1 : ((xs.length : Nat) : Int) = ((ys.length : Nat) : Int)
 refine tri_region ?_
 refine t_op rfl (sp_move (.tmp 0) (slA 4 cLn xs) rfl) ⟨I0, T0⟩ T0 T0 ?_
 refine t_op rfl (sp_lenSl (.tmp 6) rfl Tryd.underlying23) ⟨I0, T0⟩ T0 T0 ?_
 refine t_op rfl (sp_move (.tmp 1) (slA 4 cLn ys) rfl) ⟨I0, T0⟩ T0 T0 ?_
 refine t_op rfl (sp_lenSl (.tmp 8) rfl Tryd.underlying23) ⟨I0, T0⟩ T0 T0 ?_
 refine t_op rfl (sp_neq rfl (dT' hs1)) ⟨I0, I0, T0⟩ T0 T0 ?_
 refine tri_nil ?_
 refine tri_wk (wk_keep [] [(0, slA 4 cLn xs), (1, slA 4 cLn ys), (4, bv false), (10, bv false)] (n := 26)) ?_
 refine t_then ?_
 refine t_condF rfl ?_
 refine tri_skip ?_
 refine t_then ?_
 refine tri_seq ?_
 refine tri_seq ?_
 refine tri_region ?_
 refine t_op rfl (sp_assign (.const (.int .i64 0)) (iv 0) rfl) ⟨I0, T0⟩ T0 T0 ?_
 refine tri_nil ?_
 refine tri_wk (wk_keep [] [(0, slA 4 cLn xs), (1, slA 4 cLn ys), (4, bv false), (5, iv 0)] (n := 26)) ?_
 refine t_then ?_
 refine tri_block ?_
 refine tri_loop (σ := {k : Nat // k ≤ xs.length ∧ agK xs ys k}) (fun s => (ofL [], ofT 26 [(0, slA 4 cLn xs), (1, slA 4 cLn ys), (5, iv s.1)])) (fun s => xs.length - s.1) ⟨0, Nat.zero_le _, agK_zero _ _⟩ (wk_keep [] _ rfl (by kernel_rfl) (by kernel_rfl)) (fun s => ?_)
 obtain ⟨k, hk0, hs0⟩ := s
 show ETri J w0 (ofL []) (ofT 26 [(0, slA 4 cLn xs), (1, slA 4 cLn ys), (5, iv k)]) _
 refine tri_seq ?_
 refine tri_seq ?_
 by_cases hs2 : ((k : Nat) : Int) < ((xs.length : Nat) : Int)
 refine tri_region ?_
 refine t_op rfl (sp_move (.tmp 5) (iv k) rfl) ⟨I0, T0⟩ T0 T0 ?_
 refine t_op rfl (sp_move (.tmp 0) (slA 4 cLn xs) rfl) ⟨I0, T0⟩ T0 T0 ?_
 refine t_op rfl (sp_lenSl (.tmp 12) rfl Tryd.underlying23) ⟨I0, T0⟩ T0 T0 ?_
 refine t_op rfl (sp_lss rfl (dT hs2)) ⟨I0, I0, T0⟩ T0 T0 ?_
 refine tri_nil ?_
 refine tri_wk (wk_keep [] [(0, slA 4 cLn xs), (1, slA 4 cLn ys), (5, iv k), (14, bv true)] (n := 26)) ?_
 refine t_then ?_
 refine t_condT rfl ?_
 refine tri_skip ?_
 refine t_then ?_
 refine tri_seq ?_
 refine tri_block ?_
 refine tri_seq ?_
 by_cases hs3 : (decide (xs[k] = ys[k])) = true
 refine tri_draw [⟨[(.tmp 0, slA 4 cLn xs)], [], slA 4 cLn xs, .no⟩, ⟨[(.tmp 5, iv k)], [], iv k, .no⟩, ⟨[(.tmp 17, slA 4 cLn xs), (.tmp 18, iv k)], [], .el (xs.flatMap cLn) (k * 4), .no⟩, ⟨[(.tmp 19, .el (xs.flatMap cLn) (k * 4))], [], .agg (cLn xs[k]), .no⟩, ⟨[(.tmp 1, slA 4 cLn ys)], [], slA 4 cLn ys, .no⟩, ⟨[(.tmp 5, iv k)], [], iv k, .no⟩, ⟨[(.tmp 21, slA 4 cLn ys), (.tmp 22, iv k)], [], .el (ys.flatMap cLn) (k * 4), .no⟩, ⟨[(.tmp 23, .el (ys.flatMap cLn) (k * 4))], [], .agg (cLn ys[k]), .no⟩, ⟨[(.tmp 20, .agg (cLn xs[k])), (.tmp 24, .agg (cLn ys[k]))], [], bv false, .no⟩] (by kernel_rfl) (by kernel_rfl) ?_
 refine ⟨app_yes rfl (sp_move (.tmp 0) (slA 4 cLn xs) rfl) ⟨I0, T0⟩ T0 T0, ?_⟩
 refine ⟨app_yes rfl (sp_move (.tmp 5) (iv k) rfl) ⟨I0, T0⟩ T0 T0, ?_⟩
 refine ⟨app_yes rfl (sp_indexSl (off := k * 4) (.tmp 17) (.tmp 18) rfl Tryd.underlying23 (by kernel_rfl) (by omega) (by omega) rfl) ⟨I0, I0, T0⟩ T0 T0, ?_⟩
 refine ⟨app_yes rfl (sp_loadElS (z := 4) (.tmp 19) rfl Tryd.underlying87 rfl (by kernel_rfl) (flat_take lenLn xs k (by omega)) rfl) ⟨I0, T0⟩ T0 T0, ?_⟩
 refine ⟨app_yes rfl (sp_move (.tmp 1) (slA 4 cLn ys) rfl) ⟨I0, T0⟩ T0 T0, ?_⟩
 refine ⟨app_yes rfl (sp_move (.tmp 5) (iv k) rfl) ⟨I0, T0⟩ T0 T0, ?_⟩
 refine ⟨app_yes rfl (sp_indexSl (off := k * 4) (.tmp 21) (.tmp 22) rfl Tryd.underlying23 (by kernel_rfl) (by omega) (by omega) rfl) ⟨I0, I0, T0⟩ T0 T0, ?_⟩
 refine ⟨app_yes rfl (sp_loadElS (z := 4) (.tmp 23) rfl Tryd.underlying87 rfl (by kernel_rfl) (flat_take lenLn ys k (by omega)) rfl) ⟨I0, T0⟩ T0 T0, ?_⟩
 refine ⟨app_yes rfl (sp_aggNeqG [.int .i64 xs[k].c, .int .i64 xs[k].n, .int .i64 xs[k].t, .int .i64 xs[k].f] [.int .i64 ys[k].c, .int .i64 ys[k].n, .int .i64 ys[k].t, .int .i64 ys[k].f] (r := false) rfl (by kernel_rfl) (fun w => (eqg_ln xs[k] ys[k] w).trans (by rw [hs3]; rfl)) rfl) ⟨I0, I0, T0⟩ T0 T0, ?_⟩
 show ETri J w0 _ _ _
 refine tri_wk (wk_keep [] [(0, slA 4 cLn xs), (1, slA 4 cLn ys), (5, iv k), (14, bv true), (25, bv false)] (n := 26)) ?_
 refine t_then ?_
 refine t_condF rfl ?_
 refine tri_skip ?_
 refine t_block ?_
 refine t_then ?_
 refine tri_region ?_
 refine t_op rfl (sp_move (.tmp 5) (iv k) rfl) ⟨I0, T0⟩ T0 T0 ?_
 refine t_op rfl (sp_add (c := ((k + 1 : Nat) : Int)) rfl (w64 (by omega) (by omega) (by omega))) ⟨I0, I0, T0⟩ T0 T0 ?_
 refine t_op rfl (sp_assign (.tmp 16) (iv (k + 1 : Nat)) rfl) ⟨I0, T0⟩ T0 T0 ?_
 refine tri_nil ?_
 refine tri_wk (wk_keep [] [(0, slA 4 cLn xs), (1, slA 4 cLn ys), (5, iv (k + 1 : Nat)), (14, bv true), (25, bv false)] (n := 26)) ?_
 refine t_then ?_
 refine tri_again ⟨k + 1, by omega, agK_succ (by omega) (by omega) hs0 (of_decide_eq_true hs3)⟩ (show xs.length - (k + 1) < xs.length - k by omega) ?_
 exact wk_keep [] _ rfl (by kernel_rfl) (by kernel_rfl)
 have hs3f : (decide (xs[k] = ys[k])) = false := by simpa using hs3
 refine tri_draw [⟨[(.tmp 0, slA 4 cLn xs)], [], slA 4 cLn xs, .no⟩, ⟨[(.tmp 5, iv k)], [], iv k, .no⟩, ⟨[(.tmp 17, slA 4 cLn xs), (.tmp 18, iv k)], [], .el (xs.flatMap cLn) (k * 4), .no⟩, ⟨[(.tmp 19, .el (xs.flatMap cLn) (k * 4))], [], .agg (cLn xs[k]), .no⟩, ⟨[(.tmp 1, slA 4 cLn ys)], [], slA 4 cLn ys, .no⟩, ⟨[(.tmp 5, iv k)], [], iv k, .no⟩, ⟨[(.tmp 21, slA 4 cLn ys), (.tmp 22, iv k)], [], .el (ys.flatMap cLn) (k * 4), .no⟩, ⟨[(.tmp 23, .el (ys.flatMap cLn) (k * 4))], [], .agg (cLn ys[k]), .no⟩, ⟨[(.tmp 20, .agg (cLn xs[k])), (.tmp 24, .agg (cLn ys[k]))], [], bv true, .no⟩] (by kernel_rfl) (by kernel_rfl) ?_
 refine ⟨app_yes rfl (sp_move (.tmp 0) (slA 4 cLn xs) rfl) ⟨I0, T0⟩ T0 T0, ?_⟩
 refine ⟨app_yes rfl (sp_move (.tmp 5) (iv k) rfl) ⟨I0, T0⟩ T0 T0, ?_⟩
 refine ⟨app_yes rfl (sp_indexSl (off := k * 4) (.tmp 17) (.tmp 18) rfl Tryd.underlying23 (by kernel_rfl) (by omega) (by omega) rfl) ⟨I0, I0, T0⟩ T0 T0, ?_⟩
 refine ⟨app_yes rfl (sp_loadElS (z := 4) (.tmp 19) rfl Tryd.underlying87 rfl (by kernel_rfl) (flat_take lenLn xs k (by omega)) rfl) ⟨I0, T0⟩ T0 T0, ?_⟩
 refine ⟨app_yes rfl (sp_move (.tmp 1) (slA 4 cLn ys) rfl) ⟨I0, T0⟩ T0 T0, ?_⟩
 refine ⟨app_yes rfl (sp_move (.tmp 5) (iv k) rfl) ⟨I0, T0⟩ T0 T0, ?_⟩
 refine ⟨app_yes rfl (sp_indexSl (off := k * 4) (.tmp 21) (.tmp 22) rfl Tryd.underlying23 (by kernel_rfl) (by omega) (by omega) rfl) ⟨I0, I0, T0⟩ T0 T0, ?_⟩
 refine ⟨app_yes rfl (sp_loadElS (z := 4) (.tmp 23) rfl Tryd.underlying87 rfl (by kernel_rfl) (flat_take lenLn ys k (by omega)) rfl) ⟨I0, T0⟩ T0 T0, ?_⟩
 refine ⟨app_yes rfl (sp_aggNeqG [.int .i64 xs[k].c, .int .i64 xs[k].n, .int .i64 xs[k].t, .int .i64 xs[k].f] [.int .i64 ys[k].c, .int .i64 ys[k].n, .int .i64 ys[k].t, .int .i64 ys[k].f] (r := true) rfl (by kernel_rfl) (fun w => (eqg_ln xs[k] ys[k] w).trans (by rw [hs3f]; rfl)) rfl) ⟨I0, I0, T0⟩ T0 T0, ?_⟩
 show ETri J w0 _ _ _
 refine tri_wk (wk_keep [] [(0, slA 4 cLn xs), (1, slA 4 cLn ys), (5, iv k), (14, bv true), (25, bv true)] (n := 26)) ?_
 refine t_then ?_
 refine t_condT rfl ?_
 refine tri_seq ?_
 refine tri_region ?_
 refine t_op rfl (sp_assign (.const (.bool false)) (bv false) rfl) ⟨I0, T0⟩ T0 T0 ?_
 refine tri_nil ?_
 refine tri_wk (wk_keep [] [(0, slA 4 cLn xs), (1, slA 4 cLn ys), (4, bv false), (5, iv k), (14, bv true), (25, bv true)] (n := 26)) ?_
 refine t_then ?_
 refine tri_ret ?_
 refine t_block_ret ?_
 refine t_then_ret ?_
 refine t_then_ret ?_
 refine t_block_ret ?_
 refine t_then_ret ?_
 refine tri_end1 Tryd.results56 (.tmp rfl) ?_
 exact congrArg (fun x : Bool => AV.v (.bool x)) ((ag_no (k := k) (by omega) (by omega) (of_decide_eq_false hs3f)).symm)
 refine tri_region ?_
 refine t_op rfl (sp_move (.tmp 5) (iv k) rfl) ⟨I0, T0⟩ T0 T0 ?_
 refine t_op rfl (sp_move (.tmp 0) (slA 4 cLn xs) rfl) ⟨I0, T0⟩ T0 T0 ?_
 refine t_op rfl (sp_lenSl (.tmp 12) rfl Tryd.underlying23) ⟨I0, T0⟩ T0 T0 ?_
 refine t_op rfl (sp_lss rfl (dF hs2)) ⟨I0, I0, T0⟩ T0 T0 ?_
 refine tri_nil ?_
 refine tri_wk (wk_keep [] [(0, slA 4 cLn xs), (1, slA 4 cLn ys), (5, iv k), (14, bv false)] (n := 26)) ?_
 refine t_then ?_
 refine t_condF rfl ?_
 refine tri_exit ?_
 refine t_then_exit ?_
 refine t_then_exit ?_
 refine t_hit ?_
 refine t_then ?_
 refine tri_seq ?_
 refine tri_region ?_
 refine t_op rfl (sp_assign (.const (.bool true)) (bv true) rfl) ⟨I0, T0⟩ T0 T0 ?_
 refine tri_nil ?_
 refine tri_wk (wk_keep [] [(4, bv true)] (n := 26)) ?_
 refine t_then ?_
 refine tri_ret ?_
 refine tri_end1 Tryd.results56 (.tmp rfl) ?_
 exact congrArg (fun x : Bool => AV.v (.bool x)) ((ag_end hs1 (by omega) hs0).symm)
 refine tri_region ?_
 refine t_op rfl (sp_move (.tmp 0) (slA 4 cLn xs) rfl) ⟨I0, T0⟩ T0 T0 ?_
 refine t_op rfl (sp_lenSl (.tmp 6) rfl Tryd.underlying23) ⟨I0, T0⟩ T0 T0 ?_
 refine t_op rfl (sp_move (.tmp 1) (slA 4 cLn ys) rfl) ⟨I0, T0⟩ T0 T0 ?_
 refine t_op rfl (sp_lenSl (.tmp 8) rfl Tryd.underlying23) ⟨I0, T0⟩ T0 T0 ?_
 refine t_op rfl (sp_neq rfl (dF' hs1)) ⟨I0, I0, T0⟩ T0 T0 ?_
 refine tri_nil ?_
 refine tri_wk (wk_keep [] [(0, slA 4 cLn xs), (1, slA 4 cLn ys), (4, bv false), (10, bv true)] (n := 26)) ?_
 refine t_then ?_
 refine t_condT rfl ?_
 refine tri_seq ?_
 refine tri_region ?_
 refine t_op rfl (sp_assign (.const (.bool false)) (bv false) rfl) ⟨I0, T0⟩ T0 T0 ?_
 refine tri_nil ?_
 refine tri_wk (wk_keep [] [(0, slA 4 cLn xs), (1, slA 4 cLn ys), (4, bv false)] (n := 26)) ?_
 refine t_then ?_
 refine tri_ret ?_
 refine t_then_ret ?_
 refine tri_end1 Tryd.results56 (.tmp rfl) ?_
 exact congrArg (fun x : Bool => AV.v (.bool x)) ((ag_len hs1).symm)
set_option linter.unusedSimpArgs false in
set_option linter.unusedVariables false in
set_option maxRecDepth 100000 in
set_option maxHeartbeats 6400000 in
theorem eqLinearsG (xs ys : List Ln) (hx : xs.length ≤ 9223372036854775807) (hy : ys.length ≤ 9223372036854775807) : Ctr Tryd.prog J 111 [slA 4 cLn xs, slA 4 cLn ys] (bv (decide (xs = ys))) := by
 refine ctr_of_tri Tryd.func111 rfl (by intro X hX; simp only [List.mem_cons, List.not_mem_nil, or_false] at hX; rcases hX with rfl | rfl; exact plain_sl plain_ln _; exact plain_sl plain_ln _) (n := 26) rfl (by simp) (fun w0 => ?_)
 refine tri_wk (wk_keep [] [(0, slA 4 cLn xs), (1, slA 4 cLn ys)] (n := 26)) ?_
 refine tri_seq ?_
 refine tri_region ?_
 refine t_op rfl (sp_assign (.const (.bool false)) (bv false) rfl) ⟨I0, T0⟩ T0 T0 ?_
 refine tri_nil ?_
 refine tri_wk (wk_keep [] [(0, slA 4 cLn xs), (1, slA 4 cLn ys), (4, bv false)] (n := 26)) ?_
 refine t_then ?_
 refine tri_seq ?_
 refine tri_seq ?_
 by_cases hs1 : ((xs.length : Nat) : Int) = ((ys.length : Nat) : Int)
 refine tri_region ?_
 refine t_op rfl (sp_move (.tmp 0) (slA 4 cLn xs) rfl) ⟨I0, T0⟩ T0 T0 ?_
 refine t_op rfl (sp_lenSl (.tmp 6) rfl Tryd.underlying23) ⟨I0, T0⟩ T0 T0 ?_
 refine t_op rfl (sp_move (.tmp 1) (slA 4 cLn ys) rfl) ⟨I0, T0⟩ T0 T0 ?_
 refine t_op rfl (sp_lenSl (.tmp 8) rfl Tryd.underlying23) ⟨I0, T0⟩ T0 T0 ?_
 refine t_op rfl (sp_neq rfl (dT' hs1)) ⟨I0, I0, T0⟩ T0 T0 ?_
 refine tri_nil ?_
 refine tri_wk (wk_keep [] [(0, slA 4 cLn xs), (1, slA 4 cLn ys), (4, bv false), (10, bv false)] (n := 26)) ?_
 refine t_then ?_
 refine t_condF rfl ?_
 refine tri_skip ?_
 refine t_then ?_
 refine tri_seq ?_
 refine tri_seq ?_
 refine tri_region ?_
 refine t_op rfl (sp_move (.tmp 0) (slA 4 cLn xs) rfl) ⟨I0, T0⟩ T0 T0 ?_
 refine t_op rfl (sp_lenSl (.tmp 11) rfl Tryd.underlying23) ⟨I0, T0⟩ T0 T0 ?_
 refine t_op rfl (sp_move (.const (.int .i64 0)) (iv 0) rfl) ⟨I0, T0⟩ T0 T0 ?_
 refine tri_nil ?_
 refine tri_wk (wk_keep [] [(0, slA 4 cLn xs), (1, slA 4 cLn ys), (4, bv false), (12, iv xs.length), (13, iv 0)] (n := 26)) ?_
 refine t_then ?_
 refine tri_block ?_
 refine tri_loop (σ := {k : Nat // k ≤ xs.length ∧ agK xs ys k}) (fun s => (ofL [], ofT 26 [(0, slA 4 cLn xs), (1, slA 4 cLn ys), (12, iv xs.length), (13, iv s.1)])) (fun s => xs.length - s.1) ⟨0, Nat.zero_le _, agK_zero _ _⟩ (wk_keep [] _ rfl (by kernel_rfl) (by kernel_rfl)) (fun s => ?_)
 obtain ⟨k, hk0, hs0⟩ := s
 show ETri J w0 (ofL []) (ofT 26 [(0, slA 4 cLn xs), (1, slA 4 cLn ys), (12, iv xs.length), (13, iv k)]) _
 refine tri_seq ?_
 by_cases hs2 : ((k : Nat) : Int) < ((xs.length : Nat) : Int)
 refine tri_region ?_
 refine t_op rfl (sp_lss rfl (dT hs2)) ⟨I0, I0, T0⟩ T0 T0 ?_
 refine tri_nil ?_
 refine tri_wk (wk_keep [] [(0, slA 4 cLn xs), (1, slA 4 cLn ys), (12, iv xs.length), (13, iv k), (14, bv true)] (n := 26)) ?_
 refine t_then ?_
 refine tri_seq ?_
 refine t_condT rfl ?_
 refine tri_skip ?_
 refine t_then ?_
 refine tri_seq ?_
 refine tri_block ?_
 refine tri_seq ?_
 refine tri_region ?_
 refine t_op rfl (sp_move (.tmp 13) (iv k) rfl) ⟨I0, T0⟩ T0 T0 ?_
 refine t_op rfl (sp_assign (.tmp 15) (iv k) rfl) ⟨I0, T0⟩ T0 T0 ?_
 refine tri_nil ?_
 refine tri_wk (wk_keep [] [(0, slA 4 cLn xs), (1, slA 4 cLn ys), (5, iv k), (12, iv xs.length), (13, iv k), (14, bv true)] (n := 26)) ?_
 refine t_then ?_
 refine tri_seq ?_
 by_cases hs3 : (decide (xs[k] = ys[k])) = true
 refine tri_draw [⟨[(.tmp 0, slA 4 cLn xs)], [], slA 4 cLn xs, .no⟩, ⟨[(.tmp 5, iv k)], [], iv k, .no⟩, ⟨[(.tmp 16, slA 4 cLn xs), (.tmp 17, iv k)], [], .el (xs.flatMap cLn) (k * 4), .no⟩, ⟨[(.tmp 18, .el (xs.flatMap cLn) (k * 4))], [], .agg (cLn xs[k]), .no⟩, ⟨[(.tmp 1, slA 4 cLn ys)], [], slA 4 cLn ys, .no⟩, ⟨[(.tmp 5, iv k)], [], iv k, .no⟩, ⟨[(.tmp 20, slA 4 cLn ys), (.tmp 21, iv k)], [], .el (ys.flatMap cLn) (k * 4), .no⟩, ⟨[(.tmp 22, .el (ys.flatMap cLn) (k * 4))], [], .agg (cLn ys[k]), .no⟩, ⟨[(.tmp 19, .agg (cLn xs[k])), (.tmp 23, .agg (cLn ys[k]))], [], bv false, .no⟩] (by kernel_rfl) (by kernel_rfl) ?_
 refine ⟨app_yes rfl (sp_move (.tmp 0) (slA 4 cLn xs) rfl) ⟨I0, T0⟩ T0 T0, ?_⟩
 refine ⟨app_yes rfl (sp_move (.tmp 5) (iv k) rfl) ⟨I0, T0⟩ T0 T0, ?_⟩
 refine ⟨app_yes rfl (sp_indexSl (off := k * 4) (.tmp 16) (.tmp 17) rfl Tryd.underlying23 (by kernel_rfl) (by omega) (by omega) rfl) ⟨I0, I0, T0⟩ T0 T0, ?_⟩
 refine ⟨app_yes rfl (sp_loadElS (z := 4) (.tmp 18) rfl Tryd.underlying87 rfl (by kernel_rfl) (flat_take lenLn xs k (by omega)) rfl) ⟨I0, T0⟩ T0 T0, ?_⟩
 refine ⟨app_yes rfl (sp_move (.tmp 1) (slA 4 cLn ys) rfl) ⟨I0, T0⟩ T0 T0, ?_⟩
 refine ⟨app_yes rfl (sp_move (.tmp 5) (iv k) rfl) ⟨I0, T0⟩ T0 T0, ?_⟩
 refine ⟨app_yes rfl (sp_indexSl (off := k * 4) (.tmp 20) (.tmp 21) rfl Tryd.underlying23 (by kernel_rfl) (by omega) (by omega) rfl) ⟨I0, I0, T0⟩ T0 T0, ?_⟩
 refine ⟨app_yes rfl (sp_loadElS (z := 4) (.tmp 22) rfl Tryd.underlying87 rfl (by kernel_rfl) (flat_take lenLn ys k (by omega)) rfl) ⟨I0, T0⟩ T0 T0, ?_⟩
 refine ⟨app_yes rfl (sp_aggNeqG [.int .i64 xs[k].c, .int .i64 xs[k].n, .int .i64 xs[k].t, .int .i64 xs[k].f] [.int .i64 ys[k].c, .int .i64 ys[k].n, .int .i64 ys[k].t, .int .i64 ys[k].f] (r := false) rfl (by kernel_rfl) (fun w => (eqg_ln xs[k] ys[k] w).trans (by rw [hs3]; rfl)) rfl) ⟨I0, I0, T0⟩ T0 T0, ?_⟩
 show ETri J w0 _ _ _
 refine tri_wk (wk_keep [] [(0, slA 4 cLn xs), (1, slA 4 cLn ys), (5, iv k), (12, iv xs.length), (13, iv k), (14, bv true), (24, bv false)] (n := 26)) ?_
 refine t_then ?_
 refine t_condF rfl ?_
 refine tri_skip ?_
 refine t_block ?_
 refine t_then ?_
 refine tri_region ?_
 refine t_op rfl (sp_add (c := ((k + 1 : Nat) : Int)) rfl (w64 (by omega) (by omega) (by omega))) ⟨I0, I0, T0⟩ T0 T0 ?_
 refine t_op rfl (sp_move (.tmp 25) (iv (k + 1 : Nat)) rfl) ⟨I0, T0⟩ T0 T0 ?_
 refine tri_nil ?_
 refine tri_wk (wk_keep [] [(0, slA 4 cLn xs), (1, slA 4 cLn ys), (5, iv k), (12, iv xs.length), (13, iv (k + 1 : Nat)), (14, bv true), (24, bv false)] (n := 26)) ?_
 refine t_then ?_
 refine tri_again ⟨k + 1, by omega, agK_succ (by omega) (by omega) hs0 (of_decide_eq_true hs3)⟩ (show xs.length - (k + 1) < xs.length - k by omega) ?_
 exact wk_keep [] _ rfl (by kernel_rfl) (by kernel_rfl)
 have hs3f : (decide (xs[k] = ys[k])) = false := by simpa using hs3
 refine tri_draw [⟨[(.tmp 0, slA 4 cLn xs)], [], slA 4 cLn xs, .no⟩, ⟨[(.tmp 5, iv k)], [], iv k, .no⟩, ⟨[(.tmp 16, slA 4 cLn xs), (.tmp 17, iv k)], [], .el (xs.flatMap cLn) (k * 4), .no⟩, ⟨[(.tmp 18, .el (xs.flatMap cLn) (k * 4))], [], .agg (cLn xs[k]), .no⟩, ⟨[(.tmp 1, slA 4 cLn ys)], [], slA 4 cLn ys, .no⟩, ⟨[(.tmp 5, iv k)], [], iv k, .no⟩, ⟨[(.tmp 20, slA 4 cLn ys), (.tmp 21, iv k)], [], .el (ys.flatMap cLn) (k * 4), .no⟩, ⟨[(.tmp 22, .el (ys.flatMap cLn) (k * 4))], [], .agg (cLn ys[k]), .no⟩, ⟨[(.tmp 19, .agg (cLn xs[k])), (.tmp 23, .agg (cLn ys[k]))], [], bv true, .no⟩] (by kernel_rfl) (by kernel_rfl) ?_
 refine ⟨app_yes rfl (sp_move (.tmp 0) (slA 4 cLn xs) rfl) ⟨I0, T0⟩ T0 T0, ?_⟩
 refine ⟨app_yes rfl (sp_move (.tmp 5) (iv k) rfl) ⟨I0, T0⟩ T0 T0, ?_⟩
 refine ⟨app_yes rfl (sp_indexSl (off := k * 4) (.tmp 16) (.tmp 17) rfl Tryd.underlying23 (by kernel_rfl) (by omega) (by omega) rfl) ⟨I0, I0, T0⟩ T0 T0, ?_⟩
 refine ⟨app_yes rfl (sp_loadElS (z := 4) (.tmp 18) rfl Tryd.underlying87 rfl (by kernel_rfl) (flat_take lenLn xs k (by omega)) rfl) ⟨I0, T0⟩ T0 T0, ?_⟩
 refine ⟨app_yes rfl (sp_move (.tmp 1) (slA 4 cLn ys) rfl) ⟨I0, T0⟩ T0 T0, ?_⟩
 refine ⟨app_yes rfl (sp_move (.tmp 5) (iv k) rfl) ⟨I0, T0⟩ T0 T0, ?_⟩
 refine ⟨app_yes rfl (sp_indexSl (off := k * 4) (.tmp 20) (.tmp 21) rfl Tryd.underlying23 (by kernel_rfl) (by omega) (by omega) rfl) ⟨I0, I0, T0⟩ T0 T0, ?_⟩
 refine ⟨app_yes rfl (sp_loadElS (z := 4) (.tmp 22) rfl Tryd.underlying87 rfl (by kernel_rfl) (flat_take lenLn ys k (by omega)) rfl) ⟨I0, T0⟩ T0 T0, ?_⟩
 refine ⟨app_yes rfl (sp_aggNeqG [.int .i64 xs[k].c, .int .i64 xs[k].n, .int .i64 xs[k].t, .int .i64 xs[k].f] [.int .i64 ys[k].c, .int .i64 ys[k].n, .int .i64 ys[k].t, .int .i64 ys[k].f] (r := true) rfl (by kernel_rfl) (fun w => (eqg_ln xs[k] ys[k] w).trans (by rw [hs3f]; rfl)) rfl) ⟨I0, I0, T0⟩ T0 T0, ?_⟩
 show ETri J w0 _ _ _
 refine tri_wk (wk_keep [] [(0, slA 4 cLn xs), (1, slA 4 cLn ys), (5, iv k), (12, iv xs.length), (13, iv k), (14, bv true), (24, bv true)] (n := 26)) ?_
 refine t_then ?_
 refine t_condT rfl ?_
 refine tri_seq ?_
 refine tri_region ?_
 refine t_op rfl (sp_assign (.const (.bool false)) (bv false) rfl) ⟨I0, T0⟩ T0 T0 ?_
 refine tri_nil ?_
 refine tri_wk (wk_keep [] [(0, slA 4 cLn xs), (1, slA 4 cLn ys), (4, bv false), (5, iv k), (12, iv xs.length), (13, iv k), (14, bv true), (24, bv true)] (n := 26)) ?_
 refine t_then ?_
 refine tri_ret ?_
 refine t_block_ret ?_
 refine t_then_ret ?_
 refine t_then_ret ?_
 refine t_block_ret ?_
 refine t_then_ret ?_
 refine tri_end1 Tryd.results111 (.tmp rfl) ?_
 exact congrArg (fun x : Bool => AV.v (.bool x)) ((ag_no (k := k) (by omega) (by omega) (of_decide_eq_false hs3f)).symm)
 refine tri_region ?_
 refine t_op rfl (sp_lss rfl (dF hs2)) ⟨I0, I0, T0⟩ T0 T0 ?_
 refine tri_nil ?_
 refine tri_wk (wk_keep [] [(0, slA 4 cLn xs), (1, slA 4 cLn ys), (12, iv xs.length), (13, iv k), (14, bv false)] (n := 26)) ?_
 refine t_then ?_
 refine tri_seq ?_
 refine t_condF rfl ?_
 refine tri_exit ?_
 refine t_then_exit ?_
 refine t_then_exit ?_
 refine t_hit ?_
 refine t_then ?_
 refine tri_seq ?_
 refine tri_region ?_
 refine t_op rfl (sp_assign (.const (.bool true)) (bv true) rfl) ⟨I0, T0⟩ T0 T0 ?_
 refine tri_nil ?_
 refine tri_wk (wk_keep [] [(4, bv true)] (n := 26)) ?_
 refine t_then ?_
 refine tri_ret ?_
 refine tri_end1 Tryd.results111 (.tmp rfl) ?_
 exact congrArg (fun x : Bool => AV.v (.bool x)) ((ag_end hs1 (by omega) hs0).symm)
 refine tri_region ?_
 refine t_op rfl (sp_move (.tmp 0) (slA 4 cLn xs) rfl) ⟨I0, T0⟩ T0 T0 ?_
 refine t_op rfl (sp_lenSl (.tmp 6) rfl Tryd.underlying23) ⟨I0, T0⟩ T0 T0 ?_
 refine t_op rfl (sp_move (.tmp 1) (slA 4 cLn ys) rfl) ⟨I0, T0⟩ T0 T0 ?_
 refine t_op rfl (sp_lenSl (.tmp 8) rfl Tryd.underlying23) ⟨I0, T0⟩ T0 T0 ?_
 refine t_op rfl (sp_neq rfl (dF' hs1)) ⟨I0, I0, T0⟩ T0 T0 ?_
 refine tri_nil ?_
 refine tri_wk (wk_keep [] [(0, slA 4 cLn xs), (1, slA 4 cLn ys), (4, bv false), (10, bv true)] (n := 26)) ?_
 refine t_then ?_
 refine t_condT rfl ?_
 refine tri_seq ?_
 refine tri_region ?_
 refine t_op rfl (sp_assign (.const (.bool false)) (bv false) rfl) ⟨I0, T0⟩ T0 T0 ?_
 refine tri_nil ?_
 refine tri_wk (wk_keep [] [(0, slA 4 cLn xs), (1, slA 4 cLn ys), (4, bv false)] (n := 26)) ?_
 refine t_then ?_
 refine tri_ret ?_
 refine t_then_ret ?_
 refine tri_end1 Tryd.results111 (.tmp rfl) ?_
 exact congrArg (fun x : Bool => AV.v (.bool x)) ((ag_len hs1).symm)
end Go.Proofs.YtpadmggccpgajaaDoor

namespace Go.Proofs.YtpadmggccpgajaaDoor
open Go.RowKit Go.Deep
variable {J : World → Prop}
set_option linter.unusedSimpArgs false in
set_option linter.unusedVariables false in
set_option maxRecDepth 100000 in
set_option maxHeartbeats 6400000 in
theorem sameButG {r u : Ru} (HR : RuOk r) (HS : RuOk u) : Ctr Tryd.prog J 54 [.agg (cRu r), .agg (cRu u)] (bv (samP r u)) := by
 have l1 := HR.lguards
 have l2 := HS.lguards
 refine ctr_of_tri Tryd.func54 rfl (by intro X hX; simp only [List.mem_cons, List.not_mem_nil, or_false] at hX; rcases hX with rfl | rfl; exact plain_agg (plain_ru r); exact plain_agg (plain_ru u)) (n := 126) rfl (by simp) (fun w0 => ?_)
 refine tri_wk (wk_keep [] [(0, .agg (cRu r)), (1, .agg (cRu u))] (n := 126)) ?_
 refine tri_seq ?_
 refine tri_region ?_
 refine t_op rfl (sp_box (X := .agg (cRu r)) (k := 1) (.tmp 0) rfl rfl) ⟨I0, T0⟩ T0 rfl ?_
 refine t_op rfl (sp_box (X := .agg (cRu u)) (k := 2) (.tmp 1) rfl rfl) ⟨I0, T0⟩ T0 rfl ?_
 refine t_op rfl (sp_assign (.const (.bool false)) (bv false) rfl) ⟨I0, T0⟩ T0 T0 ?_
 refine tri_nil ?_
 refine tri_wk (wk_keep [(1, .box 81 (cRu r)), (2, .box 81 (cRu u))] [(2, .box 1 0), (3, .box 2 0), (4, bv false)] (n := 126)) ?_
 refine t_then ?_
 refine tri_seq ?_
 refine tri_seq ?_
 by_cases hs1 : ((r.guards.length : Nat) : Int) = ((u.guards.length : Nat) : Int)
 refine tri_region ?_
 refine t_op rfl (sp_fieldBox (off' := 7) (.tmp 2) rfl Tryd.underlying81 rfl (z := 1) (by kernel_rfl) (by decide) rfl) ⟨I0, T0⟩ T0 T0 ?_
 refine t_op rfl (sp_loadBox1 (Y := .box 81 (cRu r)) (X := slA 6 cTh r.guards) (.tmp 9) rfl Tryd.underlying79 rfl rfl) ⟨I0, T0⟩ ⟨rfl, T0⟩ T0 ?_
 refine t_op rfl (sp_lenSl (.tmp 10) rfl Tryd.underlying79) ⟨I0, T0⟩ T0 T0 ?_
 refine t_op rfl (sp_fieldBox (off' := 7) (.tmp 3) rfl Tryd.underlying81 rfl (z := 1) (by kernel_rfl) (by decide) rfl) ⟨I0, T0⟩ T0 T0 ?_
 refine t_op rfl (sp_loadBox1 (Y := .box 81 (cRu u)) (X := slA 6 cTh u.guards) (.tmp 12) rfl Tryd.underlying79 rfl rfl) ⟨I0, T0⟩ ⟨rfl, T0⟩ T0 ?_
 refine t_op rfl (sp_lenSl (.tmp 13) rfl Tryd.underlying79) ⟨I0, T0⟩ T0 T0 ?_
 refine t_op rfl (sp_neq rfl (dT' hs1)) ⟨I0, I0, T0⟩ T0 T0 ?_
 refine tri_nil ?_
 refine tri_wk (wk_keep [(1, .box 81 (cRu r)), (2, .box 81 (cRu u))] [(2, .box 1 0), (3, .box 2 0), (4, bv false), (15, bv false)] (n := 126)) ?_
 refine t_then ?_
 refine t_condF rfl ?_
 refine tri_skip ?_
 refine t_then ?_
 refine tri_seq ?_
 refine tri_seq ?_
 refine tri_region ?_
 refine t_op rfl (sp_assign (.const (.int .i64 0)) (iv 0) rfl) ⟨I0, T0⟩ T0 T0 ?_
 refine tri_nil ?_
 refine tri_wk (wk_keep [(1, .box 81 (cRu r)), (2, .box 81 (cRu u))] [(2, .box 1 0), (3, .box 2 0), (4, bv false), (5, iv 0)] (n := 126)) ?_
 refine t_then ?_
 refine t_cut (decide (r.guards = u.guards) = true) (ofL [(1, .box 81 (cRu r)), (2, .box 81 (cRu u))]) (ofT 126 [(2, .box 1 0), (3, .box 2 0)]) ?_ (fun GQ => ?_)
 refine tri_block ?_
 refine tri_loop (σ := {k : Nat // k ≤ r.guards.length ∧ agK r.guards u.guards k}) (fun s => (ofL [(1, .box 81 (cRu r)), (2, .box 81 (cRu u))], ofT 126 [(2, .box 1 0), (3, .box 2 0), (5, iv s.1)])) (fun s => r.guards.length - s.1) ⟨0, Nat.zero_le _, agK_zero _ _⟩ (wk_keep _ _ rfl (by kernel_rfl) (by kernel_rfl)) (fun s => ?_)
 obtain ⟨k, hk0, hs0⟩ := s
 show ETri J w0 (ofL [(1, .box 81 (cRu r)), (2, .box 81 (cRu u))]) (ofT 126 [(2, .box 1 0), (3, .box 2 0), (5, iv k)]) _
 refine tri_seq ?_
 refine tri_seq ?_
 by_cases hs2 : ((k : Nat) : Int) < ((r.guards.length : Nat) : Int)
 refine tri_region ?_
 refine t_op rfl (sp_move (.tmp 5) (iv k) rfl) ⟨I0, T0⟩ T0 T0 ?_
 refine t_op rfl (sp_fieldBox (off' := 7) (.tmp 2) rfl Tryd.underlying81 rfl (z := 1) (by kernel_rfl) (by decide) rfl) ⟨I0, T0⟩ T0 T0 ?_
 refine t_op rfl (sp_loadBox1 (Y := .box 81 (cRu r)) (X := slA 6 cTh r.guards) (.tmp 17) rfl Tryd.underlying79 rfl rfl) ⟨I0, T0⟩ ⟨rfl, T0⟩ T0 ?_
 refine t_op rfl (sp_lenSl (.tmp 18) rfl Tryd.underlying79) ⟨I0, T0⟩ T0 T0 ?_
 refine t_op rfl (sp_lss rfl (dT hs2)) ⟨I0, I0, T0⟩ T0 T0 ?_
 refine tri_nil ?_
 refine tri_wk (wk_keep [(1, .box 81 (cRu r)), (2, .box 81 (cRu u))] [(2, .box 1 0), (3, .box 2 0), (5, iv k), (20, bv true)] (n := 126)) ?_
 refine t_then ?_
 refine t_condT rfl ?_
 refine tri_skip ?_
 refine t_then ?_
 refine tri_seq ?_
 refine tri_block ?_
 refine tri_seq ?_
 by_cases hs3 : (decide (r.guards[k] = u.guards[k])) = true
 refine tri_draw [⟨[(.tmp 2, .box 1 0)], [], .box 1 7, .no⟩, ⟨[(.tmp 23, .box 1 7)], [(1, .box 81 (cRu r))], slA 6 cTh r.guards, .no⟩, ⟨[(.tmp 5, iv k)], [], iv k, .no⟩, ⟨[(.tmp 24, slA 6 cTh r.guards), (.tmp 25, iv k)], [], .el (r.guards.flatMap cTh) (k * 6), .no⟩, ⟨[(.tmp 26, .el (r.guards.flatMap cTh) (k * 6))], [], .agg (cTh r.guards[k]), .no⟩, ⟨[(.tmp 3, .box 2 0)], [], .box 2 7, .no⟩, ⟨[(.tmp 28, .box 2 7)], [(2, .box 81 (cRu u))], slA 6 cTh u.guards, .no⟩, ⟨[(.tmp 5, iv k)], [], iv k, .no⟩, ⟨[(.tmp 29, slA 6 cTh u.guards), (.tmp 30, iv k)], [], .el (u.guards.flatMap cTh) (k * 6), .no⟩, ⟨[(.tmp 31, .el (u.guards.flatMap cTh) (k * 6))], [], .agg (cTh u.guards[k]), .no⟩, ⟨[(.func 102, .v (.func (.func 102) #[] #[])), (.tmp 27, .agg (cTh r.guards[k])), (.tmp 32, .agg (cTh u.guards[k]))], [], bv true, .no⟩, ⟨[(.tmp 33, bv true)], [], bv false, .no⟩] (by kernel_rfl) (by kernel_rfl) ?_
 refine ⟨app_yes rfl (sp_fieldBox (off' := 7) (.tmp 2) rfl Tryd.underlying81 rfl (z := 1) (by kernel_rfl) (by decide) rfl) ⟨I0, T0⟩ T0 T0, ?_⟩
 refine ⟨app_yes rfl (sp_loadBox1 (Y := .box 81 (cRu r)) (X := slA 6 cTh r.guards) (.tmp 23) rfl Tryd.underlying79 rfl rfl) ⟨I0, T0⟩ ⟨rfl, T0⟩ T0, ?_⟩
 refine ⟨app_yes rfl (sp_move (.tmp 5) (iv k) rfl) ⟨I0, T0⟩ T0 T0, ?_⟩
 refine ⟨app_yes rfl (sp_indexSl (off := k * 6) (.tmp 24) (.tmp 25) rfl Tryd.underlying79 (by kernel_rfl) (by omega) (by omega) rfl) ⟨I0, I0, T0⟩ T0 T0, ?_⟩
 refine ⟨app_yes rfl (sp_loadElS (z := 6) (.tmp 26) rfl Tryd.underlying135 rfl (by kernel_rfl) (flat_take lenTh r.guards k (by omega)) rfl) ⟨I0, T0⟩ T0 T0, ?_⟩
 refine ⟨app_yes rfl (sp_fieldBox (off' := 7) (.tmp 3) rfl Tryd.underlying81 rfl (z := 1) (by kernel_rfl) (by decide) rfl) ⟨I0, T0⟩ T0 T0, ?_⟩
 refine ⟨app_yes rfl (sp_loadBox1 (Y := .box 81 (cRu u)) (X := slA 6 cTh u.guards) (.tmp 28) rfl Tryd.underlying79 rfl rfl) ⟨I0, T0⟩ ⟨rfl, T0⟩ T0, ?_⟩
 refine ⟨app_yes rfl (sp_move (.tmp 5) (iv k) rfl) ⟨I0, T0⟩ T0 T0, ?_⟩
 refine ⟨app_yes rfl (sp_indexSl (off := k * 6) (.tmp 29) (.tmp 30) rfl Tryd.underlying79 (by kernel_rfl) (by omega) (by omega) rfl) ⟨I0, I0, T0⟩ T0 T0, ?_⟩
 refine ⟨app_yes rfl (sp_loadElS (z := 6) (.tmp 31) rfl Tryd.underlying135 rfl (by kernel_rfl) (flat_take lenTh u.guards k (by omega)) rfl) ⟨I0, T0⟩ T0 T0, ?_⟩
 refine ⟨app_yes rfl (sp_call (c := .func 102) (xs := #[.tmp 27, .tmp 32]) [] (ctr_b (sameThG r.guards[k] u.guards[k]) hs3) rfl (by kernel_rfl) rfl (Xs := [.agg (cTh r.guards[k]), .agg (cTh u.guards[k])]) rfl rfl rfl) ⟨I0, I0, I0, T0⟩ T0 T0, ?_⟩
 refine ⟨app_yes rfl (sp_not rfl rfl) ⟨I0, T0⟩ T0 T0, ?_⟩
 show ETri J w0 _ _ _
 refine tri_wk (wk_keep [(1, .box 81 (cRu r)), (2, .box 81 (cRu u))] [(2, .box 1 0), (3, .box 2 0), (5, iv k), (20, bv true), (34, bv false)] (n := 126)) ?_
 refine t_then ?_
 refine t_condF rfl ?_
 refine tri_skip ?_
 refine t_block ?_
 refine t_then ?_
 refine tri_region ?_
 refine t_op rfl (sp_move (.tmp 5) (iv k) rfl) ⟨I0, T0⟩ T0 T0 ?_
 refine t_op rfl (sp_add (c := ((k + 1 : Nat) : Int)) rfl (w64 (by omega) (by omega) (by omega))) ⟨I0, I0, T0⟩ T0 T0 ?_
 refine t_op rfl (sp_assign (.tmp 22) (iv (k + 1 : Nat)) rfl) ⟨I0, T0⟩ T0 T0 ?_
 refine tri_nil ?_
 refine tri_wk (wk_keep [(1, .box 81 (cRu r)), (2, .box 81 (cRu u))] [(2, .box 1 0), (3, .box 2 0), (5, iv (k + 1 : Nat)), (20, bv true), (34, bv false)] (n := 126)) ?_
 refine t_then ?_
 refine tri_again ⟨k + 1, by omega, agK_succ (by omega) (by omega) hs0 (of_decide_eq_true hs3)⟩ (show r.guards.length - (k + 1) < r.guards.length - k by omega) ?_
 exact wk_keep _ _ rfl (by kernel_rfl) (by kernel_rfl)
 have hs3f : (decide (r.guards[k] = u.guards[k])) = false := by simpa using hs3
 refine tri_draw [⟨[(.tmp 2, .box 1 0)], [], .box 1 7, .no⟩, ⟨[(.tmp 23, .box 1 7)], [(1, .box 81 (cRu r))], slA 6 cTh r.guards, .no⟩, ⟨[(.tmp 5, iv k)], [], iv k, .no⟩, ⟨[(.tmp 24, slA 6 cTh r.guards), (.tmp 25, iv k)], [], .el (r.guards.flatMap cTh) (k * 6), .no⟩, ⟨[(.tmp 26, .el (r.guards.flatMap cTh) (k * 6))], [], .agg (cTh r.guards[k]), .no⟩, ⟨[(.tmp 3, .box 2 0)], [], .box 2 7, .no⟩, ⟨[(.tmp 28, .box 2 7)], [(2, .box 81 (cRu u))], slA 6 cTh u.guards, .no⟩, ⟨[(.tmp 5, iv k)], [], iv k, .no⟩, ⟨[(.tmp 29, slA 6 cTh u.guards), (.tmp 30, iv k)], [], .el (u.guards.flatMap cTh) (k * 6), .no⟩, ⟨[(.tmp 31, .el (u.guards.flatMap cTh) (k * 6))], [], .agg (cTh u.guards[k]), .no⟩, ⟨[(.func 102, .v (.func (.func 102) #[] #[])), (.tmp 27, .agg (cTh r.guards[k])), (.tmp 32, .agg (cTh u.guards[k]))], [], bv false, .no⟩, ⟨[(.tmp 33, bv false)], [], bv true, .no⟩] (by kernel_rfl) (by kernel_rfl) ?_
 refine ⟨app_yes rfl (sp_fieldBox (off' := 7) (.tmp 2) rfl Tryd.underlying81 rfl (z := 1) (by kernel_rfl) (by decide) rfl) ⟨I0, T0⟩ T0 T0, ?_⟩
 refine ⟨app_yes rfl (sp_loadBox1 (Y := .box 81 (cRu r)) (X := slA 6 cTh r.guards) (.tmp 23) rfl Tryd.underlying79 rfl rfl) ⟨I0, T0⟩ ⟨rfl, T0⟩ T0, ?_⟩
 refine ⟨app_yes rfl (sp_move (.tmp 5) (iv k) rfl) ⟨I0, T0⟩ T0 T0, ?_⟩
 refine ⟨app_yes rfl (sp_indexSl (off := k * 6) (.tmp 24) (.tmp 25) rfl Tryd.underlying79 (by kernel_rfl) (by omega) (by omega) rfl) ⟨I0, I0, T0⟩ T0 T0, ?_⟩
 refine ⟨app_yes rfl (sp_loadElS (z := 6) (.tmp 26) rfl Tryd.underlying135 rfl (by kernel_rfl) (flat_take lenTh r.guards k (by omega)) rfl) ⟨I0, T0⟩ T0 T0, ?_⟩
 refine ⟨app_yes rfl (sp_fieldBox (off' := 7) (.tmp 3) rfl Tryd.underlying81 rfl (z := 1) (by kernel_rfl) (by decide) rfl) ⟨I0, T0⟩ T0 T0, ?_⟩
 refine ⟨app_yes rfl (sp_loadBox1 (Y := .box 81 (cRu u)) (X := slA 6 cTh u.guards) (.tmp 28) rfl Tryd.underlying79 rfl rfl) ⟨I0, T0⟩ ⟨rfl, T0⟩ T0, ?_⟩
 refine ⟨app_yes rfl (sp_move (.tmp 5) (iv k) rfl) ⟨I0, T0⟩ T0 T0, ?_⟩
 refine ⟨app_yes rfl (sp_indexSl (off := k * 6) (.tmp 29) (.tmp 30) rfl Tryd.underlying79 (by kernel_rfl) (by omega) (by omega) rfl) ⟨I0, I0, T0⟩ T0 T0, ?_⟩
 refine ⟨app_yes rfl (sp_loadElS (z := 6) (.tmp 31) rfl Tryd.underlying135 rfl (by kernel_rfl) (flat_take lenTh u.guards k (by omega)) rfl) ⟨I0, T0⟩ T0 T0, ?_⟩
 refine ⟨app_yes rfl (sp_call (c := .func 102) (xs := #[.tmp 27, .tmp 32]) [] (ctr_b (sameThG r.guards[k] u.guards[k]) hs3f) rfl (by kernel_rfl) rfl (Xs := [.agg (cTh r.guards[k]), .agg (cTh u.guards[k])]) rfl rfl rfl) ⟨I0, I0, I0, T0⟩ T0 T0, ?_⟩
 refine ⟨app_yes rfl (sp_not rfl rfl) ⟨I0, T0⟩ T0 T0, ?_⟩
 show ETri J w0 _ _ _
 refine tri_wk (wk_keep [(1, .box 81 (cRu r)), (2, .box 81 (cRu u))] [(2, .box 1 0), (3, .box 2 0), (5, iv k), (20, bv true), (34, bv true)] (n := 126)) ?_
 refine t_then ?_
 refine t_condT rfl ?_
 refine tri_seq ?_
 refine tri_region ?_
 refine t_op rfl (sp_assign (.const (.bool false)) (bv false) rfl) ⟨I0, T0⟩ T0 T0 ?_
 refine tri_nil ?_
 refine tri_wk (wk_keep [(1, .box 81 (cRu r)), (2, .box 81 (cRu u))] [(2, .box 1 0), (3, .box 2 0), (4, bv false), (5, iv k), (20, bv true), (34, bv true)] (n := 126)) ?_
 refine t_then ?_
 refine tri_ret ?_
 refine t_block_ret ?_
 refine t_then_ret ?_
 refine t_then_ret ?_
 refine t_block_ret ?_
 refine t_cut_ret ?_
 refine t_then_ret ?_
 refine tri_end1 Tryd.results54 (.tmp rfl) ?_
 exact congrArg (fun x : Bool => AV.v (.bool x)) ((samP_not (fun h => h.guards) (of_decide_eq_false (ag_no (k := k) (by omega) (by omega) (of_decide_eq_false hs3f)))).symm)
 refine tri_region ?_
 refine t_op rfl (sp_move (.tmp 5) (iv k) rfl) ⟨I0, T0⟩ T0 T0 ?_
 refine t_op rfl (sp_fieldBox (off' := 7) (.tmp 2) rfl Tryd.underlying81 rfl (z := 1) (by kernel_rfl) (by decide) rfl) ⟨I0, T0⟩ T0 T0 ?_
 refine t_op rfl (sp_loadBox1 (Y := .box 81 (cRu r)) (X := slA 6 cTh r.guards) (.tmp 17) rfl Tryd.underlying79 rfl rfl) ⟨I0, T0⟩ ⟨rfl, T0⟩ T0 ?_
 refine t_op rfl (sp_lenSl (.tmp 18) rfl Tryd.underlying79) ⟨I0, T0⟩ T0 T0 ?_
 refine t_op rfl (sp_lss rfl (dF hs2)) ⟨I0, I0, T0⟩ T0 T0 ?_
 refine tri_nil ?_
 refine tri_wk (wk_keep [(1, .box 81 (cRu r)), (2, .box 81 (cRu u))] [(2, .box 1 0), (3, .box 2 0), (5, iv k), (20, bv false)] (n := 126)) ?_
 refine t_then ?_
 refine t_condF rfl ?_
 refine tri_exit ?_
 refine t_then_exit ?_
 refine t_then_exit ?_
 refine t_hit ?_
 exact t_meet (ag_end hs1 (by omega) hs0) (wk_keep _ _ rfl (by kernel_rfl) (by kernel_rfl))
 refine t_then ?_
 refine tri_seq ?_
 refine tri_region ?_
 refine t_op rfl (sp_fieldBox (off' := 1) (.tmp 2) rfl Tryd.underlying81 rfl (z := 1) (by kernel_rfl) (by decide) rfl) ⟨I0, T0⟩ T0 T0 ?_
 refine t_op rfl (sp_loadBox1 (Y := .box 81 (cRu r)) (X := iv r.kind) (.tmp 35) rfl Tryd.underlying3 rfl rfl) ⟨I0, T0⟩ ⟨rfl, T0⟩ T0 ?_
 refine t_op rfl (sp_fieldBox (off' := 2) (.tmp 2) rfl Tryd.underlying81 rfl (z := 1) (by kernel_rfl) (by decide) rfl) ⟨I0, T0⟩ T0 T0 ?_
 refine t_op rfl (sp_loadBox1 (Y := .box 81 (cRu r)) (X := iv r.frm) (.tmp 37) rfl Tryd.underlying3 rfl rfl) ⟨I0, T0⟩ ⟨rfl, T0⟩ T0 ?_
 refine t_op rfl (sp_fieldBox (off' := 3) (.tmp 2) rfl Tryd.underlying81 rfl (z := 1) (by kernel_rfl) (by decide) rfl) ⟨I0, T0⟩ T0 T0 ?_
 refine t_op rfl (sp_loadBox1 (Y := .box 81 (cRu r)) (X := iv r.to) (.tmp 39) rfl Tryd.underlying3 rfl rfl) ⟨I0, T0⟩ ⟨rfl, T0⟩ T0 ?_
 refine t_op rfl (sp_fieldBox (off' := 4) (.tmp 2) rfl Tryd.underlying81 rfl (z := 1) (by kernel_rfl) (by decide) rfl) ⟨I0, T0⟩ T0 T0 ?_
 refine t_op rfl (sp_loadBox1 (Y := .box 81 (cRu r)) (X := iv r.pf) (.tmp 41) rfl Tryd.underlying3 rfl rfl) ⟨I0, T0⟩ ⟨rfl, T0⟩ T0 ?_
 refine t_op rfl (sp_fieldBox (off' := 5) (.tmp 2) rfl Tryd.underlying81 rfl (z := 1) (by kernel_rfl) (by decide) rfl) ⟨I0, T0⟩ T0 T0 ?_
 refine t_op rfl (sp_loadBox1 (Y := .box 81 (cRu r)) (X := iv r.pt) (.tmp 43) rfl Tryd.underlying3 rfl rfl) ⟨I0, T0⟩ ⟨rfl, T0⟩ T0 ?_
 refine t_op rfl (sp_fieldBox (off' := 10) (.tmp 2) rfl Tryd.underlying81 rfl (z := 1) (by kernel_rfl) (by decide) rfl) ⟨I0, T0⟩ T0 T0 ?_
 refine t_op rfl (sp_loadBox1 (Y := .box 81 (cRu r)) (X := iv r.rd) (.tmp 45) rfl Tryd.underlying3 rfl rfl) ⟨I0, T0⟩ ⟨rfl, T0⟩ T0 ?_
 refine t_op rfl (sp_fieldBox (off' := 11) (.tmp 2) rfl Tryd.underlying81 rfl (z := 1) (by kernel_rfl) (by decide) rfl) ⟨I0, T0⟩ T0 T0 ?_
 refine t_op rfl (sp_loadBox1 (Y := .box 81 (cRu r)) (X := iv r.wr) (.tmp 47) rfl Tryd.underlying3 rfl rfl) ⟨I0, T0⟩ ⟨rfl, T0⟩ T0 ?_
 refine t_op rfl (sp_fieldBox (off' := 13) (.tmp 2) rfl Tryd.underlying81 rfl (z := 1) (by kernel_rfl) (by decide) rfl) ⟨I0, T0⟩ T0 T0 ?_
 refine t_op rfl (sp_loadBox1 (Y := .box 81 (cRu r)) (X := iv r.pos) (.tmp 49) rfl Tryd.underlying3 rfl rfl) ⟨I0, T0⟩ ⟨rfl, T0⟩ T0 ?_
 refine t_op rfl (sp_fieldBox (off' := 17) (.tmp 2) rfl Tryd.underlying81 rfl (z := 1) (by kernel_rfl) (by decide) rfl) ⟨I0, T0⟩ T0 T0 ?_
 refine t_op rfl (sp_loadBox1 (Y := .box 81 (cRu r)) (X := iv r.dir) (.tmp 51) rfl Tryd.underlying3 rfl rfl) ⟨I0, T0⟩ ⟨rfl, T0⟩ T0 ?_
 refine t_op rfl (sp_build (z := 1) (k := 3) (fr := true) (cs := [iv r.kind, iv r.frm, iv r.to, iv r.pf, iv r.pt, iv r.rd, iv r.wr, iv r.pos, iv r.dir]) [.tmp 36, .tmp 38, .tmp 40, .tmp 42, .tmp 44, .tmp 46, .tmp 48, .tmp 50, .tmp 52] [iv r.kind, iv r.frm, iv r.to, iv r.pf, iv r.pt, iv r.rd, iv r.wr, iv r.pos, iv r.dir] rfl Tryd.underlying24 (by kernel_rfl) (by decide) (by decide) rfl rfl rfl (by kernel_rfl) (by decide) (fun _ => by simp [AV.cellsOf, AV.isNew, cLn, cTh]) (by kernel_rfl)) ⟨I0, I0, I0, I0, I0, I0, I0, I0, I0, T0⟩ T0 rfl ?_
 refine t_op rfl (sp_assign (.tmp 53) (.own 3) rfl) ⟨I0, T0⟩ T0 T0 ?_
 refine tri_nil ?_
 refine tri_wk (wk_keep [(1, .box 81 (cRu r)), (2, .box 81 (cRu u)), (3, .row true 3 1 9 ([iv r.kind, iv r.frm, iv r.to, iv r.pf, iv r.pt, iv r.rd, iv r.wr, iv r.pos, iv r.dir]))] [(2, .box 1 0), (3, .box 2 0), (6, .own 3)] (n := 126)) ?_
 refine t_then ?_
 refine tri_seq ?_
 refine tri_region ?_
 refine t_op rfl (sp_fieldBox (off' := 1) (.tmp 3) rfl Tryd.underlying81 rfl (z := 1) (by kernel_rfl) (by decide) rfl) ⟨I0, T0⟩ T0 T0 ?_
 refine t_op rfl (sp_loadBox1 (Y := .box 81 (cRu u)) (X := iv u.kind) (.tmp 54) rfl Tryd.underlying3 rfl rfl) ⟨I0, T0⟩ ⟨rfl, T0⟩ T0 ?_
 refine t_op rfl (sp_fieldBox (off' := 2) (.tmp 3) rfl Tryd.underlying81 rfl (z := 1) (by kernel_rfl) (by decide) rfl) ⟨I0, T0⟩ T0 T0 ?_
 refine t_op rfl (sp_loadBox1 (Y := .box 81 (cRu u)) (X := iv u.frm) (.tmp 56) rfl Tryd.underlying3 rfl rfl) ⟨I0, T0⟩ ⟨rfl, T0⟩ T0 ?_
 refine t_op rfl (sp_fieldBox (off' := 3) (.tmp 3) rfl Tryd.underlying81 rfl (z := 1) (by kernel_rfl) (by decide) rfl) ⟨I0, T0⟩ T0 T0 ?_
 refine t_op rfl (sp_loadBox1 (Y := .box 81 (cRu u)) (X := iv u.to) (.tmp 58) rfl Tryd.underlying3 rfl rfl) ⟨I0, T0⟩ ⟨rfl, T0⟩ T0 ?_
 refine t_op rfl (sp_fieldBox (off' := 4) (.tmp 3) rfl Tryd.underlying81 rfl (z := 1) (by kernel_rfl) (by decide) rfl) ⟨I0, T0⟩ T0 T0 ?_
 refine t_op rfl (sp_loadBox1 (Y := .box 81 (cRu u)) (X := iv u.pf) (.tmp 60) rfl Tryd.underlying3 rfl rfl) ⟨I0, T0⟩ ⟨rfl, T0⟩ T0 ?_
 refine t_op rfl (sp_fieldBox (off' := 5) (.tmp 3) rfl Tryd.underlying81 rfl (z := 1) (by kernel_rfl) (by decide) rfl) ⟨I0, T0⟩ T0 T0 ?_
 refine t_op rfl (sp_loadBox1 (Y := .box 81 (cRu u)) (X := iv u.pt) (.tmp 62) rfl Tryd.underlying3 rfl rfl) ⟨I0, T0⟩ ⟨rfl, T0⟩ T0 ?_
 refine t_op rfl (sp_fieldBox (off' := 10) (.tmp 3) rfl Tryd.underlying81 rfl (z := 1) (by kernel_rfl) (by decide) rfl) ⟨I0, T0⟩ T0 T0 ?_
 refine t_op rfl (sp_loadBox1 (Y := .box 81 (cRu u)) (X := iv u.rd) (.tmp 64) rfl Tryd.underlying3 rfl rfl) ⟨I0, T0⟩ ⟨rfl, T0⟩ T0 ?_
 refine t_op rfl (sp_fieldBox (off' := 11) (.tmp 3) rfl Tryd.underlying81 rfl (z := 1) (by kernel_rfl) (by decide) rfl) ⟨I0, T0⟩ T0 T0 ?_
 refine t_op rfl (sp_loadBox1 (Y := .box 81 (cRu u)) (X := iv u.wr) (.tmp 66) rfl Tryd.underlying3 rfl rfl) ⟨I0, T0⟩ ⟨rfl, T0⟩ T0 ?_
 refine t_op rfl (sp_fieldBox (off' := 13) (.tmp 3) rfl Tryd.underlying81 rfl (z := 1) (by kernel_rfl) (by decide) rfl) ⟨I0, T0⟩ T0 T0 ?_
 refine t_op rfl (sp_loadBox1 (Y := .box 81 (cRu u)) (X := iv u.pos) (.tmp 68) rfl Tryd.underlying3 rfl rfl) ⟨I0, T0⟩ ⟨rfl, T0⟩ T0 ?_
 refine t_op rfl (sp_fieldBox (off' := 17) (.tmp 3) rfl Tryd.underlying81 rfl (z := 1) (by kernel_rfl) (by decide) rfl) ⟨I0, T0⟩ T0 T0 ?_
 refine t_op rfl (sp_loadBox1 (Y := .box 81 (cRu u)) (X := iv u.dir) (.tmp 70) rfl Tryd.underlying3 rfl rfl) ⟨I0, T0⟩ ⟨rfl, T0⟩ T0 ?_
 refine t_op rfl (sp_build (z := 1) (k := 4) (fr := true) (cs := [iv u.kind, iv u.frm, iv u.to, iv u.pf, iv u.pt, iv u.rd, iv u.wr, iv u.pos, iv u.dir]) [.tmp 55, .tmp 57, .tmp 59, .tmp 61, .tmp 63, .tmp 65, .tmp 67, .tmp 69, .tmp 71] [iv u.kind, iv u.frm, iv u.to, iv u.pf, iv u.pt, iv u.rd, iv u.wr, iv u.pos, iv u.dir] rfl Tryd.underlying24 (by kernel_rfl) (by decide) (by decide) rfl rfl rfl (by kernel_rfl) (by decide) (fun _ => by simp [AV.cellsOf, AV.isNew, cLn, cTh]) (by kernel_rfl)) ⟨I0, I0, I0, I0, I0, I0, I0, I0, I0, T0⟩ T0 rfl ?_
 refine t_op rfl (sp_assign (.tmp 72) (.own 4) rfl) ⟨I0, T0⟩ T0 T0 ?_
 refine tri_nil ?_
 refine tri_wk (wk_keep [(1, .box 81 (cRu r)), (2, .box 81 (cRu u)), (3, .row true 3 1 9 ([iv r.kind, iv r.frm, iv r.to, iv r.pf, iv r.pt, iv r.rd, iv r.wr, iv r.pos, iv r.dir])), (4, .row true 3 1 9 ([iv u.kind, iv u.frm, iv u.to, iv u.pf, iv u.pt, iv u.rd, iv u.wr, iv u.pos, iv u.dir]))] [(2, .box 1 0), (3, .box 2 0), (6, .own 3), (7, .own 4)] (n := 126)) ?_
 refine t_then ?_
 refine tri_seq ?_
 by_cases hs4 : (decide ([r.kind, r.frm, r.to, r.pf, r.pt, r.rd, r.wr, r.pos, r.dir] = [u.kind, u.frm, u.to, u.pf, u.pt, u.rd, u.wr, u.pos, u.dir])) = true
 by_cases hs5 : (decide (r.resp = u.resp)) = true
 by_cases hs6 : (decide (r.ex = u.ex)) = true
 refine tri_region ?_
 refine t_op rfl (sp_move (.tmp 6) (.own 3) rfl) ⟨I0, T0⟩ T0 T0 ?_
 refine t_op rfl (sp_move (.tmp 7) (.own 4) rfl) ⟨I0, T0⟩ T0 T0 ?_
 refine t_op rfl (sp_call (c := .func 19) (xs := #[.tmp 73, .tmp 74]) [(3, .row true 3 1 9 ([iv r.kind, iv r.frm, iv r.to, iv r.pf, iv r.pt, iv r.rd, iv r.wr, iv r.pos, iv r.dir])), (4, .row true 3 1 9 ([iv u.kind, iv u.frm, iv u.to, iv u.pf, iv u.pt, iv u.rd, iv u.wr, iv u.pos, iv u.dir]))] (ctr_b (sameIntsG ([r.kind, r.frm, r.to, r.pf, r.pt, r.rd, r.wr, r.pos, r.dir]) ([u.kind, u.frm, u.to, u.pf, u.pt, u.rd, u.wr, u.pos, u.dir]) (ruInts HR) (ruInts HS)) hs4) rfl (by kernel_rfl) rfl (Xs := [.own 3, .own 4]) rfl rfl rfl) ⟨I0, I0, I0, T0⟩ ⟨rfl, rfl, T0⟩ T0 ?_
 refine t_op rfl (sp_move (.tmp 75) (bv true) rfl) ⟨I0, T0⟩ T0 T0 ?_
 refine t_opG rfl (sp_fieldBox (off' := 6) (.tmp 2) rfl Tryd.underlying81 rfl (z := 1) (by kernel_rfl) (by decide) rfl) ⟨I0, T0⟩ T0 T0 ?_
 refine t_opG rfl (sp_loadBox1 (Y := .box 81 (cRu r)) (X := intsA r.resp) (.tmp 77) rfl Tryd.underlying24 rfl rfl) ⟨I0, T0⟩ ⟨rfl, T0⟩ T0 ?_
 refine t_opG rfl (sp_fieldBox (off' := 6) (.tmp 3) rfl Tryd.underlying81 rfl (z := 1) (by kernel_rfl) (by decide) rfl) ⟨I0, T0⟩ T0 T0 ?_
 refine t_opG rfl (sp_loadBox1 (Y := .box 81 (cRu u)) (X := intsA u.resp) (.tmp 79) rfl Tryd.underlying24 rfl rfl) ⟨I0, T0⟩ ⟨rfl, T0⟩ T0 ?_
 refine t_opG rfl (sp_call (c := .func 19) (xs := #[.tmp 78, .tmp 80]) [] (ctr_b (sameIntsG r.resp u.resp HR.resp HS.resp) hs5) rfl (by kernel_rfl) rfl (Xs := [intsA r.resp, intsA u.resp]) rfl rfl rfl) ⟨I0, I0, I0, T0⟩ T0 T0 ?_
 refine t_op rfl (sp_pick (.tmp 76) (.tmp 81) (.const (.bool false)) true (bv true) (bv false) rfl) ⟨I0, I0, I0, T0⟩ T0 T0 ?_
 refine t_op rfl (sp_move (.tmp 82) (bv true) rfl) ⟨I0, T0⟩ T0 T0 ?_
 refine t_opG rfl (sp_fieldBox (off' := 8) (.tmp 2) rfl Tryd.underlying81 rfl (z := 1) (by kernel_rfl) (by decide) rfl) ⟨I0, T0⟩ T0 T0 ?_
 refine t_opG rfl (sp_loadBox1 (Y := .box 81 (cRu r)) (X := intsA r.ex) (.tmp 84) rfl Tryd.underlying24 rfl rfl) ⟨I0, T0⟩ ⟨rfl, T0⟩ T0 ?_
 refine t_opG rfl (sp_fieldBox (off' := 8) (.tmp 3) rfl Tryd.underlying81 rfl (z := 1) (by kernel_rfl) (by decide) rfl) ⟨I0, T0⟩ T0 T0 ?_
 refine t_opG rfl (sp_loadBox1 (Y := .box 81 (cRu u)) (X := intsA u.ex) (.tmp 86) rfl Tryd.underlying24 rfl rfl) ⟨I0, T0⟩ ⟨rfl, T0⟩ T0 ?_
 refine t_opG rfl (sp_call (c := .func 19) (xs := #[.tmp 85, .tmp 87]) [] (ctr_b (sameIntsG r.ex u.ex HR.ex HS.ex) hs6) rfl (by kernel_rfl) rfl (Xs := [intsA r.ex, intsA u.ex]) rfl rfl rfl) ⟨I0, I0, I0, T0⟩ T0 T0 ?_
 refine t_op rfl (sp_pick (.tmp 83) (.tmp 88) (.const (.bool false)) true (bv true) (bv false) rfl) ⟨I0, I0, I0, T0⟩ T0 T0 ?_
 refine t_op rfl (sp_move (.tmp 89) (bv true) rfl) ⟨I0, T0⟩ T0 T0 ?_
 refine t_opG rfl (sp_fieldBox (off' := 9) (.tmp 2) rfl Tryd.underlying81 rfl (z := 1) (by kernel_rfl) (by decide) rfl) ⟨I0, T0⟩ T0 T0 ?_
 refine t_opG rfl (sp_loadBox1 (Y := .box 81 (cRu r)) (X := intsA r.fa) (.tmp 91) rfl Tryd.underlying24 rfl rfl) ⟨I0, T0⟩ ⟨rfl, T0⟩ T0 ?_
 refine t_opG rfl (sp_fieldBox (off' := 9) (.tmp 3) rfl Tryd.underlying81 rfl (z := 1) (by kernel_rfl) (by decide) rfl) ⟨I0, T0⟩ T0 T0 ?_
 refine t_opG rfl (sp_loadBox1 (Y := .box 81 (cRu u)) (X := intsA u.fa) (.tmp 93) rfl Tryd.underlying24 rfl rfl) ⟨I0, T0⟩ ⟨rfl, T0⟩ T0 ?_
 refine t_opG rfl (sp_call (c := .func 19) (xs := #[.tmp 92, .tmp 94]) [] (sameIntsG r.fa u.fa HR.fa HS.fa) rfl (by kernel_rfl) rfl (Xs := [intsA r.fa, intsA u.fa]) rfl rfl rfl) ⟨I0, I0, I0, T0⟩ T0 T0 ?_
 refine t_op rfl (sp_pick (.tmp 90) (.tmp 95) (.const (.bool false)) true (bv (decide (r.fa = u.fa))) (bv false) rfl) ⟨I0, I0, I0, T0⟩ T0 T0 ?_
 refine t_op rfl (sp_assign (.tmp 96) (bv (decide (r.fa = u.fa))) rfl) ⟨I0, T0⟩ T0 T0 ?_
 refine tri_nil ?_
 refine tri_wk (wk_keep [(1, .box 81 (cRu r)), (2, .box 81 (cRu u))] [(2, .box 1 0), (3, .box 2 0), (8, bv (decide (r.fa = u.fa)))] (n := 126)) ?_
 refine t_then ?_
 refine tri_seq ?_
 by_cases hs7 : (decide (r.fa = u.fa)) = true
 rw [hs7]
 refine tri_wk (wk_keep [(1, .box 81 (cRu r)), (2, .box 81 (cRu u))] [(2, .box 1 0), (3, .box 2 0), (8, bv true)] (n := 126)) ?_
 by_cases hs8 : (decide (r.send = u.send)) = true
 by_cases hs9 : (decide (r.left = u.left)) = true
 by_cases hs10 : (decide (r.right = u.right)) = true
 refine tri_region ?_
 refine t_op rfl (sp_move (.tmp 8) (bv true) rfl) ⟨I0, T0⟩ T0 T0 ?_
 refine t_op rfl (sp_move (.tmp 97) (bv true) rfl) ⟨I0, T0⟩ T0 T0 ?_
 refine t_opG rfl (sp_fieldBox (off' := 12) (.tmp 2) rfl Tryd.underlying81 rfl (z := 1) (by kernel_rfl) (by decide) rfl) ⟨I0, T0⟩ T0 T0 ?_
 refine t_opG rfl (sp_loadBox1 (Y := .box 81 (cRu r)) (X := intsA r.send) (.tmp 99) rfl Tryd.underlying24 rfl rfl) ⟨I0, T0⟩ ⟨rfl, T0⟩ T0 ?_
 refine t_opG rfl (sp_fieldBox (off' := 12) (.tmp 3) rfl Tryd.underlying81 rfl (z := 1) (by kernel_rfl) (by decide) rfl) ⟨I0, T0⟩ T0 T0 ?_
 refine t_opG rfl (sp_loadBox1 (Y := .box 81 (cRu u)) (X := intsA u.send) (.tmp 101) rfl Tryd.underlying24 rfl rfl) ⟨I0, T0⟩ ⟨rfl, T0⟩ T0 ?_
 refine t_opG rfl (sp_call (c := .func 19) (xs := #[.tmp 100, .tmp 102]) [] (ctr_b (sameIntsG r.send u.send HR.send HS.send) hs8) rfl (by kernel_rfl) rfl (Xs := [intsA r.send, intsA u.send]) rfl rfl rfl) ⟨I0, I0, I0, T0⟩ T0 T0 ?_
 refine t_op rfl (sp_pick (.tmp 98) (.tmp 103) (.const (.bool false)) true (bv true) (bv false) rfl) ⟨I0, I0, I0, T0⟩ T0 T0 ?_
 refine t_op rfl (sp_move (.tmp 104) (bv true) rfl) ⟨I0, T0⟩ T0 T0 ?_
 refine t_opG rfl (sp_fieldBox (off' := 14) (.tmp 2) rfl Tryd.underlying81 rfl (z := 1) (by kernel_rfl) (by decide) rfl) ⟨I0, T0⟩ T0 T0 ?_
 refine t_opG rfl (sp_loadBox1 (Y := .box 81 (cRu r)) (X := intsA r.left) (.tmp 106) rfl Tryd.underlying24 rfl rfl) ⟨I0, T0⟩ ⟨rfl, T0⟩ T0 ?_
 refine t_opG rfl (sp_fieldBox (off' := 14) (.tmp 3) rfl Tryd.underlying81 rfl (z := 1) (by kernel_rfl) (by decide) rfl) ⟨I0, T0⟩ T0 T0 ?_
 refine t_opG rfl (sp_loadBox1 (Y := .box 81 (cRu u)) (X := intsA u.left) (.tmp 108) rfl Tryd.underlying24 rfl rfl) ⟨I0, T0⟩ ⟨rfl, T0⟩ T0 ?_
 refine t_opG rfl (sp_call (c := .func 19) (xs := #[.tmp 107, .tmp 109]) [] (ctr_b (sameIntsG r.left u.left HR.left HS.left) hs9) rfl (by kernel_rfl) rfl (Xs := [intsA r.left, intsA u.left]) rfl rfl rfl) ⟨I0, I0, I0, T0⟩ T0 T0 ?_
 refine t_op rfl (sp_pick (.tmp 105) (.tmp 110) (.const (.bool false)) true (bv true) (bv false) rfl) ⟨I0, I0, I0, T0⟩ T0 T0 ?_
 refine t_op rfl (sp_move (.tmp 111) (bv true) rfl) ⟨I0, T0⟩ T0 T0 ?_
 refine t_opG rfl (sp_fieldBox (off' := 15) (.tmp 2) rfl Tryd.underlying81 rfl (z := 1) (by kernel_rfl) (by decide) rfl) ⟨I0, T0⟩ T0 T0 ?_
 refine t_opG rfl (sp_loadBox1 (Y := .box 81 (cRu r)) (X := intsA r.right) (.tmp 113) rfl Tryd.underlying24 rfl rfl) ⟨I0, T0⟩ ⟨rfl, T0⟩ T0 ?_
 refine t_opG rfl (sp_fieldBox (off' := 15) (.tmp 3) rfl Tryd.underlying81 rfl (z := 1) (by kernel_rfl) (by decide) rfl) ⟨I0, T0⟩ T0 T0 ?_
 refine t_opG rfl (sp_loadBox1 (Y := .box 81 (cRu u)) (X := intsA u.right) (.tmp 115) rfl Tryd.underlying24 rfl rfl) ⟨I0, T0⟩ ⟨rfl, T0⟩ T0 ?_
 refine t_opG rfl (sp_call (c := .func 19) (xs := #[.tmp 114, .tmp 116]) [] (ctr_b (sameIntsG r.right u.right HR.right HS.right) hs10) rfl (by kernel_rfl) rfl (Xs := [intsA r.right, intsA u.right]) rfl rfl rfl) ⟨I0, I0, I0, T0⟩ T0 T0 ?_
 refine t_op rfl (sp_pick (.tmp 112) (.tmp 117) (.const (.bool false)) true (bv true) (bv false) rfl) ⟨I0, I0, I0, T0⟩ T0 T0 ?_
 refine t_op rfl (sp_move (.tmp 118) (bv true) rfl) ⟨I0, T0⟩ T0 T0 ?_
 refine t_opG rfl (sp_fieldBox (off' := 16) (.tmp 2) rfl Tryd.underlying81 rfl (z := 1) (by kernel_rfl) (by decide) rfl) ⟨I0, T0⟩ T0 T0 ?_
 refine t_opG rfl (sp_loadBox1 (Y := .box 81 (cRu r)) (X := intsA r.parent) (.tmp 120) rfl Tryd.underlying24 rfl rfl) ⟨I0, T0⟩ ⟨rfl, T0⟩ T0 ?_
 refine t_opG rfl (sp_fieldBox (off' := 16) (.tmp 3) rfl Tryd.underlying81 rfl (z := 1) (by kernel_rfl) (by decide) rfl) ⟨I0, T0⟩ T0 T0 ?_
 refine t_opG rfl (sp_loadBox1 (Y := .box 81 (cRu u)) (X := intsA u.parent) (.tmp 122) rfl Tryd.underlying24 rfl rfl) ⟨I0, T0⟩ ⟨rfl, T0⟩ T0 ?_
 refine t_opG rfl (sp_call (c := .func 19) (xs := #[.tmp 121, .tmp 123]) [] (sameIntsG r.parent u.parent HR.parent HS.parent) rfl (by kernel_rfl) rfl (Xs := [intsA r.parent, intsA u.parent]) rfl rfl rfl) ⟨I0, I0, I0, T0⟩ T0 T0 ?_
 refine t_op rfl (sp_pick (.tmp 119) (.tmp 124) (.const (.bool false)) true (bv (decide (r.parent = u.parent))) (bv false) rfl) ⟨I0, I0, I0, T0⟩ T0 T0 ?_
 refine t_op rfl (sp_assign (.tmp 125) (bv (decide (r.parent = u.parent))) rfl) ⟨I0, T0⟩ T0 T0 ?_
 refine tri_nil ?_
 refine tri_wk (wk_keep [] [(4, bv (decide (r.parent = u.parent)))] (n := 126)) ?_
 refine t_then ?_
 refine tri_ret ?_
 refine tri_end1 Tryd.results54 (.tmp rfl) ?_
 exact congrArg (fun x : Bool => AV.v (.bool x)) (show decide (r.parent = u.parent) = samP r u from Bool.eq_iff_iff.2 ⟨fun h => samP_sp.2 ⟨(of_decide_eq_true hs4), (of_decide_eq_true hs5), (of_decide_eq_true GQ), (of_decide_eq_true hs6), (of_decide_eq_true hs7), (of_decide_eq_true hs8), (of_decide_eq_true hs9), (of_decide_eq_true hs10), (of_decide_eq_true h)⟩, fun h => dec_t (samP_sp.1 h).parent⟩)
 have hs10f : (decide (r.right = u.right)) = false := by simpa using hs10
 refine tri_region ?_
 refine t_op rfl (sp_move (.tmp 8) (bv true) rfl) ⟨I0, T0⟩ T0 T0 ?_
 refine t_op rfl (sp_move (.tmp 97) (bv true) rfl) ⟨I0, T0⟩ T0 T0 ?_
 refine t_opG rfl (sp_fieldBox (off' := 12) (.tmp 2) rfl Tryd.underlying81 rfl (z := 1) (by kernel_rfl) (by decide) rfl) ⟨I0, T0⟩ T0 T0 ?_
 refine t_opG rfl (sp_loadBox1 (Y := .box 81 (cRu r)) (X := intsA r.send) (.tmp 99) rfl Tryd.underlying24 rfl rfl) ⟨I0, T0⟩ ⟨rfl, T0⟩ T0 ?_
 refine t_opG rfl (sp_fieldBox (off' := 12) (.tmp 3) rfl Tryd.underlying81 rfl (z := 1) (by kernel_rfl) (by decide) rfl) ⟨I0, T0⟩ T0 T0 ?_
 refine t_opG rfl (sp_loadBox1 (Y := .box 81 (cRu u)) (X := intsA u.send) (.tmp 101) rfl Tryd.underlying24 rfl rfl) ⟨I0, T0⟩ ⟨rfl, T0⟩ T0 ?_
 refine t_opG rfl (sp_call (c := .func 19) (xs := #[.tmp 100, .tmp 102]) [] (ctr_b (sameIntsG r.send u.send HR.send HS.send) hs8) rfl (by kernel_rfl) rfl (Xs := [intsA r.send, intsA u.send]) rfl rfl rfl) ⟨I0, I0, I0, T0⟩ T0 T0 ?_
 refine t_op rfl (sp_pick (.tmp 98) (.tmp 103) (.const (.bool false)) true (bv true) (bv false) rfl) ⟨I0, I0, I0, T0⟩ T0 T0 ?_
 refine t_op rfl (sp_move (.tmp 104) (bv true) rfl) ⟨I0, T0⟩ T0 T0 ?_
 refine t_opG rfl (sp_fieldBox (off' := 14) (.tmp 2) rfl Tryd.underlying81 rfl (z := 1) (by kernel_rfl) (by decide) rfl) ⟨I0, T0⟩ T0 T0 ?_
 refine t_opG rfl (sp_loadBox1 (Y := .box 81 (cRu r)) (X := intsA r.left) (.tmp 106) rfl Tryd.underlying24 rfl rfl) ⟨I0, T0⟩ ⟨rfl, T0⟩ T0 ?_
 refine t_opG rfl (sp_fieldBox (off' := 14) (.tmp 3) rfl Tryd.underlying81 rfl (z := 1) (by kernel_rfl) (by decide) rfl) ⟨I0, T0⟩ T0 T0 ?_
 refine t_opG rfl (sp_loadBox1 (Y := .box 81 (cRu u)) (X := intsA u.left) (.tmp 108) rfl Tryd.underlying24 rfl rfl) ⟨I0, T0⟩ ⟨rfl, T0⟩ T0 ?_
 refine t_opG rfl (sp_call (c := .func 19) (xs := #[.tmp 107, .tmp 109]) [] (ctr_b (sameIntsG r.left u.left HR.left HS.left) hs9) rfl (by kernel_rfl) rfl (Xs := [intsA r.left, intsA u.left]) rfl rfl rfl) ⟨I0, I0, I0, T0⟩ T0 T0 ?_
 refine t_op rfl (sp_pick (.tmp 105) (.tmp 110) (.const (.bool false)) true (bv true) (bv false) rfl) ⟨I0, I0, I0, T0⟩ T0 T0 ?_
 refine t_op rfl (sp_move (.tmp 111) (bv true) rfl) ⟨I0, T0⟩ T0 T0 ?_
 refine t_opG rfl (sp_fieldBox (off' := 15) (.tmp 2) rfl Tryd.underlying81 rfl (z := 1) (by kernel_rfl) (by decide) rfl) ⟨I0, T0⟩ T0 T0 ?_
 refine t_opG rfl (sp_loadBox1 (Y := .box 81 (cRu r)) (X := intsA r.right) (.tmp 113) rfl Tryd.underlying24 rfl rfl) ⟨I0, T0⟩ ⟨rfl, T0⟩ T0 ?_
 refine t_opG rfl (sp_fieldBox (off' := 15) (.tmp 3) rfl Tryd.underlying81 rfl (z := 1) (by kernel_rfl) (by decide) rfl) ⟨I0, T0⟩ T0 T0 ?_
 refine t_opG rfl (sp_loadBox1 (Y := .box 81 (cRu u)) (X := intsA u.right) (.tmp 115) rfl Tryd.underlying24 rfl rfl) ⟨I0, T0⟩ ⟨rfl, T0⟩ T0 ?_
 refine t_opG rfl (sp_call (c := .func 19) (xs := #[.tmp 114, .tmp 116]) [] (ctr_b (sameIntsG r.right u.right HR.right HS.right) hs10f) rfl (by kernel_rfl) rfl (Xs := [intsA r.right, intsA u.right]) rfl rfl rfl) ⟨I0, I0, I0, T0⟩ T0 T0 ?_
 refine t_op rfl (sp_pick (.tmp 112) (.tmp 117) (.const (.bool false)) true (bv false) (bv false) rfl) ⟨I0, I0, I0, T0⟩ T0 T0 ?_
 refine t_op rfl (sp_move (.tmp 118) (bv false) rfl) ⟨I0, T0⟩ T0 T0 ?_
 refine t_skip rfl ?_
 refine t_skip rfl ?_
 refine t_skip rfl ?_
 refine t_skip rfl ?_
 refine t_skip rfl ?_
 refine t_op rfl (sp_pick (.tmp 119) (.tmp 124) (.const (.bool false)) false (.v (.tuple #[])) (bv false) rfl) ⟨I0, I0, I0, T0⟩ T0 T0 ?_
 refine t_op rfl (sp_assign (.tmp 125) (bv false) rfl) ⟨I0, T0⟩ T0 T0 ?_
 refine tri_nil ?_
 refine tri_wk (wk_keep [] [(4, bv false)] (n := 126)) ?_
 refine t_then ?_
 refine tri_ret ?_
 refine tri_end1 Tryd.results54 (.tmp rfl) ?_
 exact congrArg (fun x : Bool => AV.v (.bool x)) ((samP_not (fun h => h.right) (of_decide_eq_false hs10f)).symm)
 have hs9f : (decide (r.left = u.left)) = false := by simpa using hs9
 refine tri_region ?_
 refine t_op rfl (sp_move (.tmp 8) (bv true) rfl) ⟨I0, T0⟩ T0 T0 ?_
 refine t_op rfl (sp_move (.tmp 97) (bv true) rfl) ⟨I0, T0⟩ T0 T0 ?_
 refine t_opG rfl (sp_fieldBox (off' := 12) (.tmp 2) rfl Tryd.underlying81 rfl (z := 1) (by kernel_rfl) (by decide) rfl) ⟨I0, T0⟩ T0 T0 ?_
 refine t_opG rfl (sp_loadBox1 (Y := .box 81 (cRu r)) (X := intsA r.send) (.tmp 99) rfl Tryd.underlying24 rfl rfl) ⟨I0, T0⟩ ⟨rfl, T0⟩ T0 ?_
 refine t_opG rfl (sp_fieldBox (off' := 12) (.tmp 3) rfl Tryd.underlying81 rfl (z := 1) (by kernel_rfl) (by decide) rfl) ⟨I0, T0⟩ T0 T0 ?_
 refine t_opG rfl (sp_loadBox1 (Y := .box 81 (cRu u)) (X := intsA u.send) (.tmp 101) rfl Tryd.underlying24 rfl rfl) ⟨I0, T0⟩ ⟨rfl, T0⟩ T0 ?_
 refine t_opG rfl (sp_call (c := .func 19) (xs := #[.tmp 100, .tmp 102]) [] (ctr_b (sameIntsG r.send u.send HR.send HS.send) hs8) rfl (by kernel_rfl) rfl (Xs := [intsA r.send, intsA u.send]) rfl rfl rfl) ⟨I0, I0, I0, T0⟩ T0 T0 ?_
 refine t_op rfl (sp_pick (.tmp 98) (.tmp 103) (.const (.bool false)) true (bv true) (bv false) rfl) ⟨I0, I0, I0, T0⟩ T0 T0 ?_
 refine t_op rfl (sp_move (.tmp 104) (bv true) rfl) ⟨I0, T0⟩ T0 T0 ?_
 refine t_opG rfl (sp_fieldBox (off' := 14) (.tmp 2) rfl Tryd.underlying81 rfl (z := 1) (by kernel_rfl) (by decide) rfl) ⟨I0, T0⟩ T0 T0 ?_
 refine t_opG rfl (sp_loadBox1 (Y := .box 81 (cRu r)) (X := intsA r.left) (.tmp 106) rfl Tryd.underlying24 rfl rfl) ⟨I0, T0⟩ ⟨rfl, T0⟩ T0 ?_
 refine t_opG rfl (sp_fieldBox (off' := 14) (.tmp 3) rfl Tryd.underlying81 rfl (z := 1) (by kernel_rfl) (by decide) rfl) ⟨I0, T0⟩ T0 T0 ?_
 refine t_opG rfl (sp_loadBox1 (Y := .box 81 (cRu u)) (X := intsA u.left) (.tmp 108) rfl Tryd.underlying24 rfl rfl) ⟨I0, T0⟩ ⟨rfl, T0⟩ T0 ?_
 refine t_opG rfl (sp_call (c := .func 19) (xs := #[.tmp 107, .tmp 109]) [] (ctr_b (sameIntsG r.left u.left HR.left HS.left) hs9f) rfl (by kernel_rfl) rfl (Xs := [intsA r.left, intsA u.left]) rfl rfl rfl) ⟨I0, I0, I0, T0⟩ T0 T0 ?_
 refine t_op rfl (sp_pick (.tmp 105) (.tmp 110) (.const (.bool false)) true (bv false) (bv false) rfl) ⟨I0, I0, I0, T0⟩ T0 T0 ?_
 refine t_op rfl (sp_move (.tmp 111) (bv false) rfl) ⟨I0, T0⟩ T0 T0 ?_
 refine t_skip rfl ?_
 refine t_skip rfl ?_
 refine t_skip rfl ?_
 refine t_skip rfl ?_
 refine t_skip rfl ?_
 refine t_op rfl (sp_pick (.tmp 112) (.tmp 117) (.const (.bool false)) false (.v (.tuple #[])) (bv false) rfl) ⟨I0, I0, I0, T0⟩ T0 T0 ?_
 refine t_op rfl (sp_move (.tmp 118) (bv false) rfl) ⟨I0, T0⟩ T0 T0 ?_
 refine t_skip rfl ?_
 refine t_skip rfl ?_
 refine t_skip rfl ?_
 refine t_skip rfl ?_
 refine t_skip rfl ?_
 refine t_op rfl (sp_pick (.tmp 119) (.tmp 124) (.const (.bool false)) false (.v (.tuple #[])) (bv false) rfl) ⟨I0, I0, I0, T0⟩ T0 T0 ?_
 refine t_op rfl (sp_assign (.tmp 125) (bv false) rfl) ⟨I0, T0⟩ T0 T0 ?_
 refine tri_nil ?_
 refine tri_wk (wk_keep [] [(4, bv false)] (n := 126)) ?_
 refine t_then ?_
 refine tri_ret ?_
 refine tri_end1 Tryd.results54 (.tmp rfl) ?_
 exact congrArg (fun x : Bool => AV.v (.bool x)) ((samP_not (fun h => h.left) (of_decide_eq_false hs9f)).symm)
 have hs8f : (decide (r.send = u.send)) = false := by simpa using hs8
 refine tri_region ?_
 refine t_op rfl (sp_move (.tmp 8) (bv true) rfl) ⟨I0, T0⟩ T0 T0 ?_
 refine t_op rfl (sp_move (.tmp 97) (bv true) rfl) ⟨I0, T0⟩ T0 T0 ?_
 refine t_opG rfl (sp_fieldBox (off' := 12) (.tmp 2) rfl Tryd.underlying81 rfl (z := 1) (by kernel_rfl) (by decide) rfl) ⟨I0, T0⟩ T0 T0 ?_
 refine t_opG rfl (sp_loadBox1 (Y := .box 81 (cRu r)) (X := intsA r.send) (.tmp 99) rfl Tryd.underlying24 rfl rfl) ⟨I0, T0⟩ ⟨rfl, T0⟩ T0 ?_
 refine t_opG rfl (sp_fieldBox (off' := 12) (.tmp 3) rfl Tryd.underlying81 rfl (z := 1) (by kernel_rfl) (by decide) rfl) ⟨I0, T0⟩ T0 T0 ?_
 refine t_opG rfl (sp_loadBox1 (Y := .box 81 (cRu u)) (X := intsA u.send) (.tmp 101) rfl Tryd.underlying24 rfl rfl) ⟨I0, T0⟩ ⟨rfl, T0⟩ T0 ?_
 refine t_opG rfl (sp_call (c := .func 19) (xs := #[.tmp 100, .tmp 102]) [] (ctr_b (sameIntsG r.send u.send HR.send HS.send) hs8f) rfl (by kernel_rfl) rfl (Xs := [intsA r.send, intsA u.send]) rfl rfl rfl) ⟨I0, I0, I0, T0⟩ T0 T0 ?_
 refine t_op rfl (sp_pick (.tmp 98) (.tmp 103) (.const (.bool false)) true (bv false) (bv false) rfl) ⟨I0, I0, I0, T0⟩ T0 T0 ?_
 refine t_op rfl (sp_move (.tmp 104) (bv false) rfl) ⟨I0, T0⟩ T0 T0 ?_
 refine t_skip rfl ?_
 refine t_skip rfl ?_
 refine t_skip rfl ?_
 refine t_skip rfl ?_
 refine t_skip rfl ?_
 refine t_op rfl (sp_pick (.tmp 105) (.tmp 110) (.const (.bool false)) false (.v (.tuple #[])) (bv false) rfl) ⟨I0, I0, I0, T0⟩ T0 T0 ?_
 refine t_op rfl (sp_move (.tmp 111) (bv false) rfl) ⟨I0, T0⟩ T0 T0 ?_
 refine t_skip rfl ?_
 refine t_skip rfl ?_
 refine t_skip rfl ?_
 refine t_skip rfl ?_
 refine t_skip rfl ?_
 refine t_op rfl (sp_pick (.tmp 112) (.tmp 117) (.const (.bool false)) false (.v (.tuple #[])) (bv false) rfl) ⟨I0, I0, I0, T0⟩ T0 T0 ?_
 refine t_op rfl (sp_move (.tmp 118) (bv false) rfl) ⟨I0, T0⟩ T0 T0 ?_
 refine t_skip rfl ?_
 refine t_skip rfl ?_
 refine t_skip rfl ?_
 refine t_skip rfl ?_
 refine t_skip rfl ?_
 refine t_op rfl (sp_pick (.tmp 119) (.tmp 124) (.const (.bool false)) false (.v (.tuple #[])) (bv false) rfl) ⟨I0, I0, I0, T0⟩ T0 T0 ?_
 refine t_op rfl (sp_assign (.tmp 125) (bv false) rfl) ⟨I0, T0⟩ T0 T0 ?_
 refine tri_nil ?_
 refine tri_wk (wk_keep [] [(4, bv false)] (n := 126)) ?_
 refine t_then ?_
 refine tri_ret ?_
 refine tri_end1 Tryd.results54 (.tmp rfl) ?_
 exact congrArg (fun x : Bool => AV.v (.bool x)) ((samP_not (fun h => h.send) (of_decide_eq_false hs8f)).symm)
 have hs7f : (decide (r.fa = u.fa)) = false := by simpa using hs7
 rw [hs7f]
 refine tri_wk (wk_keep [(1, .box 81 (cRu r)), (2, .box 81 (cRu u))] [(2, .box 1 0), (3, .box 2 0), (8, bv false)] (n := 126)) ?_
 refine tri_region ?_
 refine t_op rfl (sp_move (.tmp 8) (bv false) rfl) ⟨I0, T0⟩ T0 T0 ?_
 refine t_op rfl (sp_move (.tmp 97) (bv false) rfl) ⟨I0, T0⟩ T0 T0 ?_
 refine t_skip rfl ?_
 refine t_skip rfl ?_
 refine t_skip rfl ?_
 refine t_skip rfl ?_
 refine t_skip rfl ?_
 refine t_op rfl (sp_pick (.tmp 98) (.tmp 103) (.const (.bool false)) false (.v (.tuple #[])) (bv false) rfl) ⟨I0, I0, I0, T0⟩ T0 T0 ?_
 refine t_op rfl (sp_move (.tmp 104) (bv false) rfl) ⟨I0, T0⟩ T0 T0 ?_
 refine t_skip rfl ?_
 refine t_skip rfl ?_
 refine t_skip rfl ?_
 refine t_skip rfl ?_
 refine t_skip rfl ?_
 refine t_op rfl (sp_pick (.tmp 105) (.tmp 110) (.const (.bool false)) false (.v (.tuple #[])) (bv false) rfl) ⟨I0, I0, I0, T0⟩ T0 T0 ?_
 refine t_op rfl (sp_move (.tmp 111) (bv false) rfl) ⟨I0, T0⟩ T0 T0 ?_
 refine t_skip rfl ?_
 refine t_skip rfl ?_
 refine t_skip rfl ?_
 refine t_skip rfl ?_
 refine t_skip rfl ?_
 refine t_op rfl (sp_pick (.tmp 112) (.tmp 117) (.const (.bool false)) false (.v (.tuple #[])) (bv false) rfl) ⟨I0, I0, I0, T0⟩ T0 T0 ?_
 refine t_op rfl (sp_move (.tmp 118) (bv false) rfl) ⟨I0, T0⟩ T0 T0 ?_
 refine t_skip rfl ?_
 refine t_skip rfl ?_
 refine t_skip rfl ?_
 refine t_skip rfl ?_
 refine t_skip rfl ?_
 refine t_op rfl (sp_pick (.tmp 119) (.tmp 124) (.const (.bool false)) false (.v (.tuple #[])) (bv false) rfl) ⟨I0, I0, I0, T0⟩ T0 T0 ?_
 refine t_op rfl (sp_assign (.tmp 125) (bv false) rfl) ⟨I0, T0⟩ T0 T0 ?_
 refine tri_nil ?_
 refine tri_wk (wk_keep [] [(4, bv false)] (n := 126)) ?_
 refine t_then ?_
 refine tri_ret ?_
 refine tri_end1 Tryd.results54 (.tmp rfl) ?_
 exact congrArg (fun x : Bool => AV.v (.bool x)) ((samP_not (fun h => h.fa) (of_decide_eq_false hs7f)).symm)
 have hs6f : (decide (r.ex = u.ex)) = false := by simpa using hs6
 refine tri_region ?_
 refine t_op rfl (sp_move (.tmp 6) (.own 3) rfl) ⟨I0, T0⟩ T0 T0 ?_
 refine t_op rfl (sp_move (.tmp 7) (.own 4) rfl) ⟨I0, T0⟩ T0 T0 ?_
 refine t_op rfl (sp_call (c := .func 19) (xs := #[.tmp 73, .tmp 74]) [(3, .row true 3 1 9 ([iv r.kind, iv r.frm, iv r.to, iv r.pf, iv r.pt, iv r.rd, iv r.wr, iv r.pos, iv r.dir])), (4, .row true 3 1 9 ([iv u.kind, iv u.frm, iv u.to, iv u.pf, iv u.pt, iv u.rd, iv u.wr, iv u.pos, iv u.dir]))] (ctr_b (sameIntsG ([r.kind, r.frm, r.to, r.pf, r.pt, r.rd, r.wr, r.pos, r.dir]) ([u.kind, u.frm, u.to, u.pf, u.pt, u.rd, u.wr, u.pos, u.dir]) (ruInts HR) (ruInts HS)) hs4) rfl (by kernel_rfl) rfl (Xs := [.own 3, .own 4]) rfl rfl rfl) ⟨I0, I0, I0, T0⟩ ⟨rfl, rfl, T0⟩ T0 ?_
 refine t_op rfl (sp_move (.tmp 75) (bv true) rfl) ⟨I0, T0⟩ T0 T0 ?_
 refine t_opG rfl (sp_fieldBox (off' := 6) (.tmp 2) rfl Tryd.underlying81 rfl (z := 1) (by kernel_rfl) (by decide) rfl) ⟨I0, T0⟩ T0 T0 ?_
 refine t_opG rfl (sp_loadBox1 (Y := .box 81 (cRu r)) (X := intsA r.resp) (.tmp 77) rfl Tryd.underlying24 rfl rfl) ⟨I0, T0⟩ ⟨rfl, T0⟩ T0 ?_
 refine t_opG rfl (sp_fieldBox (off' := 6) (.tmp 3) rfl Tryd.underlying81 rfl (z := 1) (by kernel_rfl) (by decide) rfl) ⟨I0, T0⟩ T0 T0 ?_
 refine t_opG rfl (sp_loadBox1 (Y := .box 81 (cRu u)) (X := intsA u.resp) (.tmp 79) rfl Tryd.underlying24 rfl rfl) ⟨I0, T0⟩ ⟨rfl, T0⟩ T0 ?_
 refine t_opG rfl (sp_call (c := .func 19) (xs := #[.tmp 78, .tmp 80]) [] (ctr_b (sameIntsG r.resp u.resp HR.resp HS.resp) hs5) rfl (by kernel_rfl) rfl (Xs := [intsA r.resp, intsA u.resp]) rfl rfl rfl) ⟨I0, I0, I0, T0⟩ T0 T0 ?_
 refine t_op rfl (sp_pick (.tmp 76) (.tmp 81) (.const (.bool false)) true (bv true) (bv false) rfl) ⟨I0, I0, I0, T0⟩ T0 T0 ?_
 refine t_op rfl (sp_move (.tmp 82) (bv true) rfl) ⟨I0, T0⟩ T0 T0 ?_
 refine t_opG rfl (sp_fieldBox (off' := 8) (.tmp 2) rfl Tryd.underlying81 rfl (z := 1) (by kernel_rfl) (by decide) rfl) ⟨I0, T0⟩ T0 T0 ?_
 refine t_opG rfl (sp_loadBox1 (Y := .box 81 (cRu r)) (X := intsA r.ex) (.tmp 84) rfl Tryd.underlying24 rfl rfl) ⟨I0, T0⟩ ⟨rfl, T0⟩ T0 ?_
 refine t_opG rfl (sp_fieldBox (off' := 8) (.tmp 3) rfl Tryd.underlying81 rfl (z := 1) (by kernel_rfl) (by decide) rfl) ⟨I0, T0⟩ T0 T0 ?_
 refine t_opG rfl (sp_loadBox1 (Y := .box 81 (cRu u)) (X := intsA u.ex) (.tmp 86) rfl Tryd.underlying24 rfl rfl) ⟨I0, T0⟩ ⟨rfl, T0⟩ T0 ?_
 refine t_opG rfl (sp_call (c := .func 19) (xs := #[.tmp 85, .tmp 87]) [] (ctr_b (sameIntsG r.ex u.ex HR.ex HS.ex) hs6f) rfl (by kernel_rfl) rfl (Xs := [intsA r.ex, intsA u.ex]) rfl rfl rfl) ⟨I0, I0, I0, T0⟩ T0 T0 ?_
 refine t_op rfl (sp_pick (.tmp 83) (.tmp 88) (.const (.bool false)) true (bv false) (bv false) rfl) ⟨I0, I0, I0, T0⟩ T0 T0 ?_
 refine t_op rfl (sp_move (.tmp 89) (bv false) rfl) ⟨I0, T0⟩ T0 T0 ?_
 refine t_skip rfl ?_
 refine t_skip rfl ?_
 refine t_skip rfl ?_
 refine t_skip rfl ?_
 refine t_skip rfl ?_
 refine t_op rfl (sp_pick (.tmp 90) (.tmp 95) (.const (.bool false)) false (.v (.tuple #[])) (bv false) rfl) ⟨I0, I0, I0, T0⟩ T0 T0 ?_
 refine t_op rfl (sp_assign (.tmp 96) (bv false) rfl) ⟨I0, T0⟩ T0 T0 ?_
 refine tri_nil ?_
 refine tri_wk (wk_keep [(1, .box 81 (cRu r)), (2, .box 81 (cRu u))] [(2, .box 1 0), (3, .box 2 0), (8, bv false)] (n := 126)) ?_
 refine t_then ?_
 refine tri_seq ?_
 refine tri_region ?_
 refine t_op rfl (sp_move (.tmp 8) (bv false) rfl) ⟨I0, T0⟩ T0 T0 ?_
 refine t_op rfl (sp_move (.tmp 97) (bv false) rfl) ⟨I0, T0⟩ T0 T0 ?_
 refine t_skip rfl ?_
 refine t_skip rfl ?_
 refine t_skip rfl ?_
 refine t_skip rfl ?_
 refine t_skip rfl ?_
 refine t_op rfl (sp_pick (.tmp 98) (.tmp 103) (.const (.bool false)) false (.v (.tuple #[])) (bv false) rfl) ⟨I0, I0, I0, T0⟩ T0 T0 ?_
 refine t_op rfl (sp_move (.tmp 104) (bv false) rfl) ⟨I0, T0⟩ T0 T0 ?_
 refine t_skip rfl ?_
 refine t_skip rfl ?_
 refine t_skip rfl ?_
 refine t_skip rfl ?_
 refine t_skip rfl ?_
 refine t_op rfl (sp_pick (.tmp 105) (.tmp 110) (.const (.bool false)) false (.v (.tuple #[])) (bv false) rfl) ⟨I0, I0, I0, T0⟩ T0 T0 ?_
 refine t_op rfl (sp_move (.tmp 111) (bv false) rfl) ⟨I0, T0⟩ T0 T0 ?_
 refine t_skip rfl ?_
 refine t_skip rfl ?_
 refine t_skip rfl ?_
 refine t_skip rfl ?_
 refine t_skip rfl ?_
 refine t_op rfl (sp_pick (.tmp 112) (.tmp 117) (.const (.bool false)) false (.v (.tuple #[])) (bv false) rfl) ⟨I0, I0, I0, T0⟩ T0 T0 ?_
 refine t_op rfl (sp_move (.tmp 118) (bv false) rfl) ⟨I0, T0⟩ T0 T0 ?_
 refine t_skip rfl ?_
 refine t_skip rfl ?_
 refine t_skip rfl ?_
 refine t_skip rfl ?_
 refine t_skip rfl ?_
 refine t_op rfl (sp_pick (.tmp 119) (.tmp 124) (.const (.bool false)) false (.v (.tuple #[])) (bv false) rfl) ⟨I0, I0, I0, T0⟩ T0 T0 ?_
 refine t_op rfl (sp_assign (.tmp 125) (bv false) rfl) ⟨I0, T0⟩ T0 T0 ?_
 refine tri_nil ?_
 refine tri_wk (wk_keep [] [(4, bv false)] (n := 126)) ?_
 refine t_then ?_
 refine tri_ret ?_
 refine tri_end1 Tryd.results54 (.tmp rfl) ?_
 exact congrArg (fun x : Bool => AV.v (.bool x)) ((samP_not (fun h => h.ex) (of_decide_eq_false hs6f)).symm)
 have hs5f : (decide (r.resp = u.resp)) = false := by simpa using hs5
 refine tri_region ?_
 refine t_op rfl (sp_move (.tmp 6) (.own 3) rfl) ⟨I0, T0⟩ T0 T0 ?_
 refine t_op rfl (sp_move (.tmp 7) (.own 4) rfl) ⟨I0, T0⟩ T0 T0 ?_
 refine t_op rfl (sp_call (c := .func 19) (xs := #[.tmp 73, .tmp 74]) [(3, .row true 3 1 9 ([iv r.kind, iv r.frm, iv r.to, iv r.pf, iv r.pt, iv r.rd, iv r.wr, iv r.pos, iv r.dir])), (4, .row true 3 1 9 ([iv u.kind, iv u.frm, iv u.to, iv u.pf, iv u.pt, iv u.rd, iv u.wr, iv u.pos, iv u.dir]))] (ctr_b (sameIntsG ([r.kind, r.frm, r.to, r.pf, r.pt, r.rd, r.wr, r.pos, r.dir]) ([u.kind, u.frm, u.to, u.pf, u.pt, u.rd, u.wr, u.pos, u.dir]) (ruInts HR) (ruInts HS)) hs4) rfl (by kernel_rfl) rfl (Xs := [.own 3, .own 4]) rfl rfl rfl) ⟨I0, I0, I0, T0⟩ ⟨rfl, rfl, T0⟩ T0 ?_
 refine t_op rfl (sp_move (.tmp 75) (bv true) rfl) ⟨I0, T0⟩ T0 T0 ?_
 refine t_opG rfl (sp_fieldBox (off' := 6) (.tmp 2) rfl Tryd.underlying81 rfl (z := 1) (by kernel_rfl) (by decide) rfl) ⟨I0, T0⟩ T0 T0 ?_
 refine t_opG rfl (sp_loadBox1 (Y := .box 81 (cRu r)) (X := intsA r.resp) (.tmp 77) rfl Tryd.underlying24 rfl rfl) ⟨I0, T0⟩ ⟨rfl, T0⟩ T0 ?_
 refine t_opG rfl (sp_fieldBox (off' := 6) (.tmp 3) rfl Tryd.underlying81 rfl (z := 1) (by kernel_rfl) (by decide) rfl) ⟨I0, T0⟩ T0 T0 ?_
 refine t_opG rfl (sp_loadBox1 (Y := .box 81 (cRu u)) (X := intsA u.resp) (.tmp 79) rfl Tryd.underlying24 rfl rfl) ⟨I0, T0⟩ ⟨rfl, T0⟩ T0 ?_
 refine t_opG rfl (sp_call (c := .func 19) (xs := #[.tmp 78, .tmp 80]) [] (ctr_b (sameIntsG r.resp u.resp HR.resp HS.resp) hs5f) rfl (by kernel_rfl) rfl (Xs := [intsA r.resp, intsA u.resp]) rfl rfl rfl) ⟨I0, I0, I0, T0⟩ T0 T0 ?_
 refine t_op rfl (sp_pick (.tmp 76) (.tmp 81) (.const (.bool false)) true (bv false) (bv false) rfl) ⟨I0, I0, I0, T0⟩ T0 T0 ?_
 refine t_op rfl (sp_move (.tmp 82) (bv false) rfl) ⟨I0, T0⟩ T0 T0 ?_
 refine t_skip rfl ?_
 refine t_skip rfl ?_
 refine t_skip rfl ?_
 refine t_skip rfl ?_
 refine t_skip rfl ?_
 refine t_op rfl (sp_pick (.tmp 83) (.tmp 88) (.const (.bool false)) false (.v (.tuple #[])) (bv false) rfl) ⟨I0, I0, I0, T0⟩ T0 T0 ?_
 refine t_op rfl (sp_move (.tmp 89) (bv false) rfl) ⟨I0, T0⟩ T0 T0 ?_
 refine t_skip rfl ?_
 refine t_skip rfl ?_
 refine t_skip rfl ?_
 refine t_skip rfl ?_
 refine t_skip rfl ?_
 refine t_op rfl (sp_pick (.tmp 90) (.tmp 95) (.const (.bool false)) false (.v (.tuple #[])) (bv false) rfl) ⟨I0, I0, I0, T0⟩ T0 T0 ?_
 refine t_op rfl (sp_assign (.tmp 96) (bv false) rfl) ⟨I0, T0⟩ T0 T0 ?_
 refine tri_nil ?_
 refine tri_wk (wk_keep [(1, .box 81 (cRu r)), (2, .box 81 (cRu u))] [(2, .box 1 0), (3, .box 2 0), (8, bv false)] (n := 126)) ?_
 refine t_then ?_
 refine tri_seq ?_
 refine tri_region ?_
 refine t_op rfl (sp_move (.tmp 8) (bv false) rfl) ⟨I0, T0⟩ T0 T0 ?_
 refine t_op rfl (sp_move (.tmp 97) (bv false) rfl) ⟨I0, T0⟩ T0 T0 ?_
 refine t_skip rfl ?_
 refine t_skip rfl ?_
 refine t_skip rfl ?_
 refine t_skip rfl ?_
 refine t_skip rfl ?_
 refine t_op rfl (sp_pick (.tmp 98) (.tmp 103) (.const (.bool false)) false (.v (.tuple #[])) (bv false) rfl) ⟨I0, I0, I0, T0⟩ T0 T0 ?_
 refine t_op rfl (sp_move (.tmp 104) (bv false) rfl) ⟨I0, T0⟩ T0 T0 ?_
 refine t_skip rfl ?_
 refine t_skip rfl ?_
 refine t_skip rfl ?_
 refine t_skip rfl ?_
 refine t_skip rfl ?_
 refine t_op rfl (sp_pick (.tmp 105) (.tmp 110) (.const (.bool false)) false (.v (.tuple #[])) (bv false) rfl) ⟨I0, I0, I0, T0⟩ T0 T0 ?_
 refine t_op rfl (sp_move (.tmp 111) (bv false) rfl) ⟨I0, T0⟩ T0 T0 ?_
 refine t_skip rfl ?_
 refine t_skip rfl ?_
 refine t_skip rfl ?_
 refine t_skip rfl ?_
 refine t_skip rfl ?_
 refine t_op rfl (sp_pick (.tmp 112) (.tmp 117) (.const (.bool false)) false (.v (.tuple #[])) (bv false) rfl) ⟨I0, I0, I0, T0⟩ T0 T0 ?_
 refine t_op rfl (sp_move (.tmp 118) (bv false) rfl) ⟨I0, T0⟩ T0 T0 ?_
 refine t_skip rfl ?_
 refine t_skip rfl ?_
 refine t_skip rfl ?_
 refine t_skip rfl ?_
 refine t_skip rfl ?_
 refine t_op rfl (sp_pick (.tmp 119) (.tmp 124) (.const (.bool false)) false (.v (.tuple #[])) (bv false) rfl) ⟨I0, I0, I0, T0⟩ T0 T0 ?_
 refine t_op rfl (sp_assign (.tmp 125) (bv false) rfl) ⟨I0, T0⟩ T0 T0 ?_
 refine tri_nil ?_
 refine tri_wk (wk_keep [] [(4, bv false)] (n := 126)) ?_
 refine t_then ?_
 refine tri_ret ?_
 refine tri_end1 Tryd.results54 (.tmp rfl) ?_
 exact congrArg (fun x : Bool => AV.v (.bool x)) ((samP_not (fun h => h.resp) (of_decide_eq_false hs5f)).symm)
 have hs4f : (decide ([r.kind, r.frm, r.to, r.pf, r.pt, r.rd, r.wr, r.pos, r.dir] = [u.kind, u.frm, u.to, u.pf, u.pt, u.rd, u.wr, u.pos, u.dir])) = false := by simpa using hs4
 refine tri_region ?_
 refine t_op rfl (sp_move (.tmp 6) (.own 3) rfl) ⟨I0, T0⟩ T0 T0 ?_
 refine t_op rfl (sp_move (.tmp 7) (.own 4) rfl) ⟨I0, T0⟩ T0 T0 ?_
 refine t_op rfl (sp_call (c := .func 19) (xs := #[.tmp 73, .tmp 74]) [(3, .row true 3 1 9 ([iv r.kind, iv r.frm, iv r.to, iv r.pf, iv r.pt, iv r.rd, iv r.wr, iv r.pos, iv r.dir])), (4, .row true 3 1 9 ([iv u.kind, iv u.frm, iv u.to, iv u.pf, iv u.pt, iv u.rd, iv u.wr, iv u.pos, iv u.dir]))] (ctr_b (sameIntsG ([r.kind, r.frm, r.to, r.pf, r.pt, r.rd, r.wr, r.pos, r.dir]) ([u.kind, u.frm, u.to, u.pf, u.pt, u.rd, u.wr, u.pos, u.dir]) (ruInts HR) (ruInts HS)) hs4f) rfl (by kernel_rfl) rfl (Xs := [.own 3, .own 4]) rfl rfl rfl) ⟨I0, I0, I0, T0⟩ ⟨rfl, rfl, T0⟩ T0 ?_
 refine t_op rfl (sp_move (.tmp 75) (bv false) rfl) ⟨I0, T0⟩ T0 T0 ?_
 refine t_skip rfl ?_
 refine t_skip rfl ?_
 refine t_skip rfl ?_
 refine t_skip rfl ?_
 refine t_skip rfl ?_
 refine t_op rfl (sp_pick (.tmp 76) (.tmp 81) (.const (.bool false)) false (.v (.tuple #[])) (bv false) rfl) ⟨I0, I0, I0, T0⟩ T0 T0 ?_
 refine t_op rfl (sp_move (.tmp 82) (bv false) rfl) ⟨I0, T0⟩ T0 T0 ?_
 refine t_skip rfl ?_
 refine t_skip rfl ?_
 refine t_skip rfl ?_
 refine t_skip rfl ?_
 refine t_skip rfl ?_
 refine t_op rfl (sp_pick (.tmp 83) (.tmp 88) (.const (.bool false)) false (.v (.tuple #[])) (bv false) rfl) ⟨I0, I0, I0, T0⟩ T0 T0 ?_
 refine t_op rfl (sp_move (.tmp 89) (bv false) rfl) ⟨I0, T0⟩ T0 T0 ?_
 refine t_skip rfl ?_
 refine t_skip rfl ?_
 refine t_skip rfl ?_
 refine t_skip rfl ?_
 refine t_skip rfl ?_
 refine t_op rfl (sp_pick (.tmp 90) (.tmp 95) (.const (.bool false)) false (.v (.tuple #[])) (bv false) rfl) ⟨I0, I0, I0, T0⟩ T0 T0 ?_
 refine t_op rfl (sp_assign (.tmp 96) (bv false) rfl) ⟨I0, T0⟩ T0 T0 ?_
 refine tri_nil ?_
 refine tri_wk (wk_keep [(1, .box 81 (cRu r)), (2, .box 81 (cRu u))] [(2, .box 1 0), (3, .box 2 0), (8, bv false)] (n := 126)) ?_
 refine t_then ?_
 refine tri_seq ?_
 refine tri_region ?_
 refine t_op rfl (sp_move (.tmp 8) (bv false) rfl) ⟨I0, T0⟩ T0 T0 ?_
 refine t_op rfl (sp_move (.tmp 97) (bv false) rfl) ⟨I0, T0⟩ T0 T0 ?_
 refine t_skip rfl ?_
 refine t_skip rfl ?_
 refine t_skip rfl ?_
 refine t_skip rfl ?_
 refine t_skip rfl ?_
 refine t_op rfl (sp_pick (.tmp 98) (.tmp 103) (.const (.bool false)) false (.v (.tuple #[])) (bv false) rfl) ⟨I0, I0, I0, T0⟩ T0 T0 ?_
 refine t_op rfl (sp_move (.tmp 104) (bv false) rfl) ⟨I0, T0⟩ T0 T0 ?_
 refine t_skip rfl ?_
 refine t_skip rfl ?_
 refine t_skip rfl ?_
 refine t_skip rfl ?_
 refine t_skip rfl ?_
 refine t_op rfl (sp_pick (.tmp 105) (.tmp 110) (.const (.bool false)) false (.v (.tuple #[])) (bv false) rfl) ⟨I0, I0, I0, T0⟩ T0 T0 ?_
 refine t_op rfl (sp_move (.tmp 111) (bv false) rfl) ⟨I0, T0⟩ T0 T0 ?_
 refine t_skip rfl ?_
 refine t_skip rfl ?_
 refine t_skip rfl ?_
 refine t_skip rfl ?_
 refine t_skip rfl ?_
 refine t_op rfl (sp_pick (.tmp 112) (.tmp 117) (.const (.bool false)) false (.v (.tuple #[])) (bv false) rfl) ⟨I0, I0, I0, T0⟩ T0 T0 ?_
 refine t_op rfl (sp_move (.tmp 118) (bv false) rfl) ⟨I0, T0⟩ T0 T0 ?_
 refine t_skip rfl ?_
 refine t_skip rfl ?_
 refine t_skip rfl ?_
 refine t_skip rfl ?_
 refine t_skip rfl ?_
 refine t_op rfl (sp_pick (.tmp 119) (.tmp 124) (.const (.bool false)) false (.v (.tuple #[])) (bv false) rfl) ⟨I0, I0, I0, T0⟩ T0 T0 ?_
 refine t_op rfl (sp_assign (.tmp 125) (bv false) rfl) ⟨I0, T0⟩ T0 T0 ?_
 refine tri_nil ?_
 refine tri_wk (wk_keep [] [(4, bv false)] (n := 126)) ?_
 refine t_then ?_
 refine tri_ret ?_
 refine tri_end1 Tryd.results54 (.tmp rfl) ?_
 exact congrArg (fun x : Bool => AV.v (.bool x)) ((samP_not (fun h => h.n9) (of_decide_eq_false hs4f)).symm)
 refine tri_region ?_
 refine t_op rfl (sp_fieldBox (off' := 7) (.tmp 2) rfl Tryd.underlying81 rfl (z := 1) (by kernel_rfl) (by decide) rfl) ⟨I0, T0⟩ T0 T0 ?_
 refine t_op rfl (sp_loadBox1 (Y := .box 81 (cRu r)) (X := slA 6 cTh r.guards) (.tmp 9) rfl Tryd.underlying79 rfl rfl) ⟨I0, T0⟩ ⟨rfl, T0⟩ T0 ?_
 refine t_op rfl (sp_lenSl (.tmp 10) rfl Tryd.underlying79) ⟨I0, T0⟩ T0 T0 ?_
 refine t_op rfl (sp_fieldBox (off' := 7) (.tmp 3) rfl Tryd.underlying81 rfl (z := 1) (by kernel_rfl) (by decide) rfl) ⟨I0, T0⟩ T0 T0 ?_
 refine t_op rfl (sp_loadBox1 (Y := .box 81 (cRu u)) (X := slA 6 cTh u.guards) (.tmp 12) rfl Tryd.underlying79 rfl rfl) ⟨I0, T0⟩ ⟨rfl, T0⟩ T0 ?_
 refine t_op rfl (sp_lenSl (.tmp 13) rfl Tryd.underlying79) ⟨I0, T0⟩ T0 T0 ?_
 refine t_op rfl (sp_neq rfl (dF' hs1)) ⟨I0, I0, T0⟩ T0 T0 ?_
 refine tri_nil ?_
 refine tri_wk (wk_keep [(1, .box 81 (cRu r)), (2, .box 81 (cRu u))] [(2, .box 1 0), (3, .box 2 0), (4, bv false), (15, bv true)] (n := 126)) ?_
 refine t_then ?_
 refine t_condT rfl ?_
 refine tri_seq ?_
 refine tri_region ?_
 refine t_op rfl (sp_assign (.const (.bool false)) (bv false) rfl) ⟨I0, T0⟩ T0 T0 ?_
 refine tri_nil ?_
 refine tri_wk (wk_keep [(1, .box 81 (cRu r)), (2, .box 81 (cRu u))] [(2, .box 1 0), (3, .box 2 0), (4, bv false)] (n := 126)) ?_
 refine t_then ?_
 refine tri_ret ?_
 refine t_then_ret ?_
 refine tri_end1 Tryd.results54 (.tmp rfl) ?_
 exact congrArg (fun x : Bool => AV.v (.bool x)) ((samP_not (fun h => congrArg (fun x : List Th => ((x.length : Nat) : Int)) h.guards) hs1).symm)
end Go.Proofs.YtpadmggccpgajaaDoor

namespace Go.Proofs.YtpadmggccpgajaaDoor
open Go.RowKit Go.Deep
section
variable {P : Program} {J : World → Prop} {o : Oper}
def AV.isSl : AV → Bool
  | .sl _ _ _ => true
  | .fr (.sl _ _ _) => true
  | _ => false
theorem pu_slice {F ok : Nat → Prop} {w : World} {z n : Nat} {cs : List AV} {v : Value} (h : Pu F w ok (.sl z n cs) v) : ∃ a m c, v = .slice a m c := by
  cases h with
  | sl0 _ _ => exact ⟨_, _, _, rfl⟩
  | sl _ _ _ _ _ _ _ => exact ⟨_, _, _, rfl⟩
theorem rel_slice {ρ : Names} {B : Nat} {w : World} {X : AV} {v : Value} (h : Rel ρ B w X v) (hX : X.isSl = true) : ∃ a m c, v = .slice a m c := by
  cases h with
  | pu h =>
    cases h with
    | any _ => cases hX
    | v _ => cases hX
    | agg _ _ => cases hX
    | tup _ _ => cases hX
    | fr h =>
      rename_i X
      cases X with
      | sl z n cs => exact pu_slice h
      | _ => cases hX
    | sl0 h1 h2 => exact ⟨_, _, _, rfl⟩
    | sl _ _ _ _ _ _ _ => exact ⟨_, _, _, rfl⟩
    | el _ _ _ _ => cases hX
    | clo _ _ => cases hX
  | _ => cases hX
end
end Go.Proofs.YtpadmggccpgajaaDoor
