/-
  A PROPERTY AS IT LIES IN MEMORY; EqualProperty OF THE PROGRAM.
-/
import Derived.Test.YtbdnihjokndhaabDoorEqProp
namespace Go.Proofs.YtbdnihjokndhaabDoor
open Go.RowKit Go.Deep

/-- A property, by its fields. -/
structure Pq where
  nm : ByteArray
  kind : Int
  start : List Int
  bad : List Rw
  adj : List Int
  goal : List Int
/-- The value v is a property that reads as q. -/
def IsProp (lo : Nat) (w : World) (v : Value) (q : Pq) : Prop :=
  ∃ v2 v3 v4 v5, v = .agg #[.string q.nm, .int .i64 q.kind, v2, v3, v4, v5] ∧ IsInts lo w v2 q.start ∧ IsRows lo w v3 q.bad ∧ IsInts lo w v4 q.adj ∧ IsInts lo w v5 q.goal ∧ q.nm.size ≤ maxLen ∧ I64 q.kind
theorem IsProp.below {lo : Nat} {w w' : World} {v : Value} {q : Pq} (h : IsProp lo w v q) (hb : Below w.heap.size w w') : IsProp lo w' v q := by
  obtain ⟨v2, v3, v4, v5, e, h2, h3, h4, h5, h6⟩ := h
  exact ⟨v2, v3, v4, v5, e, h2.below hb, h3.below hb, h4.below hb, h5.below hb, h6⟩
theorem IsProp.mono {lo lo' : Nat} {w : World} {v : Value} {q : Pq} (h : IsProp lo w v q) (hl : lo' ≤ lo) : IsProp lo' w v q := by
  obtain ⟨v2, v3, v4, v5, e, h2, h3, h4, h5, h6⟩ := h
  exact ⟨v2, v3, v4, v5, e, h2.mono hl, h3.mono hl, h4.mono hl, h5.mono hl, h6⟩
def eqQ (p q : Pq) : Bool := (p.nm.toList == q.nm.toList) && (p.kind == q.kind) && eqI p.start q.start && eqC p.bad q.bad && eqI p.adj q.adj && eqI p.goal q.goal
theorem eqQ_self (q : Pq) : eqQ q q = true := by unfold eqQ eqI eqC; simp

set_option maxHeartbeats 3200000 in
theorem EqualProperty_any {lo lo' : Nat} {w : World} {v v' : Value} {p q : Pq} (h : IsProp lo w v p) (h' : IsProp lo' w v' q) :
    Calls Tryd.prog 7 #[v, v'] w fun e w' => e = .returned (.bool (eqQ p q)) ∧ Below w.heap.size w w' := by
  obtain ⟨v2, v3, v4, v5, rfl, H2, H3, H4, H5, _⟩ := h
  obtain ⟨u2, u3, u4, u5, rfl, K2, K3, K4, K5, _⟩ := h'
  obtain ⟨nm, kind, start, bad, adj, goal⟩ := p
  obtain ⟨nm', kind', start', bad', adj', goal'⟩ := q
  dsimp only at H2 H3 H4 H5 K2 K3 K4 K5 ⊢
  obtain ⟨a0, c0, rfl⟩ := H2.shape
  obtain ⟨a1, c1, rfl⟩ := H3.shape
  obtain ⟨a2, c2, rfl⟩ := H4.shape
  obtain ⟨a3, c3, rfl⟩ := H5.shape
  obtain ⟨a4, c4, rfl⟩ := K2.shape
  obtain ⟨a5, c5, rfl⟩ := K3.shape
  obtain ⟨a6, c6, rfl⟩ := K4.shape
  obtain ⟨a7, c7, rfl⟩ := K5.shape
  have GH2 := Lib.hid H2
  have GH3 := Lib.hid H3
  have GH4 := Lib.hid H4
  have GH5 := Lib.hid H5
  have GK2 := Lib.hid K2
  have GK3 := Lib.hid K3
  have GK4 := Lib.hid K4
  have GK5 := Lib.hid K5
  clear H2 H3 H4 H5 K2 K3 K4 K5
  have E : Hid (eqQ ⟨nm, kind, start, bad, adj, goal⟩ ⟨nm', kind', start', bad', adj', goal'⟩ = ((nm.toList == nm'.toList) && (kind == kind') && eqI start start' && eqC bad bad' && eqI adj adj' && eqI goal goal')) := (rfl : eqQ _ _ = _)
  cases t0 : (nm.toList == nm'.toList) with
  | false =>
    go_enter Tryd.func7, Tryd.ntmps7
    go_wp2_with fail
    go_ret
    exact ⟨ret_bool (by rw [E.out, t0]; rfl), (allocBelow _ _).trans ((allocBelow _ _).mono (by simp))⟩
  | true =>
    cases t1 : (kind == kind') with
    | false =>
      go_enter Tryd.func7, Tryd.ntmps7
      go_wp2_with fail
      go_ret
      exact ⟨ret_bool (by rw [E.out, t0, t1]; rfl), (allocBelow _ _).trans ((allocBelow _ _).mono (by simp))⟩
    | true =>
      cases t2 : eqI start start' with
      | false =>
        go_enter Tryd.func7, Tryd.ntmps7
        go_wp2_with (first | (go_at_call 16; (with_reducible refine (Equal_any (GH2.out.below (by go_grown)) (GK2.out.below (by go_grown))).mono ?_); rintro e w1 ⟨rfl, hb1⟩; have hB1 : Below w.heap.size w w1 := (Below.trans (by go_grown) (hb1.mono (by go_size))); obtain ⟨pa1, _⟩ := blk hb1 (n := w.heap.size) (by first | omega | go_size); obtain ⟨pb1, _⟩ := blk hb1 (n := w.heap.size + 1) (by first | omega | go_size); have hz1 : w.heap.size + 1 < w1.heap.size := (by have := hb1.size; (try simp at this); omega); clear hb1))
        go_ret
        exact ⟨ret_bool (by rw [E.out, t0, t1, t2]; rfl), hB1⟩
      | true =>
        cases t3 : eqC bad bad' with
        | false =>
          go_enter Tryd.func7, Tryd.ntmps7
          go_wp2_with (first | (go_at_call 16; (with_reducible refine (Equal_any (GH2.out.below (by go_grown)) (GK2.out.below (by go_grown))).mono ?_); rintro e w1 ⟨rfl, hb1⟩; have hB1 : Below w.heap.size w w1 := (Below.trans (by go_grown) (hb1.mono (by go_size))); obtain ⟨pa1, _⟩ := blk hb1 (n := w.heap.size) (by first | omega | go_size); obtain ⟨pb1, _⟩ := blk hb1 (n := w.heap.size + 1) (by first | omega | go_size); have hz1 : w.heap.size + 1 < w1.heap.size := (by have := hb1.size; (try simp at this); omega); clear hb1) | (go_at_call 17; (with_reducible refine (EqualFunc_any (GH3.out.below hB1) (GK3.out.below hB1)).mono ?_); rintro e w2 ⟨rfl, hb2⟩; have hB2 : Below w.heap.size w w2 := (thenBelow hB1 hb2); obtain ⟨pa2, _⟩ := blk hb2 (n := w.heap.size) (by first | omega | go_size); obtain ⟨pb2, _⟩ := blk hb2 (n := w.heap.size + 1) (by first | omega | go_size); have hz2 : w.heap.size + 1 < w2.heap.size := (by have := hb2.size; (try simp at this); omega); clear hb2))
          go_ret
          exact ⟨ret_bool (by rw [E.out, t0, t1, t2, t3]; rfl), hB2⟩
        | true =>
          cases t4 : eqI adj adj' with
          | false =>
            go_enter Tryd.func7, Tryd.ntmps7
            go_wp2_with (first | (go_at_call 16; (with_reducible refine (Equal_any (GH2.out.below (by go_grown)) (GK2.out.below (by go_grown))).mono ?_); rintro e w1 ⟨rfl, hb1⟩; have hB1 : Below w.heap.size w w1 := (Below.trans (by go_grown) (hb1.mono (by go_size))); obtain ⟨pa1, _⟩ := blk hb1 (n := w.heap.size) (by first | omega | go_size); obtain ⟨pb1, _⟩ := blk hb1 (n := w.heap.size + 1) (by first | omega | go_size); have hz1 : w.heap.size + 1 < w1.heap.size := (by have := hb1.size; (try simp at this); omega); clear hb1) | (go_at_call 17; (with_reducible refine (EqualFunc_any (GH3.out.below hB1) (GK3.out.below hB1)).mono ?_); rintro e w2 ⟨rfl, hb2⟩; have hB2 : Below w.heap.size w w2 := (thenBelow hB1 hb2); obtain ⟨pa2, _⟩ := blk hb2 (n := w.heap.size) (by first | omega | go_size); obtain ⟨pb2, _⟩ := blk hb2 (n := w.heap.size + 1) (by first | omega | go_size); have hz2 : w.heap.size + 1 < w2.heap.size := (by have := hb2.size; (try simp at this); omega); clear hb2) | (go_at_call 16; (with_reducible refine (Equal_any (GH4.out.below hB2) (GK4.out.below hB2)).mono ?_); rintro e w3 ⟨rfl, hb3⟩; have hB3 : Below w.heap.size w w3 := (thenBelow hB2 hb3); obtain ⟨pa3, _⟩ := blk hb3 (n := w.heap.size) (by first | omega | go_size); obtain ⟨pb3, _⟩ := blk hb3 (n := w.heap.size + 1) (by first | omega | go_size); have hz3 : w.heap.size + 1 < w3.heap.size := (by have := hb3.size; (try simp at this); omega); clear hb3))
            go_ret
            exact ⟨ret_bool (by rw [E.out, t0, t1, t2, t3, t4]; rfl), hB3⟩
          | true =>
            go_enter Tryd.func7, Tryd.ntmps7
            go_wp2_with (first | (go_at_call 16; (with_reducible refine (Equal_any (GH2.out.below (by go_grown)) (GK2.out.below (by go_grown))).mono ?_); rintro e w1 ⟨rfl, hb1⟩; have hB1 : Below w.heap.size w w1 := (Below.trans (by go_grown) (hb1.mono (by go_size))); obtain ⟨pa1, _⟩ := blk hb1 (n := w.heap.size) (by first | omega | go_size); obtain ⟨pb1, _⟩ := blk hb1 (n := w.heap.size + 1) (by first | omega | go_size); have hz1 : w.heap.size + 1 < w1.heap.size := (by have := hb1.size; (try simp at this); omega); clear hb1) | (go_at_call 17; (with_reducible refine (EqualFunc_any (GH3.out.below hB1) (GK3.out.below hB1)).mono ?_); rintro e w2 ⟨rfl, hb2⟩; have hB2 : Below w.heap.size w w2 := (thenBelow hB1 hb2); obtain ⟨pa2, _⟩ := blk hb2 (n := w.heap.size) (by first | omega | go_size); obtain ⟨pb2, _⟩ := blk hb2 (n := w.heap.size + 1) (by first | omega | go_size); have hz2 : w.heap.size + 1 < w2.heap.size := (by have := hb2.size; (try simp at this); omega); clear hb2) | (go_at_call 16; (with_reducible refine (Equal_any (GH4.out.below hB2) (GK4.out.below hB2)).mono ?_); rintro e w3 ⟨rfl, hb3⟩; have hB3 : Below w.heap.size w w3 := (thenBelow hB2 hb3); obtain ⟨pa3, _⟩ := blk hb3 (n := w.heap.size) (by first | omega | go_size); obtain ⟨pb3, _⟩ := blk hb3 (n := w.heap.size + 1) (by first | omega | go_size); have hz3 : w.heap.size + 1 < w3.heap.size := (by have := hb3.size; (try simp at this); omega); clear hb3) | (go_at_call 16; (with_reducible refine (Equal_any (GH5.out.below hB3) (GK5.out.below hB3)).mono ?_); rintro e w4 ⟨rfl, hb4⟩; have hB4 : Below w.heap.size w w4 := (thenBelow hB3 hb4); obtain ⟨pa4, _⟩ := blk hb4 (n := w.heap.size) (by first | omega | go_size); obtain ⟨pb4, _⟩ := blk hb4 (n := w.heap.size + 1) (by first | omega | go_size); have hz4 : w.heap.size + 1 < w4.heap.size := (by have := hb4.size; (try simp at this); omega); clear hb4))
            go_ret
            exact ⟨ret_bool (by rw [E.out, t0, t1, t2, t3, t4]; rfl), hB4⟩
end Go.Proofs.YtbdnihjokndhaabDoor
