/-
  FOUR CELLS THAT STAY, through a region whose order is open: two boxed rows.
-/
import Derived.Test.YtenahfmmijpelaaDoorBase
namespace Go.Proofs.YtenahfmmijpelaaDoor
open Go.RowKit
theorem keepF {W w1 w2 : World} {p1 p2 p3 p4 : Addr} {u1 u2 u3 u4 : Value} (h : w1.cell? p1 = some u1 ∧ w1.cell? p2 = some u2 ∧ w1.cell? p3 = some u3 ∧ w1.cell? p4 = some u4 ∧ Below W.heap.size W w1) (hb : Below w1.heap.size w1 w2) :
    w2.cell? p1 = some u1 ∧ w2.cell? p2 = some u2 ∧ w2.cell? p3 = some u3 ∧ w2.cell? p4 = some u4 ∧ Below W.heap.size W w2 :=
  ⟨(hb.cell (cell_lt h.1)).trans h.1, (hb.cell (cell_lt h.2.1)).trans h.2.1, (hb.cell (cell_lt h.2.2.1)).trans h.2.2.1, (hb.cell (cell_lt h.2.2.2.1)).trans h.2.2.2.1, thenBelow h.2.2.2.2 hb⟩
theorem heldF {a b c d e : Prop} (h : a ∧ b ∧ c ∧ d ∧ e) : e := h.2.2.2.2
/-- A cell that was there stays there. -/
theorem keep1 {W w1 : World} {p : Addr} {u : Value} (h : W.cell? p = some u) (hb : Below W.heap.size W w1) : w1.cell? p = some u := (hb.cell (cell_lt h)).trans h
theorem new_cell (w : World) (cs : Array Value) (t : TypeId) (i : Nat) {n : Nat} (h : n = w.heap.size) : (w.alloc (.cells cs t)).cell? ⟨n, i, none⟩ = cs[i]? := by subst h; simp
/-- Six cells that stay. -/
theorem keepSix {w w1 w2 : World} {p1 p2 p3 p4 p5 p6 : Addr} {u1 u2 u3 u4 u5 u6 : Value} (h : w1.cell? p1 = some u1 ∧ w1.cell? p2 = some u2 ∧ w1.cell? p3 = some u3 ∧ w1.cell? p4 = some u4 ∧ w1.cell? p5 = some u5 ∧ w1.cell? p6 = some u6 ∧ Below w.heap.size w w1) (hb : Below w1.heap.size w1 w2) :
    w2.cell? p1 = some u1 ∧ w2.cell? p2 = some u2 ∧ w2.cell? p3 = some u3 ∧ w2.cell? p4 = some u4 ∧ w2.cell? p5 = some u5 ∧ w2.cell? p6 = some u6 ∧ Below w.heap.size w w2 :=
  ⟨keep1 h.1 hb, keep1 h.2.1 hb, keep1 h.2.2.1 hb, keep1 h.2.2.2.1 hb, keep1 h.2.2.2.2.1 hb, keep1 h.2.2.2.2.2.1 hb, thenBelow h.2.2.2.2.2.2 hb⟩
theorem heldSix {a b c d e f g : Prop} (h : a ∧ b ∧ c ∧ d ∧ e ∧ f ∧ g) : g := h.2.2.2.2.2.2
end Go.Proofs.YtenahfmmijpelaaDoor
