/-
  NINE CELLS THAT STAY, through a region whose order is open.
-/
import Derived.Test.YtbdnihjokndhaaaDoorHold
namespace Go.Proofs.YtbdnihjokndhaaaDoor
open Go.RowKit
/-- Nine cells that stay. -/
theorem keepNine {w w1 w2 : World} {p1 p2 p3 p4 p5 p6 p7 p8 p9 : Addr} {u1 u2 u3 u4 u5 u6 u7 u8 u9 : Value} (h : w1.cell? p1 = some u1 ∧ w1.cell? p2 = some u2 ∧ w1.cell? p3 = some u3 ∧ w1.cell? p4 = some u4 ∧ w1.cell? p5 = some u5 ∧ w1.cell? p6 = some u6 ∧ w1.cell? p7 = some u7 ∧ w1.cell? p8 = some u8 ∧ w1.cell? p9 = some u9 ∧ Below w.heap.size w w1) (hb : Below w1.heap.size w1 w2) :
    w2.cell? p1 = some u1 ∧ w2.cell? p2 = some u2 ∧ w2.cell? p3 = some u3 ∧ w2.cell? p4 = some u4 ∧ w2.cell? p5 = some u5 ∧ w2.cell? p6 = some u6 ∧ w2.cell? p7 = some u7 ∧ w2.cell? p8 = some u8 ∧ w2.cell? p9 = some u9 ∧ Below w.heap.size w w2 :=
  ⟨keep1 h.1 hb, keep1 h.2.1 hb, keep1 h.2.2.1 hb, keep1 h.2.2.2.1 hb, keep1 h.2.2.2.2.1 hb, keep1 h.2.2.2.2.2.1 hb, keep1 h.2.2.2.2.2.2.1 hb, keep1 h.2.2.2.2.2.2.2.1 hb, keep1 h.2.2.2.2.2.2.2.2.1 hb, thenBelow h.2.2.2.2.2.2.2.2.2 hb⟩
theorem heldNine {a b c d e f g i j k : Prop} (h : a ∧ b ∧ c ∧ d ∧ e ∧ f ∧ g ∧ i ∧ j ∧ k) : k := h.2.2.2.2.2.2.2.2.2
end Go.Proofs.YtbdnihjokndhaaaDoor
