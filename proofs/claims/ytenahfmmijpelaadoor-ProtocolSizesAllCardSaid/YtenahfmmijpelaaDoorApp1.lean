/-
  append OF ONE ELEMENT that the call has just laid in a block of its own.
-/
import Derived.Test.YtenahfmmijpelaaDoorMake
import Derived.Deep.AppendLies
namespace Go.Proofs.YtenahfmmijpelaaDoor
open Go.RowKit Go.Deep
/-- What is known of an element type and its slices. -/
structure ElT (P : Program) (T E : TypeId) (z : Value) (size bytes : Nat) : Prop where
  ht : P.underlying T = some (.slice E)
  info : (P.info? E).map (fun i => (i.zero, i.size, i.bytes)) = some (some z, size, bytes)
  hz : z.cells.size = size
  h0 : 0 < size
theorem append_one {P : Program} {T E : TypeId} {z : Value} {size bytes : Nat} (K : ElT P T E z size bytes) {W : World} {ops : Array Oper} {rest : List Oper} {o : Oper} {a : Act} {Q : Exit → Act → World → Prop}
    (hgd : o.guard = none) (s x : Operand) (ho : o.op = .call { callee := .builtin .append, args := #[s, x], argTypes := #[T, T] })
    (base : Nat) (v : Value) (n : Nat) (xs news : List Value) (Hn : Nat) (hs : a.eval s = v) (hx : a.eval x = .slice (some ⟨Hn, 0, none⟩) 1 1) (hH : W.heap.size = Hn) (hown : W.ownsRow base E size v n xs)
    (hl : news.length = size) (h1 : ∀ u ∈ news, u.oneCell' = true) (hn : (n + 1) * bytes ≤ 140737488355328) (h63 : n + 1 ≤ maxLen) (hbase : base ≤ Hn) {B : Array Value} (hB : B = news.toArray)
    (h : ∀ g cap w', w'.ownsRow base E size (.slice (some ⟨g, 0, none⟩) (n + 1) cap) (n + 1) (xs ++ news) → W.grownBy w' v.ownBlock → (v.ownBlock = some g ∨ Hn < g) → base ≤ g → g < w'.heap.size → Hn < w'.heap.size → wpList P ops Q rest (a.put o.dst (.slice (some ⟨g, 0, none⟩) (n + 1) cap)) w') :
    wpList P ops Q (o :: rest) a (W.alloc (.cells B E)) := by
  subst hB hH
  obtain ⟨i, hi, hzz⟩ := Option.map_eq_some_iff.1 K.info
  simp only [Prod.mk.injEq] at hzz
  obtain ⟨hz, hsz, hby⟩ := hzz
  refine wpList_append_lies (W.alloc (.cells news.toArray E)) hgd s x T ho base E i z size bytes K.ht hi hz hsz hby K.hz K.h0 v n xs hs (hown.alloc _) ⟨W.heap.size, 0, none⟩ 1 1 news hx (by omega)
    (World.news_of_block (heap_alloc_new _ _)) h1 (by decide) h63 hn (by simp; omega) (W.heap.size + 1) (by simp) fun g cap w' g1 g2 g3 g4 => ?_
  have hgr : W.grownBy w' v.ownBlock := by
    have ha := World.grownBy_alloc W (.cells news.toArray E) v.ownBlock
    exact ⟨g2.os.trans ha.os, g2.tape.trans ha.tape, g2.output.trans ha.output, Nat.le_trans ha.size g2.size, fun k hk hne => (g2.block k (by simp; omega) hne).trans (ha.block k hk hne)⟩
  refine h g cap w' g1 hgr ?_ ?_ g4 (by have := g2.size; simp at this; omega)
  · rcases g3 with g3 | g3
    · exact .inl g3
    · exact .inr (by omega)
  · rcases g3 with g3 | g3
    · exact (hown.lt g g3).1
    · omega
/-- The elements of a row that the call owns, all but the last. -/
theorem row_cut {w : World} {base : Nat} {e : TypeId} {n : Nat} {xs : List Value} {a : Option Addr} {c : Nat} (h : w.ownsRow base e 1 (.slice a (n + 1) c) (n + 1) xs) : w.ownsRow base e 1 (.slice a n c) n (xs.take n) := by
  obtain ⟨hl, h2⟩ := h
  refine ⟨by rw [List.length_take]; omega, ?_⟩
  rcases h2 with ⟨_, h0⟩ | ⟨g, cap, cur, hv, hb, hg, hn, hm, hs, ht⟩
  · omega
  · simp only [Value.slice.injEq] at hv
    obtain ⟨rfl, _, rfl⟩ := hv
    exact .inr ⟨g, c, cur, rfl, hb, hg, by omega, hm, hs, by rw [← ht, List.take_take, Nat.mul_one, Nat.mul_one, Nat.min_eq_left (by omega)]⟩
theorem rows_shape {w : World} {base : Nat} {e : TypeId} {size : Nat} {v : Value} {n : Nat} {xs : List Value} (h : w.ownsRow base e size v n xs) : ∃ a c, v = .slice a n c := by
  rcases h.2 with ⟨rfl, rfl⟩ | ⟨g, cap, _, rfl, _⟩
  · exact ⟨_, _, rfl⟩
  · exact ⟨_, _, rfl⟩
/-- The last of the elements of a row of one-cell elements that the call owns. -/
theorem row_last {w : World} {base : Nat} {e : TypeId} {n : Nat} {xs : List Value} {a : Option Addr} {c : Nat} (h : w.ownsRow base e 1 (.slice a (n + 1) c) (n + 1) (xs)) : ∃ g, a = some ⟨g, 0, none⟩ ∧ base ≤ g ∧ g < w.heap.size ∧ n < c ∧ c ≤ maxLen ∧ ∀ j, j < n + 1 → w.cell? ⟨g, j, none⟩ = xs[j]? := by
  obtain ⟨hl, h2⟩ := h
  rcases h2 with ⟨_, h0⟩ | ⟨g, cap, cur, hv, hb, hg, hn, hm, hs, ht⟩
  · omega
  · simp only [Value.slice.injEq] at hv
    obtain ⟨rfl, _, rfl⟩ := hv
    refine ⟨g, rfl, hb, (Array.getElem?_eq_some_iff.1 hg).1, by omega, hm, fun j hj => ?_⟩
    rw [← ht, List.getElem?_take_of_lt (by omega)]
    simp only [World.cell?, hg]
    simp
end Go.Proofs.YtenahfmmijpelaaDoor
