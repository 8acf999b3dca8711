/-
  A FAMILY AS IT LIES IN MEMORY: its texts, expressions, guards and rules.
-/
import Derived.Test.YtenahfmmijpelaaDoorSlices
namespace Go.Proofs.YtenahfmmijpelaaDoor
open Go.RowKit Go.Deep

/-- A text, an expression, a guard, a rule, a family: by their fields. -/
def StrEl (_ : Nat) (_ : World) (cs : List Value) (s : ByteArray) : Prop := cs = [.string s] ∧ s.size ≤ maxLen
structure Ln where
  c : Int
  n : Int
  t : Int
  f : Int
  deriving DecidableEq, Inhabited
def LnEl (_ : Nat) (_ : World) (cs : List Value) (l : Ln) : Prop := cs = [.int .i64 l.c, .int .i64 l.n, .int .i64 l.t, .int .i64 l.f] ∧ I64 l.c ∧ I64 l.n ∧ I64 l.t ∧ I64 l.f
structure Th where
  msg : Int
  coef : Int
  bd : Ln
  deriving DecidableEq, Inhabited
def ThEl (_ : Nat) (_ : World) (cs : List Value) (g : Th) : Prop := cs = [.int .i64 g.msg, .int .i64 g.coef, .int .i64 g.bd.c, .int .i64 g.bd.n, .int .i64 g.bd.t, .int .i64 g.bd.f] ∧ I64 g.msg ∧ I64 g.coef ∧ I64 g.bd.c ∧ I64 g.bd.n ∧ I64 g.bd.t ∧ I64 g.bd.f
structure Ru where
  nm : ByteArray
  kind : Int
  frm : Int
  to : Int
  pf : Int
  pt : Int
  resp : List Int
  guards : List Th
  ex : List Int
  fa : List Int
  rd : Int
  wr : Int
  send : List Int
  pos : Int
  left : List Int
  right : List Int
  parent : List Int
  dir : Int
  deriving Inhabited
def RuEl (lo : Nat) (w : World) (cs : List Value) (r : Ru) : Prop :=
  ∃ v6 v7 v8 v9 v12 v14 v15 v16, cs = [.string r.nm, .int .i64 r.kind, .int .i64 r.frm, .int .i64 r.to, .int .i64 r.pf, .int .i64 r.pt, v6, v7, v8, v9, .int .i64 r.rd, .int .i64 r.wr, v12, .int .i64 r.pos, v14, v15, v16, .int .i64 r.dir] ∧ r.nm.size ≤ maxLen ∧ I64 r.kind ∧ I64 r.frm ∧ I64 r.to ∧ I64 r.pf ∧ I64 r.pt ∧ IsInts lo w v6 r.resp ∧ IsSl 6 ThEl lo w v7 r.guards ∧ IsInts lo w v8 r.ex ∧ IsInts lo w v9 r.fa ∧ I64 r.rd ∧ I64 r.wr ∧ IsInts lo w v12 r.send ∧ I64 r.pos ∧ IsInts lo w v14 r.left ∧ IsInts lo w v15 r.right ∧ IsInts lo w v16 r.parent ∧ I64 r.dir
theorem StrEl.stays : Stays StrEl := fun _ _ _ _ _ h _ => h
theorem StrEl.mono : Mono StrEl := fun _ _ _ _ _ h _ => h
theorem LnEl.stays : Stays LnEl := fun _ _ _ _ _ h _ => h
theorem LnEl.mono : Mono LnEl := fun _ _ _ _ _ h _ => h
theorem ThEl.stays : Stays ThEl := fun _ _ _ _ _ h _ => h
theorem ThEl.mono : Mono ThEl := fun _ _ _ _ _ h _ => h
theorem RuEl.stays : Stays RuEl := fun _ _ _ _ _ h hb => by
  obtain ⟨v6, v7, v8, v9, v12, v14, v15, v16, e, h0, h1, h2, h3, h4, h5, h6, h7, h8, h9, h10, h11, h12, h13, h14, h15, h16, h17⟩ := h
  exact ⟨v6, v7, v8, v9, v12, v14, v15, v16, e, h0, h1, h2, h3, h4, h5, h6.below hb, h7.below ThEl.stays hb, h8.below hb, h9.below hb, h10, h11, h12.below hb, h13, h14.below hb, h15.below hb, h16.below hb, h17⟩
theorem RuEl.mono : Mono RuEl := fun _ _ _ _ _ h hl => by
  obtain ⟨v6, v7, v8, v9, v12, v14, v15, v16, e, h0, h1, h2, h3, h4, h5, h6, h7, h8, h9, h10, h11, h12, h13, h14, h15, h16, h17⟩ := h
  exact ⟨v6, v7, v8, v9, v12, v14, v15, v16, e, h0, h1, h2, h3, h4, h5, h6.mono hl, h7.mono ThEl.mono hl, h8.mono hl, h9.mono hl, h10, h11, h12.mono hl, h13, h14.mono hl, h15.mono hl, h16.mono hl, h17⟩
structure Fm where
  nm : ByteArray
  top : Int
  states : List ByteArray
  msgs : List ByteArray
  vals : List ByteArray
  fault : Int
  res : List Ln
  init : List Int
  leader : List Int
  rules : List Ru
/-- The value v is a family that reads as q. -/
def IsFam (lo : Nat) (w : World) (v : Value) (q : Fm) : Prop :=
  ∃ v2 v3 v4 v6 v7 v8 v9, v = .agg #[.string q.nm, .int .i64 q.top, v2, v3, v4, .int .i64 q.fault, v6, v7, v8, v9] ∧ q.nm.size ≤ maxLen ∧ I64 q.top ∧ IsSl 1 StrEl lo w v2 q.states ∧ IsSl 1 StrEl lo w v3 q.msgs ∧ IsSl 1 StrEl lo w v4 q.vals ∧ I64 q.fault ∧ IsSl 4 LnEl lo w v6 q.res ∧ IsInts lo w v7 q.init ∧ IsInts lo w v8 q.leader ∧ IsSl 18 RuEl lo w v9 q.rules
theorem IsFam.below {lo : Nat} {w w' : World} {v : Value} {q : Fm} (h : IsFam lo w v q) (hb : Below w.heap.size w w') : IsFam lo w' v q := by
  obtain ⟨v2, v3, v4, v6, v7, v8, v9, e, h0, h1, h2, h3, h4, h5, h6, h7, h8, h9⟩ := h
  exact ⟨v2, v3, v4, v6, v7, v8, v9, e, h0, h1, h2.below StrEl.stays hb, h3.below StrEl.stays hb, h4.below StrEl.stays hb, h5, h6.below LnEl.stays hb, h7.below hb, h8.below hb, h9.below RuEl.stays hb⟩
theorem IsFam.mono {lo lo' : Nat} {w : World} {v : Value} {q : Fm} (h : IsFam lo w v q) (hl : lo' ≤ lo) : IsFam lo' w v q := by
  obtain ⟨v2, v3, v4, v6, v7, v8, v9, e, h0, h1, h2, h3, h4, h5, h6, h7, h8, h9⟩ := h
  exact ⟨v2, v3, v4, v6, v7, v8, v9, e, h0, h1, h2.mono StrEl.mono hl, h3.mono StrEl.mono hl, h4.mono StrEl.mono hl, h5, h6.mono LnEl.mono hl, h7.mono hl, h8.mono hl, h9.mono RuEl.mono hl⟩
end Go.Proofs.YtenahfmmijpelaaDoor
