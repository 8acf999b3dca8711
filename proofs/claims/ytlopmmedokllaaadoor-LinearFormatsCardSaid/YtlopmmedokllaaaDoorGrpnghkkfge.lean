import Derived.WalkKit
import Derived.ProofKit
import Derived.Handy
import Derived.OpenShut
import Derived.Deep.Slices
import Derived.Lib.SmallJoins
import Derived.Test.YtlopmmedokllaaaDoorProg
import Derived.WalkSpells
import Derived.WalkLawsBesides
import Derived.Deep.QuietTactic
import Derived.BigQuiet
import Derived.BigRegion
import Derived.Deep.OwnRows
import Derived.Laws.CopyOwn
import Derived.Shelf.Strings.Builder1
import Derived.StillTailTactics
set_option linter.all false
namespace Go.Proofs.YtlopmmedokllaaaDoor
open Go.ChangeShapes Go.WideShapes Go.ChangeAt Go.RowKit Go.Deep Go.Joins
/-- It fits an int. -/
def I64 (n : Int) : Prop := -9223372036854775808 ≤ n ∧ n ≤ 9223372036854775807
theorem I64.of_wf {n : Int} (h : (Lit.int .i64 n).wf = true) : I64 n := by
  have := h
  simp [Lit.wf, IntKind.min, IntKind.signed, IntKind.bits] at this
  exact this

/-- The value v is a slice that reads as the integers xs in the world w; its cells lie in a block from lo on. -/
def IsInts (lo : Nat) (w : World) (v : Value) (xs : List Int) : Prop :=
  ∃ (a : Option Addr) (cap : Nat), v = .slice a xs.length cap ∧ xs.length ≤ cap ∧ cap ≤ maxLen ∧ ((∀ x ∈ xs, I64 x) ∧ (a = none → cap = 0)) ∧
    (xs = [] ∨ ∃ b off, a = some ⟨b, off, none⟩ ∧ lo ≤ b ∧ b < w.heap.size ∧ ∀ i, i < xs.length → w.cell? ⟨b, off + i, none⟩ = some (.int .i64 (xs.getD i 0)))

theorem IsInts.below {lo : Nat} {w w' : World} {v : Value} {xs : List Int} (h : IsInts lo w v xs) (hb : Below w.heap.size w w') : IsInts lo w' v xs := by
  obtain ⟨a, cap, hv, hl, hm, hi, hc⟩ := h
  refine ⟨a, cap, hv, hl, hm, hi, ?_⟩
  rcases hc with hc | ⟨b, off, ha, hlo, hbk, hcell⟩
  · exact .inl hc
  · exact .inr ⟨b, off, ha, hlo, Nat.lt_of_lt_of_le hbk hb.size, fun i hi => (hb.cell (p := ⟨b, off + i, none⟩) hbk).trans (hcell i hi)⟩

theorem IsInts.mono {lo lo' : Nat} {w : World} {v : Value} {xs : List Int} (h : IsInts lo w v xs) (hl : lo' ≤ lo) : IsInts lo' w v xs := by
  obtain ⟨a, cap, hv, h1, hm, hi, hc⟩ := h
  refine ⟨a, cap, hv, h1, hm, hi, ?_⟩
  rcases hc with hc | ⟨b, off, ha, hlo, r⟩
  · exact .inl hc
  · exact .inr ⟨b, off, ha, Nat.le_trans hl hlo, r⟩

theorem IsInts.shape {lo : Nat} {w : World} {v : Value} {xs : List Int} (h : IsInts lo w v xs) : ∃ a cap, v = .slice a xs.length cap := by
  obtain ⟨a, cap, hv, _⟩ := h
  exact ⟨a, cap, hv⟩

theorem hid0 {p : Prop} (h : p) : Hid p := h
theorem ret_int {k : IntKind} {a b : Int} (h : a = b) : Ending.returned (.int k a) = .returned (.int k b) := by rw [h]
theorem ret_bool {a b : Bool} (h : a = b) : Ending.returned (.bool a) = .returned (.bool b) := by rw [h]
theorem thenBelow {w wr w1 : World} (h : Below w.heap.size w wr) (k : Below wr.heap.size wr w1) : Below w.heap.size w w1 := h.trans (k.mono h.size)
theorem allocBelow (w : World) (o : Obj) : Below w.heap.size w (w.alloc o) := (Below.refl _ _).alloc (Nat.le_refl _) _

theorem bcell {W w1 : World} (hb : Below W.heap.size W w1) : (∀ b o, b < W.heap.size → w1.cell? ⟨b, o, none⟩ = W.cell? ⟨b, o, none⟩) ∧ (∀ b o, b < W.heap.size → w1.frozen? ⟨b, o, none⟩ = W.frozen? ⟨b, o, none⟩) :=
  ⟨fun b o h => hb.cell (p := ⟨b, o, none⟩) h, fun b o h => hb.frozen (p := ⟨b, o, none⟩) h⟩
/-- A block that was there: its cells and marks behind a call. -/
theorem blk {W w1 : World} (hb : Below W.heap.size W w1) {n : Nat} (hn : n < W.heap.size) : (∀ o, w1.cell? ⟨n, o, none⟩ = W.cell? ⟨n, o, none⟩) ∧ (∀ o, w1.frozen? ⟨n, o, none⟩ = W.frozen? ⟨n, o, none⟩) :=
  ⟨fun o => hb.cell (p := ⟨n, o, none⟩) hn, fun o => hb.frozen (p := ⟨n, o, none⟩) hn⟩
theorem cell_lt {w : World} {p : Addr} {v : Value} (h : w.cell? p = some v) : p.block < w.heap.size := by
  unfold World.cell? at h
  cases hb : w.heap[p.block]? with
  | none => simp [hb] at h
  | some o => exact (Array.getElem?_eq_some_iff.1 hb).1
/-- Two cells that were there, and all that lay below, behind one more call. -/
theorem keep3 {w w1 w2 : World} {p q : Addr} {u v : Value} (h0 : w1.cell? p = some u) (h1 : w1.cell? q = some v) (h2 : Below w.heap.size w w1) (hb : Below w1.heap.size w1 w2) : w2.cell? p = some u ∧ w2.cell? q = some v ∧ Below w.heap.size w w2 :=
  ⟨(hb.cell (cell_lt h0)).trans h0, (hb.cell (cell_lt h1)).trans h1, thenBelow h2 hb⟩
theorem keepS {w w1 w2 : World} {p q : Addr} {u v : Value} (h : w1.cell? p = some u ∧ w1.cell? q = some v ∧ Below w.heap.size w w1) (hb : Below w1.heap.size w1 w2) : w2.cell? p = some u ∧ w2.cell? q = some v ∧ Below w.heap.size w w2 := keep3 h.1 h.2.1 h.2.2 hb
theorem drewBelow (w : World) : Below w.heap.size w w.drew := (Below.refl _ _).drew
theorem heap_new (w : World) (o : Obj) {n : Nat} (h : n = w.heap.size) : (w.alloc o).heap[n]? = some o := by subst h; exact heap_alloc_new w o
theorem heap_old (w : World) (o : Obj) {n : Nat} (h : n < w.heap.size) : (w.alloc o).heap[n]? = w.heap[n]? := Below.heap_alloc w o n h
/-- All blocks but g are as they were. -/
theorem but_cell {W w1 : World} {g : Nat} (h : ∀ k, k ≠ g → w1.heap[k]? = W.heap[k]?) : (∀ b o, b ≠ g → w1.cell? ⟨b, o, none⟩ = W.cell? ⟨b, o, none⟩) ∧ (∀ b o, b ≠ g → w1.frozen? ⟨b, o, none⟩ = W.frozen? ⟨b, o, none⟩) :=
  ⟨fun b o hb => World.cell?_of_block (w := W) (a := ⟨b, o, none⟩) (h b hb), fun b o hb => World.frozen?_of_block (w := W) (a := ⟨b, o, none⟩) (h b hb)⟩

theorem IsInts.src {lo : Nat} {w : World} {a : Option Addr} {n cap : Nat} {xs : List Int} (h : IsInts lo w (.slice a n cap) xs) (h0 : 0 < xs.length) :
    ∃ ad, a = some ad ∧ ∀ w', Below w.heap.size w w' → ∀ j v, (xs.map (Value.int .i64))[j]? = some v → w'.cell? (ad.add j) = some v := by
  obtain ⟨a', cap', hv, hl, hm, hi, hc⟩ := h
  rcases hc with rfl | ⟨b, off, rfl, hlo, hbk, hcell⟩
  · simp at h0
  · simp only [Value.slice.injEq] at hv
    refine ⟨⟨b, off, none⟩, hv.1, fun w' hb j v hj => ?_⟩
    have hjl : j < xs.length := by have := (List.getElem?_eq_some_iff.1 hj).1; simpa using this
    have e2 : (⟨b, off, none⟩ : Addr).add j = ⟨b, off + j, none⟩ := by simp only [Addr.add]; split <;> simp_all
    rw [e2, hb.cell (p := ⟨b, off + j, none⟩) hbk, hcell j hjl, ← hj]
    simp [hjl]

/-- A row of integers in a block of its own reads as these. -/
theorem ints_of_block {w : World} {g lo n cap : Nat} {t : TypeId} {cur : Array Value} {fr : Nat × Nat} {xs : List Int} (hg : w.heap[g]? = some (.cells cur t fr)) (hlo : lo ≤ g) (hn : xs.length = n) (hl : n ≤ cap) (hm : cap ≤ maxLen) (hi : ∀ x ∈ xs, I64 x)
    (hc : ∀ i, i < n → cur[i]? = some (.int .i64 (xs.getD i 0))) : IsInts lo w (.slice (some ⟨g, 0, none⟩) n cap) xs := by
  subst hn
  refine ⟨_, _, rfl, hl, hm, ⟨hi, fun e => by cases e⟩, ?_⟩
  by_cases h0 : xs = []
  · exact .inl h0
  · refine .inr ⟨g, 0, rfl, hlo, (Array.getElem?_eq_some_iff.1 hg).1, fun i h => ?_⟩
    have := hc i h
    simp only [World.cell?, hg, Nat.zero_add]
    simpa using this

/-- A row of integers that the call has made itself: a block of its own from lo on, not frozen. -/
def OwnInts (lo : Nat) (w : World) (g : Nat) (xs : List Int) : Prop :=
  lo ≤ g ∧ xs.length ≤ maxLen ∧ (∀ x ∈ xs, I64 x) ∧ ∃ cur t, w.heap[g]? = some (.cells cur t (0, 0)) ∧ ∀ i, i < xs.length → cur[i]? = some (.int .i64 (xs.getD i 0))
theorem OwnInts.lt {lo : Nat} {w : World} {g : Nat} {xs : List Int} (h : OwnInts lo w g xs) : g < w.heap.size := by
  obtain ⟨_, _, _, cur, t, hg, _⟩ := h
  exact (Array.getElem?_eq_some_iff.1 hg).1
theorem OwnInts.ints {lo : Nat} {w : World} {g : Nat} {xs : List Int} (h : OwnInts lo w g xs) : IsInts lo w (.slice (some ⟨g, 0, none⟩) xs.length xs.length) xs := by
  obtain ⟨h1, h2, h3, cur, t, hg, hc⟩ := h
  exact ints_of_block hg h1 rfl (Nat.le_refl _) h2 h3 hc
theorem OwnInts.cell {lo : Nat} {w : World} {g : Nat} {xs : List Int} (h : OwnInts lo w g xs) (i : Nat) (hi : i < xs.length) : w.cell? ⟨g, i, none⟩ = some (.int .i64 (xs.getD i 0)) := by
  obtain ⟨h1, h2, h3, cur, t, hg, hc⟩ := h
  have := hc i hi
  simp only [World.cell?, hg]
  simpa using this
theorem OwnInts.frozen {lo : Nat} {w : World} {g : Nat} {xs : List Int} (h : OwnInts lo w g xs) (i : Nat) : w.frozen? ⟨g, i, none⟩ = false := by
  obtain ⟨h1, h2, h3, cur, t, hg, hc⟩ := h
  simp [World.frozen?, hg]
theorem OwnInts.but {lo : Nat} {w w' : World} {g : Nat} {xs : List Int} (h : OwnInts lo w g xs) (hb : w'.heap[g]? = w.heap[g]?) : OwnInts lo w' g xs := by
  obtain ⟨h1, h2, h3, cur, t, hg, hc⟩ := h
  exact ⟨h1, h2, h3, cur, t, by rw [hb]; exact hg, hc⟩
theorem OwnInts.below {lo : Nat} {w w' : World} {g : Nat} {xs : List Int} (h : OwnInts lo w g xs) (hb : Below w.heap.size w w') : OwnInts lo w' g xs := h.but (hb.block g h.lt)
theorem OwnInts.mono {lo lo' : Nat} {w : World} {g : Nat} {xs : List Int} (h : OwnInts lo w g xs) (hl : lo' ≤ lo) : OwnInts lo' w g xs := ⟨Nat.le_trans hl h.1, h.2⟩
theorem OwnInts.set {lo : Nat} {w : World} {g : Nat} {xs : List Int} (h : OwnInts lo w g xs) (i : Nat) (y : Int) (hy : I64 y) : OwnInts lo (w.setCell ⟨g, i, none⟩ (.int .i64 y)) g (xs.set i y) := by
  obtain ⟨h1, h2, h3, cur, t, hg, hc⟩ := h
  refine ⟨h1, by simpa using h2, fun x hx => ?_, cur.setIfInBounds i (.int .i64 y), t, heap_setCell_same w g i cur t _ hg, fun j hj => ?_⟩
  · rcases List.mem_or_eq_of_mem_set hx with hx | rfl
    · exact h3 x hx
    · exact hy
  · rw [List.length_set] at hj
    have hcj := hc j hj
    have hjc : j < cur.size := (Array.getElem?_eq_some_iff.1 hcj).1
    by_cases e : i = j
    · subst e
      simp [hjc, List.getD, hj]
    · rw [Array.getElem?_setIfInBounds_ne e, hcj]
      simp [List.getD, List.getElem?_set_ne e]
theorem OwnInts.setOther {lo : Nat} {w : World} {g : Nat} {xs : List Int} (h : OwnInts lo w g xs) (a : Addr) (u : Value) (hne : a.block ≠ g) : OwnInts lo (w.setCell a u) g xs :=
  h.but (Below.heap_setCell _ _ _ _ (fun e => hne e.symm))

section
variable {H : Type} {enc : TypeId × Value → H} {P : Program} {w : World} {base : Nat} {sp : Nat → Bool} {held : Bool}

/-- An argument that is a slice of integers, by its cell. -/
theorem ints_of_trod {t e : TypeId} {n : Nat} {v : Value} {x : DataW H × List MemPlace} (ht : P.underlying t = some (.slice e)) (he : P.underlying e = some (.int .i64)) (hc : P.cellsOf e = 1)
    (h : DataW.trod enc P w base sp held n t [v] = some x) : ∃ xs, IsInts 0 w v xs := by
  rcases open_ints ht he hc h with ⟨hcs, _⟩ | ⟨a, len, cap, zs, hcs, _, hl, hm, hz, _, hcell, hwz⟩
  · simp at hcs
    exact ⟨[], none, 0, hcs, by simp, by simp [maxLen], by simp, .inl rfl⟩
  · simp at hcs
    have hlz : len ≤ zs.length := by rw [hz]; split <;> omega
    have hlen : (zs.take len).length = len := by simp; omega
    refine ⟨zs.take len, some a, cap, by rw [hlen]; exact hcs, by rw [hlen]; exact hl, hm, ⟨fun x hx => I64.of_wf (hwz x (List.mem_of_mem_take hx)), fun e => by cases e⟩, ?_⟩
    by_cases h0 : len = 0
    · exact .inl (by subst h0; rfl)
    · refine .inr ?_
      obtain ⟨b, off, spot⟩ := a
      have hc0 := hcell 0 (by omega)
      have hspot : spot = none := by simpa [Addr.add] using World.cell?_spot hc0
      subst hspot
      refine ⟨b, off, rfl, Nat.zero_le _, cell_lt hc0, fun i hi => ?_⟩
      rw [hlen] at hi
      have hci := hcell i (by omega)
      have e1 : (zs.take len).getD i 0 = zs.getD i 0 := by simp [List.getD, hi]
      rw [e1]
      have e2 : (⟨b, off, none⟩ : Addr).add i = ⟨b, off + i, none⟩ := by simp only [Addr.add]; split <;> simp_all
      rw [e2] at hci
      exact hci
end
end Go.Proofs.YtlopmmedokllaaaDoor
namespace Go.Proofs.YtlopmmedokllaaaDoor
open Go.RowKit
/-- A small number, a coordinate: as tests. -/
def smB (n : Int) : Bool := decide (-68719476736 ≤ n) && decide (n ≤ 68719476736)
def coB (n : Int) : Bool := decide (0 ≤ n) && decide (n ≤ 1048576)
theorem smB_true {n : Int} : smB n = true ↔ -68719476736 ≤ n ∧ n ≤ 68719476736 := by simp [smB]
theorem coB_true {n : Int} : coB n = true ↔ 0 ≤ n ∧ n ≤ 1048576 := by simp [coB]

theorem take_all {p : Int → Bool} {xs : List Int} {k : Nat} (h : k < xs.length) (hk : (xs.take k).all p = true) (hp : p xs[k] = true) : (xs.take (k + 1)).all p = true := by
  rw [List.take_succ_eq_append_getElem h, List.all_append, hk]; simp [hp]
theorem all_no {p : Int → Bool} {xs : List Int} {k : Nat} (h : k < xs.length) (hp : p xs[k] = false) : xs.all p = false := by
  rw [List.all_eq_false]; exact ⟨xs[k], List.getElem_mem h, by simp [hp]⟩
theorem all_take {p : Int → Bool} {xs : List Int} {k : Nat} (h : k = xs.length) (hk : (xs.take k).all p = true) : xs.all p = true := by
  rw [← List.take_of_length_le (by omega : xs.length ≤ k)]; exact hk

theorem long_any (a : Option Addr) (n cap : Nat) (c : Int) (w : World) :
    Calls Tryd.prog 4 #[.agg #[.slice a n cap, .int .i64 c]] w fun e w' => e = .returned (.bool (decide (200 < (n : Int)))) ∧ Below w.heap.size w w' := by
  go_enter Tryd.func4, Tryd.ntmps4
  go_wp2
  go_ret
  exact ⟨rfl, allocBelow _ _⟩

theorem smallNumber_any (n : Int) (w : World) :
    Calls Tryd.prog 27 #[.int .i64 n] w fun e w' => e = .returned (.bool (smB n)) ∧ w = w' := by
  have e : Hid (smB n = (decide (-68719476736 ≤ n) && decide (n ≤ 68719476736))) := (rfl : smB n = _)
  by_cases h1 : -68719476736 ≤ n
  · by_cases h2 : n ≤ 68719476736
    · go_enter Tryd.func27, Tryd.ntmps27
      go_wp2
      go_ret
      exact ⟨ret_bool (by rw [e.out]; simp; omega), rfl⟩
    · go_enter Tryd.func27, Tryd.ntmps27
      go_wp2
      go_ret
      exact ⟨ret_bool (by rw [e.out]; simp; omega), rfl⟩
  · go_enter Tryd.func27, Tryd.ntmps27
    go_wp2
    go_ret
    exact ⟨ret_bool (by rw [e.out]; simp; omega), rfl⟩


set_option maxHeartbeats 400000 in
theorem small_full (b off n cap : Nat) (c : Int) (w : World) (xs : List Int) (hx : xs.length = n) (hn : n ≤ 9223372036854775807) (hb : b < w.heap.size)
    (hc : ∀ i, i < n → w.cell? ⟨b, off + i, none⟩ = some (.int .i64 (xs.getD i 0))) :
    Calls Tryd.prog 11 #[.agg #[.slice (some ⟨b, off, none⟩) n cap, .int .i64 c]] w fun e w' => e = .returned (.bool (xs.all smB && smB c)) ∧ Below w.heap.size w w' := by
  go_enter Tryd.func11, Tryd.ntmps11
  go_wp2_with fail
  go_loop [8] (fun v => ∃ k : Nat, k ≤ n ∧ v = .int .i64 k ∧ (xs.take k).all smB = true) (fun v => n - (intOf v).toNat)
  case atStart => exact ⟨0, Nat.zero_le _, rfl, rfl⟩
  case round =>
    obtain ⟨k, hk, rfl, hall⟩ := hrel
    have HA : Hid ((xs.take k).all smB = true) := hall
    clear hall
    by_cases h1 : k < n
    · have g1 : (w.alloc (.cells #[.slice (some ⟨b, off, none⟩) n cap, .int .i64 c] 24)).cell? ⟨b, off + k, none⟩ = some (.int .i64 (xs.getD k 0)) := (World.cell?_alloc_past _ _ _ (by simpa using hb)).trans (hc k h1)
      go_wp2_with (go_at_call 27; refine (smallNumber_any _ _).mono ?_; rintro e w' ⟨rfl, rfl⟩)
      · have hp : (!smB xs[k]) = true := by assumption
        go_ret
        exact ⟨ret_bool (by rw [all_no (k := k) (by omega) (by simpa using hp)]; rfl), allocBelow _ _⟩
      · have hp : (!smB xs[k]) = false := by assumption
        go_round
        case rel => exact ⟨k + 1, by omega, by go_num, take_all (by omega) HA.out (by simpa using hp)⟩
        case measure => simp [intOf]; omega
    · go_wp2_with (go_at_call 27; refine (smallNumber_any _ _).mono ?_; rintro e w' ⟨rfl, rfl⟩)
      go_ret
      exact ⟨ret_bool (by rw [all_take (by omega) HA.out]; rfl), allocBelow _ _⟩

theorem small_empty (a : Option Addr) (cap : Nat) (c : Int) (w : World) :
    Calls Tryd.prog 11 #[.agg #[.slice a 0 cap, .int .i64 c]] w fun e w' => e = .returned (.bool (([] : List Int).all smB && smB c)) ∧ Below w.heap.size w w' := by
  go_enter Tryd.func11, Tryd.ntmps11
  go_wp2_with fail
  refine wp_loop_rounds 1 ?_
  rw [rounds_succ]
  go_wp2_with (go_at_call 27; refine (smallNumber_any _ _).mono ?_; rintro e w' ⟨rfl, rfl⟩)
  go_ret
  exact ⟨ret_bool rfl, allocBelow _ _⟩

/-- Every number of a row is small. -/
def smR (r : List Int × Int) : Bool := r.1.all smB && smB r.2
theorem smR_true {xs : List Int} {c : Int} : smR (xs, c) = true ↔ xs.all smB = true ∧ smB c = true := by simp [smR]

theorem small_any {lo : Nat} {w : World} {v : Value} {xs : List Int} (c : Int) (h : IsInts lo w v xs) :
    Calls Tryd.prog 11 #[.agg #[v, .int .i64 c]] w fun e w' => e = .returned (.bool (smR (xs, c))) ∧ Below w.heap.size w w' := by
  obtain ⟨a, cap, rfl, hl, hm, hi, hc⟩ := h
  unfold maxLen at hm
  rcases hc with rfl | ⟨b, off, rfl, _, hb, hc⟩
  · exact small_empty _ _ _ _
  · exact small_full _ _ _ _ _ _ _ rfl (by omega) hb hc

theorem isCoordinate_any (n : Int) (w : World) :
    Calls Tryd.prog 33 #[.int .i64 n] w fun e w' => e = .returned (.bool (coB n)) ∧ w = w' := by
  have e : Hid (coB n = (decide (0 ≤ n) && decide (n ≤ 1048576))) := (rfl : coB n = _)
  by_cases h1 : 0 ≤ n
  · by_cases h2 : n ≤ 1048576
    · go_enter Tryd.func33, Tryd.ntmps33
      go_wp2
      go_ret
      exact ⟨ret_bool (by rw [e.out]; simp; omega), rfl⟩
    · go_enter Tryd.func33, Tryd.ntmps33
      go_wp2
      go_ret
      exact ⟨ret_bool (by rw [e.out]; simp; omega), rfl⟩
  · go_enter Tryd.func33, Tryd.ntmps33
    go_wp2
    go_ret
    exact ⟨ret_bool (by rw [e.out]; simp; omega), rfl⟩

set_option maxHeartbeats 400000 in
theorem isPoint_full (b off n cap : Nat) (w : World) (xs : List Int) (hx : xs.length = n) (hn : n ≤ 9223372036854775807)
    (hc : ∀ i, i < n → w.cell? ⟨b, off + i, none⟩ = some (.int .i64 (xs.getD i 0))) :
    Calls Tryd.prog 24 #[.slice (some ⟨b, off, none⟩) n cap] w fun e w' => e = .returned (.bool (xs.all coB)) ∧ w = w' := by
  go_enter Tryd.func24, Tryd.ntmps24
  go_wp2_with fail
  go_loop [7] (fun v => ∃ k : Nat, k ≤ n ∧ v = .int .i64 k ∧ (xs.take k).all coB = true) (fun v => n - (intOf v).toNat)
  case atStart => exact ⟨0, Nat.zero_le _, rfl, rfl⟩
  case round =>
    obtain ⟨k, hk, rfl, hall⟩ := hrel
    have HA : Hid ((xs.take k).all coB = true) := hall
    clear hall
    by_cases h1 : k < n
    · have g1 : w.cell? ⟨b, off + k, none⟩ = some (.int .i64 (xs.getD k 0)) := hc k h1
      go_wp2_with (go_at_call 33; refine (isCoordinate_any _ _).mono ?_; rintro e w' ⟨rfl, rfl⟩)
      · have hp : (!coB xs[k]) = true := by assumption
        go_ret
        exact ⟨ret_bool (by rw [all_no (k := k) (by omega) (by simpa using hp)]), rfl⟩
      · have hp : (!coB xs[k]) = false := by assumption
        go_round
        case rel => exact ⟨k + 1, by omega, by go_num, take_all (by omega) HA.out (by simpa using hp)⟩
        case measure => simp [intOf]; omega
    · go_wp2_with (go_at_call 33; refine (isCoordinate_any _ _).mono ?_; rintro e w' ⟨rfl, rfl⟩)
      go_ret
      exact ⟨ret_bool (by rw [all_take (by omega) HA.out]), rfl⟩

theorem isPoint_empty (a : Option Addr) (cap : Nat) (w : World) :
    Calls Tryd.prog 24 #[.slice a 0 cap] w fun e w' => e = .returned (.bool (([] : List Int).all coB)) ∧ w = w' := by
  go_enter Tryd.func24, Tryd.ntmps24
  go_wp2_with fail
  refine wp_loop_rounds 1 ?_
  rw [rounds_succ]
  go_wp2_with fail
  go_ret
  exact ⟨ret_bool rfl, rfl⟩

theorem isPoint_any {lo : Nat} {w : World} {v : Value} {xs : List Int} (h : IsInts lo w v xs) :
    Calls Tryd.prog 24 #[v] w fun e w' => e = .returned (.bool (xs.all coB)) ∧ w = w' := by
  obtain ⟨a, cap, rfl, hl, hm, hi, hc⟩ := h
  unfold maxLen at hm
  rcases hc with rfl | ⟨b, off, rfl, _, hb, hc⟩
  · exact isPoint_empty _ _ _
  · exact isPoint_full _ _ _ _ _ _ rfl (by omega) hc

/-- The value of a row at a point. -/
def dot : List Int → List Int → Int
  | x :: xs, y :: ys => x * y + dot xs ys
  | _, _ => 0
theorem dot_snoc : ∀ (xs ys : List Int) (k : Nat) (h : k < xs.length) (h' : k < ys.length), dot (xs.take (k + 1)) (ys.take (k + 1)) = dot (xs.take k) (ys.take k) + xs[k] * ys[k]
  | x :: xs, y :: ys, 0, _, _ => by simp [dot]
  | x :: xs, y :: ys, k + 1, h, h' => by
    have := dot_snoc xs ys k (by simpa using h) (by simpa using h')
    simp only [List.take_succ_cons, dot, List.getElem_cons_succ]
    omega
theorem mul_le {x y : Int} (hx : smB x = true) (hy : coB y = true) : -72057594037927936 ≤ x * y ∧ x * y ≤ 72057594037927936 := by
  rw [smB_true] at hx
  rw [coB_true] at hy
  obtain ⟨a, b⟩ := hx
  obtain ⟨c, d⟩ := hy
  constructor
  · have h1 : -68719476736 * y ≤ x * y := Int.mul_le_mul_of_nonneg_right a c
    omega
  · have h1 : x * y ≤ 68719476736 * y := Int.mul_le_mul_of_nonneg_right b c
    omega
theorem dot_le : ∀ (xs ys : List Int) (k : Nat), xs.all smB = true → ys.all coB = true → -72057594037927936 * k ≤ dot (xs.take k) (ys.take k) ∧ dot (xs.take k) (ys.take k) ≤ 72057594037927936 * k
  | _, _, 0, _, _ => by simp [dot]
  | [], _, k + 1, _, _ => by simp [dot]; omega
  | x :: xs, [], k + 1, _, _ => by simp [dot]; omega
  | x :: xs, y :: ys, k + 1, h, h' => by
    simp only [List.all_cons, Bool.and_eq_true] at h h'
    have := dot_le xs ys k h.2 h'.2
    have := mul_le h.1 h'.1
    simp only [List.take_succ_cons, dot]
    omega

set_option maxHeartbeats 400000 in
theorem valueAt_full (b off n cap b' off' cap' : Nat) (c : Int) (w : World) (xs ys : List Int) (hx : xs.length = n) (hy : ys.length = n) (hn : n ≤ 96) (hb : b < w.heap.size) (hb' : b' < w.heap.size)
    (hs : xs.all smB = true) (hs' : ys.all coB = true) (hsc : smB c = true)
    (hc : ∀ i, i < n → w.cell? ⟨b, off + i, none⟩ = some (.int .i64 (xs.getD i 0))) (hc' : ∀ i, i < n → w.cell? ⟨b', off' + i, none⟩ = some (.int .i64 (ys.getD i 0))) :
    Calls Tryd.prog 25 #[.agg #[.slice (some ⟨b, off, none⟩) n cap, .int .i64 c], .slice (some ⟨b', off', none⟩) n cap'] w fun e w' => e = .returned (.int .i64 (c + dot xs ys)) ∧ Below w.heap.size w w' := by
  go_enter Tryd.func25, Tryd.ntmps25
  go_wp2_with fail
  go_loop [5, 13] (fun u v => ∃ k : Nat, k ≤ n ∧ v = .int .i64 k ∧ u = .int .i64 (c + dot (xs.take k) (ys.take k))) (fun _ v => n - (intOf v).toNat)
  case atStart => exact ⟨0, Nat.zero_le _, rfl, by simp [dot]⟩
  case round =>
    obtain ⟨k, hk, rfl, rfl⟩ := hrel
    by_cases h1 : k < n
    · have g1 : (w.alloc (.cells #[.slice (some ⟨b, off, none⟩) n cap, .int .i64 c] 24)).cell? ⟨b, off + k, none⟩ = some (.int .i64 (xs.getD k 0)) := (World.cell?_alloc_past _ _ _ (by simpa using hb)).trans (hc k h1)
      have g2 : (w.alloc (.cells #[.slice (some ⟨b, off, none⟩) n cap, .int .i64 c] 24)).cell? ⟨b', off' + k, none⟩ = some (.int .i64 (ys.getD k 0)) := (World.cell?_alloc_past _ _ _ (by simpa using hb')).trans (hc' k h1)
      have d0 := dot_le xs ys k hs hs'
      have d1 := dot_le xs ys (k + 1) hs hs'
      have d2 := dot_snoc xs ys k (by omega) (by omega)
      have d3 := mul_le (List.all_eq_true.1 hs _ (List.getElem_mem (by omega : k < xs.length))) (List.all_eq_true.1 hs' _ (List.getElem_mem (by omega : k < ys.length)))
      rw [smB_true] at hsc
      have HD : Hid (c + dot (xs.take (k + 1)) (ys.take (k + 1)) = c + dot (xs.take k) (ys.take k) + xs[k] * ys[k]) := by show _ = _; omega
      have b1 : -9223372036854775808 ≤ c + dot (xs.take k) (ys.take k) + xs[k] * ys[k] := by omega
      have b2 : c + dot (xs.take k) (ys.take k) + xs[k] * ys[k] ≤ 9223372036854775807 := by omega
      clear d1 d2 hs hs'
      go_wp2
      go_round
      case rel => exact ⟨k + 1, by omega, by go_num, by rw [HD.out]⟩
      case measure => simp [intOf]; omega
    · have e1 : Hid (xs.take k = xs) := List.take_of_length_le (by omega)
      have e2 : Hid (ys.take k = ys) := List.take_of_length_le (by omega)
      go_wp2
      go_ret
      exact ⟨ret_int (by rw [e1.out, e2.out]), allocBelow _ _⟩

theorem valueAt_empty (a a' : Option Addr) (cap cap' : Nat) (c : Int) (w : World) :
    Calls Tryd.prog 25 #[.agg #[.slice a 0 cap, .int .i64 c], .slice a' 0 cap'] w fun e w' => e = .returned (.int .i64 (c + dot [] [])) ∧ Below w.heap.size w w' := by
  go_enter Tryd.func25, Tryd.ntmps25
  go_wp2_with fail
  refine wp_loop_rounds 1 ?_
  rw [rounds_succ]
  go_wp2_with fail
  go_ret
  exact ⟨ret_int (by simp [dot]), allocBelow _ _⟩

theorem valueAt_any {lo lo' : Nat} {w : World} {v v' : Value} {xs ys : List Int} (c : Int) (h : IsInts lo w v xs) (h' : IsInts lo' w v' ys) (hl : xs.length = ys.length) (hn : xs.length ≤ 96)
    (hs : xs.all smB = true) (hs' : ys.all coB = true) (hsc : smB c = true) :
    Calls Tryd.prog 25 #[.agg #[v, .int .i64 c], v'] w fun e w' => e = .returned (.int .i64 (c + dot xs ys)) ∧ Below w.heap.size w w' := by
  obtain ⟨a, cap, rfl, _, _, _, hc⟩ := h
  obtain ⟨a', cap', rfl, _, _, _, hc'⟩ := h'
  rcases hc with rfl | ⟨b, off, rfl, _, hb, hc⟩
  · obtain rfl : ys = [] := List.eq_nil_of_length_eq_zero (by simpa using hl.symm)
    exact valueAt_empty _ _ _ _ _ _
  · rcases hc' with rfl | ⟨b', off', rfl, _, hb', hc'⟩
    · obtain rfl : xs = [] := List.eq_nil_of_length_eq_zero (by simpa using hl)
      exact valueAt_empty _ _ _ _ _ _
    · rw [← hl] at hc' ⊢
      exact valueAt_full _ _ _ _ _ _ _ _ _ _ _ rfl hl.symm hn hb hb' hs hs' hsc hc hc'

/-- What Value returns. -/
def valE (xs ys : List Int) (c : Int) : Int := if xs.length ≠ ys.length ∨ 96 < xs.length ∨ ys.all coB = false then 1 else if smR (xs, c) = false then 4 else 0
def valN (xs ys : List Int) (c : Int) : Int := if valE xs ys c = 0 then c + dot xs ys else 0

set_option maxHeartbeats 400000 in
theorem Value_any {lo lo' : Nat} {w : World} {v v' : Value} {xs ys : List Int} (c : Int) (h : IsInts lo w v xs) (h' : IsInts lo' w v' ys) :
    Calls Tryd.prog 9 #[.agg #[v, .int .i64 c], v'] w fun e w' => e = .returned (.tuple #[.int .i64 (valN xs ys c), .int .i64 (valE xs ys c)]) ∧ Below w.heap.size w w' := by
  have H := h
  have H' := h'
  obtain ⟨a, cap, rfl, _, hm, _, _⟩ := h
  obtain ⟨a', cap', rfl, _, hm', _, _⟩ := h'
  unfold maxLen at hm hm'
  have E : Hid (valE xs ys c = if xs.length ≠ ys.length ∨ 96 < xs.length ∨ ys.all coB = false then 1 else if smR (xs, c) = false then 4 else 0) := (rfl : valE xs ys c = _)
  have V : Hid (valN xs ys c = if valE xs ys c = 0 then c + dot xs ys else 0) := (rfl : valN xs ys c = _)
  by_cases h1 : xs.length = ys.length
  · by_cases h2 : 96 < xs.length
    · have e1 : valE xs ys c = 1 := by rw [E.out, if_pos (by omega)]
      have e2 : valN xs ys c = 0 := by rw [V.out, e1]; rfl
      have h3 : ¬ ((xs.length : Int) ≠ ys.length) := by omega
      rw [e1, e2]
      clear E V e1 e2 h1 H H'
      go_enter Tryd.func9, Tryd.ntmps9
      go_wp2_with fail
      go_ret2
      exact ⟨rfl, allocBelow _ _⟩
    · cases hp : ys.all coB with
      | false =>
        have e1 : valE xs ys c = 1 := by rw [E.out, if_pos (by simp [hp])]
        have e2 : valN xs ys c = 0 := by rw [V.out, e1]; rfl
        rw [e1, e2]
        have h3 : ¬ ((xs.length : Int) ≠ ys.length) := by omega
        clear E V e1 e2 h1
        go_enter Tryd.func9, Tryd.ntmps9
        go_wp2_with (go_at_call 24; refine (isPoint_any (H'.below (allocBelow _ _))).mono ?_; rintro e w' ⟨rfl, rfl⟩)
        go_ret2
        exact ⟨rfl, allocBelow _ _⟩
      | true =>
        have h3 : ¬ ((xs.length : Int) ≠ ys.length) := by omega
        cases hs : smR (xs, c) with
        | false =>
          have e1 : valE xs ys c = 4 := by rw [E.out, if_neg (by simp [hp]; omega), if_pos hs]
          have e2 : valN xs ys c = 0 := by rw [V.out, e1]; rfl
          rw [e1, e2]
          clear E V e1 e2 h1
          go_enter Tryd.func9, Tryd.ntmps9
          go_wp2_with (first | (go_at_call 24; refine (isPoint_any (H'.below (allocBelow _ _))).mono ?_; rintro e w' ⟨rfl, rfl⟩) | (go_at_call 11; refine (small_any _ (H.below (allocBelow _ _))).mono ?_; rintro e w1 ⟨rfl, hb1⟩))
          go_ret2
          exact ⟨rfl, (allocBelow _ _).trans (hb1.mono (by simp))⟩
        | true =>
          have e1 : valE xs ys c = 0 := by rw [E.out, if_neg (by simp [hp]; omega), if_neg (by simp [hs])]
          have e2 : Hid (valN xs ys c = c + dot xs ys) := by show _ = _; rw [V.out, e1]; rfl
          rw [e1]
          obtain ⟨hs1, hs2⟩ := smR_true.1 hs
          have L : Hid (xs.length = ys.length) := h1
          have S1 : Hid (xs.all smB = true) := hs1
          have S2 : Hid (smB c = true) := hs2
          have S3 : Hid (ys.all coB = true) := hp
          clear E V e1 h1 hs1 hs2
          go_enter Tryd.func9, Tryd.ntmps9
          go_wp2_with (first | (go_at_call 24; refine (isPoint_any (H'.below (allocBelow _ _))).mono ?_; rintro e w' ⟨rfl, rfl⟩) | (go_at_call 11; refine (small_any _ (H.below (allocBelow _ _))).mono ?_; rintro e w1 ⟨rfl, hb1⟩; obtain ⟨hc1, hf1⟩ := bcell hb1) | (go_at_call 25; refine (valueAt_any _ ((H.below (allocBelow _ _)).below hb1) ((H'.below (allocBelow _ _)).below hb1) L.out (by omega) S1.out S3.out S2.out).mono ?_; rintro e w2 ⟨rfl, hb2⟩))
          go_ret2
          exact ⟨by rw [e2.out]; rfl, (allocBelow _ _).trans ((hb1.trans (hb2.mono hb1.size)).mono (by simp))⟩
  · have e1 : valE xs ys c = 1 := by rw [E.out, if_pos (by simp [h1])]
    have e2 : valN xs ys c = 0 := by rw [V.out, e1]; rfl
    have h3 : ((xs.length : Int) ≠ ys.length) := by omega
    rw [e1, e2]
    clear E V e1 e2 h1 H H'
    go_enter Tryd.func9, Tryd.ntmps9
    go_wp2_with fail
    go_ret2
    exact ⟨rfl, allocBelow _ _⟩
end Go.Proofs.YtlopmmedokllaaaDoor
namespace Go.Proofs.YtlopmmedokllaaaDoor
open Go.RowKit Go.Deep
set_option maxHeartbeats 400000 in
theorem gcd_any (x y : Int) (w : World) (hx : smB x = true) (hy : smB y = true) :
    Calls Tryd.prog 32 #[.int .i64 x, .int .i64 y] w fun e w' => e = .returned (.int .i64 (Int.gcd x y)) ∧ Below w.heap.size w w' := by
  go_enter Tryd.func32, Tryd.ntmps32
  go_wp2_with fail
  go_loopw [0, 1] (fun u v wr => ∃ a b : Int, u = .int .i64 a ∧ v = .int .i64 b ∧ smB a = true ∧ smB b = true ∧ Int.gcd a b = Int.gcd x y ∧ Below w.heap.size w wr) (fun _ v _ => (intOf v).natAbs)
  case atStart => exact ⟨x, y, rfl, rfl, hx, hy, rfl, Below.refl _ _⟩
  case round =>
    obtain ⟨a, b, rfl, rfl, ha, hb, hg, hB⟩ := hrel
    have HG : Hid (Int.gcd a b = Int.gcd x y) := hg
    have HB : Hid (Below w.heap.size w wr) := hB
    have HA : Hid (smB a = true) := ha
    have HA' : Hid (smB b = true) := hb
    rw [smB_true] at ha hb
    obtain ⟨ha1, ha2⟩ := ha
    obtain ⟨hb1, hb2⟩ := hb
    clear hg hB hx hy
    by_cases h0 : b = 0
    · subst h0
      have e : Hid ((x.gcd y : Int) = a.natAbs) := by show _ = _; rw [← HG.out]; simp
      go_wp2
      all_goals (go_ret; exact ⟨ret_int (by rw [e.out]; omega), HB.out⟩)
    · have hm1 : (a.tmod b).natAbs < b.natAbs := by rw [Int.natAbs_tmod]; exact Nat.mod_lt _ (by omega)
      have hm2 : Hid (smB (a.tmod b) = true) := by show _ = _; rw [smB_true]; omega
      have hm3 : Hid (Int.gcd b (a.tmod b) = x.gcd y) := by
        show _ = _
        rw [← HG.out]
        simp only [Int.gcd, Int.natAbs_tmod]
        rw [Nat.gcd_comm, ← Nat.gcd_rec, Nat.gcd_comm]
      go_wp2
      go_region
      go_wp2
      go_roundw
      case rel => exact ⟨b, a.tmod b, rfl, rfl, HA'.out, hm2.out, hm3.out, HB.out.drew⟩
      case measure => simpa [intOf] using hm1

theorem tdiv_small {x y : Int} (hx : smB x = true) : -68719476736 ≤ x.tdiv y ∧ x.tdiv y ≤ 68719476736 := by
  rw [smB_true] at hx
  have h1 : (x.tdiv y).natAbs ≤ x.natAbs := by rw [Int.natAbs_tdiv]; exact Nat.div_le_self _ _
  omega
theorem div_of_neg {x y : Int} (hy : 1 ≤ y) (h : x.tmod y < 0) : x / y = x.tdiv y - 1 := by
  have e1 := Int.mul_tdiv_add_tmod x y
  have h2 : (x.tmod y).natAbs < y.natAbs := by rw [Int.natAbs_tmod]; exact Nat.mod_lt _ (by omega)
  have e2 : x = (x.tmod y + y) + y * (x.tdiv y - 1) := by rw [Int.mul_sub]; omega
  rw [e2, Int.add_mul_ediv_left _ _ (by omega), Int.ediv_eq_zero_of_lt (by omega) (by omega)]
  rw [← e2]; omega
theorem div_of_nonneg {x y : Int} (hy : 1 ≤ y) (h : ¬ x.tmod y < 0) : x / y = x.tdiv y := by
  have e1 := Int.mul_tdiv_add_tmod x y
  have h2 : (x.tmod y).natAbs < y.natAbs := by rw [Int.natAbs_tmod]; exact Nat.mod_lt _ (by omega)
  have e2 : x = x.tmod y + y * x.tdiv y := by omega
  rw [e2, Int.add_mul_ediv_left _ _ (by omega), Int.ediv_eq_zero_of_lt (by omega) (by omega)]
  rw [← e2]; omega

theorem floorDiv_any (x y : Int) (w : World) (hx : smB x = true) (hy : 1 ≤ y) (hy' : y ≤ 68719476736) :
    Calls Tryd.prog 23 #[.int .i64 x, .int .i64 y] w fun e w' => e = .returned (.int .i64 (x / y)) ∧ w = w' := by
  have D := hid0 (tdiv_small (y := y) hx)
  have e1 : x.tmod y < 0 → Hid (x / y = x.tdiv y - 1) := fun h => div_of_neg hy h
  have e2 : ¬ x.tmod y < 0 → Hid (x / y = x.tdiv y) := fun h => div_of_nonneg hy h
  have hx0 := hx
  rw [smB_true] at hx
  obtain ⟨h1, h2⟩ := hx
  by_cases h : x.tmod y < 0
  · have E := e1 h
    clear e1 e2
    go_enter Tryd.func23, Tryd.ntmps23
    go_wp2
    go_ret
    have d := D.out
    exact ⟨ret_int (by rw [E.out]; try exact IntWalk.wrap64_in _ (by omega)), rfl⟩
  · have E := e2 h
    clear e1 e2
    go_enter Tryd.func23, Tryd.ntmps23
    go_wp2
    go_ret
    have d := D.out
    exact ⟨ret_int (by rw [E.out]; try exact IntWalk.wrap64_in _ (by omega)), rfl⟩

theorem info_int : (Tryd.prog.info? 3).map (fun i => (i.zero, i.size, i.bytes)) = some (some (.int .i64 0), 1, 8) := by kernel_rfl

/-- copy into a row of the call's own, whatever the source: all other blocks stay. -/
theorem copy_but {P : Program} {w : World} {ops : Array Oper} {rest : List Oper} {o : Oper} {a : Act} {Q : Exit → Act → World → Prop} (hgd : o.guard = none) (d s : Operand) (dT sT : TypeId)
    (ho : o.op = .call { callee := .builtin .copy, args := #[d, s], argTypes := #[dT, sT] }) (elem : TypeId) (hu : P.underlying dT = some (.slice elem)) (hsz : (P.info? elem).map (·.size) = some 1)
    (dp sp : Option Addr) (dLen dCap sLen sCap : Nat) (hd : a.eval d = .slice dp dLen dCap) (hs : a.eval s = .slice sp sLen sCap)
    (g : Nat) (cur : Array Value) (t : TypeId) (hg : w.heap[g]? = some (.cells cur t (0, 0))) (cs : List Value) (hn : cs.length = Nat.min sLen dLen)
    (hpos : 0 < cs.length → dp = some ⟨g, 0, none⟩ ∧ ∃ ad, sp = some ad ∧ ∀ j v, cs[j]? = some v → w.cell? (ad.add j) = some v)
    (hfit : cs.length ≤ cur.size) (h1 : ∀ v ∈ cs, v.oneCell' = true)
    (h : ∀ w', Hid (∃ cur', w'.heap[g]? = some (.cells cur' t (0, 0)) ∧ ∀ i, i < cs.length → cur'[i]? = cs[i]?) → Hid (∀ k, k ≠ g → w'.heap[k]? = w.heap[k]?) → Below g w w' → wpList P ops Q rest (a.put o.dst (goInt cs.length)) w') :
    wpList P ops Q (o :: rest) a w := by
  by_cases h0 : cs.length = 0
  · obtain rfl : cs = [] := List.eq_nil_of_length_eq_zero h0
    refine wpList_copy_nothing hgd d s dT sT ho elem hu hsz dp sp dLen dCap sLen sCap hd hs (by simpa using hn.symm) ?_
    exact h w ⟨cur, hg, by simp⟩ (hid0 fun _ _ => rfl) (Below.refl _ _)
  · obtain ⟨rfl, ad, rfl, hsrc⟩ := hpos (by omega)
    refine wpList_copy_own hgd d s dT sT ho elem hu hsz g 0 dLen dCap ad sLen sCap hd hs cur t hg cs hn hsrc (by omega) h1 ?_
    refine h _ ⟨_, setRow_heap w g cur _ t (0, 0) hg, fun i hi => ?_⟩ (hid0 fun k hk => setRow_other w g k _ hk) (below_setRow (Below.refl _ _) (Nat.le_refl _) _)
    simp only [List.take_zero, List.nil_append, Nat.zero_add, List.getElem?_toArray]
    rw [List.getElem?_append_left hi]

theorem size_int : (Tryd.prog.info? 3).map (·.size) = some 1 := by kernel_rfl

set_option maxRecDepth 100000 in
theorem cloneRow_any {lo : Nat} {w : World} {v : Value} {xs : List Int} (c : Int) (h : IsInts lo w v xs) (hn : xs.length ≤ 1000) :
    Calls Tryd.prog 21 #[.agg #[v, .int .i64 c]] w fun e w' => ∃ g, e = .returned (.agg #[.slice (some ⟨g, 0, none⟩) xs.length xs.length, .int .i64 c]) ∧ OwnInts w.heap.size w' g xs ∧ Below w.heap.size w w' := by
  obtain ⟨a, cap, rfl, hl, hm, hi, hc⟩ := h
  have HS : Hid (∀ w', Below w.heap.size w w' → 0 < xs.length → ∃ ad, a = some ad ∧ ∀ j v, (xs.map (Value.int .i64))[j]? = some v → w'.cell? (ad.add j) = some v) := hid0 fun w' hb h0 => by
    obtain ⟨ad, h1, h2⟩ := IsInts.src (lo := lo) (xs := xs) ⟨a, cap, rfl, hl, hm, hi, hc⟩ h0
    exact ⟨ad, h1, h2 w' hb⟩
  have HI := hid0 hi.1
  unfold maxLen at hm
  clear hc hi
  have hmk := run_make_row' (P := Tryd.prog) 22 3 (.int .i64 0) 8 Tryd.underlying22 info_int rfl .i64 .i64 xs.length (by omega) (by omega)
  go_enter Tryd.func21, Tryd.ntmps21
  go_wp2_with fail
  go_region
  · go_wp2_with (refine copy_but rfl (.tmp 12) (.tmp 14) 22 22 rfl 3 Tryd.underlying22 size_int _ _ _ _ _ _ rfl rfl (w.heap.size + 1 + 1) (madeCells #[.int .i64 0] xs.length) 3 ((heap_old _ _ (by simp)).trans (heap_new _ _ (by simp))) (xs.map (Value.int .i64)) (by simp) (fun h0 => ⟨rfl, HS.out _ (by go_grown) (by simpa using h0)⟩) (by simp [madeCells]) (by simp [Value.oneCell']) ?_; intro w1 hG hBut hb1; have hs1 : w.heap.size + 4 ≤ w1.heap.size := (by have := hb1.size; simpa using this); have HB1 : Hid (Below w.heap.size w w1) := (Below.trans (by go_grown) (hb1.mono (by omega))); clear hb1; obtain ⟨c1, c2⟩ := but_cell hBut.out)
    obtain ⟨c1, c2⟩ := but_cell hBut.out
    have d1 := c1 (w.heap.size + 1) 0 (by omega)
    have d2 := c1 (w.heap.size + 1) 1 (by omega)
    obtain ⟨cur, hg, hcur⟩ := hG.out
    refine bodyPost_ret (v := .agg #[.slice (some ⟨w.heap.size + 1 + 1, 0, none⟩) xs.length xs.length, .int .i64 c]) (by simp [results, Tryd.results21, go_sem, d1, d2]) rfl ⟨_, rfl, ?_, (HB1.out.setCell (by simp) _).setCell (by simp) _⟩
    refine ⟨by omega, by unfold maxLen; omega, HI.out, cur, 3, ?_, fun i hi => ?_⟩
    · rw [Below.heap_setCell _ _ _ _ (by simp <;> omega), Below.heap_setCell _ _ _ _ (by simp <;> omega)]; exact hg
    · rw [hcur i (by simpa using hi)]; simp [hi]
  · go_wp2_with (refine copy_but rfl (.tmp 12) (.tmp 14) 22 22 rfl 3 Tryd.underlying22 size_int _ _ _ _ _ _ rfl rfl (w.heap.size + 1 + 1 + 1) (madeCells #[.int .i64 0] xs.length) 3 (heap_new _ _ (by simp)) (xs.map (Value.int .i64)) (by simp) (fun h0 => ⟨rfl, HS.out _ (by go_grown) (by simpa using h0)⟩) (by simp [madeCells]) (by simp [Value.oneCell']) ?_; intro w1 hG hBut hb1; have hs1 : w.heap.size + 4 ≤ w1.heap.size := (by have := hb1.size; simpa using this); have HB1 : Hid (Below w.heap.size w w1) := (Below.trans (by go_grown) (hb1.mono (by omega))); clear hb1; obtain ⟨c1, c2⟩ := but_cell hBut.out)
    obtain ⟨c1, c2⟩ := but_cell hBut.out
    have d1 := c1 (w.heap.size + 1) 0 (by omega)
    have d2 := c1 (w.heap.size + 1) 1 (by omega)
    obtain ⟨cur, hg, hcur⟩ := hG.out
    refine bodyPost_ret (v := .agg #[.slice (some ⟨w.heap.size + 1 + 1 + 1, 0, none⟩) xs.length xs.length, .int .i64 c]) (by simp [results, Tryd.results21, go_sem, d1, d2]) rfl ⟨_, rfl, ?_, (HB1.out.setCell (by simp) _).setCell (by simp) _⟩
    refine ⟨by omega, by unfold maxLen; omega, HI.out, cur, 3, ?_, fun i hi => ?_⟩
    · rw [Below.heap_setCell _ _ _ _ (by simp <;> omega), Below.heap_setCell _ _ _ _ (by simp <;> omega)]; exact hg
    · rw [hcur i (by simpa using hi)]; simp [hi]

/-- The content of a list of numbers. -/
def gcdL : List Int → Nat → Nat
  | [], g => g
  | x :: xs, g => gcdL xs (Int.gcd g x)
theorem gcdL_snoc : ∀ (xs : List Int) (g k : Nat) (h : k < xs.length), gcdL (xs.take (k + 1)) g = Int.gcd (gcdL (xs.take k) g) xs[k]
  | x :: xs, g, 0, _ => by simp [gcdL]
  | x :: xs, g, k + 1, h => by
    have := gcdL_snoc xs (Int.gcd g x) k (by simpa using h)
    simpa [gcdL] using this
theorem gcd_small {g : Nat} {x : Int} (hg : g ≤ 68719476736) (hx : smB x = true) : Int.gcd g x ≤ 68719476736 := by
  rw [smB_true] at hx
  by_cases h : g = 0
  · subst h; simp; omega
  · have : Int.gcd g x ≤ g := by
      have := Nat.le_of_dvd (by omega) (Nat.gcd_dvd_left g x.natAbs)
      simpa [Int.gcd] using this
    omega
theorem gcdL_small : ∀ (xs : List Int) (g : Nat), g ≤ 68719476736 → xs.all smB = true → gcdL xs g ≤ 68719476736
  | [], g, hg, _ => hg
  | x :: xs, g, hg, h => by
    simp only [List.all_cons, Bool.and_eq_true] at h
    exact gcdL_small xs _ (gcd_small hg h.1) h.2
theorem all_take_of {p : Int → Bool} {xs : List Int} (k : Nat) (h : xs.all p = true) : (xs.take k).all p = true := by
  rw [List.all_eq_true] at h ⊢
  exact fun x hx => h x (List.mem_of_mem_take hx)
theorem smB_nat {g : Nat} (h : g ≤ 68719476736) : smB g = true := by rw [smB_true]; omega

set_option maxHeartbeats 400000 in
theorem contentOf_full (b off n cap : Nat) (c : Int) (w : World) (xs : List Int) (hx : xs.length = n) (hn : n ≤ 9223372036854775807) (hb : b < w.heap.size) (hs : xs.all smB = true)
    (hc : ∀ i, i < n → w.cell? ⟨b, off + i, none⟩ = some (.int .i64 (xs.getD i 0))) :
    Calls Tryd.prog 22 #[.agg #[.slice (some ⟨b, off, none⟩) n cap, .int .i64 c]] w fun e w' => e = .returned (.int .i64 (gcdL xs 0)) ∧ Below w.heap.size w w' := by
  go_enter Tryd.func22, Tryd.ntmps22
  go_wp2_with fail
  go_loopw [3, 9] (fun u v wr => ∃ k : Nat, k ≤ n ∧ v = .int .i64 k ∧ u = .int .i64 (gcdL (xs.take k) 0) ∧ Below w.heap.size w wr) (fun _ v _ => n - (intOf v).toNat)
  case atStart => exact ⟨0, Nat.zero_le _, rfl, rfl, allocBelow _ _⟩
  case round =>
    obtain ⟨k, hk, rfl, rfl, hB⟩ := hrel
    have HB : Hid (Below w.heap.size w wr) := hB
    by_cases h1 : k < n
    · have g1 : wr.cell? ⟨b, off + k, none⟩ = some (.int .i64 (xs.getD k 0)) := (hB.cell (p := ⟨b, off + k, none⟩) hb).trans (hc k h1)
      have s1 : Hid (smB (gcdL (xs.take k) 0) = true) := smB_nat (gcdL_small _ _ (by omega) (all_take_of k hs))
      have s2 : Hid (smB (xs[k]'(by omega)) = true) := List.all_eq_true.1 hs _ (List.getElem_mem _)
      have s3 : Hid (gcdL (xs.take (k + 1)) 0 = Int.gcd (gcdL (xs.take k) 0) (xs[k]'(by omega))) := gcdL_snoc xs 0 k (by omega)
      clear hB hs
      go_wp2_with (go_at_call 32; refine (gcd_any _ _ _ s1.out s2.out).mono ?_; rintro e w1 ⟨rfl, hb1⟩)
      go_roundw
      case rel => exact ⟨k + 1, by omega, by go_num, by rw [s3.out], HB.out.trans (hb1.mono HB.out.size)⟩
      case measure => simp [intOf]; omega
    · have e1 : Hid (xs.take k = xs) := List.take_of_length_le (by omega)
      clear hB hs
      go_wp2_with fail
      go_ret
      exact ⟨ret_int (by rw [e1.out]), HB.out⟩

theorem contentOf_empty (a : Option Addr) (cap : Nat) (c : Int) (w : World) :
    Calls Tryd.prog 22 #[.agg #[.slice a 0 cap, .int .i64 c]] w fun e w' => e = .returned (.int .i64 (gcdL [] 0)) ∧ Below w.heap.size w w' := by
  go_enter Tryd.func22, Tryd.ntmps22
  go_wp2_with fail
  refine wp_loop_rounds 1 ?_
  rw [rounds_succ]
  go_wp2_with fail
  go_ret
  exact ⟨ret_int rfl, allocBelow _ _⟩

theorem contentOf_any {lo : Nat} {w : World} {v : Value} {xs : List Int} (c : Int) (h : IsInts lo w v xs) (hs : xs.all smB = true) :
    Calls Tryd.prog 22 #[.agg #[v, .int .i64 c]] w fun e w' => e = .returned (.int .i64 (gcdL xs 0)) ∧ Below w.heap.size w w' := by
  obtain ⟨a, cap, rfl, hl, hm, hi, hc⟩ := h
  unfold maxLen at hm
  rcases hc with rfl | ⟨b, off, rfl, _, hb, hc⟩
  · exact contentOf_empty _ _ _ _
  · exact contentOf_full _ _ _ _ _ _ _ rfl (by omega) hb hs hc

/-- The row after k rounds of a division in place. -/
def midL (f : Int → Int) (xs : List Int) (k : Nat) : List Int := (xs.take k).map f ++ xs.drop k
theorem midL_length (f : Int → Int) (xs : List Int) (k : Nat) : (midL f xs k).length = xs.length := by simp [midL]; omega
theorem midL_get (f : Int → Int) (xs : List Int) (k : Nat) (h : k < xs.length) : (midL f xs k).getD k 0 = xs[k] := by
  have h1 : k ≤ xs.length := by omega
  simp [midL, List.getD, h1, h]
theorem midL_set (f : Int → Int) (xs : List Int) (k : Nat) (h : k < xs.length) : (midL f xs k).set k (f xs[k]) = midL f xs (k + 1) := by
  have h1 : min k xs.length = k := by omega
  simp only [midL]
  rw [List.set_append_right _ _ (by simp; omega), List.drop_eq_getElem_cons h, List.take_succ_eq_append_getElem h, List.map_append, List.append_assoc]
  have e : k - ((xs.take k).map f).length = 0 := by simp; omega
  rw [e]; rfl
theorem midL_end (f : Int → Int) (xs : List Int) (k : Nat) (h : xs.length ≤ k) : midL f xs k = xs.map f := by
  simp [midL, List.take_of_length_le h, List.drop_eq_nil_of_le h]

set_option maxHeartbeats 400000 in
theorem Tighten_any {lo : Nat} {w : World} {v : Value} {xs : List Int} (c : Int) (h : IsInts lo w v xs) (hn : xs.length ≤ 1000) (hs : smR (xs, c) = true) (g0 : gcdL xs 0 ≠ 0) :
    Calls Tryd.prog 8 #[.agg #[v, .int .i64 c]] w fun e w' => ∃ g, e = .returned (.agg #[.slice (some ⟨g, 0, none⟩) xs.length xs.length, .int .i64 (c / gcdL xs 0)]) ∧ OwnInts w.heap.size w' g (xs.map fun x => x.tdiv (gcdL xs 0)) ∧ Below w.heap.size w w' := by
  have H := h
  obtain ⟨a, cap, rfl, _, hm, _, _⟩ := h
  unfold maxLen at hm
  go_enter Tryd.func8, Tryd.ntmps8
  have HS := hid0 hs
  have HS1 := hid0 (smR_true.1 hs).1
  have hs3 : smR (xs, c) = true := HS.out
  have hg0 : ((gcdL xs 0 : Int) == 0) = false := by simp; omega
  clear hs
  go_wp2_with (first | (go_at_call 21; refine (cloneRow_any c (H.below (by go_grown)) hn).mono ?_; rintro e w1 ⟨g, rfl, hO, hb1⟩; have hB1 : Below w.heap.size w w1 := (Below.trans (by go_grown) (hb1.mono (by go_size))); have hs1 := hb1.size; simp only [World.size_alloc] at hs1; have hz0 : w.heap.size < w1.heap.size := (by omega); have hz1 : w.heap.size + 1 < w1.heap.size := (by omega); have hzg := hO.lt; obtain ⟨p1, p2⟩ := blk hb1 (n := w.heap.size) (by go_size); obtain ⟨p3, p4⟩ := blk hb1 (n := w.heap.size + 1) (by go_size)) | (go_at_call 11; refine (small_any c (H.below (by go_grown))).mono ?_; rintro e w2 ⟨rfl, hb2⟩; have hB2 : Below w.heap.size w w2 := (Below.trans (by go_grown) (hb2.mono (by go_size))); have hs2 := hb2.size; simp only [World.size_alloc] at hs2; obtain ⟨q1, q2⟩ := blk hb2 (n := w.heap.size) (by go_size); obtain ⟨q3, q4⟩ := blk hb2 (n := w.heap.size + 1) (by go_size); obtain ⟨q5, q6⟩ := blk hb2 (n := w1.heap.size) (by go_size)) | (go_at_call 22; refine (contentOf_any c (H.below (by go_grown)) HS1.out).mono ?_; rintro e w3 ⟨rfl, hb3⟩; have hB3 : Below w.heap.size w w3 := (hB2.trans (hb3.mono (by go_size))); have hs3' := hb3.size; obtain ⟨q7, q8⟩ := blk hb3 (n := w.heap.size) (by go_size); obtain ⟨q9, q10⟩ := blk hb3 (n := w.heap.size + 1) (by go_size); obtain ⟨q11, q12⟩ := blk hb3 (n := w1.heap.size) (by go_size)))
  have HO3 := hid0 (((hO.below ((allocBelow _ _).trans (hb2.mono (by go_size)))).below hb3).mono (lo' := w.heap.size) (by go_size))
  have HB := hid0 hB3
  have x1 : w3.cell? ⟨w1.heap.size, 0, none⟩ = some (.slice (some ⟨g, 0, none⟩) xs.length xs.length) := by
    rw [(blk hb3 (n := w1.heap.size) (by go_size)).1, (blk hb2 (n := w1.heap.size) (by go_size)).1]; simp
  have x2 : w3.cell? ⟨w1.heap.size, 1, none⟩ = some (.int .i64 c) := by
    rw [(blk hb3 (n := w1.heap.size) (by go_size)).1, (blk hb2 (n := w1.heap.size) (by go_size)).1]; simp
  have x3 : ∀ o, w3.frozen? ⟨w1.heap.size, o, none⟩ = false := fun o => by
    rw [(blk hb3 (n := w1.heap.size) (by go_size)).2, (blk hb2 (n := w1.heap.size) (by go_size)).2]; simp
  have hB13 := (allocBelow w1 _).trans ((hb2.mono (by go_size)).trans (hb3.mono (by go_size)))
  have hB03 := hb1.trans (hB13.mono hb1.size)
  have x4' : Hid (∃ u, w3.cell? ⟨w.heap.size + 1, 0, none⟩ = some u) := ⟨.slice none 0 0, by rw [(blk hB03 (n := w.heap.size + 1) (by go_size)).1]; simp⟩
  have x4'' : Hid (∃ u, w3.cell? ⟨w.heap.size + 1, 1, none⟩ = some u) := ⟨.int .i64 0, by rw [(blk hB03 (n := w.heap.size + 1) (by go_size)).1]; simp⟩
  have x5 : ∀ o, w3.frozen? ⟨w.heap.size + 1, o, none⟩ = false := fun o => by
    rw [(blk hB03 (n := w.heap.size + 1) (by go_size)).2]; simp
  have hzg3 : g ≠ w1.heap.size := by omega
  have hz3 : w.heap.size + 1 ≠ w1.heap.size := by omega
  have hgs : w.heap.size ≤ g ∧ g ≠ w.heap.size + 1 := by have := hO.1; simp only [World.size_alloc] at this; omega
  have hL1 : w1.heap.size < w3.heap.size := by omega
  clear p1 p2 p3 p4 q1 q2 q3 q4 q5 q6 q7 q8 q9 q10 q11 q12 hO hb1 hb2 hb3 hB1 hB2 hB3 hB13 hB03 hs1 hs2 hs3 hs3'
  go_loopw [20] (fun v wr => ∃ k : Nat, k ≤ xs.length ∧ v = .int .i64 k ∧ OwnInts w.heap.size wr g (midL (fun x => x.tdiv (gcdL xs 0)) xs k) ∧ (∀ b, b ≠ g → wr.heap[b]? = w3.heap[b]?) ∧ Below w.heap.size w wr) (fun v _ => xs.length - (intOf v).toNat)
  case atStart => exact ⟨0, Nat.zero_le _, rfl, by simpa [midL] using HO3.out, fun _ _ => rfl, HB.out⟩
  case round =>
    obtain ⟨k, hk, rfl, hO, hBut, hB⟩ := hrel
    have HOr := hid0 hO
    have HBut := hid0 hBut
    have HBr := hid0 hB
    obtain ⟨c1, c2⟩ := but_cell hBut
    have y1 : wr.cell? ⟨w1.heap.size, 0, none⟩ = some (.slice (some ⟨g, 0, none⟩) xs.length xs.length) := (c1 _ _ (by omega)).trans x1
    have y2 : wr.cell? ⟨w1.heap.size, 1, none⟩ = some (.int .i64 c) := (c1 _ _ (by omega)).trans x2
    by_cases h1 : k < xs.length
    · have g1 : wr.cell? ⟨g, k, none⟩ = some (.int .i64 (xs[k]'h1)) := by
        rw [hO.cell k (by rw [midL_length]; exact h1), midL_get _ _ _ h1]
      have g2 : wr.frozen? ⟨g, k, none⟩ = false := hO.frozen k
      have b0 := List.all_eq_true.1 HS1.out _ (List.getElem_mem h1)
      rw [smB_true] at b0
      obtain ⟨b1, b2⟩ := b0
      have b3 : (1 : Int) ≤ gcdL xs 0 := by omega
      have b4 : ¬ ((gcdL xs 0 : Int) = 0) := by omega
      clear hO hBut hB c1 c2 x1 x2 x3 x5
      go_wp2
      go_roundw
      case rel =>
        refine ⟨k + 1, by omega, by go_num, ?_, fun b hb => (Below.heap_setCell _ _ _ _ hb).trans (HBut.out b hb), HBr.out.setCell hgs.1 _⟩
        rw [← midL_set _ _ _ h1]
        refine HOr.out.set k _ ?_
        have e := tdiv_small (y := gcdL xs 0) (List.all_eq_true.1 HS1.out _ (List.getElem_mem h1))
        constructor <;> omega
      case measure => simp [intOf]; omega
    · obtain rfl : k = xs.length := by omega
      have s2 : Hid (smB c = true) := by
        exact (smR_true.1 HS.out).2
      have b3 : (1 : Int) ≤ gcdL xs 0 := by omega
      have b5 : (gcdL xs 0 : Int) ≤ 68719476736 := by
        have := gcdL_small xs 0 (by omega) HS1.out
        omega
      obtain ⟨u4, hu4⟩ := x4'.out
      obtain ⟨u5, hu5⟩ := x4''.out
      have y3 : ∀ o, wr.frozen? ⟨w1.heap.size, o, none⟩ = false := fun o => (c2 _ _ (by omega)).trans (x3 o)
      have y4 : wr.cell? ⟨w.heap.size + 1, 0, none⟩ = some u4 := (c1 _ _ (by omega)).trans hu4
      have y5 : wr.cell? ⟨w.heap.size + 1, 1, none⟩ = some u5 := (c1 _ _ (by omega)).trans hu5
      have y6 : ∀ o, wr.frozen? ⟨w.heap.size + 1, o, none⟩ = false := fun o => (c2 _ _ (by omega)).trans (x5 o)
      clear hO hBut hB c1 c2 x1 x2 x3 x5 hu4 hu5 h1 hk
      go_wp2_with (go_at_call 23; refine (floorDiv_any _ _ _ s2.out b3 b5).mono ?_; rintro e w' ⟨rfl, rfl⟩)
      have z1 : w.heap.size ≤ w1.heap.size := by omega
      refine bodyPost_ret (v := .agg #[.slice (some ⟨g, 0, none⟩) xs.length xs.length, .int .i64 (c / gcdL xs 0)]) (by simp [results, Tryd.results8, go_sem, y4, y5]) rfl ⟨g, rfl, ?_, ((HBr.out.setCell z1 _).setCell (by simp) _).setCell (by simp) _⟩
      have hO := HOr.out
      rw [midL_end _ _ _ (Nat.le_refl _)] at hO
      exact ((hO.setOther _ _ (by simp; omega)).setOther _ _ (by simp; omega)).setOther _ _ (by simp; omega)

set_option maxHeartbeats 400000 in
theorem Tighten_large {lo : Nat} {w : World} {v : Value} {xs : List Int} (c : Int) (h : IsInts lo w v xs) (hn : xs.length ≤ 1000) (hs : smR (xs, c) = false) :
    Calls Tryd.prog 8 #[.agg #[v, .int .i64 c]] w fun e w' => ∃ g, e = .returned (.agg #[.slice (some ⟨g, 0, none⟩) xs.length xs.length, .int .i64 c]) ∧ OwnInts w.heap.size w' g xs ∧ Below w.heap.size w w' := by
  have H := h
  obtain ⟨a, cap, rfl, _, hm, _, _⟩ := h
  unfold maxLen at hm
  go_enter Tryd.func8, Tryd.ntmps8
  go_wp2_with (first | (go_at_call 21; refine (cloneRow_any c (H.below (by go_grown)) hn).mono ?_; rintro e w1 ⟨g, rfl, hO, hb1⟩; have hB1 : Below w.heap.size w w1 := (Below.trans (by go_grown) (hb1.mono (by go_size))); have hs1 := hb1.size; simp only [World.size_alloc] at hs1; have hz0 : w.heap.size < w1.heap.size := (by omega); have hz1 : w.heap.size + 1 < w1.heap.size := (by omega); have hzg := hO.lt; obtain ⟨p1, p2⟩ := blk hb1 (n := w.heap.size) (by go_size); obtain ⟨p3, p4⟩ := blk hb1 (n := w.heap.size + 1) (by go_size)) | (go_at_call 11; refine (small_any c (H.below (by go_grown))).mono ?_; rintro e w2 ⟨rfl, hb2⟩; have hB2 : Below w.heap.size w w2 := (Below.trans (by go_grown) (hb2.mono (by go_size))); have hs2 := hb2.size; simp only [World.size_alloc] at hs2; obtain ⟨q1, q2⟩ := blk hb2 (n := w.heap.size) (by go_size); obtain ⟨q3, q4⟩ := blk hb2 (n := w.heap.size + 1) (by go_size); obtain ⟨q5, q6⟩ := blk hb2 (n := w1.heap.size) (by go_size)))
  have hB02 := hb1.trans (((allocBelow w1 _).trans (hb2.mono (by go_size))).mono hb1.size)
  have d1 : w2.cell? ⟨w.heap.size + 1, 0, none⟩ = some (.slice none 0 0) := by rw [(blk hB02 (n := w.heap.size + 1) (by go_size)).1]; simp
  have d2 : w2.cell? ⟨w.heap.size + 1, 1, none⟩ = some (.int .i64 0) := by rw [(blk hB02 (n := w.heap.size + 1) (by go_size)).1]; simp
  have hgs : g ≠ w.heap.size + 1 := by have := hO.1; simp only [World.size_alloc] at this; omega
  refine bodyPost_ret (v := .agg #[.slice (some ⟨g, 0, none⟩) xs.length xs.length, .int .i64 c]) (by simp [results, Tryd.results8, go_sem, d1, d2]) rfl ⟨g, rfl, ?_, (hB2.setCell (by simp) _).setCell (by simp) _⟩
  have hO2 := ((hO.below (allocBelow _ _)).below hb2).mono (lo' := w.heap.size) (by go_size)
  exact (hO2.setOther _ _ (by simp; omega)).setOther _ _ (by simp; omega)

set_option maxHeartbeats 400000 in
theorem Tighten_zero {lo : Nat} {w : World} {v : Value} {xs : List Int} (c : Int) (h : IsInts lo w v xs) (hn : xs.length ≤ 1000) (hs : smR (xs, c) = true) (g0 : gcdL xs 0 = 0) :
    Calls Tryd.prog 8 #[.agg #[v, .int .i64 c]] w fun e w' => ∃ g, e = .returned (.agg #[.slice (some ⟨g, 0, none⟩) xs.length xs.length, .int .i64 c]) ∧ OwnInts w.heap.size w' g xs ∧ Below w.heap.size w w' := by
  have H := h
  obtain ⟨a, cap, rfl, _, hm, _, _⟩ := h
  unfold maxLen at hm
  have HS := hid0 hs
  have HS1 := hid0 (smR_true.1 hs).1
  have hs3 : smR (xs, c) = true := HS.out
  have hg0 : ((gcdL xs 0 : Int) == 0) = true := by simp [g0]
  clear hs g0
  go_enter Tryd.func8, Tryd.ntmps8
  go_wp2_with (first | (go_at_call 21; refine (cloneRow_any c (H.below (by go_grown)) hn).mono ?_; rintro e w1 ⟨g, rfl, hO, hb1⟩; have hB1 : Below w.heap.size w w1 := (Below.trans (by go_grown) (hb1.mono (by go_size))); have hs1 := hb1.size; simp only [World.size_alloc] at hs1; have hz0 : w.heap.size < w1.heap.size := (by omega); have hz1 : w.heap.size + 1 < w1.heap.size := (by omega); have hzg := hO.lt; obtain ⟨p1, p2⟩ := blk hb1 (n := w.heap.size) (by go_size); obtain ⟨p3, p4⟩ := blk hb1 (n := w.heap.size + 1) (by go_size)) | (go_at_call 11; refine (small_any c (H.below (by go_grown))).mono ?_; rintro e w2 ⟨rfl, hb2⟩; have hB2 : Below w.heap.size w w2 := (Below.trans (by go_grown) (hb2.mono (by go_size))); have hs2 := hb2.size; simp only [World.size_alloc] at hs2; obtain ⟨q1, q2⟩ := blk hb2 (n := w.heap.size) (by go_size); obtain ⟨q3, q4⟩ := blk hb2 (n := w.heap.size + 1) (by go_size); obtain ⟨q5, q6⟩ := blk hb2 (n := w1.heap.size) (by go_size)) | (go_at_call 22; refine (contentOf_any c (H.below (by go_grown)) HS1.out).mono ?_; rintro e w3 ⟨rfl, hb3⟩; have hB3 : Below w.heap.size w w3 := (hB2.trans (hb3.mono (by go_size))); have hs3' := hb3.size; obtain ⟨q7, q8⟩ := blk hb3 (n := w.heap.size) (by go_size); obtain ⟨q9, q10⟩ := blk hb3 (n := w.heap.size + 1) (by go_size); obtain ⟨q11, q12⟩ := blk hb3 (n := w1.heap.size) (by go_size)))
  have hB02 := hb1.trans (((allocBelow w1 _).trans ((hb2.mono (by go_size)).trans (hb3.mono (by go_size)))).mono hb1.size)
  have d1 : w3.cell? ⟨w.heap.size + 1, 0, none⟩ = some (.slice none 0 0) := by rw [(blk hB02 (n := w.heap.size + 1) (by go_size)).1]; simp
  have d2 : w3.cell? ⟨w.heap.size + 1, 1, none⟩ = some (.int .i64 0) := by rw [(blk hB02 (n := w.heap.size + 1) (by go_size)).1]; simp
  have hgs : g ≠ w.heap.size + 1 := by have := hO.1; simp only [World.size_alloc] at this; omega
  refine bodyPost_ret (v := .agg #[.slice (some ⟨g, 0, none⟩) xs.length xs.length, .int .i64 c]) (by simp [results, Tryd.results8, go_sem, d1, d2]) rfl ⟨g, rfl, ?_, (hB3.setCell (by simp) _).setCell (by simp) _⟩
  have hO2 := (((hO.below (allocBelow _ _)).below hb2).below hb3).mono (lo' := w.heap.size) (by go_size)
  exact (hO2.setOther _ _ (by simp; omega)).setOther _ _ (by simp; omega)

/-- What Tighten returns. -/
def tX (xs : List Int) (c : Int) : List Int := if smR (xs, c) = true ∧ gcdL xs 0 ≠ 0 then xs.map fun x => x.tdiv (gcdL xs 0) else xs
def tC (xs : List Int) (c : Int) : Int := if smR (xs, c) = true ∧ gcdL xs 0 ≠ 0 then c / gcdL xs 0 else c
theorem Tighten_every {lo : Nat} {w : World} {v : Value} {xs : List Int} (c : Int) (h : IsInts lo w v xs) (hn : xs.length ≤ 1000) :
    Calls Tryd.prog 8 #[.agg #[v, .int .i64 c]] w fun e w' => ∃ g, e = .returned (.agg #[.slice (some ⟨g, 0, none⟩) xs.length xs.length, .int .i64 (tC xs c)]) ∧ OwnInts w.heap.size w' g (tX xs c) ∧ Below w.heap.size w w' := by
  cases hs : smR (xs, c) with
  | false =>
    rw [show tC xs c = c by simp [tC, hs], show tX xs c = xs by simp [tX, hs]]
    exact Tighten_large c h hn hs
  | true =>
    by_cases g0 : gcdL xs 0 = 0
    · rw [show tC xs c = c by simp [tC, g0], show tX xs c = xs by simp [tX, g0]]
      exact Tighten_zero c h hn hs g0
    · rw [show tC xs c = c / gcdL xs 0 by simp [tC, g0, hs], show tX xs c = xs.map fun x => x.tdiv (gcdL xs 0) by simp [tX, g0, hs]]
      exact Tighten_any c h hn hs g0
/-- A row: its coefficients and its constant. -/
abbrev Rw := List Int × Int
/-- The value v is a slice of rows that reads as rs. -/
def IsRows (lo : Nat) (w : World) (v : Value) (rs : List Rw) : Prop :=
  ∃ (a : Option Addr) (cap : Nat), v = .slice a rs.length cap ∧ rs.length ≤ cap ∧ cap ≤ maxLen ∧
    (rs = [] ∨ ∃ b off, a = some ⟨b, off, none⟩ ∧ lo ≤ b ∧ b < w.heap.size ∧
      ∀ i (hi : i < rs.length), ∃ sv, w.cell? ⟨b, off + i * 2, none⟩ = some sv ∧ w.cell? ⟨b, off + i * 2 + 1, none⟩ = some (.int .i64 rs[i].2) ∧ IsInts lo w sv rs[i].1 ∧ I64 rs[i].2)

theorem IsRows.below {lo : Nat} {w w' : World} {v : Value} {rs : List Rw} (h : IsRows lo w v rs) (hb : Below w.heap.size w w') : IsRows lo w' v rs := by
  obtain ⟨a, cap, hv, hl, hm, hc⟩ := h
  refine ⟨a, cap, hv, hl, hm, ?_⟩
  rcases hc with hc | ⟨b, off, ha, hlo, hbk, hcell⟩
  · exact .inl hc
  · refine .inr ⟨b, off, ha, hlo, Nat.lt_of_lt_of_le hbk hb.size, fun i hi => ?_⟩
    obtain ⟨sv, h1, h2, h3, h4⟩ := hcell i hi
    exact ⟨sv, (hb.cell (p := ⟨b, off + i * 2, none⟩) hbk).trans h1, (hb.cell (p := ⟨b, off + i * 2 + 1, none⟩) hbk).trans h2, h3.below hb, h4⟩

theorem take_allR {p : Rw → Bool} {xs : List Rw} {k : Nat} (h : k < xs.length) (hk : (xs.take k).all p = true) (hp : p xs[k] = true) : (xs.take (k + 1)).all p = true := by
  rw [List.take_succ_eq_append_getElem h, List.all_append, hk]; simp [hp]
theorem all_noR {p : Rw → Bool} {xs : List Rw} {k : Nat} (h : k < xs.length) (hp : p xs[k] = false) : xs.all p = false := by
  rw [List.all_eq_false]; exact ⟨xs[k], List.getElem_mem h, by simp [hp]⟩
theorem all_takeR {p : Rw → Bool} {xs : List Rw} {k : Nat} (h : k = xs.length) (hk : (xs.take k).all p = true) : xs.all p = true := by
  rw [← List.take_of_length_le (by omega : xs.length ≤ k)]; exact hk

theorem IsRows.mono {lo lo' : Nat} {w : World} {v : Value} {rs : List Rw} (h : IsRows lo w v rs) (hl : lo' ≤ lo) : IsRows lo' w v rs := by
  obtain ⟨a, cap, hv, h1, hm, hc⟩ := h
  refine ⟨a, cap, hv, h1, hm, ?_⟩
  rcases hc with hc | ⟨b, off, ha, hlo, hbk, r⟩
  · exact .inl hc
  · exact .inr ⟨b, off, ha, Nat.le_trans hl hlo, hbk, fun i hi => by obtain ⟨sv, h1, h2, h3, h4⟩ := r i hi; exact ⟨sv, h1, h2, h3.mono hl, h4⟩⟩
theorem IsRows.shape {lo : Nat} {w : World} {v : Value} {rs : List Rw} (h : IsRows lo w v rs) : ∃ a cap, v = .slice a rs.length cap := by
  obtain ⟨a, cap, hv, _⟩ := h
  exact ⟨a, cap, hv⟩
theorem IsRows.at {lo : Nat} {w : World} {a : Option Addr} {n cap : Nat} {rs : List Rw} (h : IsRows lo w (.slice a n cap) rs) (k : Nat) (hk : k < rs.length) :
    ∃ b off sv, a = some ⟨b, off, none⟩ ∧ b < w.heap.size ∧ w.cell? ⟨b, off + k * 2, none⟩ = some sv ∧ w.cell? ⟨b, off + k * 2 + 1, none⟩ = some (.int .i64 rs[k].2) ∧ IsInts lo w sv rs[k].1 ∧ I64 rs[k].2 := by
  obtain ⟨a', cap', hv, _, _, hc⟩ := h
  simp only [Value.slice.injEq] at hv
  rcases hc with rfl | ⟨b, off, ha, _, hb, hc⟩
  · simp at hk
  · obtain ⟨sv, h1, h2, h3, h4⟩ := hc k hk
    exact ⟨b, off, sv, hv.1.trans ha, hb, h1, h2, h3, h4⟩
set_option maxHeartbeats 400000 in
theorem allSmall_full (b off n cap : Nat) (w : World) (rs : List Rw) (hx : rs.length = n) (hn : n ≤ 9223372036854775807) (hb : b < w.heap.size)
    (hc : ∀ i (hi : i < rs.length), ∃ sv, w.cell? ⟨b, off + i * 2, none⟩ = some sv ∧ w.cell? ⟨b, off + i * 2 + 1, none⟩ = some (.int .i64 rs[i].2) ∧ IsInts 0 w sv rs[i].1) :
    Calls Tryd.prog 34 #[.slice (some ⟨b, off, none⟩) n cap] w fun e w' => e = .returned (.bool (rs.all smR)) ∧ Below w.heap.size w w' := by
  go_enter Tryd.func34, Tryd.ntmps34
  go_wp2_with fail
  go_loopw [7] (fun v wr => ∃ k : Nat, k ≤ n ∧ v = .int .i64 k ∧ (rs.take k).all smR = true ∧ Below w.heap.size w wr) (fun v _ => n - (intOf v).toNat)
  case atStart => exact ⟨0, Nat.zero_le _, rfl, rfl, Below.refl _ _⟩
  case round =>
    obtain ⟨k, hk, rfl, hall, hB⟩ := hrel
    have HA := hid0 hall
    have HB := hid0 hB
    by_cases h1 : k < n
    · obtain ⟨sv, q1, q2, q3⟩ := hc k (by omega)
      obtain ⟨a', cap', rfl⟩ := q3.shape
      have g1 := (hB.cell (p := ⟨b, off + k * 2, none⟩) hb).trans q1
      have g2 := (hB.cell (p := ⟨b, off + k * 2 + 1, none⟩) hb).trans q2
      have g3 := hid0 (q3.below hB)
      clear hall hB hc q1 q2 q3
      go_wp2_with (go_at_call 11; refine (small_any _ (g3.out.below (by go_grown))).mono ?_; rintro e w1 ⟨rfl, hb1⟩)
      · have hp : (!smR (rs[k]'(by omega))) = true := by assumption
        go_ret
        exact ⟨ret_bool (by rw [all_noR (k := k) (by omega) (by simpa using hp)]), thenBelow HB.out (thenBelow (allocBelow _ _) hb1)⟩
      · have hp : (!smR (rs[k]'(by omega))) = false := by assumption
        go_roundw
        case rel => exact ⟨k + 1, by omega, by go_num, take_allR (by omega) HA.out (by simpa using hp), thenBelow HB.out (thenBelow (allocBelow _ _) hb1)⟩
        case measure => simp [intOf]; omega
    · clear hall hB hc
      go_wp2_with fail
      go_ret
      exact ⟨ret_bool (by rw [all_takeR (by omega) HA.out]), HB.out⟩

theorem allSmall_empty (a : Option Addr) (cap : Nat) (w : World) :
    Calls Tryd.prog 34 #[.slice a 0 cap] w fun e w' => e = .returned (.bool (([] : List Rw).all smR)) ∧ Below w.heap.size w w' := by
  go_enter Tryd.func34, Tryd.ntmps34
  go_wp2_with fail
  refine wp_loop_rounds 1 ?_
  rw [rounds_succ]
  go_wp2_with fail
  go_ret
  exact ⟨ret_bool rfl, Below.refl _ _⟩

theorem allSmall_any {lo : Nat} {w : World} {v : Value} {rs : List Rw} (h : IsRows lo w v rs) :
    Calls Tryd.prog 34 #[v] w fun e w' => e = .returned (.bool (rs.all smR)) ∧ Below w.heap.size w w' := by
  obtain ⟨a, cap, rfl, hl, hm, hc⟩ := h
  unfold maxLen at hm
  rcases hc with rfl | ⟨b, off, rfl, _, hb, hc⟩
  · exact allSmall_empty _ _ _
  · exact allSmall_full _ _ _ _ _ _ rfl (by omega) hb fun i hi => by
      obtain ⟨sv, h1, h2, h3, h4⟩ := hc i hi
      exact ⟨sv, h1, h2, h3.mono (Nat.zero_le _)⟩

/-- The row has as many coefficients as the system has variables. -/
def lenB (vars : Int) (r : Rw) : Bool := decide ((r.1.length : Int) = vars)

/-- The error of a system with a number of variables in range. -/
def valR (vars : Int) (rs : List Rw) : Int := if rs.all (lenB vars) = false then 1 else if 192 < rs.length ∨ rs.all smR = false then 4 else 0

set_option maxHeartbeats 400000 in
theorem Validate_full (vars : Int) (b off n cap : Nat) (w : World) (rs : List Rw) (hx : rs.length = n) (hn : n ≤ 9223372036854775807) (hb : b < w.heap.size) (h0 : 0 ≤ vars) (h96 : vars ≤ 96)
    (hc : ∀ i (hi : i < rs.length), ∃ sv, w.cell? ⟨b, off + i * 2, none⟩ = some sv ∧ w.cell? ⟨b, off + i * 2 + 1, none⟩ = some (.int .i64 rs[i].2) ∧ IsInts 0 w sv rs[i].1) (HR : IsRows 0 w (.slice (some ⟨b, off, none⟩) n cap) rs) :
    Calls Tryd.prog 26 #[.agg #[.int .i64 vars, .slice (some ⟨b, off, none⟩) n cap]] w fun e w' => e = .returned (.int .i64 (valR vars rs)) ∧ Below w.heap.size w w' := by
  go_enter Tryd.func26, Tryd.ntmps26
  go_wp2_with fail
  go_loopw [16] (fun v wr => ∃ k : Nat, k ≤ n ∧ v = .int .i64 k ∧ (rs.take k).all (lenB vars) = true ∧ Below (w.alloc (.cells #[.int .i64 vars, .slice (some ⟨b, off, none⟩) n cap] 36)).heap.size (w.alloc (.cells #[.int .i64 vars, .slice (some ⟨b, off, none⟩) n cap] 36)) wr) (fun v _ => n - (intOf v).toNat)
  case atStart => exact ⟨0, Nat.zero_le _, rfl, rfl, Below.refl _ _⟩
  case round =>
    obtain ⟨k, hk, rfl, hall, hB0⟩ := hrel
    have HA := hid0 hall
    have hB := (allocBelow w _).trans (hB0.mono (by go_size))
    have HB := hid0 hB
    have HB0 := hid0 hB0
    have y0 : wr.cell? ⟨w.heap.size, 0, none⟩ = some (.int .i64 vars) := by rw [(blk hB0 (n := w.heap.size) (by go_size)).1]; simp
    have y1 : wr.cell? ⟨w.heap.size, 1, none⟩ = some (.slice (some ⟨b, off, none⟩) n cap) := by rw [(blk hB0 (n := w.heap.size) (by go_size)).1]; simp
    have hsz : w.heap.size < wr.heap.size := by have := hB0.size; simp at this; omega
    by_cases h1 : k < n
    · obtain ⟨sv, q1, q2, q3⟩ := hc k (by omega)
      obtain ⟨a', cap', rfl⟩ := q3.shape
      have g1 := (hB.cell (p := ⟨b, off + k * 2, none⟩) hb).trans q1
      have g2 := (hB.cell (p := ⟨b, off + k * 2 + 1, none⟩) hb).trans q2
      have E : Hid (lenB vars (rs[k]'(by omega)) = decide (((rs[k]'(by omega)).1.length : Int) = vars)) := (rfl : lenB vars _ = _)
      clear hall hB hB0 hc q1 q2 q3
      by_cases h2 : (((rs[k]'(by omega)).1.length : Int) = vars)
      · have E2 : Hid (lenB vars (rs[k]'(by omega)) = true) := by show _ = _; rw [E.out]; simpa using h2
        have h3 : (((rs[k]'(by omega)).1.length : Int) != vars) = false := by simpa using h2
        clear h2
        go_wp2_with fail
        go_roundw
        case rel => exact ⟨k + 1, by omega, by go_num, take_allR (by omega) HA.out E2.out, thenBelow HB0.out (allocBelow _ _)⟩
        case measure => simp [intOf]; omega
      · have E2 : Hid (lenB vars (rs[k]'(by omega)) = false) := by show _ = _; rw [E.out]; simpa using h2
        have h3 : (((rs[k]'(by omega)).1.length : Int) != vars) = true := by simpa using h2
        clear h2
        go_wp2_with fail
        go_ret
        exact ⟨ret_int (by rw [valR, all_noR (k := k) (by omega) E2.out]; rfl), thenBelow HB.out (allocBelow _ _)⟩
    · have HRr := hid0 (HR.below hB)
      have E3 : Hid (rs.all (lenB vars) = true) := all_takeR (by omega) HA.out
      have hxx : Hid (rs.length = n) := hx
      clear hall hB hB0 hc
      by_cases h4 : 192 < n
      · go_wp2_with fail
        go_ret
        exact ⟨ret_int (by rw [valR, E3.out, hxx.out]; simp [h4]), HB.out⟩
      · cases h5 : rs.all smR with
        | false =>
          go_wp2_with (go_at_call 34; refine (allSmall_any HRr.out).mono ?_; rintro e w1 ⟨rfl, hb1⟩)
          go_ret
          exact ⟨ret_int (by rw [valR, E3.out, h5]; simp), thenBelow HB.out hb1⟩
        | true =>
          go_wp2_with (go_at_call 34; refine (allSmall_any HRr.out).mono ?_; rintro e w1 ⟨rfl, hb1⟩)
          go_ret
          exact ⟨ret_int (by rw [valR, E3.out, hxx.out, h5]; simp [h4]), thenBelow HB.out hb1⟩

theorem Validate_empty (vars : Int) (a : Option Addr) (cap : Nat) (w : World) (h0 : 0 ≤ vars) (h96 : vars ≤ 96) :
    Calls Tryd.prog 26 #[.agg #[.int .i64 vars, .slice a 0 cap]] w fun e w' => e = .returned (.int .i64 (valR vars [])) ∧ Below w.heap.size w w' := by
  go_enter Tryd.func26, Tryd.ntmps26
  go_wp2_with fail
  refine wp_loop_rounds 1 ?_
  rw [rounds_succ]
  go_wp2_with (go_at_call 34; refine (allSmall_empty _ _ _).mono ?_; rintro e w1 ⟨rfl, hb1⟩)
  go_ret
  exact ⟨ret_int rfl, thenBelow (allocBelow _ _) hb1⟩

theorem Validate_out (vars : Int) (a : Option Addr) (n cap : Nat) (w : World) (h0 : vars < 0 ∨ 96 < vars) :
    Calls Tryd.prog 26 #[.agg #[.int .i64 vars, .slice a n cap]] w fun e w' => e = .returned (.int .i64 1) ∧ Below w.heap.size w w' := by
  rcases h0 with h0 | h0
  · go_enter Tryd.func26, Tryd.ntmps26
    go_wp2_with fail
    go_ret
    exact ⟨rfl, allocBelow _ _⟩
  · have h1 : ¬ vars < 0 := by omega
    go_enter Tryd.func26, Tryd.ntmps26
    go_wp2_with fail
    go_ret
    exact ⟨rfl, allocBelow _ _⟩

/-- Which error Validate names. -/
def valS (vars : Int) (rs : List Rw) : Int := if vars < 0 ∨ 96 < vars then 1 else valR vars rs
theorem Validate_any {lo : Nat} {w : World} {v : Value} {rs : List Rw} (vars : Int) (h : IsRows lo w v rs) :
    Calls Tryd.prog 26 #[.agg #[.int .i64 vars, v]] w fun e w' => e = .returned (.int .i64 (valS vars rs)) ∧ Below w.heap.size w w' := by
  have H := h.mono (Nat.zero_le _)
  obtain ⟨a, cap, rfl, hl, hm, hc⟩ := H
  unfold maxLen at hm
  by_cases h0 : vars < 0 ∨ 96 < vars
  · rw [valS, if_pos h0]
    exact Validate_out _ _ _ _ _ h0
  · rw [valS, if_neg h0]
    rcases hc with rfl | ⟨b, off, rfl, _, hb, hc⟩
    · exact Validate_empty _ _ _ _ (by omega) (by omega)
    · exact Validate_full _ _ _ _ _ _ _ rfl (by omega) hb (by omega) (by omega) (fun i hi => by obtain ⟨sv, h1, h2, h3, h4⟩ := hc i hi; exact ⟨sv, h1, h2, h3⟩) (h.mono (Nat.zero_le _))

/-- A row holds at a point. -/
def holdB (ys : List Int) (r : Rw) : Bool := decide (0 ≤ r.2 + dot r.1 ys)
/-- Whether a point satisfies a system. -/
def satS (vars : Int) (rs : List Rw) (ys : List Int) : Bool := decide (valS vars rs = 0) && decide ((ys.length : Int) = vars) && ys.all coB && rs.all (holdB ys)

theorem valS_zero {vars : Int} {rs : List Rw} : valS vars rs = 0 ↔ (0 ≤ vars ∧ vars ≤ 96) ∧ rs.all (lenB vars) = true ∧ rs.all smR = true ∧ rs.length ≤ 192 := by
  unfold valS valR
  by_cases h : vars < 0 ∨ 96 < vars
  · rw [if_pos h]; constructor
    · intro e; cases e
    · intro e; omega
  · rw [if_neg h]
    cases h1 : rs.all (lenB vars)
    · simp
    · cases h2 : rs.all smR
      · simp
      · by_cases h3 : 192 < rs.length
        · simp [h3]
        · simp [h3]; omega

set_option maxHeartbeats 800000 in
theorem Satisfies_full {lo' : Nat} (vars : Int) (b off n cap : Nat) (w : World) (rs : List Rw) (v' : Value) (ys : List Int) (hx : rs.length = n) (hn : n ≤ 9223372036854775807) (hb : b < w.heap.size)
    (hc : ∀ i (hi : i < rs.length), ∃ sv, w.cell? ⟨b, off + i * 2, none⟩ = some sv ∧ w.cell? ⟨b, off + i * 2 + 1, none⟩ = some (.int .i64 rs[i].2) ∧ IsInts 0 w sv rs[i].1) (HR : IsRows 0 w (.slice (some ⟨b, off, none⟩) n cap) rs) (h' : IsInts lo' w v' ys)
    (hv : valS vars rs = 0) (hl : (ys.length : Int) = vars) (hp : ys.all coB = true) :
    Calls Tryd.prog 10 #[.agg #[.int .i64 vars, .slice (some ⟨b, off, none⟩) n cap], v'] w fun e w' => e = .returned (.bool (rs.all (holdB ys))) ∧ Below w.heap.size w w' := by
  obtain ⟨a, cap', rfl⟩ := h'.shape
  have HL := hid0 hl
  have HS := hid0 (valS_zero.1 hv)
  have HP := hid0 hp
  have HR' := hid0 HR
  have H' := hid0 h'
  have hl' : ((ys.length : Int) != vars) = false := by simp; omega
  clear hl HR h'
  go_enter Tryd.func10, Tryd.ntmps10
  go_wp2_with (first | (go_at_call 26; refine (Validate_any _ (HR'.out.below (by go_grown))).mono ?_; rintro e w1 ⟨rfl, hb1⟩; have hB1 : Below w.heap.size w w1 := (thenBelow (allocBelow _ _) hb1); obtain ⟨p1, p2⟩ := blk hb1 (n := w.heap.size) (by go_size)) | (go_at_call 24; refine (isPoint_any (H'.out.below (by go_grown))).mono ?_; rintro e w' ⟨rfl, rfl⟩))
  have HB1 := hid0 hB1
  clear hp hl' p1 p2 hb1 hB1 hv
  go_loopw [25] (fun v wr => ∃ k : Nat, k ≤ n ∧ v = .int .i64 k ∧ (rs.take k).all (holdB ys) = true ∧ Below w1.heap.size w1 wr) (fun v _ => n - (intOf v).toNat)
  case atStart => exact ⟨0, Nat.zero_le _, rfl, rfl, Below.refl _ _⟩
  case round =>
    obtain ⟨k, hk, rfl, hall, hB0⟩ := hrel
    have HA := hid0 hall
    have HB0 := hid0 hB0
    have HB := hid0 (thenBelow HB1.out hB0)
    by_cases h1 : k < n
    · obtain ⟨sv, q1, q2, q3⟩ := hc k (by omega)
      obtain ⟨a', cap', rfl⟩ := q3.shape
      have g1 := (HB.out.cell (p := ⟨b, off + k * 2, none⟩) hb).trans q1
      have g2 := (HB.out.cell (p := ⟨b, off + k * 2 + 1, none⟩) hb).trans q2
      have Q3 := hid0 (q3.below HB.out)
      have P3 := hid0 (H'.out.below HB.out)
      have S1 := hid0 (smR_true.1 (List.all_eq_true.1 HS.out.2.2.1 _ (List.getElem_mem (by omega : k < rs.length))))
      have S2 : Hid (((rs[k]'(by omega)).1.length : Int) = vars) := by
        have := List.all_eq_true.1 HS.out.2.1 _ (List.getElem_mem (by omega : k < rs.length))
        show _ = _
        simpa [lenB] using this
      have S3 : Hid ((rs[k]'(by omega)).1.length = ys.length) := by show _ = _; have := S2.out; have := HL.out; omega
      have S4 : Hid ((rs[k]'(by omega)).1.length ≤ 96) := by show _ ≤ _; have := S2.out; have := HS.out.1; omega
      have E : Hid (holdB ys (rs[k]'(by omega)) = decide (0 ≤ (rs[k]'(by omega)).2 + dot (rs[k]'(by omega)).1 ys)) := (rfl : holdB ys _ = _)
      clear hall hB0 hc q1 q2 q3
      by_cases h2 : (rs[k]'(by omega)).2 + dot (rs[k]'(by omega)).1 ys < 0
      · have E2 : Hid (holdB ys (rs[k]'(by omega)) = false) := by show _ = _; rw [E.out]; simp; omega
        go_wp2_with (go_at_call 25; refine (valueAt_any _ (Q3.out.below (by go_grown)) (P3.out.below (by go_grown)) S3.out S4.out S1.out.1 HP.out S1.out.2).mono ?_; rintro e w2 ⟨rfl, hb2⟩)
        go_ret
        exact ⟨ret_bool (by rw [all_noR (k := k) (by omega) E2.out]), thenBelow HB.out (thenBelow (allocBelow _ _) hb2)⟩
      · have E2 : Hid (holdB ys (rs[k]'(by omega)) = true) := by show _ = _; rw [E.out]; simp; omega
        go_wp2_with (go_at_call 25; refine (valueAt_any _ (Q3.out.below (by go_grown)) (P3.out.below (by go_grown)) S3.out S4.out S1.out.1 HP.out S1.out.2).mono ?_; rintro e w2 ⟨rfl, hb2⟩)
        go_roundw
        case rel => exact ⟨k + 1, by omega, by go_num, take_allR (by omega) HA.out E2.out, thenBelow HB0.out (thenBelow (allocBelow _ _) hb2)⟩
        case measure => simp [intOf]; omega
    · clear hall hB0 hc
      go_wp2_with fail
      go_ret
      exact ⟨ret_bool (by rw [all_takeR (by omega) HA.out]), HB.out⟩

set_option maxHeartbeats 800000 in
theorem Satisfies_no {lo lo' : Nat} (vars : Int) (w : World) (v v' : Value) (rs : List Rw) (ys : List Int) (HR : IsRows lo w v rs) (h' : IsInts lo' w v' ys)
    (hno : valS vars rs ≠ 0 ∨ (valS vars rs = 0 ∧ (ys.length : Int) ≠ vars) ∨ (valS vars rs = 0 ∧ (ys.length : Int) = vars ∧ ys.all coB = false)) :
    Calls Tryd.prog 10 #[.agg #[.int .i64 vars, v], v'] w fun e w' => e = .returned (.bool false) ∧ Below w.heap.size w w' := by
  obtain ⟨a, cap, rfl⟩ := HR.shape
  obtain ⟨a', cap', rfl⟩ := h'.shape
  have HR' := hid0 HR
  have H' := hid0 h'
  clear HR h'
  rcases hno with hv | ⟨hv, hl⟩ | ⟨hv, hl, hp⟩
  · have hv' : (valS vars rs != 0) = true := by simpa using hv
    clear hv
    go_enter Tryd.func10, Tryd.ntmps10
    go_wp2_with (first | (go_at_call 26; refine (Validate_any _ (HR'.out.below (by go_grown))).mono ?_; rintro e w1 ⟨rfl, hb1⟩; have hB1 : Below w.heap.size w w1 := (thenBelow (allocBelow _ _) hb1); obtain ⟨p1, p2⟩ := blk hb1 (n := w.heap.size) (by go_size)) | (go_at_call 24; refine (isPoint_any (H'.out.below (by go_grown))).mono ?_; rintro e w' ⟨rfl, rfl⟩))
    go_ret
    exact ⟨rfl, by assumption⟩
  · have hv' : (valS vars rs != 0) = false := by simpa using hv
    have hl' : ((ys.length : Int) != vars) = true := by simpa using hl
    clear hv hl
    go_enter Tryd.func10, Tryd.ntmps10
    go_wp2_with (first | (go_at_call 26; refine (Validate_any _ (HR'.out.below (by go_grown))).mono ?_; rintro e w1 ⟨rfl, hb1⟩; have hB1 : Below w.heap.size w w1 := (thenBelow (allocBelow _ _) hb1); obtain ⟨p1, p2⟩ := blk hb1 (n := w.heap.size) (by go_size)) | (go_at_call 24; refine (isPoint_any (H'.out.below (by go_grown))).mono ?_; rintro e w' ⟨rfl, rfl⟩))
    go_ret
    exact ⟨rfl, by assumption⟩
  · have hv' : (valS vars rs != 0) = false := by simpa using hv
    have hl' : ((ys.length : Int) != vars) = false := by simpa using hl
    clear hv hl
    go_enter Tryd.func10, Tryd.ntmps10
    go_wp2_with (first | (go_at_call 26; refine (Validate_any _ (HR'.out.below (by go_grown))).mono ?_; rintro e w1 ⟨rfl, hb1⟩; have hB1 : Below w.heap.size w w1 := (thenBelow (allocBelow _ _) hb1); obtain ⟨p1, p2⟩ := blk hb1 (n := w.heap.size) (by go_size)) | (go_at_call 24; refine (isPoint_any (H'.out.below (by go_grown))).mono ?_; rintro e w' ⟨rfl, rfl⟩))
    go_ret
    exact ⟨rfl, by assumption⟩

set_option maxHeartbeats 800000 in
theorem Satisfies_empty {lo' : Nat} (vars : Int) (w : World) (a : Option Addr) (cap : Nat) (v' : Value) (ys : List Int) (HR : IsRows 0 w (.slice a 0 cap) []) (h' : IsInts lo' w v' ys)
    (hv : valS vars [] = 0) (hl : (ys.length : Int) = vars) (hp : ys.all coB = true) :
    Calls Tryd.prog 10 #[.agg #[.int .i64 vars, .slice a 0 cap], v'] w fun e w' => e = .returned (.bool (([] : List Rw).all (holdB ys))) ∧ Below w.heap.size w w' := by
  obtain ⟨a', cap', rfl⟩ := h'.shape
  have HR' := hid0 HR
  have H' := hid0 h'
  have hl' : ((ys.length : Int) != vars) = false := by simpa using hl
  clear hl HR h'
  go_enter Tryd.func10, Tryd.ntmps10
  go_wp2_with (first | (go_at_call 26; refine (Validate_any _ (HR'.out.below (by go_grown))).mono ?_; rintro e w1 ⟨rfl, hb1⟩; have hB1 : Below w.heap.size w w1 := (thenBelow (allocBelow _ _) hb1); obtain ⟨p1, p2⟩ := blk hb1 (n := w.heap.size) (by go_size)) | (go_at_call 24; refine (isPoint_any (H'.out.below (by go_grown))).mono ?_; rintro e w' ⟨rfl, rfl⟩))
  refine wp_loop_rounds 1 ?_
  rw [rounds_succ]
  go_wp2_with fail
  go_ret
  exact ⟨ret_bool rfl, hB1⟩

theorem Satisfies_any {lo lo' : Nat} {w : World} {v v' : Value} {rs : List Rw} {ys : List Int} (vars : Int) (h : IsRows lo w v rs) (h' : IsInts lo' w v' ys) :
    Calls Tryd.prog 10 #[.agg #[.int .i64 vars, v], v'] w fun e w' => e = .returned (.bool (satS vars rs ys)) ∧ Below w.heap.size w w' := by
  by_cases hv : valS vars rs = 0
  · by_cases hl : (ys.length : Int) = vars
    · cases hp : ys.all coB with
      | false =>
        rw [show satS vars rs ys = false by simp only [satS, hp]; simp]
        exact Satisfies_no vars w v v' rs ys h h' (.inr (.inr ⟨hv, hl, hp⟩))
      | true =>
        rw [show satS vars rs ys = rs.all (holdB ys) by simp only [satS, hp, hv, hl]; simp]
        have H := h.mono (Nat.zero_le _)
        obtain ⟨a, cap, rfl, _, hm, hc⟩ := H
        unfold maxLen at hm
        rcases hc with rfl | ⟨b, off, rfl, _, hb, hc⟩
        · exact Satisfies_empty vars w a cap v' ys (h.mono (Nat.zero_le _)) h' hv hl hp
        · exact Satisfies_full vars b off _ _ w rs v' ys rfl (by omega) hb (fun i hi => by obtain ⟨sv, h1, h2, h3, h4⟩ := hc i hi; exact ⟨sv, h1, h2, h3⟩) (h.mono (Nat.zero_le _)) h' hv hl hp
    · rw [show satS vars rs ys = false by simp [satS, hl]]
      exact Satisfies_no vars w v v' rs ys h h' (.inr (.inl ⟨hv, hl⟩))
  · rw [show satS vars rs ys = false by simp [satS, hv]]
    exact Satisfies_no vars w v v' rs ys h h' (.inl hv)
end Go.Proofs.YtlopmmedokllaaaDoor
namespace Go.Proofs.YtlopmmedokllaaaDoor
open Go.RowKit Go.Shelf
def renB : Go.Shelf.Ren := ⟨fun | 240 => 29 | 276 => 36 | 166 => 16 | 170 => 14 | 169 => 17 | n => n, fun | 0 => 0 | 3 => 3 | 4 => 4 | 5 => 5 | 9 => 9 | 20 => 20 | 37 => 38 | 70 => 37 | 72 => 40 | 75 => 46 | 80 => 49 | 127 => 57 | 164 => 62 | n => n, fun | n => n⟩
theorem laysB166 : Go.Proofs.Lays.n166 Tryd.prog renB := {
  mixed := by kernel_rfl
  f166 := Tryd.func16.trans (congrArg some (by kernel_rfl))
  f240 := Tryd.func29.trans (congrArg some (by kernel_rfl))
  f276 := Tryd.func36.trans (congrArg some (by kernel_rfl))
  t0 := Tryd.underlying0
  a0 := Tryd.isAgg0
  z0 := Tryd.sizeOf0
  v0 := Tryd.zeroValue0
  t3 := Tryd.underlying3
  a3 := Tryd.isAgg3
  z3 := Tryd.sizeOf3
  v3 := Tryd.zeroValue3
  t4 := Tryd.underlying4
  a4 := Tryd.isAgg4
  z4 := Tryd.sizeOf4
  v4 := Tryd.zeroValue4
  t9 := Tryd.underlying9
  a9 := Tryd.isAgg9
  z9 := Tryd.sizeOf9
  v9 := Tryd.zeroValue9
  t20 := Tryd.underlying20
  a20 := Tryd.isAgg20
  z20 := Tryd.sizeOf20
  v20 := Tryd.zeroValue20
  t37 := Tryd.underlying38
  a37 := Tryd.isAgg38
  z37 := Tryd.sizeOf38
  v37 := Tryd.zeroValue38
  t70 := Tryd.underlying37
  a70 := Tryd.isAgg37
  z70 := Tryd.sizeOf37
  v70 := Tryd.zeroValue37
  t72 := Tryd.underlying40
  a72 := Tryd.isAgg40
  z72 := Tryd.sizeOf40
  v72 := Tryd.zeroValue40
  t75 := Tryd.underlying46
  a75 := Tryd.isAgg46
  z75 := Tryd.sizeOf46
  v75 := Tryd.zeroValue46
  t164 := Tryd.underlying62
  a164 := Tryd.isAgg62
  z164 := Tryd.sizeOf62
  v164 := Tryd.zeroValue62 }
theorem laysB170 : Go.Proofs.Lays.n170 Tryd.prog renB := {
  mixed := by kernel_rfl
  f170 := Tryd.func14.trans (congrArg some (by kernel_rfl))
  t0 := Tryd.underlying0
  a0 := Tryd.isAgg0
  z0 := Tryd.sizeOf0
  v0 := Tryd.zeroValue0
  t3 := Tryd.underlying3
  a3 := Tryd.isAgg3
  z3 := Tryd.sizeOf3
  v3 := Tryd.zeroValue3
  t37 := Tryd.underlying38
  a37 := Tryd.isAgg38
  z37 := Tryd.sizeOf38
  v37 := Tryd.zeroValue38
  t70 := Tryd.underlying37
  a70 := Tryd.isAgg37
  z70 := Tryd.sizeOf37
  v70 := Tryd.zeroValue37
  t72 := Tryd.underlying40
  a72 := Tryd.isAgg40
  z72 := Tryd.sizeOf40
  v72 := Tryd.zeroValue40 }
theorem laysB169 : Go.Proofs.Lays.n169 Tryd.prog renB := {
  mixed := by kernel_rfl
  f169 := Tryd.func17.trans (congrArg some (by kernel_rfl))
  t0 := Tryd.underlying0
  a0 := Tryd.isAgg0
  z0 := Tryd.sizeOf0
  v0 := Tryd.zeroValue0
  t3 := Tryd.underlying3
  a3 := Tryd.isAgg3
  z3 := Tryd.sizeOf3
  v3 := Tryd.zeroValue3
  t9 := Tryd.underlying9
  a9 := Tryd.isAgg9
  z9 := Tryd.sizeOf9
  v9 := Tryd.zeroValue9
  t37 := Tryd.underlying38
  a37 := Tryd.isAgg38
  z37 := Tryd.sizeOf38
  v37 := Tryd.zeroValue38
  t70 := Tryd.underlying37
  a70 := Tryd.isAgg37
  z70 := Tryd.sizeOf37
  v70 := Tryd.zeroValue37
  t72 := Tryd.underlying40
  a72 := Tryd.isAgg40
  z72 := Tryd.sizeOf40
  v72 := Tryd.zeroValue40
  t127 := Tryd.underlying57
  a127 := Tryd.isAgg57
  z127 := Tryd.sizeOf57
  v127 := Tryd.zeroValue57 }
theorem extraB : Builder.Extra Tryd.prog renB := {
  sizeBuilder := by kernel_rfl
  liesBuilder := by kernel_rfl
  t5 := Tryd.underlying5
  a5 := Tryd.isAgg5
  z5 := Tryd.sizeOf5
  v5 := Tryd.zeroValue5
  infoByte := by kernel_rfl
  cellsByte := by kernel_rfl
  sizeByte := by kernel_rfl
  neB5 := by decide }

theorem B_Len (B b : Nat) (bs : List Value) (w : World) (h : Lib.IsBuilder 40 5 B b bs w) :
    Calls Tryd.prog 14 #[.pointer (some ⟨b, 0, none⟩)] w fun e w' => e = .returned (.int .i64 bs.length) ∧ w' = w := Any.Builder_Len laysB170 B b bs w h
theorem B_WriteString (B b : Nat) (bs : List Value) (s : ByteArray) (w : World) (h : Lib.IsBuilder 40 5 B b bs w) (hlen : bs.length + s.size ≤ 140737488355328) (hBw : B ≤ w.heap.size) :
    Calls Tryd.prog 16 #[.pointer (some ⟨b, 0, none⟩), .string s] w fun e w' => e = .returned (.tuple #[.int .i64 s.size, .nilIface]) ∧ (Lib.BuilderAt 40 5 B b (.pointer (some ⟨b, 0, none⟩)) (bs ++ Lib.strCells s) w' ∧ Below B w w') := Any.Builder_WriteString laysB166 extraB B b bs s w h hlen hBw
theorem B_String (B b : Nat) (l : List UInt8) (w : World) (h : Lib.IsBuilder 40 5 B b (Lib.byteCells l) w) (h0 : l ≠ []) :
    Calls Tryd.prog 17 #[.pointer (some ⟨b, 0, none⟩)] w fun e w' => e = .returned (.string ⟨l.toArray⟩) ∧ Below B w w' := Any.Builder_String laysB169 extraB B b l w h h0

theorem itoa0 (w : World) : Calls Tryd.prog 15 #[.int .i64 0] w fun e w' => e = .returned (.string ⟨#[48]⟩) ∧ w = w' := by
  go_enter Tryd.func15, Tryd.ntmps15
  go_wp2
  go_ret
  exact ⟨by rfl, rfl⟩
theorem itoa1 (w : World) : Calls Tryd.prog 15 #[.int .i64 1] w fun e w' => e = .returned (.string ⟨#[49]⟩) ∧ w = w' := by
  go_enter Tryd.func15, Tryd.ntmps15
  go_wp2
  go_ret
  exact ⟨by rfl, rfl⟩
theorem itoa2 (w : World) : Calls Tryd.prog 15 #[.int .i64 2] w fun e w' => e = .returned (.string ⟨#[50]⟩) ∧ w = w' := by
  go_enter Tryd.func15, Tryd.ntmps15
  go_wp2
  go_ret
  exact ⟨by rfl, rfl⟩
theorem itoa3 (w : World) : Calls Tryd.prog 15 #[.int .i64 3] w fun e w' => e = .returned (.string ⟨#[51]⟩) ∧ w = w' := by
  go_enter Tryd.func15, Tryd.ntmps15
  go_wp2
  go_ret
  exact ⟨by rfl, rfl⟩
set_option maxRecDepth 100000 in
theorem term20 (w : World) : Calls Tryd.prog 13 #[.int .i64 2, .int .i64 0] w fun e w' => e = .returned (.string ⟨#[50, 42, 120, 48]⟩) ∧ w = w' := by
  have hmx : (max 2 (-2) : Int) = 2 := rfl
  go_enter Tryd.func13, Tryd.ntmps13
  go_wp2_with (first | ((with_reducible refine (itoa0 _).mono ?_); rintro e w' ⟨rfl, rfl⟩) | ((with_reducible refine (itoa2 _).mono ?_); rintro e w' ⟨rfl, rfl⟩))
  go_ret
  exact ⟨by rfl, rfl⟩
set_option maxRecDepth 100000 in
theorem term11 (w : World) : Calls Tryd.prog 13 #[.int .i64 (-1), .int .i64 1] w fun e w' => e = .returned (.string ⟨#[120, 49]⟩) ∧ w = w' := by
  go_enter Tryd.func13, Tryd.ntmps13
  go_wp2_with ((with_reducible refine (itoa1 _).mono ?_); rintro e w' ⟨rfl, rfl⟩)
  go_ret
  exact ⟨by rfl, rfl⟩

theorem B_Len' (B b : Nat) (l : List UInt8) (w : World) (h : Lib.IsBuilder 40 5 B b (Lib.byteCells l) w) :
    Calls Tryd.prog 14 #[.pointer (some ⟨b, 0, none⟩)] w fun e w' => e = .returned (.int .i64 l.length) ∧ w = w' :=
  (B_Len B b _ w h).mono fun e w' hh => ⟨by rw [hh.1, Lib.byteCells_length], hh.2.symm⟩
theorem B_Write' (B b : Nat) (l : List UInt8) (s : ByteArray) (w : World) (h : Lib.IsBuilder 40 5 B b (Lib.byteCells l) w) (hlen : l.length + s.size ≤ 200000) (hBw : B ≤ w.heap.size) :
    Calls Tryd.prog 16 #[.pointer (some ⟨b, 0, none⟩), .string s] w fun e w' => e = .returned (.tuple #[.int .i64 s.size, .nilIface]) ∧ Hid (Lib.IsBuilder 40 5 B b (Lib.byteCells (l ++ s.data.toList)) w') ∧ Below B w w' :=
  (B_WriteString B b _ s w h (by rw [Lib.byteCells_length]; omega) hBw).mono fun e w' hh => ⟨hh.1, by show Lib.IsBuilder _ _ _ _ _ _; rw [Lib.byteCells_append, ← Lib.strCells_eq]; exact .inr hh.2.1, hh.2.2⟩

/-- writeItem: the sign as the place asks for it, then the item. -/
def signOf (c : Int) (l : List UInt8) : List UInt8 := if l = [] then (if c < 0 then [45] else []) else if c < 0 then [32, 45, 32] else [32, 43, 32]
set_option maxHeartbeats 800000 in
theorem writeItem_any (B b : Nat) (l : List UInt8) (c : Int) (s : ByteArray) (w : World) (h : Lib.IsBuilder 40 5 B b (Lib.byteCells l) w) (hlen : l.length + s.size ≤ 100000) (hBw : B ≤ w.heap.size) :
    Calls Tryd.prog 12 #[.pointer (some ⟨b, 0, none⟩), .int .i64 c, .string s] w fun e w' => e = .returned (.tuple #[]) ∧ Hid (Lib.IsBuilder 40 5 B b (Lib.byteCells (l ++ signOf c l ++ s.data.toList)) w') ∧ Below B w w' := by
  have H := hid0 h
  clear h
  by_cases hl : l = []
  · subst hl
    by_cases hc : c < 0
    · have E : Hid (signOf c [] = [45]) := by show _ = _; simp [signOf, hc]
      simp only [List.length_nil] at hlen
      go_enter Tryd.func12, Tryd.ntmps12
      go_wp2_with (first | (go_at_call 14; (with_reducible refine (B_Len' B b [] _ H.out).mono ?_); rintro e w' ⟨rfl, rfl⟩) | ((with_reducible refine (B_Write' B b [] _ _ H.out (by decide) hBw).mono ?_); rintro e w1 ⟨rfl, H1, hb1⟩; have hBw1 : B ≤ w1.heap.size := Nat.le_trans hBw hb1.size) | ((with_reducible refine (B_Write' B b _ _ _ H1.out (by simp; omega) hBw1).mono ?_); rintro e w2 ⟨rfl, H2, hb2⟩))
      go_end0
      exact ⟨rfl, by rw [E.out]; exact H2.out, hb1.trans hb2⟩
    · have E : Hid (signOf c [] = []) := by show _ = _; simp [signOf, hc]
      simp only [List.length_nil] at hlen
      go_enter Tryd.func12, Tryd.ntmps12
      go_wp2_with (first | (go_at_call 14; (with_reducible refine (B_Len' B b [] _ H.out).mono ?_); rintro e w' ⟨rfl, rfl⟩) | ((with_reducible refine (B_Write' B b [] _ _ H.out (by simp; omega) hBw).mono ?_); rintro e w1 ⟨rfl, H1, hb1⟩; have hBw1 : B ≤ w1.heap.size := Nat.le_trans hBw hb1.size))
      go_end0
      exact ⟨rfl, by rw [E.out]; exact H1.out, hb1⟩
  · have hl0 : 0 < l.length := by cases l with | nil => exact absurd rfl hl | cons x xs => simp
    have hl1 : (((l.length : Nat) : Int) == 0) = false := by simp; omega
    by_cases hc : c < 0
    · have E : Hid (signOf c l = [32, 45, 32]) := by show _ = _; simp [signOf, hc, hl]
      clear hl
      go_enter Tryd.func12, Tryd.ntmps12
      go_wp2_with (first | (go_at_call 14; (with_reducible refine (B_Len' B b l _ H.out).mono ?_); rintro e w' ⟨rfl, rfl⟩) | ((with_reducible refine (B_Write' B b l _ _ H.out (by (have : l.length ≤ 100000 := by omega); exact Nat.add_le_add this (by decide : _ ≤ 100000)) hBw).mono ?_); rintro e w1 ⟨rfl, H1, hb1⟩; have hBw1 : B ≤ w1.heap.size := Nat.le_trans hBw hb1.size) | ((with_reducible refine (B_Write' B b _ _ _ H1.out (by simp; omega) hBw1).mono ?_); rintro e w2 ⟨rfl, H2, hb2⟩))
      go_end0
      exact ⟨rfl, by rw [E.out]; exact H2.out, hb1.trans hb2⟩
    · have E : Hid (signOf c l = [32, 43, 32]) := by show _ = _; simp [signOf, hc, hl]
      clear hl
      go_enter Tryd.func12, Tryd.ntmps12
      go_wp2_with (first | (go_at_call 14; (with_reducible refine (B_Len' B b l _ H.out).mono ?_); rintro e w' ⟨rfl, rfl⟩) | ((with_reducible refine (B_Write' B b l _ _ H.out (by (have : l.length ≤ 100000 := by omega); exact Nat.add_le_add this (by decide : _ ≤ 100000)) hBw).mono ?_); rintro e w1 ⟨rfl, H1, hb1⟩; have hBw1 : B ≤ w1.heap.size := Nat.le_trans hBw hb1.size) | ((with_reducible refine (B_Write' B b _ _ _ H1.out (by simp; omega) hBw1).mono ?_); rintro e w2 ⟨rfl, H2, hb2⟩))
      go_end0
      exact ⟨rfl, by rw [E.out]; exact H2.out, hb1.trans hb2⟩

set_option maxHeartbeats 1600000 in
set_option maxRecDepth 100000 in
theorem format_known (b off cap : Nat) (w : World) (hb : b < w.heap.size) (hi : IsInts 0 w (.slice (some ⟨b, off, none⟩) 3 cap) [2, -1, 0])
    (c0 : w.cell? ⟨b, off, none⟩ = some (.int .i64 2)) (c1 : w.cell? ⟨b, off + 1, none⟩ = some (.int .i64 (-1))) (c2 : w.cell? ⟨b, off + 2, none⟩ = some (.int .i64 0)) :
    Calls Tryd.prog 6 #[.agg #[.slice (some ⟨b, off, none⟩) 3 cap, .int .i64 (-3)]] w fun e w' => e = .returned (.tuple #[.string ⟨#[50, 42, 120, 48, 32, 45, 32, 120, 49, 32, 45, 32, 51, 32, 62, 61, 32, 48]⟩, .int .i64 0]) ∧ Below w.heap.size w w' := by
  have HI := hid0 hi
  have S : smR ([2, -1, 0], -3) = true := by decide
  clear hi
  go_enter Tryd.func6, Tryd.ntmps6
  go_wp2_with (first | (go_at_call 11; refine (small_any _ (HI.out.below (by go_grown))).mono ?_; rintro e w1 ⟨rfl, hb1⟩; have hB1 : Below w.heap.size w w1 := (thenBelow (allocBelow _ _) hb1); obtain ⟨p1, p2⟩ := blk hb1 (n := w.heap.size) (by go_size); have hz1 : w.heap.size < w1.heap.size := (by have := hb1.size; simp at this; omega)))
  have hW1 : Below w1.heap.size w1 (w1.alloc (.cells #[.pointer none, .slice none 0 0] 40)) := allocBelow _ _
  have HF := hid0 (Lib.fresh_isBuilder 40 5 w1)
  have g0 : (w1.alloc (.cells #[.pointer none, .slice none 0 0] 40)).cell? ⟨b, off, none⟩ = some (.int .i64 2) := ((thenBelow hB1 hW1).cell (p := ⟨b, off, none⟩) hb).trans c0
  have y0 : (w1.alloc (.cells #[.pointer none, .slice none 0 0] 40)).cell? ⟨w.heap.size, 1, none⟩ = some (.int .i64 (-3)) := by rw [World.cell?_alloc_past _ _ _ (by simpa using hz1), p1]; simp
  refine wp_loop_rounds 4 ?_
  rw [rounds_succ]
  go_wp2_with (first | ((with_reducible refine (term20 _).mono ?_); rintro e w' ⟨rfl, rfl⟩) | (go_at_call 12; refine (writeItem_any w1.heap.size w1.heap.size [] _ _ _ HF.out (by decide) (by go_size)).mono ?_; rintro e v1 ⟨rfl, K1, hv1⟩))
  have HV1 : Below w1.heap.size w1 v1 := hW1.trans hv1
  have g1 : v1.cell? ⟨b, off + 1, none⟩ = some (.int .i64 (-1)) := ((thenBelow hB1 HV1).cell (p := ⟨b, off + 1, none⟩) hb).trans c1
  rw [rounds_succ]
  go_wp2_with (first | ((with_reducible refine (term11 _).mono ?_); rintro e w' ⟨rfl, rfl⟩) | (go_at_call 12; refine (writeItem_any w1.heap.size w1.heap.size _ _ _ _ K1.out (by decide) HV1.size).mono ?_; rintro e v2 ⟨rfl, K2, hv2⟩))
  have HV2 : Below w1.heap.size w1 v2 := HV1.trans hv2
  have g2 : v2.cell? ⟨b, off + 2, none⟩ = some (.int .i64 0) := ((thenBelow hB1 HV2).cell (p := ⟨b, off + 2, none⟩) hb).trans c2
  rw [rounds_succ]
  go_wp2_with fail
  have y2 : v2.cell? ⟨w.heap.size, 1, none⟩ = some (.int .i64 (-3)) := ((hv1.trans hv2).cell (p := ⟨w.heap.size, 1, none⟩) hz1).trans y0
  have hmx : (max (-3) 3 : Int) = 3 := rfl
  rw [rounds_succ]
  go_wp2_with fail
  have KD1 : Hid (Lib.IsBuilder 40 5 w1.heap.size w1.heap.size (Lib.byteCells ([] ++ signOf 2 [] ++ (⟨#[50, 42, 120, 48]⟩ : ByteArray).data.toList ++ signOf (-1) ([] ++ signOf 2 [] ++ (⟨#[50, 42, 120, 48]⟩ : ByteArray).data.toList) ++ (⟨#[120, 49]⟩ : ByteArray).data.toList)) v2.drew) := K2.out
  have hw3 : IntKind.i64.wrap 3 = 3 := IntWalk.i64_in _ (by omega)
  refine wp_region_still_tail 9 (by kernel_rfl) (by kernel_rfl) ?_
  simp only [List.take_succ_cons, List.take_zero, List.drop_succ_cons, List.drop_zero]
  change wpStill _ _ v2.drew _ _ _
  have y3 : v2.drew.cell? ⟨w.heap.size, 1, none⟩ = some (.int .i64 (-3)) := y2
  iterate 8 still_step
  still_call ((itoa3 _).mono fun _ _ hh => ⟨hh.1, hh.2.symm⟩)
  refine wpStill_nil ?_
  go_wp2_with (first | (go_at_call 12; refine (writeItem_any w1.heap.size w1.heap.size _ _ _ _ KD1.out (by decide) HV2.size).mono ?_; rintro e v3 ⟨rfl, K3, hv3⟩) | (go_at_call 16; refine (B_Write' w1.heap.size w1.heap.size _ _ _ K3.out (by decide) (Nat.le_trans HV2.size hv3.size)).mono ?_; rintro e v4 ⟨rfl, K4, hv4⟩) | (go_at_call 17; refine (B_String w1.heap.size w1.heap.size _ _ K4.out (by decide)).mono ?_; rintro e v5 ⟨rfl, hv5⟩))
  go_ret2
  exact ⟨by rfl, thenBelow hB1 (HV2.trans ((Below.refl _ _).drew.trans (hv3.trans (hv4.trans hv5))))⟩
end Go.Proofs.YtlopmmedokllaaaDoor
namespace Go.Proofs.YtlopmmedokllaaaDoor
open Go.RowKit Go.Deep
theorem lit_ints {w : World} {b : Nat} {cs : Array Value} {t : TypeId} {xs : List Int} (hg : w.heap[b]? = some (.cells cs t (0, 0))) (hc : cs = (xs.map (Value.int .i64)).toArray) (hi : ∀ x ∈ xs, -1000 ≤ x ∧ x ≤ 1000) (hn : xs.length ≤ 1000) :
    IsInts 0 w (.slice (some ⟨b, 0, none⟩) xs.length xs.length) xs :=
  ints_of_block hg (Nat.zero_le _) rfl (Nat.le_refl _) (by unfold maxLen; omega) (fun x hx => by have := hi x hx; constructor <;> omega) fun i h => by subst hc; simp [h]

theorem tightenK {w : World} {b : Nat} (hg : w.heap[b]? = some (.cells #[.int .i64 2, .int .i64 (-4)] 3 (0, 0))) :
    Calls Tryd.prog 8 #[.agg #[.slice (some ⟨b, 0, none⟩) 2 2, .int .i64 (-3)]] w fun e w' => ∃ g, e = .returned (.agg #[.slice (some ⟨g, 0, none⟩) 2 2, .int .i64 (-2)]) ∧ OwnInts w.heap.size w' g [1, -2] ∧ Below w.heap.size w w' :=
  Tighten_every (xs := [2, -4]) (-3) (lit_ints (xs := [2, -4]) hg rfl (by decide) (by decide)) (by decide)
theorem valueK {w : World} {lo b : Nat} {v : Value} (h : IsInts lo w v [1, -2]) (hg : w.heap[b]? = some (.cells #[.int .i64 2, .int .i64 0] 3 (0, 0))) :
    Calls Tryd.prog 9 #[.agg #[v, .int .i64 (-2)], .slice (some ⟨b, 0, none⟩) 2 2] w fun e w' => e = .returned (.tuple #[.int .i64 0, .int .i64 0]) ∧ Below w.heap.size w w' :=
  Value_any (xs := [1, -2]) (ys := [2, 0]) (-2) h (lit_ints (xs := [2, 0]) hg rfl (by decide) (by decide))
theorem formatK {w : World} {b : Nat} (hg : w.heap[b]? = some (.cells #[.int .i64 2, .int .i64 (-1), .int .i64 0] 3 (0, 0))) :
    Calls Tryd.prog 6 #[.agg #[.slice (some ⟨b, 0, none⟩) 3 3, .int .i64 (-3)]] w fun e w' => e = .returned (.tuple #[.string ⟨#[50, 42, 120, 48, 32, 45, 32, 120, 49, 32, 45, 32, 51, 32, 62, 61, 32, 48]⟩, .int .i64 0]) ∧ Below w.heap.size w w' :=
  format_known b 0 3 w (Array.getElem?_eq_some_iff.1 hg).1 (lit_ints (xs := [2, -1, 0]) hg rfl (by decide) (by decide)) (by simp [World.cell?, hg]) (by simp [World.cell?, hg]) (by simp [World.cell?, hg])
theorem satK {w : World} {b p : Nat} {u : Value} (h : IsInts 0 w u [1, -2]) (hg : w.heap[b]? = some (.cells #[u, .int .i64 (-2)] 24 (0, 0))) (hp : w.heap[p]? = some (.cells #[.int .i64 2, .int .i64 0] 3 (0, 0))) :
    Calls Tryd.prog 10 #[.agg #[.int .i64 2, .slice (some ⟨b, 0, none⟩) 1 1], .slice (some ⟨p, 0, none⟩) 2 2] w fun e w' => e = .returned (.bool true) ∧ Below w.heap.size w w' :=
  Satisfies_any (lo := 0) (lo' := 0) (rs := [([1, -2], -2)]) (ys := [2, 0]) 2 ⟨_, _, rfl, by decide, by unfold maxLen; decide, .inr ⟨b, 0, rfl, Nat.zero_le _, (Array.getElem?_eq_some_iff.1 hg).1, fun i hi => by
    obtain rfl : i = 0 := by simpa using hi
    exact ⟨u, by simp [World.cell?, hg], by simp [World.cell?, hg], h, by simp [I64]⟩⟩⟩ (lit_ints (xs := [2, 0]) hp rfl (by decide) (by decide))

set_option maxHeartbeats 1600000 in
theorem known_any (w : World) : Calls Tryd.prog 5 #[] w fun e w' => e = .returned (.bool true) ∧ Below w.heap.size w w' := by
  go_enter Tryd.func5, Tryd.ntmps5
  go_wp2_with (first | (go_at_call 8; refine (tightenK (heap_new _ _ (by go_size))).mono ?_; rintro e w1 ⟨g, rfl, hO, hb1⟩; have HO := hid0 hO.ints; have hB1 : Below w.heap.size w w1 := (thenBelow (allocBelow _ _) hb1); clear hO hb1) | (go_at_call 9; refine (valueK ((HO.out.mono (Nat.zero_le _)).below (by go_grown)) (heap_new _ _ (by go_size))).mono ?_; rintro e w2 ⟨rfl, hb2⟩; have hB2 : Below w1.heap.size w1 w2 := (Below.trans (by go_grown) (hb2.mono (by go_size))); obtain ⟨p1, p2⟩ := blk hb2 (n := w1.heap.size) (by go_size); have hz2 : w1.heap.size < w2.heap.size := (by have := hb2.size; simp at this; omega); clear hb2) | (go_at_call 6; refine (formatK (heap_new _ _ (by go_size))).mono ?_; rintro e w3 ⟨rfl, hb3⟩; have hB3 : Below w1.heap.size w1 w3 := (thenBelow hB2 (thenBelow (allocBelow _ _) hb3)); obtain ⟨q1, q2⟩ := blk hb3 (n := w1.heap.size) (by go_size); have hz3 : w1.heap.size < w3.heap.size := (by have := hb3.size; simp at this; omega); clear hb3))
  have HB3 : Below w.heap.size w w3 := thenBelow hB1 hB3
  refine (satK ((HO.out.mono (Nat.zero_le _)).below (Below.trans hB3 (by go_grown))) ((heap_old _ _ (by go_size)).trans (heap_new _ _ rfl)) (heap_new _ _ (by go_size))).mono ?_
  rintro e w4 ⟨rfl, hb4⟩
  have HB4 : Below w.heap.size w w4 := thenBelow HB3 (Below.trans (by go_grown) (hb4.mono (by go_size)))
  go_wp2_with fail
  go_ret
  exact ⟨rfl, HB4⟩
end Go.Proofs.YtlopmmedokllaaaDoor
