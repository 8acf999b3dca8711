import Derived.Laws.MakeOwn
import Derived.Deep.AppendLies
import Derived.Test.YtoefmdjgnabgfaaGrpdaleiikp
import Derived.Test.YtoefmdjgnabgfaaGrpphfpmaem
import Derived.Test.YtoefmdjgnabgfaaGrpkogjmioh
set_option linter.all false
namespace Go.Proofs.Ytoefmdjgnabgfaa
open Go.RowKit Go.Deep
theorem make_n {P : Program} (t e : TypeId) (z : Value) (s bytes : Nat) (ht : P.underlying t = some (.slice e)) (hinfo : (P.info? e).map (fun i => (i.zero, i.size, i.bytes)) = some (some z, s, bytes))
    (n : Nat) (hbytes : bytes * n ≤ 281474976710656) (h63 : n ≤ 9223372036854775807) (w : World) :
    (Instr.makeSlice t (.int .i64 (n : Int)) (.int .i64 (n : Int))).run P w = .ok (.slice (some ⟨w.heap.size, 0, none⟩) n n) (w.alloc (.cells (madeCells z.cells (n * s)) e)) := by
  obtain ⟨i, hi, hzz⟩ := Option.map_eq_some_iff.1 hinfo
  simp only [Prod.mk.injEq] at hzz
  obtain ⟨hz, rfl, rfl⟩ := hzz
  have hb' : (i.bytes : Int) * (n : Int) ≤ 281474976710656 := by
    have h : ((i.bytes * n : Nat) : Int) ≤ 281474976710656 := by omega
    rwa [Int.natCast_mul] at h
  have hr := run_make (P := P) w t e i z ht hi hz .i64 .i64 n n (by omega) (Int.le_refl _) hb' (by omega)
  simp only [Int.toNat_natCast] at hr
  exact hr
theorem made_get (z : Array Value) (m j : Nat) (v : Value) (hj : j < m) (hz : z[j % z.size]! = v) : (madeCells z m)[j]? = some v := by
  subst hz; simp [madeCells, hj]
def up (f : Nat → Int) (i : Nat) (v : Int) : Nat → Int := fun j => if j = i then v else f j
theorem YK (f : Nat → Int) (i : Nat) (v : Int) : up f i v i = v := by simp [up]
theorem Y7 (f : Nat → Int) {i j : Nat} (v : Int) (h : j ≠ i) : up f i v j = f j := by simp [up, h]
def OwnF (lo : Nat) (w : World) (g m : Nat) (f : Nat → Int) : Prop :=
  lo ≤ g ∧ ∃ cur t, w.heap[g]? = some (.cells cur t (0, 0)) ∧ ∀ j, j < m → cur[j]? = some (.int .i64 (f j))
theorem OwnF.lt {lo : Nat} {w : World} {g m : Nat} {f : Nat → Int} (h : OwnF lo w g m f) : g < w.heap.size := by
  obtain ⟨_, cur, t, hg, _⟩ := h; exact (Array.getElem?_eq_some_iff.1 hg).1
theorem OwnF.cell {lo : Nat} {w : World} {g m : Nat} {f : Nat → Int} (h : OwnF lo w g m f) (j : Nat) (hj : j < m) : w.cell? ⟨g, j, none⟩ = some (.int .i64 (f j)) := by
  obtain ⟨_, cur, t, hg, hc⟩ := h
  have := hc j hj
  simp only [World.cell?, hg]
  simpa using this
theorem OwnF.frozen {lo : Nat} {w : World} {g m : Nat} {f : Nat → Int} (h : OwnF lo w g m f) (j : Nat) : w.frozen? ⟨g, j, none⟩ = false := by
  obtain ⟨_, cur, t, hg, hc⟩ := h
  simp [World.frozen?, hg]
theorem OwnF.but {lo : Nat} {w w' : World} {g m : Nat} {f : Nat → Int} (h : OwnF lo w g m f) (hb : w'.heap[g]? = w.heap[g]?) : OwnF lo w' g m f := by
  obtain ⟨h1, cur, t, hg, hc⟩ := h; exact ⟨h1, cur, t, by rw [hb]; exact hg, hc⟩
theorem OwnF.below {lo : Nat} {w w' : World} {g m : Nat} {f : Nat → Int} (h : OwnF lo w g m f) (hb : Below w.heap.size w w') : OwnF lo w' g m f := h.but (hb.block g h.lt)
theorem OwnF.set {lo : Nat} {w : World} {g m : Nat} {f : Nat → Int} (h : OwnF lo w g m f) (i : Nat) (v : Int) : OwnF lo (w.setCell ⟨g, i, none⟩ (.int .i64 v)) g m (up f i v) := by
  obtain ⟨h1, cur, t, hg, hc⟩ := h
  refine ⟨h1, cur.setIfInBounds i (.int .i64 v), t, heap_setCell_same w g i cur t _ hg, fun j hj => ?_⟩
  have hcj := hc j hj
  have hjc : j < cur.size := (Array.getElem?_eq_some_iff.1 hcj).1
  by_cases e : i = j
  · subst e
    rw [YK]
    simp [hjc]
  rw [Array.getElem?_setIfInBounds_ne e, hcj, Y7 _ _ (Ne.symm e)]
theorem OwnF.setOther {lo : Nat} {w : World} {g m : Nat} {f : Nat → Int} (h : OwnF lo w g m f) (a : Addr) (u : Value) (hne : a.block ≠ g) : OwnF lo (w.setCell a u) g m f :=
  h.but (Below.heap_setCell _ _ _ _ (fun e => hne e.symm))
theorem OwnF.grown {lo : Nat} {w w' : World} {g m : Nat} {f : Nat → Int} {r : Option Nat} (h : OwnF lo w g m f) (hg : w.grownBy w' r) (hr : r ≠ some g) : OwnF lo w' g m f :=
  h.but (hg.block g h.lt (Ne.symm hr))
end Go.Proofs.Ytoefmdjgnabgfaa

namespace Go.Proofs.Ytoefmdjgnabgfaa
open Go.RowKit Go.Deep
structure ElT (P : Program) (T E : TypeId) (z : Value) (size bytes : Nat) : Prop where
  ht : P.underlying T = some (.slice E)
  info : (P.info? E).map (fun i => (i.zero, i.size, i.bytes)) = some (some z, size, bytes)
  hz : z.cells.size = size
  h0 : 0 < size
theorem KE {P : Program} {T E : TypeId} {z : Value} {size bytes : Nat} (K : ElT P T E z size bytes) {W : World} {ops : Array Oper} {rest : List Oper} {o : Oper} {a : Act} {Q : Exit → Act → World → Prop}
    (hgd : o.guard = none) (s x : Operand) (ho : o.op = .call { callee := .builtin .append, args := #[s, x], argTypes := #[T, T] })
    (base : Nat) (v : Value) (n : Nat) (xs news : List Value) (Hn : Nat) (hs : a.eval s = v) (hx : a.eval x = .slice (some ⟨Hn, 0, none⟩) 1 1) (hH : W.heap.size = Hn) (hown : W.ownsRow base E size v n xs)
    (hl : news.length = size) (h1 : ∀ u ∈ news, u.oneCell' = true) (hn : (n + 1) * bytes ≤ 140737488355328) (h63 : n + 1 ≤ maxLen) (hbase : base ≤ Hn) {B : Array Value} (hB : B = news.toArray)
    (h : ∀ g cap w', w'.ownsRow base E size (.slice (some ⟨g, 0, none⟩) (n + 1) cap) (n + 1) (xs ++ news) → W.grownBy w' v.ownBlock → (v.ownBlock = some g ∨ Hn < g) → base ≤ g → g < w'.heap.size → Hn < w'.heap.size → wpList P ops Q rest (a.put o.dst (.slice (some ⟨g, 0, none⟩) (n + 1) cap)) w') :
    wpList P ops Q (o :: rest) a (W.alloc (.cells B E)) := by
  subst hB hH
  obtain ⟨i, hi, hzz⟩ := Option.map_eq_some_iff.1 K.info
  simp only [Prod.mk.injEq] at hzz
  obtain ⟨hz, hsz, hby⟩ := hzz
  refine wpList_append_lies (W.alloc (.cells news.toArray E)) hgd s x T ho base E i z size bytes K.ht hi hz hsz hby K.hz K.h0 v n xs hs (hown.alloc _) ⟨W.heap.size, 0, none⟩ 1 1 news hx (by omega)
    (World.news_of_block (heap_alloc_new _ _)) h1 (by decide) h63 hn (by simp; omega) (W.heap.size + 1) (by simp) fun g cap w' g1 g2 g3 g4 => ?_
  have hgr : W.grownBy w' v.ownBlock := by
    have ha := World.grownBy_alloc W (.cells news.toArray E) v.ownBlock
    exact ⟨g2.os.trans ha.os, g2.tape.trans ha.tape, g2.output.trans ha.output, Nat.le_trans ha.size g2.size, fun k hk hne => (g2.block k (by simp; omega) hne).trans (ha.block k hk hne)⟩
  refine h g cap w' g1 hgr ?_ ?_ g4 (by have := g2.size; simp at this; omega)
  · rcases g3 with g3 | g3
    · exact .inl g3
    exact .inr (by omega)
  rcases g3 with g3 | g3
  · exact (hown.lt g g3).1
  omega
theorem row_cut {w : World} {base : Nat} {e : TypeId} {n : Nat} {xs : List Value} {a : Option Addr} {c : Nat} (h : w.ownsRow base e 1 (.slice a (n + 1) c) (n + 1) xs) : w.ownsRow base e 1 (.slice a n c) n (xs.take n) := by
  obtain ⟨hl, h2⟩ := h
  refine ⟨by rw [List.length_take]; omega, ?_⟩
  rcases h2 with ⟨_, h0⟩ | ⟨g, cap, cur, hv, hb, hg, hn, hm, hs, ht⟩
  · omega
  simp only [Value.slice.injEq] at hv
  obtain ⟨rfl, _, rfl⟩ := hv
  exact .inr ⟨g, c, cur, rfl, hb, hg, by omega, hm, hs, by rw [← ht, List.take_take, Nat.mul_one, Nat.mul_one, Nat.min_eq_left (by omega)]⟩
theorem KT {w : World} {base : Nat} {e : TypeId} {size : Nat} {v : Value} {n : Nat} {xs : List Value} (h : w.ownsRow base e size v n xs) : ∃ a c, v = .slice a n c := by
  rcases h.2 with ⟨rfl, rfl⟩ | ⟨g, cap, _, rfl, _⟩
  · exact ⟨_, _, rfl⟩
  exact ⟨_, _, rfl⟩
theorem row_last {w : World} {base : Nat} {e : TypeId} {n : Nat} {xs : List Value} {a : Option Addr} {c : Nat} (h : w.ownsRow base e 1 (.slice a (n + 1) c) (n + 1) (xs)) : ∃ g, a = some ⟨g, 0, none⟩ ∧ base ≤ g ∧ g < w.heap.size ∧ n < c ∧ c ≤ maxLen ∧ ∀ j, j < n + 1 → w.cell? ⟨g, j, none⟩ = xs[j]? := by
  obtain ⟨hl, h2⟩ := h
  rcases h2 with ⟨_, h0⟩ | ⟨g, cap, cur, hv, hb, hg, hn, hm, hs, ht⟩
  · omega
  simp only [Value.slice.injEq] at hv
  obtain ⟨rfl, _, rfl⟩ := hv
  refine ⟨g, rfl, hb, (Array.getElem?_eq_some_iff.1 hg).1, by omega, hm, fun j hj => ?_⟩
  rw [← ht, List.getElem?_take_of_lt (by omega)]
  simp only [World.cell?, hg]
  simp
end Go.Proofs.Ytoefmdjgnabgfaa

namespace Go.Proofs.Ytoefmdjgnabgfaa
open Go.RowKit Go.Deep
def thC (g : Th) : List Value := [.int .i64 g.msg, .int .i64 g.coef, .int .i64 g.bd.c, .int .i64 g.bd.n, .int .i64 g.bd.t, .int .i64 g.bd.f]
def thI (g : Th) : Prop := I64 g.msg ∧ I64 g.coef ∧ I64 g.bd.c ∧ I64 g.bd.n ∧ I64 g.bd.t ∧ I64 g.bd.f
theorem flat_get : ∀ (l : List Th) (i : Nat) (hi : i < l.length) (j : Nat), j < 6 → (l.flatMap thC)[i * 6 + j]? = (thC l[i])[j]?
  | [], i, hi, _, _ => absurd hi (by simp)
  | x :: xs, 0, _, j, hj => by
    rw [List.flatMap_cons, List.getElem?_append_left (by simp [thC]; omega)]
    simp
  | x :: xs, i + 1, hi, j, hj => by
    rw [List.flatMap_cons, List.getElem?_append_right (by simp [thC]; omega), show (i + 1) * 6 + j - (thC x).length = i * 6 + j by simp [thC]; omega]
    exact flat_get xs i (by simpa using hi) j hj
def OwnTh (lo : Nat) (w : World) (v : Value) (l : List Th) : Prop := w.ownsRow lo 105 6 v l.length (l.flatMap thC) ∧ ∀ g ∈ l, thI g
theorem OwnTh.nil (lo : Nat) (w : World) : OwnTh lo w (.slice none 0 0) [] := ⟨World.ownsRow_nil _ _ _ _, by simp⟩
theorem OwnTh.still {lo : Nat} {w w' : World} {v : Value} {l : List Th} (h : OwnTh lo w v l) (hb : Below w.heap.size w w') : OwnTh lo w' v l := ⟨row_still h.1 hb, h.2⟩
theorem OwnTh.sl {lo : Nat} {w : World} {v : Value} {l : List Th} (h : OwnTh lo w v l) : IsSl 6 ThEl lo w v l := by
  obtain ⟨⟨hl, h2⟩, hI⟩ := h
  rcases h2 with ⟨rfl, h0⟩ | ⟨g, cap, cur, rfl, hb, hg, hn, hm, hc, ht⟩
  · exact ⟨none, 0, by rw [h0], by omega, by simp [maxLen], fun _ => rfl, .inl (List.eq_nil_of_length_eq_zero h0)⟩
  refine ⟨_, _, rfl, hn, hm, by simp, .inr ⟨g, 0, rfl, hb, (Array.getElem?_eq_some_iff.1 hg).1, fun i hi => ⟨thC l[i], rfl, fun j hj => ?_, rfl, hI _ (List.getElem_mem hi)⟩⟩⟩
  have hcell : w.cell? ⟨g, 0 + i * 6 + j, none⟩ = cur[i * 6 + j]? := by
    simp only [World.cell?, hg]; simp
  rw [hcell, ← Array.getElem?_toList, show cur.toList[i * 6 + j]? = (cur.toList.take (l.length * 6))[i * 6 + j]? by rw [List.getElem?_take_of_lt (by omega)], ht]
  exact flat_get l i hi j hj
theorem elTh : ElT Try.prog 48 105 (.agg #[.int .i64 0, .int .i64 0, .int .i64 0, .int .i64 0, .int .i64 0, .int .i64 0]) 6 48 := ⟨Try.underlying48, by kernel_rfl, rfl, by decide⟩
theorem info_th : (Try.prog.info? 105).map (·.size) = some 6 := by kernel_rfl
theorem inner_succ {gs l0 : List Th} {j : Nat} (h : j < gs.length) : (gs.take (j + 1)).foldl addT l0 = addT ((gs.take j).foldl addT l0) gs[j] := by
  rw [List.take_succ_eq_append_getElem h, List.foldl_append]; rfl
theorem diffG_succ {rs : List Ru} {i : Nat} (h : i < rs.length) : diffG (rs.take (i + 1)) = rs[i].guards.foldl addT (diffG (rs.take i)) := by
  unfold diffG; rw [List.take_succ_eq_append_getElem h, List.foldl_append]; rfl
set_option maxHeartbeats 6400000 in
theorem YT {lo : Nat} {w : World} {v : Value} {rs : List Ru} (h : IsSl 18 RuEl lo w v rs) (h8 : rs.length ≤ 8) (h2 : ∀ r ∈ rs, r.guards.length ≤ 2) :
    Calls Try.prog 52 #[v] w fun e w' => ∃ v', e = .returned v' ∧ OwnTh w.heap.size w' v' (diffG rs) ∧ Below w.heap.size w w' := by
  have H := Lib.hid h
  have H2 := Lib.hid h2
  rcases sl_cases h with ⟨rfl, a, c, rfl⟩ | ⟨b, off, c, rfl, hbw, _⟩
  · clear h
    go_enter Try.func52, Try.ntmps52
    go_wp2_with fail
    refine wp_loop_rounds 1 ?_
    rw [rounds_succ]
    go_wp2_with fail
    go_ret
    exact ⟨_, rfl, OwnTh.nil _ _, Below.refl _ _⟩
  generalize hN : rs.length = n at h8
  have HN := Lib.hid hN
  rw [hN] at H
  clear h h2 hN
  go_enter Try.func52, Try.ntmps52
  go_wp2_with fail
  go_loopw [3, 10] (fun v u wr => ∃ (i : Nat) (a : Option Addr) (c : Nat) (l : List Th), i ≤ n ∧ u = .int .i64 i ∧ v = .slice a l.length c ∧ l = diffG (rs.take i) ∧ l.length ≤ 2 * i ∧ OwnTh w.heap.size wr (.slice a l.length c) l ∧ Below w.heap.size w wr) (fun _ u _ => n - (intOf u).toNat)
  case atStart => exact ⟨0, none, 0, [], Nat.zero_le _, rfl, rfl, rfl, by simp, OwnTh.nil _ _, Below.refl _ _⟩
  case round =>
    obtain ⟨i, a, ca, l, hi, rfl, rfl, hl, hlen, hO, hB⟩ := hrel
    have HO := Lib.hid hO
    have HB := Lib.hid hB
    have HLI := Lib.hid hl
    clear hO hB hl
    by_cases h1 : i < n
    · have hix : i < rs.length := by rw [HN.out]; exact h1
      obtain ⟨b', off', cs, hab, _, _, hcl, hcc, hel⟩ := H.out.at i hix
      cases hab
      have HL := Lib.hid hcl
      obtain ⟨-, -, -, -, -, pc⟩ := rule_cells hel
      have PC := Lib.hid pc
      have R1 := Lib.hid (rangeBelow (rangeOf hcl hcc) HB.out)
      obtain ⟨_, u7, _, _, _, _, _, _, hcs, _, k7, _⟩ := Km hel
      have p7 : cs[7]? = some u7 := by rw [hcs]; rfl
      obtain ⟨a7, c7, rfl⟩ := k7.shape
      have P7 := Lib.hid p7
      have hg2 : rs[i].guards.length ≤ 2 := H2.out _ (List.getElem_mem hix)
      have DS := Lib.hid (diffG_succ hix)
      generalize rs[i].guards = gs at k7 P7 hg2 DS
      have K7 := Lib.hid k7
      clear hcl hcc hel pc hcs p7 k7
      go_upto_region 4 with (fail)
      refine wp_region_lit ?_
      refine wpList_step fun K hK => ?_
      go_simp
      refine hK _ _ ?_
      clear hK K
      refine ld_mid Try.underlying50 Z6 (by rfl) (.tmp 12) (by rfl) b (off + i * 18) cs (by rfl) HL.out R1.out ?_
      refine wpList_step fun K hK => ?_
      go_simp
      refine hK _ _ ?_
      clear hK K
      refine Y8 (T := 50) Z6 (by rfl) (.tmp 5) (.tmp 13) (by rfl) wr.heap.size cs (by rfl) (by rfl) HL.out (Yd _ _ rfl) (by rfl) PC.out (fun Z hZ hbl hsz _ => ?_)
      have ZB := Lib.hid (show Below w.heap.size w Z from hbl _ _ HB.out.size (HB.out.trans ((Zg wr _).mono HB.out.size)))
      have ZR := Lib.hid (show Below wr.heap.size wr Z from hbl _ _ (Nat.le_refl _) (Zg wr _))
      have z7 : Z.cell? ⟨wr.heap.size, 7, none⟩ = some (.slice a7 gs.length c7) := ZF hZ 7 (by simpa using P7.out)
      have ZO := Lib.hid (HO.out.still ZR.out)
      clear hZ hbl hsz ZR
      refine wpList_nil ?_
      simp only [Act.put]
      generalize hM : gs.length = m at z7 hg2
      have HM := Lib.hid hM
      rw [hM] at K7
      clear hM
      go_wp2_with fail
      go_loopw [3, 17] (fun v u wr' => ∃ (j : Nat) (a : Option Addr) (c : Nat) (l' : List Th), j ≤ m ∧ u = .int .i64 j ∧ v = .slice a l'.length c ∧ l' = (gs.take j).foldl addT l ∧ l'.length ≤ l.length + j ∧ OwnTh w.heap.size wr' (.slice a l'.length c) l' ∧ Below w.heap.size w wr') (fun _ u _ => m - (intOf u).toNat)
      case atStart => exact ⟨0, a, ca, l, Nat.zero_le _, rfl, rfl, rfl, Nat.le_refl _, ZO.out, ZB.out⟩
      case round =>
        obtain ⟨j, aj, cj, l', hj, rfl, rfl, hl', hlen', hOj, hBj⟩ := hrel
        have HOj := Lib.hid hOj
        have HBj := Lib.hid hBj
        have HLJ := Lib.hid hl'
        clear hOj hBj hl'
        by_cases hjm : j < m
        · have hjx : j < gs.length := by rw [HM.out]; exact hjm
          obtain ⟨bg, og, csg, hag, _, hbgw, hcl, hcc, hel⟩ := K7.out.at j hjx
          have hbg2 := hbgw
          cases hag
          obtain ⟨hel1, hI⟩ : csg = thC gs[j] ∧ thI gs[j] := hel
          have HI := Lib.hid hI
          have RG := Lib.hid (rangeBelow (rangeOf hcl hcc) HBj.out)
          have IS := Lib.hid (inner_succ (l0 := l) hjx)
          rw [hel1] at RG
          clear hel1 hcl hcc hI
          generalize gs[j] = x at RG HI IS
          go_upto_region 7 with (fail)
          refine wp_region_lit ?_
          refine wpList_step fun K hK => ?_
          go_simp
          refine hK _ _ ?_
          clear hK K
          refine ld_mid Try.underlying105 info_th (by rfl) (.tmp 19) (by rfl) bg (og + j * 6) (thC x) (by rfl) (by rfl) RG.out ?_
          refine wpList_step fun K hK => ?_
          go_simp
          refine hK _ _ ?_
          clear hK K
          obtain ⟨X, hX⟩ : ∃ X : World, X = wr := ⟨_, rfl⟩
          rw [← hX] at HOj HBj ⊢
          clear hX
          refine Y8 (T := 105) info_th (by rfl) (.tmp 7) (.tmp 20) (by rfl) X.heap.size (thC x) (by rfl) (by rfl) (by rfl) (Yd _ _ rfl) (by rfl) (by intro v hv; simp [thC] at hv; rcases hv with rfl | rfl | rfl | rfl | rfl | rfl <;> rfl) (fun Y hY hbl hsz _ => ?_)
          have YB := Lib.hid (show Below w.heap.size w Y from hbl _ _ HBj.out.size (HBj.out.trans ((Zg X _).mono HBj.out.size)))
          have YR := Lib.hid (show Below X.heap.size X Y from hbl _ _ (Nat.le_refl _) (Zg X _))
          have y0 : Y.cell? ⟨X.heap.size, 0, none⟩ = some (.int .i64 x.msg) := ZF hY 0 (by rfl)
          have y1 : Y.cell? ⟨X.heap.size, 1, none⟩ = some (.int .i64 x.coef) := ZF hY 1 (by rfl)
          have y2 : Y.cell? ⟨X.heap.size, 2, none⟩ = some (.int .i64 x.bd.c) := ZF hY 2 (by rfl)
          have y3 : Y.cell? ⟨X.heap.size, 3, none⟩ = some (.int .i64 x.bd.n) := ZF hY 3 (by rfl)
          have y4 : Y.cell? ⟨X.heap.size, 4, none⟩ = some (.int .i64 x.bd.t) := ZF hY 4 (by rfl)
          have y5 : Y.cell? ⟨X.heap.size, 5, none⟩ = some (.int .i64 x.bd.f) := ZF hY 5 (by rfl)
          have YO := Lib.hid (HOj.out.still YR.out)
          have hYs : X.heap.size < Y.heap.size := by rw [hsz]; simp
          have HYS := Lib.hid hYs
          clear hY hbl hsz YR RG
          refine wpList_nil ?_
          simp only [Act.put]
          by_cases hin : x ∈ l'
          · have hd : decide (x ∈ l') = true := decide_eq_true hin
            have HD := Lib.hid hd
            have HADD := Lib.hid (show addT l' x = l' from if_pos hin)
            clear hin hd
            go_wp2_with (go_at_call 80; (with_reducible refine (ContainsTh_any x.msg x.coef x.bd.c x.bd.n x.bd.t x.bd.f YO.out.sl).mono ?_); rw [HD.out]; rintro e w2 ⟨rfl, hb2⟩; have HB2 := Lib.hid hb2; clear hb2)
            go_roundw
            case rel => exact ⟨j + 1, aj, cj, l', by omega, by go_num, rfl, by rw [IS.out, ← HLJ.out, HADD.out], by omega, YO.out.still HB2.out, Zs YB.out HB2.out⟩
            case measure => simp [intOf]; omega
          have hd : decide (x ∈ l') = false := decide_eq_false hin
          have HD := Lib.hid hd
          have HADD := Lib.hid (show addT l' x = l' ++ [x] from if_neg hin)
          clear hin hd
          go_wp2_with (first | (go_at_call 80; (with_reducible refine (ContainsTh_any x.msg x.coef x.bd.c x.bd.n x.bd.t x.bd.f YO.out.sl).mono ?_); rw [HD.out]; rintro e w2 ⟨rfl, hb2⟩; have HB2 := Lib.hid hb2; have HO2 := Lib.hid (YO.out.still hb2); have h20 := keep1 y0 hb2; have h21 := keep1 y1 hb2; have h22 := keep1 y2 hb2; have h23 := keep1 y3 hb2; have h24 := keep1 y4 hb2; have h25 := keep1 y5 hb2; clear hb2) | (at_builtin; refine KE elTh (by rfl) (.tmp 25) (.tmp 27) (by rfl) w.heap.size _ l'.length _ (thC x) w2.heap.size (by rfl) (by rfl) (by rfl) HO2.out.1 (by rfl) (by intro v hv; simp [thC] at hv; rcases hv with rfl | rfl | rfl | rfl | rfl | rfl <;> rfl) (by omega) (by unfold maxLen; omega) ((Zs YB.out HB2.out).size) (by rfl) ?_; intro g cap w3 hown hgrow hat hlo hlt hsz))
          go_roundw
          case rel =>
            refine ⟨j + 1, some ⟨g, 0, none⟩, cap, l' ++ [x], by omega, by go_num, by simp, by rw [IS.out, ← HLJ.out, HADD.out], by simp; omega, ⟨?_, ?_⟩, ?_⟩
            · rw [List.length_append, List.flatMap_append]; simpa using hown
            · intro y hy
              rcases List.mem_append.1 hy with hy | hy
              · exact HO2.out.2 y hy
              rw [List.mem_singleton.1 hy]; exact HI.out
            exact (Zs YB.out HB2.out).grown hgrow (Zs YB.out HB2.out).size (row_above HO2.out.1)
          case measure => simp [intOf]; omega
        obtain rfl : j = m := by omega
        go_wp2_with fail
        go_roundw
        case rel =>
          have e2 : l' = diffG (rs.take (i + 1)) := by rw [HLJ.out, DS.out, List.take_of_length_le (by rw [HM.out]; exact Nat.le_refl _), HLI.out]
          exact ⟨i + 1, aj, cj, l', by omega, by go_num, rfl, e2, by omega, HOj.out, HBj.out⟩
        case measure => simp [intOf]; omega
    obtain rfl : i = n := by omega
    go_wp2_with fail
    go_ret
    have e2 : diffG (rs.take i) = diffG rs := by rw [List.take_of_length_le (by rw [HN.out]; exact Nat.le_refl _)]
    exact ⟨_, rfl, by rw [← e2, ← HLI.out]; exact HO.out, HB.out⟩
end Go.Proofs.Ytoefmdjgnabgfaa
