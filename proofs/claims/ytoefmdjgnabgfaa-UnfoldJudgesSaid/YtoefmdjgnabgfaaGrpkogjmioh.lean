import Derived.Deep.Quiet
import Derived.StillTail
import Derived.LoopTactic
import Derived.Lib.Hide
import Derived.Outline
import Derived.Test.YtoefmdjgnabgfaaProg
import Derived.WalkSpells
import Derived.WalkLawsBesides
import Derived.LoopN
import Derived.Test.YtoefmdjgnabgfaaGrpbfenaikk
import Derived.Test.YtoefmdjgnabgfaaGrpoiemondl
import Derived.Test.YtoefmdjgnabgfaaGrpnoaijaef
import Derived.Test.YtoefmdjgnabgfaaGrpdaleiikp
import Derived.Test.YtoefmdjgnabgfaaGrpnfmidmgj
set_option linter.all false
namespace Go.Proofs.Ytoefmdjgnabgfaa
open Go
section
variable {P : Program} {ops : Array Oper} {md : Region.Mode} {C : World → Prop}
def wpT (P : Program) (md : Region.Mode) (ops : Array Oper) (C : World → Prop) (n : Nat) (L : Array Bool → Act → Prop) : Nat → Array Bool → Act → Prop
  | 0, seen, a => L seen a
  | f + 1, seen, a => Region.ready md ops seen ≠ [] ∧ ∀ i ∈ Region.ready md ops seen, i < n ∧ qOp P ops C i (wpT P md ops C n L f (seen.setIfInBounds i true)) a
theorem wpT_any {n g : Nat} {L : Array Bool → Act → Prop} {Q : Exit → Act → World → Prop} (hL : ∀ seen a, L seen a → ∀ w, C w → wpAny P md ops Q g seen a w) :
    ∀ (f : Nat) (seen : Array Bool) (a : Act), wpT P md ops C n L f seen a → ∀ w, C w → wpAny P md ops Q (f + g) seen a w := by
  intro f
  induction f with
  | zero => intro seen a h w hw; rw [Nat.zero_add]; exact hL seen a h w hw
  | succ f ih =>
    intro seen a h w hw
    rw [show f + 1 + g = (f + g) + 1 by omega]
    exact ⟨fun h0 => absurd h0 h.1, fun i hi => wpOp_of_qOp hw (fun a' w' hw' hk => ih _ a' hk w' hw') (h.2 i hi).2⟩
theorem wpT_take {n i : Nat} {oi : Oper} {v : Value} {L : Array Bool → Act → Prop} (hi : ops[i]? = some oi) (hsel : ∀ (j : Nat) (o : Oper) cs b, ops[j]? = some o → o.op ≠ .select cs b)
    (hs : Region.sinkB md ops n = true) (hc : Region.chainB md ops n = true) (hn : n < ops.size) (hin : i < n) (hend : ∀ seen a, L seen a → ∀ j ∈ Region.ready md ops seen, n ≤ j) :
    ∀ (f : Nat) (seen : Array Bool) (a : Act), HeadInv md ops n seen →
      (∀ j oj, ops[j]? = some oj → j ≠ i → seen.getD j true = false → (∀ e ∈ oj.after, Region.binds md e = true → e.on ≠ i) → oi.apart ops oj = true) →
      i ∈ Region.ready md ops seen → YieldsIn P ops C oi v a → wpT P md ops C n L f (seen.setIfInBounds i true) (a.put oi.dst v) → wpT P md ops C n L (f + 1) seen a := by
  intro f
  induction f with
  | zero =>
    intro seen a inv hfree hr hy H
    have hun := (mem_ready.1 hr).1
    refine ⟨List.ne_nil_of_mem hr, fun j hj => ?_⟩
    have hjn : j < n := Nat.lt_of_not_le fun h => tail_waits hs hc hn inv _ i rfl hin hun j h hj
    refine ⟨hjn, ?_⟩
    by_cases hji : j = i
    · subst hji; exact hy.qOp hi H
    have h1 := hend _ _ H j (ready_mono hj hji)
    omega
  | succ f ih =>
    intro seen a inv hfree hr hy H
    have hun := (mem_ready.1 hr).1
    refine ⟨List.ne_nil_of_mem hr, fun j hj => ?_⟩
    have hjn : j < n := Nat.lt_of_not_le fun h => tail_waits hs hc hn inv _ i rfl hin hun j h hj
    refine ⟨hjn, ?_⟩
    by_cases hji : j = i
    · subst hji; exact hy.qOp hi H
    obtain ⟨hjun, oj, hoj, hall⟩ := mem_ready.1 hj
    have hno : ∀ e ∈ oj.after, Region.binds md e = true → e.on ≠ i := fun e he hb heq => by
      have h0 := hall e he hb
      rw [heq, getD_both hun] at h0
      cases h0
    have h1 := qOp_put hoj (hfree j oj hoj hji hjun hno) (fun cs b => hsel i oi cs b hi) (fun cs b => hsel j oj cs b hoj) hy (H.2 j (ready_mono hj hji)).2
    refine qOp_mono (fun a' h2 => ih (seen.setIfInBounds j true) a' (inv.set hj hjn) (fun k ok hk hki hunk hnk => hfree k ok hk hki ?_ hnk) (ready_mono hr (Ne.symm hji)) h2.1 ?_) h1
    · by_cases hjk : j = k
      · subst hjk; exact hjun
      rwa [getD_set_ne true hjk] at hunk
    rw [Array.setIfInBounds_comm _ _ hji]; exact h2.2
theorem wpT_lex {n g : Nat} {Lq : Act → Prop} (hsel : Region.noSelect ops = true) (hs : Region.sinkB md ops n = true) (hc : Region.chainB md ops n = true) (hn : n < ops.size) :
    ∀ (l : List Oper) (k : Nat) (seen : Array Bool) (a : Act), (∀ j, j < l.length → l[j]? = ops[k + j]?) → k + l.length = n → HeadInv md ops n seen → Region.lexHead md ops g l.length k seen = true →
    wpQuiet P ops C Lq l a → wpT P md ops C n (fun seen' a' => Region.seqB md ops g n seen' = true ∧ Lq a') l.length seen a
  | [], k, seen, a, _, hk, _, hB, h => by
    obtain rfl : k = n := by simpa using hk
    exact ⟨by simpa [Region.lexHead] using hB, h⟩
  | o :: l, k, seen, a, hl, hk, inv, hB, h => by
    have h0 : ops[k]? = some o := by simpa using (hl 0 (by simp)).symm
    simp only [List.length_cons, Region.lexHead, Bool.and_eq_true] at hB
    have hkn : k < n := by simp only [List.length_cons] at hk; omega
    have hr : k ∈ Region.ready md ops seen := by simpa using hB.1.1
    obtain ⟨v, hy, hK⟩ := yieldsIn_of_qOp h0 (show qOp P ops C k (wpQuiet P ops C Lq l) a by unfold qOp; simp only [h0]; exact h)
    exact wpT_take h0 (Region.noSelect_spec hsel) hs hc hn hkn (fun seen' a' hL => seqB_ready hL.1) l.length seen a inv (Region.free_spec h0 hB.1.2) hr hy
      (wpT_lex hsel hs hc hn l (k + 1) _ _ (fun j hj => by have := hl (j + 1) (by simp; omega); simpa [Nat.add_assoc, Nat.add_comm 1 j] using this) (by simp only [List.length_cons] at hk; omega) (inv.set hr hkn) hB.2 hK)
theorem wp_class_tail {id : Nat} {Q : Exit → Act → World → Prop} {a : Act} {w : World} {l : List Oper} (n : Nat) (C : World → Prop) (hm : P.follows .mixedOrders = true) (hB : Region.lexTailB .any l.toArray n = true) (hC : C w.drew)
    (h : wpQuiet P l.toArray C (fun a' => ∀ w', C w' → wpList P l.toArray Q (l.drop n) a' w') (l.take n) a) : (Code.region id l.toArray true).wp P Q a w := by
  simp only [Region.lexTailB, Bool.and_eq_true, decide_eq_true_eq] at hB
  obtain ⟨⟨⟨⟨hsel, hn⟩, hs⟩, hc⟩, hlex⟩ := hB
  have hn' : n < l.length := by simpa using hn
  have htl : (l.take n).length = n := by simp; omega
  have hdl : (l.drop n).length = l.toArray.size - n := by simp
  have inv0 : HeadInv .any l.toArray n (Array.replicate l.toArray.size false) :=
    ⟨by simp, fun j oj _ hl => (by rw [getD_replicate_false] at hl; cases hl), fun t _ ht => getD_in (by simpa using ht) (getD_replicate_false _ _)⟩
  have H := wpT_lex (md := .any) (g := l.toArray.size - n) hsel hs hc hn (l.take n) 0 _ a (fun j hj => by
    have hj' : j < n := by rw [htl] at hj; exact hj
    simp [hj']) (by simpa using htl) inv0 (by rw [htl]; exact hlex) h
  refine wp_region_any hm ?_
  have hA := wpT_any (Q := Q) (g := l.toArray.size - n) (fun seen a' hL w' hw' => by
    have := wpAny_of_seq (md := .any) (Q' := Q) (l.drop n) n seen a' w' (fun j => by simp [List.getElem?_drop]) (by rw [hdl]; exact hL.1) (hL.2 w' hw')
    rwa [hdl] at this) _ _ _ H w.drew hC
  rw [htl, show n + (l.toArray.size - n) = l.toArray.size by omega] at hA
  exact hA
end
end Go.Proofs.Ytoefmdjgnabgfaa

namespace Go.Proofs.Ytoefmdjgnabgfaa
open Go.RowKit Go.Deep
theorem RuEl.below {lo : Nat} {w w' : World} {cs : List Value} {r : Ru} (h : RuEl lo w cs r) (hb : Below w.heap.size w w') : RuEl lo w' cs r := by
  have t := RuEl.stays
  unfold Stays at t
  exact t lo w w' cs r h hb
structure WIn (S : World → Prop) where
  val : World
  ok : S val
theorem YC {P : Program} {o : Oper} {a : Act} {C : World → Prop} {K : Act → Prop} {T : TypeId} {size : Nat} {fs : Array Field} (hu : P.underlying T = some (.struct fs)) (hi : (P.info? T).map (·.size) = some size) (x : Operand) (ho : o.op = .load T x)
    (b off : Nat) (cs : List Value) (hx : a.eval x = .pointer (some ⟨b, off, none⟩)) (hl : cs.length = size) (hc : ∀ w, C w → w.rangeAt b off cs) (h : K (a.put o.dst (.agg cs.toArray))) : o.quiet P a C K :=
  ⟨.agg cs.toArray, fun w hw => by
    unfold Oper.quietAt execOp
    simp only [ho, hx, Instr.loadAt, Instr.sureAddr, Sem.run_bind, Sem.run_pure, Result.andThen_ok, run_loadVar_mid w b off T cs _ (hc w hw) hu rfl (by rw [hl]; exact hi)]
    exact ⟨rfl, rfl⟩, h⟩
instance instWIn (W : World) : Nonempty (WIn (Below W.heap.size W)) := ⟨⟨W.drew, drewBelow W⟩⟩
section
variable {P : Program} {id : Nat} {Q : Exit → Act → World → Prop} {a : Act} {W : World} {l : List Oper}
theorem wp_cls (hm : P.follows .mixedOrders = true) (hB : Region.lexB .any l.toArray = true)
    (h : wpQuiet P l.toArray (fun w' => ∃ n : WIn (Below W.heap.size W), w' = n.val) (fun a' => ∀ n : WIn (Below W.heap.size W), Q .normal a' n.val) l a) : (Code.region id l.toArray true).wp P Q a W :=
  wp_region_quiet (C := fun w' => ∃ n : WIn (Below W.heap.size W), w' = n.val) hm hB ⟨⟨W.drew, drewBelow W⟩, rfl⟩ (by
    have : (fun a' => ∀ n : WIn (Below W.heap.size W), Q .normal a' n.val) = (fun a' => ∀ w', (∃ n : WIn (Below W.heap.size W), w' = n.val) → Q .normal a' w') := by
      funext a'; exact propext ⟨fun h w' ⟨n, hn⟩ => hn ▸ h n, fun h n => h n.val ⟨n, rfl⟩⟩
    rw [this] at h
    simpa using h)
theorem wp_cls_tail (n : Nat) (hm : P.follows .mixedOrders = true) (hB : Region.lexTailB .any l.toArray n = true)
    (h : wpQuiet P l.toArray (fun w' => ∃ n : WIn (Below W.heap.size W), w' = n.val) (fun a' => ∀ m : WIn (Below W.heap.size W), wpList P l.toArray Q (l.drop n) a' m.val) (l.take n) a) : (Code.region id l.toArray true).wp P Q a W :=
  wp_class_tail n (fun w' => ∃ n : WIn (Below W.heap.size W), w' = n.val) hm hB ⟨⟨W.drew, drewBelow W⟩, rfl⟩ (by
    have : (fun a' => ∀ m : WIn (Below W.heap.size W), wpList P l.toArray Q (l.drop n) a' m.val) = (fun a' => ∀ w', (∃ n : WIn (Below W.heap.size W), w' = n.val) → wpList P l.toArray Q (l.drop n) a' w') := by
      funext a'; exact propext ⟨fun h w' ⟨n, hn⟩ => hn ▸ h n, fun h n => h n.val ⟨n, rfl⟩⟩
    rw [this] at h
    exact h)
theorem Z0 (h : wpQuiet P l.toArray (fun w' => ∃ n : WIn (Below W.heap.size W), w' = n.val) (fun a' => ∀ n : WIn (Below W.heap.size W), Q .normal a' n.val) l a) : (Code.region id l.toArray false).wp P Q a W :=
  wp_region_lit (Kl (C := fun w' => ∃ n : WIn (Below W.heap.size W), w' = n.val) l a W ⟨⟨W, Below.refl _ _⟩, rfl⟩ (by
    have : (fun a' => ∀ n : WIn (Below W.heap.size W), Q .normal a' n.val) = (fun a' => ∀ w', (∃ n : WIn (Below W.heap.size W), w' = n.val) → Q .normal a' w') := by
      funext a'; exact propext ⟨fun h w' ⟨n, hn⟩ => hn ▸ h n, fun h n => h n.val ⟨n, rfl⟩⟩
    rw [this] at h
    exact h))
end
end Go.Proofs.Ytoefmdjgnabgfaa

namespace Go.Proofs.Ytoefmdjgnabgfaa
open Go.RowKit Go.Deep
theorem plain_el (lo : Nat) (w : World) (kind : Int) (h : I64 kind) : RuEl lo w [.string ⟨#[]⟩, .int .i64 kind, .int .i64 0, .int .i64 0, .int .i64 0, .int .i64 0, .slice none 0 0, .slice none 0 0, .slice none 0 0, .slice none 0 0, .int .i64 (-1), .int .i64 (-1), .slice none 0 0, .int .i64 0, .slice none 0 0, .slice none 0 0, .slice none 0 0, .int .i64 0] (plainR kind) :=
  ⟨_, _, _, _, _, _, _, _, rfl, by show (⟨#[]⟩ : ByteArray).size ≤ maxLen; simp [ByteArray.size, maxLen], h, YI, YI, YI, YI, Yp _ _, ths_nil _ _, Yp _ _, Yp _ _, KM, KM, Yp _ _, YI, Yp _ _, Yp _ _, Yp _ _, YI⟩
set_option maxHeartbeats 1600000 in
theorem othersEmpty_any {lo : Nat} {w : World} {cs : List Value} {r : Ru} (top : Int) (hk : r.kind = 1 ∨ r.kind = 2 ∨ r.kind = 3 ∨ r.kind = 4 ∨ r.kind = 5) (h : RuEl lo w cs r) :
    Calls Try.prog 77 #[.agg cs.toArray, .int .i64 top] w fun e w' => e = .returned (.bool (othB r top)) ∧ Below w.heap.size w w' := by
  have H := Lib.hid h
  have HK := Lib.hid hk
  obtain ⟨hI, hl, h1⟩ : I64 r.kind ∧ cs.length = 18 ∧ cs[1]? = some (.int .i64 r.kind) := by
    obtain ⟨v6, v7, v8, v9, v12, v14, v15, v16, rfl, h0, h1, h2, h3, h4, h5, h6, h7, h8, h9, h10, h11, h12, h13, h14, h15, h16, h17⟩ := h
    exact ⟨h1, rfl, rfl⟩
  have HI := Lib.hid hI
  have HL := Lib.hid hl
  have H1 := Lib.hid h1
  have E : Hid (othB r top = samP (bare r top) (plainR r.kind)) := (rfl : othB r top = _)
  clear h hk hI h1
  go_enter Try.func77, Try.ntmps77
  go_upto_region 1 with (fail)
  obtain ⟨W, hW⟩ : ∃ W : World, W = w.alloc (.cells cs.toArray 50) := ⟨_, rfl⟩
  rw [← hW]
  have HB := Lib.hid (show Below w.heap.size w W by rw [hW]; exact Zg _ _)
  have HG := Lib.hid (show W.heap[w.heap.size]? = some (.cells cs.toArray 50 (0, 0)) by rw [hW]; exact Yd _ _ rfl)
  clear hW
  have HGn := Lib.hid (show ∀ n : WIn (Below W.heap.size W), n.val.heap[w.heap.size]? = some (.cells cs.toArray 50 (0, 0)) from fun n => keepB HG.out n.ok)
  have c1 : ∀ n : WIn (Below W.heap.size W), n.val.cell? ⟨w.heap.size, 1, none⟩ = some (.int .i64 r.kind) := fun n => ZF (HGn.out n) 1 (by simpa using H1.out)
  have HBn := Lib.hid (show ∀ n : WIn (Below W.heap.size W), Below w.heap.size w n.val from fun n => Zs HB.out n.ok)
  refine wp_cls (by kernel_rfl) (by kernel_rfl) ?_
  refine BigFrame.wpQuiet_want (by rfl) (fun K hK => ?_)
  refine YC Try.underlying50 Z6 (.tmp 2) (by rfl) w.heap.size 0 cs (by rfl) HL.out (by rintro _ ⟨n, rfl⟩; exact Yc (HGn.out n)) (hK _ ?_)
  clear hK K
  simp only [Act.put, List.setIfInBounds_toArray, List.set_cons_succ, List.set_cons_zero]
  go_big_quiet_step (fail)
  go_big_quiet_step (((with_reducible refine (withoutUsed_any top HK.out (H.out.below (HBn.out _))).mono ?_); rintro e w1 ⟨rfl, -, hb⟩; exact ⟨rfl, ⟨w1, Zs (WIn.ok _) hb⟩, rfl⟩))
  iterate 3 go_big_quiet_step (fail)
  go_big_quiet_step (((with_reducible refine (sameParts_any (bareC_el top HK.out (H.out.below (HBn.out _))) (plain_el 0 _ _ HI.out)).mono ?_); rintro e w1 ⟨rfl, hb⟩; exact ⟨rfl, ⟨w1, Zs (WIn.ok _) hb⟩, rfl⟩))
  go_big_quiet_step (fail)
  refine wpQuiet_nil ?_
  intro n
  go_wp2_with fail
  go_ret
  exact ⟨Zl E.out, HBn.out n⟩
end Go.Proofs.Ytoefmdjgnabgfaa

namespace Go.Proofs.Ytoefmdjgnabgfaa
open Go.RowKit Go.Deep
theorem hasR_succ {rs : List Ru} {s : ByteArray} {k : Nat} (h : k < rs.length) (hk : hasR (rs.take k) s = false) (e : (rs[k].nm.toList == s.toList) = false) : hasR (rs.take (k + 1)) s = false := by
  unfold hasR at *; rw [List.take_succ_eq_append_getElem h, List.any_append, hk]; simpa using e
theorem hasR_yes {rs : List Ru} {s : ByteArray} {k : Nat} (h : k < rs.length) (e : (rs[k].nm.toList == s.toList) = true) : hasR rs s = true := by
  unfold hasR; rw [List.any_eq_true]; exact ⟨rs[k], List.getElem_mem h, e⟩
theorem hasR_end {rs : List Ru} {s : ByteArray} {k : Nat} (h : k = rs.length) (hk : hasR (rs.take k) s = false) : hasR rs s = false := by
  rwa [List.take_of_length_le (by omega)] at hk
theorem rule_cells {lo : Nat} {w : World} {cs : List Value} {r : Ru} (h : RuEl lo w cs r) : cs.length = 18 ∧ cs[0]? = some (.string r.nm) ∧ r.nm.size ≤ maxLen ∧ cs[1]? = some (.int .i64 r.kind) ∧ I64 r.kind ∧ ∀ v ∈ cs, v.oneCell' = true := by
  obtain ⟨v6, v7, v8, v9, v12, v14, v15, v16, rfl, h0, h1, h2, h3, h4, h5, h6, h7, h8, h9, h10, h11, h12, h13, h14, h15, h16, h17⟩ := h
  obtain ⟨a6, c6, rfl⟩ := h6.shape
  obtain ⟨a7, c7, rfl⟩ := h7.shape
  obtain ⟨a8, c8, rfl⟩ := h8.shape
  obtain ⟨a9, c9, rfl⟩ := h9.shape
  obtain ⟨a12, c12, rfl⟩ := h12.shape
  obtain ⟨a14, c14, rfl⟩ := h14.shape
  obtain ⟨a15, c15, rfl⟩ := h15.shape
  obtain ⟨a16, c16, rfl⟩ := h16.shape
  exact ⟨rfl, rfl, h0, rfl, h1, by simp [Value.oneCell']⟩
set_option maxHeartbeats 1600000 in
theorem hasRule_full (b off n cap : Nat) (w : World) (rs : List Ru) (s : ByteArray) (hx : rs.length = n) (hn : n ≤ 9223372036854775807)
    (hc : ∀ i (hi : i < rs.length), ∃ cs : List Value, cs.length = 18 ∧ (∀ j, j < 18 → w.cell? ⟨b, off + i * 18 + j, none⟩ = cs[j]?) ∧ RuEl 0 w cs rs[i]) :
    Calls Try.prog 75 #[.slice (some ⟨b, off, none⟩) n cap, .string s] w fun e w' => e = .returned (.bool (hasR rs s)) ∧ Below w.heap.size w w' := by
  have HC := Lib.hid hc
  have HX := Lib.hid hx
  clear hc hx
  go_enter Try.func75, Try.ntmps75
  go_wp2_with fail
  go_loopw [9] (fun v wr => ∃ k : Nat, k ≤ n ∧ v = .int .i64 k ∧ hasR (rs.take k) s = false ∧ Below w.heap.size w wr) (fun v _ => n - (intOf v).toNat)
  case atStart => exact ⟨0, Nat.zero_le _, rfl, rfl, Below.refl _ _⟩
  case round =>
    obtain ⟨k, hk, rfl, hs, hB⟩ := hrel
    have HS := Lib.hid hs
    have HB := Lib.hid hB
    clear hs hB
    by_cases h1 : k < n
    · have hkx : k < rs.length := by rw [HX.out]; exact h1
      obtain ⟨cs, hl, r1, hel⟩ := HC.out k hkx
      have HL := Lib.hid hl
      obtain ⟨-, p0, -, -, -, pc⟩ := rule_cells hel
      have P0 := Lib.hid p0
      have PC := Lib.hid pc
      have R1 := Lib.hid (rangeBelow (rangeOf hl r1) HB.out)
      clear r1 hel hl p0 pc
      go_upto_region 3 with (fail)
      refine wp_region_lit ?_
      refine wpList_step fun K hK => ?_
      go_simp
      refine hK _ _ ?_
      clear hK K
      refine ld_mid Try.underlying50 Z6 (by rfl) (.tmp 11) (by rfl) b (off + k * 18) cs (by rfl) HL.out R1.out ?_
      refine wpList_step fun K hK => ?_
      go_simp
      refine hK _ _ ?_
      clear hK K
      refine Y8 (T := 50) Z6 (by rfl) (.tmp 6) (.tmp 12) (by rfl) wr.heap.size cs (by rfl) (by rfl) HL.out (Yd _ _ rfl) (by rfl) PC.out (fun Z hZ hbl hsz _ => ?_)
      have ZB := Lib.hid (show Below w.heap.size w Z from hbl _ _ HB.out.size (HB.out.trans ((Zg wr _).mono HB.out.size)))
      have z0 := Lib.hid (ZF hZ 0 (by simpa using P0.out))
      clear hZ hbl hsz
      by_cases he : (rs[k].nm.toList == s.toList) = true
      · have HE := Lib.hid he
        have z := z0.out
        go_wp2_with fail
        go_ret
        exact ⟨Zl (hasR_yes hkx HE.out).symm, ZB.out⟩
      have he' : (rs[k].nm.toList == s.toList) = false := by simpa using he
      have HE := Lib.hid he'
      clear he
      have z := z0.out
      go_wp2_with fail
      go_roundw
      case rel => exact ⟨k + 1, by omega, by go_num, hasR_succ hkx HS.out HE.out, ZB.out⟩
      case measure => simp [intOf]; omega
    go_wp2_with fail
    go_ret
    exact ⟨Zl (hasR_end (by rw [HX.out]; omega) HS.out).symm, HB.out⟩
theorem hasRule_any {lo : Nat} {w : World} {v : Value} {rs : List Ru} (s : ByteArray) (h : IsSl 18 RuEl lo w v rs) :
    Calls Try.prog 75 #[v, .string s] w fun e w' => e = .returned (.bool (hasR rs s)) ∧ Below w.heap.size w w' := by
  obtain ⟨a, cap, rfl, hl, hm, _, hc⟩ := h.mono RuEl.mono (Nat.zero_le lo)
  unfold maxLen at hm
  rcases hc with rfl | ⟨b, off, rfl, _, _, hc⟩
  · go_enter Try.func75, Try.ntmps75
    go_wp2_with fail
    refine wp_loop_rounds 1 ?_
    rw [rounds_succ]
    go_wp2_with fail
    go_ret
    exact ⟨rfl, Below.refl _ _⟩
  exact hasRule_full _ _ _ _ _ _ _ rfl (by omega) hc
end Go.Proofs.Ytoefmdjgnabgfaa

namespace Go.Proofs.Ytoefmdjgnabgfaa
open Go.RowKit Go.Deep
end Go.Proofs.Ytoefmdjgnabgfaa

namespace Go.Proofs.Ytoefmdjgnabgfaa
open Go.RowKit Go.Deep
def orL : List Int → Int
  | [] => 0
  | x :: xs => if x = 0 then orL xs else x
end Go.Proofs.Ytoefmdjgnabgfaa

namespace Go.Proofs.Ytoefmdjgnabgfaa
open Go.RowKit Go.Deep
set_option maxHeartbeats 800000 in
theorem OrE_full (b off n cap : Nat) (w : World) (xs : List Int) (hx : xs.length = n) (hn : n ≤ 9223372036854775807)
    (hc : ∀ i, i < n → w.cell? ⟨b, off + i, none⟩ = some (.int .i64 (xs.getD i 0))) :
    Calls Try.prog 48 #[.slice (some ⟨b, off, none⟩) n cap] w fun e w' => e = .returned (.int .i64 (orL xs)) ∧ w = w' := by
  have HC := Lib.hid hc
  have HX := Lib.hid hx
  clear hc hx
  go_enter Try.func48, Try.ntmps48
  go_wp2_with fail
  go_loop [8] (fun u => ∃ k : Nat, k ≤ n ∧ u = .int .i64 k ∧ orL (xs.drop k) = orL xs) (fun u => n - (intOf u).toNat)
  case atStart => exact ⟨0, Nat.zero_le _, rfl, rfl⟩
  case round =>
    obtain ⟨k, hk, rfl, hs⟩ := hrel
    have HS := Lib.hid hs
    clear hs
    by_cases hlt : k < n
    · have g1 := HC.out k hlt
      have HD := Lib.hid (show orL (xs.drop k) = if xs.getD k 0 = 0 then orL (xs.drop (k + 1)) else xs.getD k 0 by
        have hd : xs.drop k = xs[k]'(by rw [HX.out]; exact hlt) :: xs.drop (k + 1) := List.drop_eq_getElem_cons _
        rw [hd, orL, show xs.getD k 0 = xs[k]'(by rw [HX.out]; exact hlt) by simp [List.getD, List.getElem?_eq_getElem (show k < xs.length by rw [HX.out]; exact hlt)]])
      generalize hX : xs.getD k 0 = x at g1 HD
      clear hX
      by_cases x0 : x = 0
      · subst x0
        go_wp2_with fail
        go_round
        case rel => exact ⟨k + 1, by omega, by go_num, by rw [← HS.out, HD.out, if_pos rfl]⟩
        case measure => simp [intOf]; omega
      have x3 : (x != 0) = true := by simpa using x0
      have XX := Lib.hid x0
      clear x0
      go_wp2_with fail
      go_ret
      exact ⟨ZM (by rw [← HS.out, HD.out, if_neg XX.out]), rfl⟩
    have HE := Lib.hid (show orL xs = 0 by rw [← HS.out, List.drop_eq_nil_of_le (by rw [HX.out]; omega), orL])
    go_wp2_with fail
    go_ret
    exact ⟨ZM (by rw [HE.out]), rfl⟩
theorem KY {w : World} {g n : Nat} {t : TypeId} {cs : Array Value} (xs : List Int) (hg : w.heap[g]? = some (.cells cs t (0, 0))) (hcs : cs = (xs.map (Value.int .i64)).toArray) (hn : n = xs.length) (hb : n ≤ 1000) :
    Calls Try.prog 48 #[.slice (some ⟨g, 0, none⟩) n n] w fun e w' => e = .returned (.int .i64 (orL xs)) ∧ w = w' :=
  OrE_full g 0 n n w xs hn.symm (by omega) fun i hi => by
    subst hcs hn
    simp [World.cell?, hg, hi]
theorem orL_or (a : Int) (xs : List Int) : orL (a :: xs) = orE a (orL xs) := rfl
end Go.Proofs.Ytoefmdjgnabgfaa

namespace Go.Proofs.Ytoefmdjgnabgfaa
open Go.RowKit Go.Deep
theorem Km {lo : Nat} {w : World} {cs : List Value} {r : Ru} (h : RuEl lo w cs r) : ∃ v6 v7 v8 v9 v12 v14 v15 v16, cs = [.string r.nm, .int .i64 r.kind, .int .i64 r.frm, .int .i64 r.to, .int .i64 r.pf, .int .i64 r.pt, v6, v7, v8, v9, .int .i64 r.rd, .int .i64 r.wr, v12, .int .i64 r.pos, v14, v15, v16, .int .i64 r.dir] ∧
    IsInts lo w v6 r.resp ∧ IsSl 6 ThEl lo w v7 r.guards ∧ IsInts lo w v8 r.ex ∧ IsInts lo w v9 r.fa ∧ IsInts lo w v12 r.send ∧ IsInts lo w v14 r.left ∧ IsInts lo w v15 r.right ∧ IsInts lo w v16 r.parent := by
  obtain ⟨v6, v7, v8, v9, v12, v14, v15, v16, rfl, h0, h1, h2, h3, h4, h5, h6, h7, h8, h9, h10, h11, h12, h13, h14, h15, h16, h17⟩ := h
  exact ⟨v6, v7, v8, v9, v12, v14, v15, v16, rfl, h6, h7, h8, h9, h12, h14, h15, h16⟩
set_option maxHeartbeats 3200000 in
theorem partsError_any {lo lo' : Nat} {w : World} {v : Value} {cs : List Value} {q : Fm} {r : Ru} (hq : IsFam lo w v q) (h : RuEl lo' w cs r) :
    Calls Try.prog 79 #[v, .agg cs.toArray] w fun e w' => e = .returned (.int .i64 (partE q r)) ∧ Below w.heap.size w w' := by
  obtain ⟨v2, v3, v4, v6, v7, v8, v9, rfl, _, _, h2, h3, h4, _, h6, h7, h8, h9⟩ := hq
  have HN := Lib.hid h2.bound
  have HM := Lib.hid h3.bound
  have HV := Lib.hid h4.bound
  obtain ⟨a2, c2, rfl⟩ := h2.shape
  obtain ⟨a3, c3, rfl⟩ := h3.shape
  obtain ⟨a4, c4, rfl⟩ := h4.shape
  clear h2 h3 h4 h6 h7 h8 h9
  obtain ⟨u6, u7, u8, u9, u12, u14, u15, u16, hcs, k6, k7, k8, k9, k12, k14, k15, k16⟩ := Km h
  obtain ⟨b6, d6, rfl⟩ := k6.shape
  obtain ⟨b7, d7, rfl⟩ := k7.shape
  obtain ⟨b8, d8, rfl⟩ := k8.shape
  obtain ⟨b9, d9, rfl⟩ := k9.shape
  obtain ⟨b12, d12, rfl⟩ := k12.shape
  obtain ⟨b14, d14, rfl⟩ := k14.shape
  obtain ⟨b15, d15, rfl⟩ := k15.shape
  obtain ⟨b16, d16, rfl⟩ := k16.shape
  have H := Lib.hid h
  have K6 := Lib.hid k6
  have K7 := Lib.hid k7
  have K8 := Lib.hid k8
  have K9 := Lib.hid k9
  have K12 := Lib.hid k12
  have K14 := Lib.hid k14
  have K15 := Lib.hid k15
  have K16 := Lib.hid k16
  have HC := Lib.hid hcs
  clear h k6 k7 k8 k9 k12 k14 k15 k16 hcs
  go_enter Try.func79, Try.ntmps79
  go_upto_region 1 with (fail)
  obtain ⟨W, hW⟩ : ∃ W : World, W = (w.alloc (.cells #[.string q.nm, .int .i64 q.top, .slice a2 q.states.length c2, .slice a3 q.msgs.length c3, .slice a4 q.vals.length c4, .int .i64 q.fault, v6, v7, v8, v9] 27)).alloc (.cells cs.toArray 50) := ⟨_, rfl⟩
  rw [← hW]
  have HB := Lib.hid (show Below w.heap.size w W by rw [hW]; show Below _ _ _; go_grown)
  have HP := Lib.hid (show W.heap[w.heap.size]? = some (.cells #[.string q.nm, .int .i64 q.top, .slice a2 q.states.length c2, .slice a3 q.msgs.length c3, .slice a4 q.vals.length c4, .int .i64 q.fault, v6, v7, v8, v9] 27 (0, 0)) by rw [hW]; exact (KN _ _ (by simp)).trans (Yd _ _ rfl))
  have HG := Lib.hid (show W.heap[w.heap.size + 1]? = some (.cells cs.toArray 50 (0, 0)) by rw [hW]; exact Yd _ _ (by simp))
  clear hW
  have HL := Lib.hid (show cs.length = 18 by rw [HC.out]; rfl)
  have HGn := Lib.hid (show ∀ n : WIn (Below W.heap.size W), n.val.heap[w.heap.size + 1]? = some (.cells cs.toArray 50 (0, 0)) from fun n => keepB HG.out n.ok)
  have HPn := Lib.hid (show ∀ n : WIn (Below W.heap.size W), n.val.heap[w.heap.size]? = some (.cells #[.string q.nm, .int .i64 q.top, .slice a2 q.states.length c2, .slice a3 q.msgs.length c3, .slice a4 q.vals.length c4, .int .i64 q.fault, v6, v7, v8, v9] 27 (0, 0)) from fun n => keepB HP.out n.ok)
  have HBn := Lib.hid (show ∀ n : WIn (Below W.heap.size W), Below w.heap.size w n.val from fun n => Zs HB.out n.ok)
  have x1 : W.cell? ⟨w.heap.size + 1, 1, none⟩ = some (.int .i64 r.kind) := ZF HG.out 1 (by rw [HC.out]; rfl)
  have x6 : W.cell? ⟨w.heap.size + 1, 6, none⟩ = some (.slice b6 r.resp.length d6) := ZF HG.out 6 (by rw [HC.out]; rfl)
  have x17 : W.cell? ⟨w.heap.size + 1, 17, none⟩ = some (.int .i64 r.dir) := ZF HG.out 17 (by rw [HC.out]; rfl)
  have y7 : ∀ n : WIn (Below W.heap.size W), n.val.cell? ⟨w.heap.size + 1, 7, none⟩ = some (.slice b7 r.guards.length d7) := fun n => ZF (HGn.out n) 7 (by rw [HC.out]; rfl)
  have y8 : ∀ n : WIn (Below W.heap.size W), n.val.cell? ⟨w.heap.size + 1, 8, none⟩ = some (.slice b8 r.ex.length d8) := fun n => ZF (HGn.out n) 8 (by rw [HC.out]; rfl)
  have y9 : ∀ n : WIn (Below W.heap.size W), n.val.cell? ⟨w.heap.size + 1, 9, none⟩ = some (.slice b9 r.fa.length d9) := fun n => ZF (HGn.out n) 9 (by rw [HC.out]; rfl)
  have y12 : ∀ n : WIn (Below W.heap.size W), n.val.cell? ⟨w.heap.size + 1, 12, none⟩ = some (.slice b12 r.send.length d12) := fun n => ZF (HGn.out n) 12 (by rw [HC.out]; rfl)
  have y13 : ∀ n : WIn (Below W.heap.size W), n.val.cell? ⟨w.heap.size + 1, 13, none⟩ = some (.int .i64 r.pos) := fun n => ZF (HGn.out n) 13 (by rw [HC.out]; rfl)
  have y14 : ∀ n : WIn (Below W.heap.size W), n.val.cell? ⟨w.heap.size + 1, 14, none⟩ = some (.slice b14 r.left.length d14) := fun n => ZF (HGn.out n) 14 (by rw [HC.out]; rfl)
  have y15 : ∀ n : WIn (Below W.heap.size W), n.val.cell? ⟨w.heap.size + 1, 15, none⟩ = some (.slice b15 r.right.length d15) := fun n => ZF (HGn.out n) 15 (by rw [HC.out]; rfl)
  have y16 : ∀ n : WIn (Below W.heap.size W), n.val.cell? ⟨w.heap.size + 1, 16, none⟩ = some (.slice b16 r.parent.length d16) := fun n => ZF (HGn.out n) 16 (by rw [HC.out]; rfl)
  have p1 : W.cell? ⟨w.heap.size, 1, none⟩ = some (.int .i64 q.top) := ZF HP.out 1 rfl
  have p2 : W.cell? ⟨w.heap.size, 2, none⟩ = some (.slice a2 q.states.length c2) := ZF HP.out 2 rfl
  have p4 : W.cell? ⟨w.heap.size, 4, none⟩ = some (.slice a4 q.vals.length c4) := ZF HP.out 4 rfl
  have z1 : ∀ n : WIn (Below W.heap.size W), n.val.cell? ⟨w.heap.size, 1, none⟩ = some (.int .i64 q.top) := fun n => ZF (HPn.out n) 1 rfl
  have z3 : ∀ n : WIn (Below W.heap.size W), n.val.cell? ⟨w.heap.size, 3, none⟩ = some (.slice a3 q.msgs.length c3) := fun n => ZF (HPn.out n) 3 rfl
  have z4 : ∀ n : WIn (Below W.heap.size W), n.val.cell? ⟨w.heap.size, 4, none⟩ = some (.slice a4 q.vals.length c4) := fun n => ZF (HPn.out n) 4 rfl
  by_cases t3 : r.kind = 3
  · rw [t3] at x1
    by_cases e0 : reE q.states.length r.resp = 0
    · have E := Lib.hid (show shE q.vals.length r.rd r.wr = partE q r by unfold partE; rw [if_pos t3, e0, ZW])
      have E0 := Lib.hid e0
      clear t3 e0
      go_upto_region 10 with ((go_at_call 98; (with_reducible refine (KU q.states.length HN.out (K6.out.below HB.out)).mono ?_); rintro e w1 ⟨rfl, rfl⟩; rw [E0.out]))
      refine Z0 ?_
      refine BigFrame.wpQuiet_want (by rfl) (fun K hK => ?_)
      refine YC Try.underlying50 Z6 (.tmp 3) (by rfl) (w.heap.size + 1) 0 cs (by rfl) HL.out (by rintro _ ⟨n, rfl⟩; exact Yc (HGn.out n)) (hK _ ?_)
      clear hK K
      simp only [Act.put, List.setIfInBounds_toArray, List.set_cons_succ, List.set_cons_zero]
      iterate 3 go_big_quiet_step (fail)
      go_big_quiet_step (((with_reducible refine (KG q.vals.length HV.out (H.out.below (HBn.out _))).mono ?_); rintro e w1 ⟨rfl, hb⟩; exact ⟨rfl, ⟨w1, Zs (WIn.ok _) hb⟩, rfl⟩))
      go_big_quiet_step (fail)
      refine wpQuiet_nil ?_
      intro n
      go_wp2_with fail
      go_ret
      exact ⟨ZM E.out, HBn.out n⟩
    have e1 : (reE q.states.length r.resp != 0) = true := by simpa using e0
    have E := Lib.hid (show reE q.states.length r.resp = partE q r by unfold partE; rw [if_pos t3, Kc _ e0])
    clear t3 e0
    go_wp2_with (go_at_call 98; (with_reducible refine (KU q.states.length HN.out (K6.out.below HB.out)).mono ?_); rintro e w1 ⟨rfl, rfl⟩)
    go_ret
    exact ⟨ZM E.out, HB.out⟩
  have f3 : (r.kind == 3) = false := by simpa using t3
  by_cases t2 : r.kind = 2
  · rw [t2] at x1
    have E := Lib.hid (show shE q.vals.length r.rd r.wr = partE q r by unfold partE; rw [if_neg t3, if_pos t2])
    clear t2 t3 f3
    go_upto_region 10 with (fail)
    refine Z0 ?_
    refine BigFrame.wpQuiet_want (by rfl) (fun K hK => ?_)
    refine YC Try.underlying50 Z6 (.tmp 3) (by rfl) (w.heap.size + 1) 0 cs (by rfl) HL.out (by rintro _ ⟨n, rfl⟩; exact Yc (HGn.out n)) (hK _ ?_)
    clear hK K
    simp only [Act.put, List.setIfInBounds_toArray, List.set_cons_succ, List.set_cons_zero]
    iterate 3 go_big_quiet_step (fail)
    go_big_quiet_step (((with_reducible refine (KG q.vals.length HV.out (H.out.below (HBn.out _))).mono ?_); rintro e w1 ⟨rfl, hb⟩; exact ⟨rfl, ⟨w1, Zs (WIn.ok _) hb⟩, rfl⟩))
    go_big_quiet_step (fail)
    refine wpQuiet_nil ?_
    intro n
    go_wp2_with fail
    go_ret
    exact ⟨ZM E.out, HBn.out n⟩
  have f2 : (r.kind == 2) = false := by simpa using t2
  by_cases t1 : r.kind = 1
  · rw [t1] at x1
    have E := Lib.hid (show orL [guardE q.msgs.length r.guards, setE q.states.length r.ex, setE q.states.length r.fa, shE q.vals.length r.rd r.wr, setE q.msgs.length r.send] = partE q r by unfold partE; rw [if_neg t3, if_neg t2, if_pos t1]; simp only [orL_or]; rw [show orL [] = 0 from rfl, Kn])
    clear t1 t2 t3 f2 f3
    go_upto_region 11 with (fail)
    refine wp_cls_tail 25 (by kernel_rfl) (by kernel_rfl) ?_
    simp only [List.take_succ_cons, List.take_zero]
    iterate 5 go_big_quiet_step (fail)
    go_big_quiet_step (((with_reducible refine (guardsError_any q.msgs.length HM.out (K7.out.below ThEl.stays (HBn.out _))).mono ?_); rintro e w1 ⟨rfl, hb⟩; exact ⟨rfl, ⟨w1, Zs (WIn.ok _) hb⟩, rfl⟩))
    iterate 3 go_big_quiet_step (fail)
    go_big_quiet_step (((with_reducible refine (Yy q.states.length HN.out (K8.out.below (HBn.out _))).mono ?_); rintro e w1 ⟨rfl, hb⟩; exact ⟨rfl, ⟨w1, Zs (WIn.ok _) hb⟩, rfl⟩))
    iterate 3 go_big_quiet_step (fail)
    go_big_quiet_step (((with_reducible refine (Yy q.states.length HN.out (K9.out.below (HBn.out _))).mono ?_); rintro e w1 ⟨rfl, hb⟩; exact ⟨rfl, ⟨w1, Zs (WIn.ok _) hb⟩, rfl⟩))
    refine BigFrame.wpQuiet_want (by rfl) (fun K hK => ?_)
    refine YC Try.underlying50 Z6 (.tmp 3) (by rfl) (w.heap.size + 1) 0 cs (by rfl) HL.out (by rintro _ ⟨n, rfl⟩; exact Yc (HGn.out n)) (hK _ ?_)
    clear hK K
    simp only [Act.put, List.setIfInBounds_toArray, List.set_cons_succ, List.set_cons_zero]
    iterate 3 go_big_quiet_step (fail)
    go_big_quiet_step (((with_reducible refine (KG q.vals.length HV.out (H.out.below (HBn.out _))).mono ?_); rintro e w1 ⟨rfl, hb⟩; exact ⟨rfl, ⟨w1, Zs (WIn.ok _) hb⟩, rfl⟩))
    iterate 5 go_big_quiet_step (fail)
    go_big_quiet_step (((with_reducible refine (Yy q.msgs.length HM.out (K12.out.below (HBn.out _))).mono ?_); rintro e w1 ⟨rfl, hb⟩; exact ⟨rfl, ⟨w1, Zs (WIn.ok _) hb⟩, rfl⟩))
    refine wpQuiet_nil ?_
    intro m
    simp only [List.drop_succ_cons, List.drop_zero]
    have M := m
    go_wp2_with (go_at_call 48; refine (KY [guardE q.msgs.length r.guards, setE q.states.length r.ex, setE q.states.length r.fa, shE q.vals.length r.rd r.wr, setE q.msgs.length r.send] (by exact Yd m.val _ rfl) (by rfl) (by rfl) (by simp)).mono ?_; rintro e w1 ⟨rfl, rfl⟩)
    go_ret
    exact ⟨ZM E.out, Zs (HBn.out m) (Zg m.val _)⟩
  have f1 : (r.kind == 1) = false := by simpa using t1
  by_cases t4 : r.kind = 4
  · rw [t4] at x1
    have E := Lib.hid (show orL [setE q.states.length r.left, setE q.states.length r.right, setE q.states.length r.parent, posE r.pos q.top] = partE q r by unfold partE; rw [if_neg t3, if_neg t2, if_neg t1, if_pos t4]; simp only [orL_or]; rw [show orL [] = 0 from rfl, Kn])
    clear t1 t2 t3 t4 f1 f2 f3
    go_upto_region 12 with (fail)
    refine wp_cls_tail 17 (by kernel_rfl) (by kernel_rfl) ?_
    simp only [List.take_succ_cons, List.take_zero]
    iterate 3 go_big_quiet_step (fail)
    go_big_quiet_step (((with_reducible refine (Yy q.states.length HN.out (K14.out.below (HBn.out _))).mono ?_); rintro e w1 ⟨rfl, hb⟩; exact ⟨rfl, ⟨w1, Zs (WIn.ok _) hb⟩, rfl⟩))
    iterate 3 go_big_quiet_step (fail)
    go_big_quiet_step (((with_reducible refine (Yy q.states.length HN.out (K15.out.below (HBn.out _))).mono ?_); rintro e w1 ⟨rfl, hb⟩; exact ⟨rfl, ⟨w1, Zs (WIn.ok _) hb⟩, rfl⟩))
    iterate 3 go_big_quiet_step (fail)
    go_big_quiet_step (((with_reducible refine (Yy q.states.length HN.out (K16.out.below (HBn.out _))).mono ?_); rintro e w1 ⟨rfl, hb⟩; exact ⟨rfl, ⟨w1, Zs (WIn.ok _) hb⟩, rfl⟩))
    iterate 4 go_big_quiet_step (fail)
    go_big_quiet_step (((with_reducible refine (positionError_any r.pos q.top _).mono ?_); rintro e w1 ⟨rfl, hb⟩; subst hb; exact ⟨rfl, ⟨_, WIn.ok _⟩, rfl⟩))
    refine wpQuiet_nil ?_
    intro m
    simp only [List.drop_succ_cons, List.drop_zero]
    have M := m
    go_wp2_with (go_at_call 48; refine (KY [setE q.states.length r.left, setE q.states.length r.right, setE q.states.length r.parent, posE r.pos q.top] (by exact Yd m.val _ rfl) (by rfl) (by rfl) (by simp)).mono ?_; rintro e w1 ⟨rfl, rfl⟩)
    go_ret
    exact ⟨ZM E.out, Zs (HBn.out m) (Zg m.val _)⟩
  have f4 : (r.kind == 4) = false := by simpa using t4
  have E := Lib.hid (show dirE r.dir q.top = partE q r by unfold partE; rw [if_neg t3, if_neg t2, if_neg t1, if_neg t4])
  clear t1 t2 t3 t4
  go_wp2_with (go_at_call 102; (with_reducible refine (directionError_any r.dir q.top _).mono ?_); rintro e w1 ⟨rfl, rfl⟩)
  go_ret
  exact ⟨ZM E.out, HB.out⟩
end Go.Proofs.Ytoefmdjgnabgfaa
