/-
  othersEmpty OF THE PROGRAM.
-/
import Derived.Test.YtenahfmmijpelaaDoorVSame
import Derived.Test.YtenahfmmijpelaaDoorCls
namespace Go.Proofs.YtenahfmmijpelaaDoor
open Go.RowKit Go.Deep
theorem plain_el (lo : Nat) (w : World) (kind : Int) (h : I64 kind) : RuEl lo w [.string ⟨#[]⟩, .int .i64 kind, .int .i64 0, .int .i64 0, .int .i64 0, .int .i64 0, .slice none 0 0, .slice none 0 0, .slice none 0 0, .slice none 0 0, .int .i64 (-1), .int .i64 (-1), .slice none 0 0, .int .i64 0, .slice none 0 0, .slice none 0 0, .slice none 0 0, .int .i64 0] (plainR kind) :=
  ⟨_, _, _, _, _, _, _, _, rfl, by show (⟨#[]⟩ : ByteArray).size ≤ maxLen; simp [ByteArray.size, maxLen], h, i64_0, i64_0, i64_0, i64_0, ints_nil _ _, ths_nil _ _, ints_nil _ _, ints_nil _ _, i64_m1, i64_m1, ints_nil _ _, i64_0, ints_nil _ _, ints_nil _ _, ints_nil _ _, i64_0⟩
set_option maxHeartbeats 1600000 in
theorem othersEmpty_any {lo : Nat} {w : World} {cs : List Value} {r : Ru} (top : Int) (hk : r.kind = 1 ∨ r.kind = 2 ∨ r.kind = 3 ∨ r.kind = 4 ∨ r.kind = 5) (h : RuEl lo w cs r) :
    Calls Tryd.prog 69 #[.agg cs.toArray, .int .i64 top] w fun e w' => e = .returned (.bool (othB r top)) ∧ Below w.heap.size w w' := by
  have H := Lib.hid h
  have HK := Lib.hid hk
  obtain ⟨hI, hl, h1⟩ : I64 r.kind ∧ cs.length = 18 ∧ cs[1]? = some (.int .i64 r.kind) := by
    obtain ⟨v6, v7, v8, v9, v12, v14, v15, v16, rfl, h0, h1, h2, h3, h4, h5, h6, h7, h8, h9, h10, h11, h12, h13, h14, h15, h16, h17⟩ := h
    exact ⟨h1, rfl, rfl⟩
  have HI := Lib.hid hI
  have HL := Lib.hid hl
  have H1 := Lib.hid h1
  have E : Hid (othB r top = samP (bare r top) (plainR r.kind)) := (rfl : othB r top = _)
  clear h hk hI h1
  go_enter Tryd.func69, Tryd.ntmps69
  go_upto_region 1 with (fail)
  obtain ⟨W, hW⟩ : ∃ W : World, W = w.alloc (.cells cs.toArray 37) := ⟨_, rfl⟩
  rw [← hW]
  have HB := Lib.hid (show Below w.heap.size w W by rw [hW]; exact allocBelow _ _)
  have HG := Lib.hid (show W.heap[w.heap.size]? = some (.cells cs.toArray 37 (0, 0)) by rw [hW]; exact heap_new _ _ rfl)
  clear hW
  have HGn := Lib.hid (show ∀ n : WIn (Below W.heap.size W), n.val.heap[w.heap.size]? = some (.cells cs.toArray 37 (0, 0)) from fun n => keepB HG.out n.ok)
  have c1 : ∀ n : WIn (Below W.heap.size W), n.val.cell? ⟨w.heap.size, 1, none⟩ = some (.int .i64 r.kind) := fun n => cellB (HGn.out n) 1 (by simpa using H1.out)
  have HBn := Lib.hid (show ∀ n : WIn (Below W.heap.size W), Below w.heap.size w n.val from fun n => thenBelow HB.out n.ok)
  refine wp_cls (by kernel_rfl) (by kernel_rfl) ?_
  refine BigFrame.wpQuiet_want (by rfl) (fun K hK => ?_)
  refine quiet_ld Tryd.underlying37 info_rule (.tmp 2) (by rfl) w.heap.size 0 cs (by rfl) HL.out (by rintro _ ⟨n, rfl⟩; exact rangeBlock (HGn.out n)) (hK _ ?_)
  clear hK K
  simp only [Act.put, List.setIfInBounds_toArray, List.set_cons_succ, List.set_cons_zero]
  go_big_quiet_step (fail)
  go_big_quiet_step (((with_reducible refine (withoutUsed_any top HK.out (H.out.below (HBn.out _))).mono ?_); rintro e w1 ⟨rfl, -, hb⟩; exact ⟨rfl, ⟨w1, thenBelow (WIn.ok _) hb⟩, rfl⟩))
  iterate 3 go_big_quiet_step (fail)
  go_big_quiet_step (((with_reducible refine (sameParts_any (bareC_el top HK.out (H.out.below (HBn.out _))) (plain_el 0 _ _ HI.out)).mono ?_); rintro e w1 ⟨rfl, hb⟩; exact ⟨rfl, ⟨w1, thenBelow (WIn.ok _) hb⟩, rfl⟩))
  go_big_quiet_step (fail)
  refine wpQuiet_nil ?_
  intro n
  go_wp2_with fail
  go_ret
  exact ⟨ret_bool E.out, HBn.out n⟩
end Go.Proofs.YtenahfmmijpelaaDoor
