import Derived.Test.YtmpbfdfjcfanoaaDoorRows
import Derived.Lib.LaidTab
import Derived.LaidSub
import Derived.Test.YtmpbfdfjcfanoaaDoorGrpmbggcmok
import Derived.Test.YtmpbfdfjcfanoaaDoorGrpebgemhcn
import Derived.Test.YtmpbfdfjcfanoaaDoorGrpbhbaldpg
set_option linter.all false
namespace Go.Proofs.YtmpbfdfjcfanoaaDoor
open Go.RowKit Go.Deep
section
variable {P : Program} {J : World → Prop} {o : Oper}
def AV.isSl : AV → Bool
  | .sl _ _ _ => true
  | .fr (.sl _ _ _) => true
  | _ => false
theorem pu_slice {F ok : Nat → Prop} {w : World} {z n : Nat} {cs : List AV} {v : Value} (h : Pu F w ok (.sl z n cs) v) : ∃ a m c, v = .slice a m c := by
  cases h with
  | sl0 _ _ => exact ⟨_, _, _, rfl⟩
  | sl _ _ _ _ _ _ _ => exact ⟨_, _, _, rfl⟩
theorem rel_slice {ρ : Names} {B : Nat} {w : World} {X : AV} {v : Value} (h : Rel ρ B w X v) (hX : X.isSl = true) : ∃ a m c, v = .slice a m c := by
  cases h with
  | pu h =>
    cases h with
    | any _ => cases hX
    | v _ => cases hX
    | agg _ _ => cases hX
    | tup _ _ => cases hX
    | fr h =>
      rename_i X
      cases X with
      | sl z n cs => exact pu_slice h
      | _ => cases hX
    | sl0 h1 h2 => exact ⟨_, _, _, rfl⟩
    | sl _ _ _ _ _ _ _ => exact ⟨_, _, _, rfl⟩
    | el _ _ _ _ => cases hX
  | _ => cases hX
theorem sp_bldSI {T : TypeId} {x y : Operand} {X : AV} {k : IntKind} {i : Int} (ho : o.op = .build T #[(0, x), (1, y)]) (hX : X.isSl = true) (H : ∀ a n c, P.built T [(0, .slice a n c), (1, .int k i)] = some #[.slice a n c, .int k i]) :
    ASpec P J o [(x, X), (y, .v (.int k i))] [] (.agg [X, .v (.int k i)]) .no :=
  aspec_val fun ρ B a w _ ha _ => by
    have h1 := ha (x, X) (by simp)
    have h2 := (ha (y, .v (.int k i)) (by simp)).v_inv
    obtain ⟨ad, n, c, e⟩ := rel_slice h1 hX
    refine ⟨.agg #[.slice ad n c, .int k i], ?_, .agg rfl fun j hj => ?_⟩
    · simp only [execOp, ho]
      refine run_val (run_build w T _ _ ?_)
      simp only [List.map_toArray, List.map_cons, List.map_nil]
      rw [h2, show a.eval x = _ from e]
      exact H _ _ _
    · match j, hj with
      | 0, _ =>
        show Rel ρ B w X (.slice ad n c)
        rw [← e]; exact h1
      | 1, _ => exact .pu (.v _)
end
end Go.Proofs.YtmpbfdfjcfanoaaDoor

namespace Go.Proofs.YtmpbfdfjcfanoaaDoor
open Go.RowKit Go.Deep
variable {J : World → Prop}
structure PqLen (q : Pq) : Prop where
  start : q.start.length ≤ 60
  lbad : q.bad.length ≤ 60
  bad : ∀ r ∈ q.bad, r.1.length ≤ 60
  adj : q.adj.length ≤ 60
  goal : q.goal.length ≤ 60
theorem pqLen {q : Pq} (h : bigQ q = false) : PqLen q := by
  obtain ⟨a, b, c, d, e⟩ := bigQ_no h
  exact ⟨a, b, c, d, e⟩
theorem newRw (r : Rw) : ∀ d ∈ (cRw r).map AV.mkFr, d.isNew = true := fun d hd => by
  obtain ⟨x, _, rfl⟩ := List.mem_map.1 hd
  cases x <;> rfl
theorem cellRw (r : Rw) : ∀ d ∈ (cRw r).map AV.mkFr, d.cell = true := fun d hd => by
  simp only [cRw, List.map_cons, List.map_nil, List.mem_cons, List.not_mem_nil, or_false] at hd
  rcases hd with rfl | rfl <;> rfl
theorem snocRw {rs : List Rw} {k : Nat} (h : k < rs.length) : (rs.take k).flatMap cRw ++ rowCells true ((cRw rs[k]).map AV.mkFr) = (rs.take (k + 1)).flatMap cRw := by
  rw [List.take_succ_eq_append_getElem h, List.flatMap_append]
  congr 1
set_option linter.unusedSimpArgs false in
set_option linter.unusedVariables false in
set_option maxRecDepth 100000 in
set_option maxHeartbeats 6400000 in
theorem CopyProperty_c {q : Pq} (L : PqLen q) : Ctr Tryd.prog J 29 [.agg (cPq q)] (.agg (cPq q)) := by
 have l1 := L.lbad
 refine ctr_of_tri Tryd.func29 rfl (by intro X hX; simp only [List.mem_cons, List.not_mem_nil, or_false] at hX; rcases hX with rfl; exact plain_agg (plain_pq q)) (n := 46) rfl (by simp) (fun w0 => ?_)
 refine tri_wk (wk_keep [] [(0, .agg (cPq q))] (n := 46)) ?_
 refine tri_seq ?_
 refine tri_region ?_
 refine t_op rfl (sp_box (X := .agg (cPq q)) (k := 1) (.tmp 0) rfl rfl) ⟨I0, T0⟩ T0 rfl ?_
 refine t_op rfl (sp_alloc (z := .agg #[.string (⟨#[]⟩), .int .i64 0, .slice none 0 0, .slice none 0 0, .slice none 0 0, .slice none 0 0]) (k := 2) rfl (by kernel_rfl)) T0 T0 rfl ?_
 refine tri_nil ?_
 refine tri_wk (wk_keep [(1, .box 58 (cPq q)), (2, .box 58 [sv (⟨#[]⟩), iv 0, .v (.slice none 0 0), .v (.slice none 0 0), .v (.slice none 0 0), .v (.slice none 0 0)])] [(1, .box 1 0), (2, .box 2 0)] (n := 46)) ?_
 refine t_then ?_
 refine tri_seq ?_
 refine tri_region ?_
 refine t_op rfl (sp_loadBoxS (Y := .box 58 (cPq q)) (ds := cPq q) (z := 6) (.tmp 1) rfl Tryd.underlying58 rfl (by kernel_rfl) (by decide) (by kernel_rfl) (by kernel_rfl)) ⟨I0, T0⟩ ⟨rfl, T0⟩ T0 ?_
 refine t_op rfl (sp_alloc (z := .agg #[.string (⟨#[]⟩), .int .i64 0, .slice none 0 0, .slice none 0 0, .slice none 0 0, .slice none 0 0]) (k := 3) rfl (by kernel_rfl)) T0 T0 rfl ?_
 refine t_op rfl (sp_storeBox (T0 := 58) (X := .agg (cPq q)) (cs := [sv (⟨#[]⟩), iv 0, .v (.slice none 0 0), .v (.slice none 0 0), .v (.slice none 0 0), .v (.slice none 0 0)]) (ds := cPq q) (z := 6) (.tmp 3) (.tmp 5) rfl (by kernel_rfl) (by kernel_rfl) (by kernel_rfl) (of_decide_eq_true (by kernel_rfl)) (by kernel_rfl)) ⟨I0, I0, T0⟩ ⟨rfl, T0⟩ rfl ?_
 refine tri_nil ?_
 refine tri_wk (wk_keep [(1, .box 58 (cPq q)), (2, .box 58 [sv (⟨#[]⟩), iv 0, .v (.slice none 0 0), .v (.slice none 0 0), .v (.slice none 0 0), .v (.slice none 0 0)]), (3, .box 58 (cPq q))] [(1, .box 1 0), (2, .box 2 0), (3, .box 3 0)] (n := 46)) ?_
 refine t_then ?_
 refine tri_seq ?_
 refine tri_region ?_
 refine t_op rfl (sp_fieldBox (off' := 2) (.tmp 1) rfl Tryd.underlying58 rfl (z := 1) (by kernel_rfl) (by decide) rfl) ⟨I0, T0⟩ T0 T0 ?_
 refine t_op rfl (sp_loadBox1 (Y := .box 58 (cPq q)) (X := intsA q.start) (.tmp 6) rfl Tryd.underlying24 rfl rfl) ⟨I0, T0⟩ ⟨rfl, T0⟩ T0 ?_
 refine t_op rfl (sp_call (c := .func 42) (xs := #[.tmp 7]) [] (CopyInts_c q.start (Nat.le_trans L.start (by decide))) rfl (by kernel_rfl) rfl (Xs := [intsA q.start]) rfl rfl rfl) ⟨I0, I0, T0⟩ T0 T0 ?_
 refine t_op rfl (sp_fieldBox (off' := 2) (.tmp 3) rfl Tryd.underlying58 rfl (z := 1) (by kernel_rfl) (by decide) rfl) ⟨I0, T0⟩ T0 T0 ?_
 refine t_op rfl (sp_storeBox (T0 := 58) (X := .fr (intsA q.start)) (cs := cPq q) (ds := [sv q.nm, iv q.kind, .fr (intsA q.start), slA 2 cRw q.bad, intsA q.adj, intsA q.goal]) (z := 1) (.tmp 9) (.tmp 8) rfl (by kernel_rfl) (by kernel_rfl) (by kernel_rfl) (of_decide_eq_true (by kernel_rfl)) (by kernel_rfl)) ⟨I0, I0, T0⟩ ⟨rfl, T0⟩ rfl ?_
 refine tri_nil ?_
 refine tri_wk (wk_keep [(1, .box 58 (cPq q)), (2, .box 58 [sv (⟨#[]⟩), iv 0, .v (.slice none 0 0), .v (.slice none 0 0), .v (.slice none 0 0), .v (.slice none 0 0)]), (3, .box 58 [sv q.nm, iv q.kind, .fr (intsA q.start), slA 2 cRw q.bad, intsA q.adj, intsA q.goal])] [(1, .box 1 0), (2, .box 2 0), (3, .box 3 0)] (n := 46)) ?_
 refine t_then ?_
 refine tri_seq ?_
 refine tri_region ?_
 refine t_op rfl (sp_fieldBox (off' := 4) (.tmp 1) rfl Tryd.underlying58 rfl (z := 1) (by kernel_rfl) (by decide) rfl) ⟨I0, T0⟩ T0 T0 ?_
 refine t_op rfl (sp_loadBox1 (Y := .box 58 (cPq q)) (X := intsA q.adj) (.tmp 10) rfl Tryd.underlying24 rfl rfl) ⟨I0, T0⟩ ⟨rfl, T0⟩ T0 ?_
 refine t_op rfl (sp_call (c := .func 42) (xs := #[.tmp 11]) [] (CopyInts_c q.adj (Nat.le_trans L.adj (by decide))) rfl (by kernel_rfl) rfl (Xs := [intsA q.adj]) rfl rfl rfl) ⟨I0, I0, T0⟩ T0 T0 ?_
 refine t_op rfl (sp_fieldBox (off' := 4) (.tmp 3) rfl Tryd.underlying58 rfl (z := 1) (by kernel_rfl) (by decide) rfl) ⟨I0, T0⟩ T0 T0 ?_
 refine t_op rfl (sp_storeBox (T0 := 58) (X := .fr (intsA q.adj)) (cs := [sv q.nm, iv q.kind, .fr (intsA q.start), slA 2 cRw q.bad, intsA q.adj, intsA q.goal]) (ds := [sv q.nm, iv q.kind, .fr (intsA q.start), slA 2 cRw q.bad, .fr (intsA q.adj), intsA q.goal]) (z := 1) (.tmp 13) (.tmp 12) rfl (by kernel_rfl) (by kernel_rfl) (by kernel_rfl) (of_decide_eq_true (by kernel_rfl)) (by kernel_rfl)) ⟨I0, I0, T0⟩ ⟨rfl, T0⟩ rfl ?_
 refine tri_nil ?_
 refine tri_wk (wk_keep [(1, .box 58 (cPq q)), (2, .box 58 [sv (⟨#[]⟩), iv 0, .v (.slice none 0 0), .v (.slice none 0 0), .v (.slice none 0 0), .v (.slice none 0 0)]), (3, .box 58 [sv q.nm, iv q.kind, .fr (intsA q.start), slA 2 cRw q.bad, .fr (intsA q.adj), intsA q.goal])] [(1, .box 1 0), (2, .box 2 0), (3, .box 3 0)] (n := 46)) ?_
 refine t_then ?_
 refine tri_seq ?_
 refine tri_region ?_
 refine t_op rfl (sp_fieldBox (off' := 5) (.tmp 1) rfl Tryd.underlying58 rfl (z := 1) (by kernel_rfl) (by decide) rfl) ⟨I0, T0⟩ T0 T0 ?_
 refine t_op rfl (sp_loadBox1 (Y := .box 58 (cPq q)) (X := intsA q.goal) (.tmp 14) rfl Tryd.underlying24 rfl rfl) ⟨I0, T0⟩ ⟨rfl, T0⟩ T0 ?_
 refine t_op rfl (sp_call (c := .func 42) (xs := #[.tmp 15]) [] (CopyInts_c q.goal (Nat.le_trans L.goal (by decide))) rfl (by kernel_rfl) rfl (Xs := [intsA q.goal]) rfl rfl rfl) ⟨I0, I0, T0⟩ T0 T0 ?_
 refine t_op rfl (sp_fieldBox (off' := 5) (.tmp 3) rfl Tryd.underlying58 rfl (z := 1) (by kernel_rfl) (by decide) rfl) ⟨I0, T0⟩ T0 T0 ?_
 refine t_op rfl (sp_storeBox (T0 := 58) (X := .fr (intsA q.goal)) (cs := [sv q.nm, iv q.kind, .fr (intsA q.start), slA 2 cRw q.bad, .fr (intsA q.adj), intsA q.goal]) (ds := [sv q.nm, iv q.kind, .fr (intsA q.start), slA 2 cRw q.bad, .fr (intsA q.adj), .fr (intsA q.goal)]) (z := 1) (.tmp 17) (.tmp 16) rfl (by kernel_rfl) (by kernel_rfl) (by kernel_rfl) (of_decide_eq_true (by kernel_rfl)) (by kernel_rfl)) ⟨I0, I0, T0⟩ ⟨rfl, T0⟩ rfl ?_
 refine tri_nil ?_
 refine tri_wk (wk_keep [(1, .box 58 (cPq q)), (2, .box 58 [sv (⟨#[]⟩), iv 0, .v (.slice none 0 0), .v (.slice none 0 0), .v (.slice none 0 0), .v (.slice none 0 0)]), (3, .box 58 [sv q.nm, iv q.kind, .fr (intsA q.start), slA 2 cRw q.bad, .fr (intsA q.adj), .fr (intsA q.goal)])] [(1, .box 1 0), (2, .box 2 0), (3, .box 3 0)] (n := 46)) ?_
 refine t_then ?_
 refine tri_seq ?_
 refine tri_region ?_
 refine t_op rfl (sp_fieldBox (off' := 3) (.tmp 3) rfl Tryd.underlying58 rfl (z := 1) (by kernel_rfl) (by decide) rfl) ⟨I0, T0⟩ T0 T0 ?_
 refine t_op rfl (sp_storeBox (T0 := 58) (X := .v (.slice none 0 0)) (cs := [sv q.nm, iv q.kind, .fr (intsA q.start), slA 2 cRw q.bad, .fr (intsA q.adj), .fr (intsA q.goal)]) (ds := [sv q.nm, iv q.kind, .fr (intsA q.start), .v (.slice none 0 0), .fr (intsA q.adj), .fr (intsA q.goal)]) (z := 1) (.tmp 18) (.const (.slice none 0 0)) rfl (by kernel_rfl) (by kernel_rfl) (by kernel_rfl) (of_decide_eq_true (by kernel_rfl)) (by kernel_rfl)) ⟨I0, I0, T0⟩ ⟨rfl, T0⟩ rfl ?_
 refine tri_nil ?_
 refine tri_wk (wk_keep [(1, .box 58 (cPq q)), (2, .box 58 [sv (⟨#[]⟩), iv 0, .v (.slice none 0 0), .v (.slice none 0 0), .v (.slice none 0 0), .v (.slice none 0 0)]), (3, .box 58 [sv q.nm, iv q.kind, .fr (intsA q.start), .v (.slice none 0 0), .fr (intsA q.adj), .fr (intsA q.goal)])] [(1, .box 1 0), (2, .box 2 0), (3, .box 3 0)] (n := 46)) ?_
 refine t_then ?_
 refine tri_seq ?_
 refine tri_seq ?_
 refine tri_region ?_
 refine t_op rfl (sp_assign (.const (.int .i64 0)) (iv 0) rfl) ⟨I0, T0⟩ T0 T0 ?_
 refine tri_nil ?_
 refine tri_wk (wk_keep [(1, .box 58 (cPq q)), (2, .box 58 [sv (⟨#[]⟩), iv 0, .v (.slice none 0 0), .v (.slice none 0 0), .v (.slice none 0 0), .v (.slice none 0 0)]), (3, .box 58 [sv q.nm, iv q.kind, .fr (intsA q.start), .v (.slice none 0 0), .fr (intsA q.adj), .fr (intsA q.goal)])] [(1, .box 1 0), (2, .box 2 0), (3, .box 3 0), (4, iv 0)] (n := 46)) ?_
 refine t_then ?_
 refine tri_block ?_
 refine tri_wk (wk_adoptB 3 3 4 true 98 2 rfl rfl rfl rfl) ?_
 refine tri_loop (σ := {k : Nat // k ≤ q.bad.length}) (fun s => (ofL [(1, .box 58 (cPq q)), (2, .box 58 [sv (⟨#[]⟩), iv 0, .v (.slice none 0 0), .v (.slice none 0 0), .v (.slice none 0 0), .v (.slice none 0 0)]), (3, .box 58 [sv q.nm, iv q.kind, .fr (intsA q.start), .own 4, .fr (intsA q.adj), .fr (intsA q.goal)]), (4, .row true 98 2 s.1 ((q.bad.take s.1).flatMap cRw))], ofT 46 [(1, .box 1 0), (2, .box 2 0), (3, .box 3 0), (4, iv s.1)])) (fun s => q.bad.length - s.1) ⟨0, Nat.zero_le _⟩ (wk_keep _ _ rfl (by kernel_rfl) (by kernel_rfl)) (fun s => ?_)
 obtain ⟨k, hk0⟩ := s
 show ETri J w0 (ofL [(1, .box 58 (cPq q)), (2, .box 58 [sv (⟨#[]⟩), iv 0, .v (.slice none 0 0), .v (.slice none 0 0), .v (.slice none 0 0), .v (.slice none 0 0)]), (3, .box 58 [sv q.nm, iv q.kind, .fr (intsA q.start), .own 4, .fr (intsA q.adj), .fr (intsA q.goal)]), (4, .row true 98 2 k ((q.bad.take k).flatMap cRw))]) (ofT 46 [(1, .box 1 0), (2, .box 2 0), (3, .box 3 0), (4, iv k)]) _
 refine tri_seq ?_
 refine tri_seq ?_
 by_cases hs1 : ((k : Nat) : Int) < ((q.bad.length : Nat) : Int)
 refine tri_region ?_
 refine t_op rfl (sp_move (.tmp 4) (iv k) rfl) ⟨I0, T0⟩ T0 T0 ?_
 refine t_op rfl (sp_fieldBox (off' := 3) (.tmp 1) rfl Tryd.underlying58 rfl (z := 1) (by kernel_rfl) (by decide) rfl) ⟨I0, T0⟩ T0 T0 ?_
 refine t_op rfl (sp_loadBox1 (Y := .box 58 (cPq q)) (X := slA 2 cRw q.bad) (.tmp 20) rfl Tryd.underlying56 rfl rfl) ⟨I0, T0⟩ ⟨rfl, T0⟩ T0 ?_
 refine t_op rfl (sp_lenSl (.tmp 21) rfl Tryd.underlying56) ⟨I0, T0⟩ T0 T0 ?_
 refine t_op rfl (sp_lss rfl (dT hs1)) ⟨I0, I0, T0⟩ T0 T0 ?_
 refine tri_nil ?_
 refine tri_wk (wk_keep [(1, .box 58 (cPq q)), (2, .box 58 [sv (⟨#[]⟩), iv 0, .v (.slice none 0 0), .v (.slice none 0 0), .v (.slice none 0 0), .v (.slice none 0 0)]), (3, .box 58 [sv q.nm, iv q.kind, .fr (intsA q.start), .own 4, .fr (intsA q.adj), .fr (intsA q.goal)]), (4, .row true 98 2 k ((q.bad.take k).flatMap cRw))] [(1, .box 1 0), (2, .box 2 0), (3, .box 3 0), (4, iv k), (23, bv true)] (n := 46)) ?_
 refine t_then ?_
 refine t_condT rfl ?_
 refine tri_skip ?_
 refine t_then ?_
 refine tri_seq ?_
 refine tri_block ?_
 refine tri_draw [⟨[(.tmp 3, .box 3 0)], [], .box 3 3, .no⟩, ⟨[(.tmp 26, .box 3 3)], [(3, .box 58 [sv q.nm, iv q.kind, .fr (intsA q.start), .own 4, .fr (intsA q.adj), .fr (intsA q.goal)])], .own 4, .no⟩, ⟨[(.tmp 1, .box 1 0)], [], .box 1 3, .no⟩, ⟨[(.tmp 28, .box 1 3)], [(1, .box 58 (cPq q))], slA 2 cRw q.bad, .no⟩, ⟨[(.tmp 4, iv k)], [], iv k, .no⟩, ⟨[(.tmp 29, slA 2 cRw q.bad), (.tmp 30, iv k)], [], .el (q.bad.flatMap cRw) (k * 2), .no⟩, ⟨[(.tmp 31, .el (q.bad.flatMap cRw) (k * 2))], [], .el (q.bad.flatMap cRw) (k * 2), .no⟩, ⟨[(.tmp 32, .el (q.bad.flatMap cRw) (k * 2))], [], intsA q.bad[k].1, .no⟩, ⟨[(.func 42, .v (.func (.func 42) #[] #[])), (.tmp 33, intsA q.bad[k].1)], [], .fr (intsA q.bad[k].1), .no⟩, ⟨[(.tmp 1, .box 1 0)], [], .box 1 3, .no⟩, ⟨[(.tmp 35, .box 1 3)], [(1, .box 58 (cPq q))], slA 2 cRw q.bad, .no⟩, ⟨[(.tmp 4, iv k)], [], iv k, .no⟩, ⟨[(.tmp 36, slA 2 cRw q.bad), (.tmp 37, iv k)], [], .el (q.bad.flatMap cRw) (k * 2), .no⟩, ⟨[(.tmp 38, .el (q.bad.flatMap cRw) (k * 2))], [], .el (q.bad.flatMap cRw) (k * 2 + 1), .no⟩, ⟨[(.tmp 39, .el (q.bad.flatMap cRw) (k * 2 + 1))], [], iv q.bad[k].2, .no⟩, ⟨[(.tmp 34, .fr (intsA q.bad[k].1)), (.tmp 40, iv q.bad[k].2)], [], .agg [.fr (intsA q.bad[k].1), iv q.bad[k].2], .no⟩, ⟨[(.tmp 41, .agg [.fr (intsA q.bad[k].1), iv q.bad[k].2])], [], .own 5, .new 5 (.row false 98 2 1 ([.fr (intsA q.bad[k].1), iv q.bad[k].2]))⟩, ⟨[(.tmp 27, .own 4), (.tmp 42, .own 5)], [(4, .row true 98 2 k ((q.bad.take k).flatMap cRw)), (5, .row false 98 2 1 ([.fr (intsA q.bad[k].1), iv q.bad[k].2]))], .own 4, .ap 4 (.row true 98 2 (k + 1) ((q.bad.take (k + 1)).flatMap cRw))⟩, ⟨[(.tmp 3, .box 3 0)], [], .box 3 3, .no⟩, ⟨[(.tmp 44, .box 3 3), (.tmp 43, .own 4)], [(3, .box 58 [sv q.nm, iv q.kind, .fr (intsA q.start), .any, .fr (intsA q.adj), .fr (intsA q.goal)])], .v undef, .st 3 (.box 58 [sv q.nm, iv q.kind, .fr (intsA q.start), .own 4, .fr (intsA q.adj), .fr (intsA q.goal)])⟩] (by kernel_rfl) (by kernel_rfl) ?_
 refine ⟨app_yes rfl (sp_fieldBox (off' := 3) (.tmp 3) rfl Tryd.underlying58 rfl (z := 1) (by kernel_rfl) (by decide) rfl) ⟨I0, T0⟩ T0 T0, ?_⟩
 refine ⟨app_yes rfl (sp_loadBox1 (Y := .box 58 [sv q.nm, iv q.kind, .fr (intsA q.start), .own 4, .fr (intsA q.adj), .fr (intsA q.goal)]) (X := .own 4) (.tmp 26) rfl Tryd.underlying56 rfl rfl) ⟨I0, T0⟩ ⟨rfl, T0⟩ T0, ?_⟩
 refine ⟨app_yes rfl (sp_fieldBox (off' := 3) (.tmp 1) rfl Tryd.underlying58 rfl (z := 1) (by kernel_rfl) (by decide) rfl) ⟨I0, T0⟩ T0 T0, ?_⟩
 refine ⟨app_yes rfl (sp_loadBox1 (Y := .box 58 (cPq q)) (X := slA 2 cRw q.bad) (.tmp 28) rfl Tryd.underlying56 rfl rfl) ⟨I0, T0⟩ ⟨rfl, T0⟩ T0, ?_⟩
 refine ⟨app_yes rfl (sp_move (.tmp 4) (iv k) rfl) ⟨I0, T0⟩ T0 T0, ?_⟩
 refine ⟨app_yes rfl (sp_indexSl (off := k * 2) (.tmp 29) (.tmp 30) rfl Tryd.underlying56 (by kernel_rfl) (by omega) (by omega) rfl) ⟨I0, I0, T0⟩ T0 T0, ?_⟩
 refine ⟨app_yes rfl (sp_fieldEl (off' := k * 2) (.tmp 31) rfl Tryd.underlying98 rfl (z := 1) (by kernel_rfl) (by decide) rfl) ⟨I0, T0⟩ T0 T0, ?_⟩
 refine ⟨app_yes rfl (sp_loadEl1 (X := intsA q.bad[k].1) (.tmp 32) rfl Tryd.underlying24 rfl ((eflat_get lenRw q.bad k 0 (by omega) (by decide)).trans rfl)) ⟨I0, T0⟩ T0 T0, ?_⟩
 refine ⟨app_yes rfl (sp_call (c := .func 42) (xs := #[.tmp 33]) [] (CopyInts_c q.bad[k].1 (Nat.le_trans (L.bad q.bad[k] (List.getElem_mem (by omega))) (by decide))) rfl (by kernel_rfl) rfl (Xs := [intsA q.bad[k].1]) rfl rfl rfl) ⟨I0, I0, T0⟩ T0 T0, ?_⟩
 refine ⟨app_yes rfl (sp_fieldBox (off' := 3) (.tmp 1) rfl Tryd.underlying58 rfl (z := 1) (by kernel_rfl) (by decide) rfl) ⟨I0, T0⟩ T0 T0, ?_⟩
 refine ⟨app_yes rfl (sp_loadBox1 (Y := .box 58 (cPq q)) (X := slA 2 cRw q.bad) (.tmp 35) rfl Tryd.underlying56 rfl rfl) ⟨I0, T0⟩ ⟨rfl, T0⟩ T0, ?_⟩
 refine ⟨app_yes rfl (sp_move (.tmp 4) (iv k) rfl) ⟨I0, T0⟩ T0 T0, ?_⟩
 refine ⟨app_yes rfl (sp_indexSl (off := k * 2) (.tmp 36) (.tmp 37) rfl Tryd.underlying56 (by kernel_rfl) (by omega) (by omega) rfl) ⟨I0, I0, T0⟩ T0 T0, ?_⟩
 refine ⟨app_yes rfl (sp_fieldEl (off' := k * 2 + 1) (.tmp 38) rfl Tryd.underlying98 rfl (z := 1) (by kernel_rfl) (by decide) rfl) ⟨I0, T0⟩ T0 T0, ?_⟩
 refine ⟨app_yes rfl (sp_loadEl1 (X := iv q.bad[k].2) (.tmp 39) rfl Tryd.underlying3 rfl ((eflat_get lenRw q.bad k 1 (by omega) (by decide)).trans rfl)) ⟨I0, T0⟩ T0 T0, ?_⟩
 refine ⟨app_yes rfl (sp_bldSI (X := .fr (intsA q.bad[k].1)) rfl rfl (fun _ _ _ => by kernel_rfl)) ⟨I0, I0, T0⟩ T0 T0, ?_⟩
 refine ⟨app_yes rfl (sp_build (z := 2) (k := 5) (fr := false) (cs := [.fr (intsA q.bad[k].1), iv q.bad[k].2]) [.tmp 41] [.agg [.fr (intsA q.bad[k].1), iv q.bad[k].2]] rfl Tryd.underlying56 (by kernel_rfl) (by decide) (by decide) rfl rfl rfl (by kernel_rfl) (by decide) (fun h => Bool.noConfusion h) (by kernel_rfl)) ⟨I0, T0⟩ T0 rfl, ?_⟩
 refine ⟨app_yes rfl (sp_appendOwn (n := k) (cs := ((q.bad.take k).flatMap cRw)) (fr := true) (m := 1) (ds := [.fr (intsA q.bad[k].1), iv q.bad[k].2]) (⟨Tryd.underlying56, by kernel_rfl, by decide⟩ : Elt Tryd.prog 56 98 2 32) (.tmp 27) (.tmp 42) rfl (fun _ => newRw q.bad[k]) (by unfold maxLen; omega) (by omega) (cellRw q.bad[k]) (es := ((q.bad.take (k + 1)).flatMap cRw)) (snocRw (by omega))) ⟨I0, I0, T0⟩ ⟨rfl, rfl, T0⟩ rfl, ?_⟩
 refine ⟨app_yes rfl (sp_fieldBox (off' := 3) (.tmp 3) rfl Tryd.underlying58 rfl (z := 1) (by kernel_rfl) (by decide) rfl) ⟨I0, T0⟩ T0 T0, ?_⟩
 refine ⟨app_yes rfl (sp_storeBox (T0 := 58) (X := .own 4) (cs := [sv q.nm, iv q.kind, .fr (intsA q.start), .any, .fr (intsA q.adj), .fr (intsA q.goal)]) (ds := [sv q.nm, iv q.kind, .fr (intsA q.start), .own 4, .fr (intsA q.adj), .fr (intsA q.goal)]) (z := 1) (.tmp 44) (.tmp 43) rfl (by kernel_rfl) (by kernel_rfl) (by kernel_rfl) (of_decide_eq_true (by kernel_rfl)) (by kernel_rfl)) ⟨I0, I0, T0⟩ ⟨rfl, T0⟩ rfl, ?_⟩
 show ETri J w0 _ _ _
 refine tri_wk (wk_keep [(1, .box 58 (cPq q)), (2, .box 58 [sv (⟨#[]⟩), iv 0, .v (.slice none 0 0), .v (.slice none 0 0), .v (.slice none 0 0), .v (.slice none 0 0)]), (3, .box 58 [sv q.nm, iv q.kind, .fr (intsA q.start), .own 4, .fr (intsA q.adj), .fr (intsA q.goal)]), (4, .row true 98 2 (k + 1) ((q.bad.take (k + 1)).flatMap cRw))] [(1, .box 1 0), (2, .box 2 0), (3, .box 3 0), (4, iv k), (23, bv true)] (n := 46)) ?_
 refine t_block ?_
 refine t_then ?_
 refine tri_region ?_
 refine t_op rfl (sp_move (.tmp 4) (iv k) rfl) ⟨I0, T0⟩ T0 T0 ?_
 refine t_op rfl (sp_add (c := ((k + 1 : Nat) : Int)) rfl (w64 (by omega) (by omega) (by omega))) ⟨I0, I0, T0⟩ T0 T0 ?_
 refine t_op rfl (sp_assign (.tmp 25) (iv (k + 1 : Nat)) rfl) ⟨I0, T0⟩ T0 T0 ?_
 refine tri_nil ?_
 refine tri_wk (wk_keep [(1, .box 58 (cPq q)), (2, .box 58 [sv (⟨#[]⟩), iv 0, .v (.slice none 0 0), .v (.slice none 0 0), .v (.slice none 0 0), .v (.slice none 0 0)]), (3, .box 58 [sv q.nm, iv q.kind, .fr (intsA q.start), .own 4, .fr (intsA q.adj), .fr (intsA q.goal)]), (4, .row true 98 2 (k + 1) ((q.bad.take (k + 1)).flatMap cRw))] [(1, .box 1 0), (2, .box 2 0), (3, .box 3 0), (4, iv (k + 1 : Nat)), (23, bv true)] (n := 46)) ?_
 refine t_then ?_
 refine tri_again ⟨k + 1, by omega⟩ (show q.bad.length - (k + 1) < q.bad.length - k by omega) ?_
 exact wk_keep _ _ rfl (by kernel_rfl) (by kernel_rfl)
 refine tri_region ?_
 refine t_op rfl (sp_move (.tmp 4) (iv k) rfl) ⟨I0, T0⟩ T0 T0 ?_
 refine t_op rfl (sp_fieldBox (off' := 3) (.tmp 1) rfl Tryd.underlying58 rfl (z := 1) (by kernel_rfl) (by decide) rfl) ⟨I0, T0⟩ T0 T0 ?_
 refine t_op rfl (sp_loadBox1 (Y := .box 58 (cPq q)) (X := slA 2 cRw q.bad) (.tmp 20) rfl Tryd.underlying56 rfl rfl) ⟨I0, T0⟩ ⟨rfl, T0⟩ T0 ?_
 refine t_op rfl (sp_lenSl (.tmp 21) rfl Tryd.underlying56) ⟨I0, T0⟩ T0 T0 ?_
 refine t_op rfl (sp_lss rfl (dF hs1)) ⟨I0, I0, T0⟩ T0 T0 ?_
 refine tri_nil ?_
 refine tri_wk (wk_keep [(1, .box 58 (cPq q)), (2, .box 58 [sv (⟨#[]⟩), iv 0, .v (.slice none 0 0), .v (.slice none 0 0), .v (.slice none 0 0), .v (.slice none 0 0)]), (3, .box 58 [sv q.nm, iv q.kind, .fr (intsA q.start), .own 4, .fr (intsA q.adj), .fr (intsA q.goal)]), (4, .row true 98 2 k ((q.bad.take k).flatMap cRw))] [(1, .box 1 0), (2, .box 2 0), (3, .box 3 0), (4, iv k), (23, bv false)] (n := 46)) ?_
 refine t_then ?_
 refine t_condF rfl ?_
 refine tri_exit ?_
 refine t_then_exit ?_
 refine t_then_exit ?_
 refine t_hit ?_
 refine t_then ?_
 refine tri_seq ?_
 refine tri_region ?_
 refine t_op rfl (sp_loadBoxS (Y := .box 58 [sv q.nm, iv q.kind, .fr (intsA q.start), .own 4, .fr (intsA q.adj), .fr (intsA q.goal)]) (ds := [sv q.nm, iv q.kind, .fr (intsA q.start), .own 4, .fr (intsA q.adj), .fr (intsA q.goal)]) (z := 6) (.tmp 3) rfl Tryd.underlying58 rfl (by kernel_rfl) (by decide) (by kernel_rfl) (by kernel_rfl)) ⟨I0, T0⟩ ⟨rfl, T0⟩ T0 ?_
 refine t_op rfl (sp_storeBox (T0 := 58) (X := .agg [sv q.nm, iv q.kind, .fr (intsA q.start), .own 4, .fr (intsA q.adj), .fr (intsA q.goal)]) (cs := [sv (⟨#[]⟩), iv 0, .v (.slice none 0 0), .v (.slice none 0 0), .v (.slice none 0 0), .v (.slice none 0 0)]) (ds := [sv q.nm, iv q.kind, .fr (intsA q.start), .own 4, .fr (intsA q.adj), .fr (intsA q.goal)]) (z := 6) (.tmp 2) (.tmp 45) rfl (by kernel_rfl) (by kernel_rfl) (by kernel_rfl) (of_decide_eq_true (by kernel_rfl)) (by kernel_rfl)) ⟨I0, I0, T0⟩ ⟨rfl, T0⟩ rfl ?_
 refine tri_nil ?_
 refine tri_wk (wk_keep [(2, .box 58 [sv q.nm, iv q.kind, .fr (intsA q.start), .own 4, .fr (intsA q.adj), .fr (intsA q.goal)]), (4, .row true 98 2 k ((q.bad.take k).flatMap cRw))] [(2, .box 2 0)] (n := 46)) ?_
 refine t_then ?_
 refine tri_ret ?_
 refine tri_end1 Tryd.results29 (.cellS rfl rfl Tryd.underlying58 rfl (z := 6) (by kernel_rfl) rfl (by decide)) ?_
 have hk : k = q.bad.length := by omega
 subst hk
 show AV.agg [sv q.nm, iv q.kind, intsA q.start, .sl 2 q.bad.length ((q.bad.take q.bad.length).flatMap cRw), intsA q.adj, intsA q.goal] = .agg (cPq q)
 rw [List.take_length]; rfl
set_option linter.unusedSimpArgs false in
set_option linter.unusedVariables false in
set_option maxRecDepth 100000 in
set_option maxHeartbeats 6400000 in
theorem rEqualProperty_s {q : Pq} (HQ : PqOk q) : Ctr Tryd.prog J 32 [.agg (cPq q), .agg (cPq q)] (bv true) := by
 have l1 := HQ.lbad
 refine ctr_of_tri Tryd.func32 rfl (by intro X hX; simp only [List.mem_cons, List.not_mem_nil, or_false] at hX; rcases hX with rfl | rfl <;> exact plain_agg (plain_pq q)) (n := 82) rfl (by simp) (fun w0 => ?_)
 refine tri_wk (wk_keep [] [(0, .agg (cPq q)), (1, .agg (cPq q))] (n := 82)) ?_
 refine tri_seq ?_
 refine tri_region ?_
 refine t_op rfl (sp_box (X := .agg (cPq q)) (k := 1) (.tmp 0) rfl rfl) ⟨I0, T0⟩ T0 rfl ?_
 refine t_op rfl (sp_box (X := .agg (cPq q)) (k := 2) (.tmp 1) rfl rfl) ⟨I0, T0⟩ T0 rfl ?_
 refine t_op rfl (sp_assign (.const (.bool false)) (bv false) rfl) ⟨I0, T0⟩ T0 T0 ?_
 refine tri_nil ?_
 refine tri_wk (wk_keep [(1, .box 58 (cPq q)), (2, .box 58 (cPq q))] [(2, .box 1 0), (3, .box 2 0), (4, bv false)] (n := 82)) ?_
 refine t_then ?_
 refine tri_seq ?_
 refine tri_seq ?_
 refine tri_region ?_
 refine t_op rfl (sp_fieldBox (off' := 0) (.tmp 2) rfl Tryd.underlying58 rfl (z := 1) (by kernel_rfl) (by decide) rfl) ⟨I0, T0⟩ T0 T0 ?_
 refine t_op rfl (sp_loadBox1 (Y := .box 58 (cPq q)) (X := sv q.nm) (.tmp 6) rfl Tryd.underlying9 rfl rfl) ⟨I0, T0⟩ ⟨rfl, T0⟩ T0 ?_
 refine t_op rfl (sp_fieldBox (off' := 0) (.tmp 3) rfl Tryd.underlying58 rfl (z := 1) (by kernel_rfl) (by decide) rfl) ⟨I0, T0⟩ T0 T0 ?_
 refine t_op rfl (sp_loadBox1 (Y := .box 58 (cPq q)) (X := sv q.nm) (.tmp 8) rfl Tryd.underlying9 rfl rfl) ⟨I0, T0⟩ ⟨rfl, T0⟩ T0 ?_
 refine t_op rfl (sp_sneq (r := false) rfl (beq_self_eq_true _)) ⟨I0, I0, T0⟩ T0 T0 ?_
 refine t_op rfl (sp_move (.tmp 10) (bv false) rfl) ⟨I0, T0⟩ T0 T0 ?_
 refine t_opG rfl (sp_fieldBox (off' := 1) (.tmp 2) rfl Tryd.underlying58 rfl (z := 1) (by kernel_rfl) (by decide) rfl) ⟨I0, T0⟩ T0 T0 ?_
 refine t_opG rfl (sp_loadBox1 (Y := .box 58 (cPq q)) (X := iv q.kind) (.tmp 12) rfl Tryd.underlying3 rfl rfl) ⟨I0, T0⟩ ⟨rfl, T0⟩ T0 ?_
 refine t_opG rfl (sp_fieldBox (off' := 1) (.tmp 3) rfl Tryd.underlying58 rfl (z := 1) (by kernel_rfl) (by decide) rfl) ⟨I0, T0⟩ T0 T0 ?_
 refine t_opG rfl (sp_loadBox1 (Y := .box 58 (cPq q)) (X := iv q.kind) (.tmp 14) rfl Tryd.underlying3 rfl rfl) ⟨I0, T0⟩ ⟨rfl, T0⟩ T0 ?_
 refine t_opG rfl (sp_neq rfl (dT' rfl)) ⟨I0, I0, T0⟩ T0 T0 ?_
 refine t_op rfl (sp_pick (.tmp 11) (.const (.bool true)) (.tmp 16) false (bv true) (bv false) rfl) ⟨I0, I0, I0, T0⟩ T0 T0 ?_
 refine t_op rfl (sp_move (.tmp 17) (bv false) rfl) ⟨I0, T0⟩ T0 T0 ?_
 refine t_opG rfl (sp_fieldBox (off' := 3) (.tmp 2) rfl Tryd.underlying58 rfl (z := 1) (by kernel_rfl) (by decide) rfl) ⟨I0, T0⟩ T0 T0 ?_
 refine t_opG rfl (sp_loadBox1 (Y := .box 58 (cPq q)) (X := slA 2 cRw q.bad) (.tmp 19) rfl Tryd.underlying56 rfl rfl) ⟨I0, T0⟩ ⟨rfl, T0⟩ T0 ?_
 refine t_opG rfl (sp_lenSl (.tmp 20) rfl Tryd.underlying56) ⟨I0, T0⟩ T0 T0 ?_
 refine t_opG rfl (sp_fieldBox (off' := 3) (.tmp 3) rfl Tryd.underlying58 rfl (z := 1) (by kernel_rfl) (by decide) rfl) ⟨I0, T0⟩ T0 T0 ?_
 refine t_opG rfl (sp_loadBox1 (Y := .box 58 (cPq q)) (X := slA 2 cRw q.bad) (.tmp 22) rfl Tryd.underlying56 rfl rfl) ⟨I0, T0⟩ ⟨rfl, T0⟩ T0 ?_
 refine t_opG rfl (sp_lenSl (.tmp 23) rfl Tryd.underlying56) ⟨I0, T0⟩ T0 T0 ?_
 refine t_opG rfl (sp_neq rfl (dT' rfl)) ⟨I0, I0, T0⟩ T0 T0 ?_
 refine t_op rfl (sp_pick (.tmp 18) (.const (.bool true)) (.tmp 25) false (bv true) (bv false) rfl) ⟨I0, I0, I0, T0⟩ T0 T0 ?_
 refine tri_nil ?_
 refine tri_wk (wk_keep [(1, .box 58 (cPq q)), (2, .box 58 (cPq q))] [(2, .box 1 0), (3, .box 2 0), (4, bv false), (26, bv false)] (n := 82)) ?_
 refine t_then ?_
 refine t_condF rfl ?_
 refine tri_skip ?_
 refine t_then ?_
 refine tri_seq ?_
 refine tri_seq ?_
 refine tri_region ?_
 refine t_op rfl (sp_assign (.const (.int .i64 0)) (iv 0) rfl) ⟨I0, T0⟩ T0 T0 ?_
 refine tri_nil ?_
 refine tri_wk (wk_keep [(1, .box 58 (cPq q)), (2, .box 58 (cPq q))] [(2, .box 1 0), (3, .box 2 0), (4, bv false), (5, iv 0)] (n := 82)) ?_
 refine t_then ?_
 refine tri_block ?_
 refine tri_loop (σ := {k : Nat // k ≤ q.bad.length}) (fun s => (ofL [(1, .box 58 (cPq q)), (2, .box 58 (cPq q))], ofT 82 [(2, .box 1 0), (3, .box 2 0), (5, iv s.1)])) (fun s => q.bad.length - s.1) ⟨0, Nat.zero_le _⟩ (wk_keep _ _ rfl (by kernel_rfl) (by kernel_rfl)) (fun s => ?_)
 obtain ⟨k, hk0⟩ := s
 show ETri J w0 (ofL [(1, .box 58 (cPq q)), (2, .box 58 (cPq q))]) (ofT 82 [(2, .box 1 0), (3, .box 2 0), (5, iv k)]) _
 refine tri_seq ?_
 refine tri_seq ?_
 by_cases hs1 : ((k : Nat) : Int) < ((q.bad.length : Nat) : Int)
 refine tri_region ?_
 refine t_op rfl (sp_move (.tmp 5) (iv k) rfl) ⟨I0, T0⟩ T0 T0 ?_
 refine t_op rfl (sp_fieldBox (off' := 3) (.tmp 2) rfl Tryd.underlying58 rfl (z := 1) (by kernel_rfl) (by decide) rfl) ⟨I0, T0⟩ T0 T0 ?_
 refine t_op rfl (sp_loadBox1 (Y := .box 58 (cPq q)) (X := slA 2 cRw q.bad) (.tmp 28) rfl Tryd.underlying56 rfl rfl) ⟨I0, T0⟩ ⟨rfl, T0⟩ T0 ?_
 refine t_op rfl (sp_lenSl (.tmp 29) rfl Tryd.underlying56) ⟨I0, T0⟩ T0 T0 ?_
 refine t_op rfl (sp_lss rfl (dT hs1)) ⟨I0, I0, T0⟩ T0 T0 ?_
 refine tri_nil ?_
 refine tri_wk (wk_keep [(1, .box 58 (cPq q)), (2, .box 58 (cPq q))] [(2, .box 1 0), (3, .box 2 0), (5, iv k), (31, bv true)] (n := 82)) ?_
 refine t_then ?_
 refine t_condT rfl ?_
 refine tri_skip ?_
 refine t_then ?_
 refine tri_seq ?_
 refine tri_block ?_
 refine tri_seq ?_
 refine tri_draw [⟨[(.tmp 2, .box 1 0)], [], .box 1 3, .no⟩, ⟨[(.tmp 34, .box 1 3)], [(1, .box 58 (cPq q))], slA 2 cRw q.bad, .no⟩, ⟨[(.tmp 5, iv k)], [], iv k, .no⟩, ⟨[(.tmp 35, slA 2 cRw q.bad), (.tmp 36, iv k)], [], .el (q.bad.flatMap cRw) (k * 2), .no⟩, ⟨[(.tmp 37, .el (q.bad.flatMap cRw) (k * 2))], [], .el (q.bad.flatMap cRw) (k * 2 + 1), .no⟩, ⟨[(.tmp 38, .el (q.bad.flatMap cRw) (k * 2 + 1))], [], iv q.bad[k].2, .no⟩, ⟨[(.tmp 3, .box 2 0)], [], .box 2 3, .no⟩, ⟨[(.tmp 40, .box 2 3)], [(2, .box 58 (cPq q))], slA 2 cRw q.bad, .no⟩, ⟨[(.tmp 5, iv k)], [], iv k, .no⟩, ⟨[(.tmp 41, slA 2 cRw q.bad), (.tmp 42, iv k)], [], .el (q.bad.flatMap cRw) (k * 2), .no⟩, ⟨[(.tmp 43, .el (q.bad.flatMap cRw) (k * 2))], [], .el (q.bad.flatMap cRw) (k * 2 + 1), .no⟩, ⟨[(.tmp 44, .el (q.bad.flatMap cRw) (k * 2 + 1))], [], iv q.bad[k].2, .no⟩, ⟨[(.tmp 39, iv q.bad[k].2), (.tmp 45, iv q.bad[k].2)], [], bv false, .no⟩, ⟨[(.tmp 46, bv false)], [], bv false, .no⟩, ⟨[(.tmp 2, .box 1 0)], [], .box 1 3, .no⟩, ⟨[(.tmp 48, .box 1 3)], [(1, .box 58 (cPq q))], slA 2 cRw q.bad, .no⟩, ⟨[(.tmp 5, iv k)], [], iv k, .no⟩, ⟨[(.tmp 49, slA 2 cRw q.bad), (.tmp 50, iv k)], [], .el (q.bad.flatMap cRw) (k * 2), .no⟩, ⟨[(.tmp 51, .el (q.bad.flatMap cRw) (k * 2))], [], .el (q.bad.flatMap cRw) (k * 2), .no⟩, ⟨[(.tmp 52, .el (q.bad.flatMap cRw) (k * 2))], [], intsA q.bad[k].1, .no⟩, ⟨[(.tmp 3, .box 2 0)], [], .box 2 3, .no⟩, ⟨[(.tmp 54, .box 2 3)], [(2, .box 58 (cPq q))], slA 2 cRw q.bad, .no⟩, ⟨[(.tmp 5, iv k)], [], iv k, .no⟩, ⟨[(.tmp 55, slA 2 cRw q.bad), (.tmp 56, iv k)], [], .el (q.bad.flatMap cRw) (k * 2), .no⟩, ⟨[(.tmp 57, .el (q.bad.flatMap cRw) (k * 2))], [], .el (q.bad.flatMap cRw) (k * 2), .no⟩, ⟨[(.tmp 58, .el (q.bad.flatMap cRw) (k * 2))], [], intsA q.bad[k].1, .no⟩, ⟨[(.func 35, .v (.func (.func 35) #[] #[])), (.tmp 53, intsA q.bad[k].1), (.tmp 59, intsA q.bad[k].1)], [], bv true, .no⟩, ⟨[(.tmp 60, bv true)], [], bv false, .no⟩, ⟨[(.tmp 47, bv false), (.const (.bool true), bv true), (.tmp 61, bv false)], [], bv false, .no⟩] (by kernel_rfl) (by kernel_rfl) ?_
 refine ⟨app_yes rfl (sp_fieldBox (off' := 3) (.tmp 2) rfl Tryd.underlying58 rfl (z := 1) (by kernel_rfl) (by decide) rfl) ⟨I0, T0⟩ T0 T0, ?_⟩
 refine ⟨app_yes rfl (sp_loadBox1 (Y := .box 58 (cPq q)) (X := slA 2 cRw q.bad) (.tmp 34) rfl Tryd.underlying56 rfl rfl) ⟨I0, T0⟩ ⟨rfl, T0⟩ T0, ?_⟩
 refine ⟨app_yes rfl (sp_move (.tmp 5) (iv k) rfl) ⟨I0, T0⟩ T0 T0, ?_⟩
 refine ⟨app_yes rfl (sp_indexSl (off := k * 2) (.tmp 35) (.tmp 36) rfl Tryd.underlying56 (by kernel_rfl) (by omega) (by omega) rfl) ⟨I0, I0, T0⟩ T0 T0, ?_⟩
 refine ⟨app_yes rfl (sp_fieldEl (off' := k * 2 + 1) (.tmp 37) rfl Tryd.underlying98 rfl (z := 1) (by kernel_rfl) (by decide) rfl) ⟨I0, T0⟩ T0 T0, ?_⟩
 refine ⟨app_yes rfl (sp_loadEl1 (X := iv q.bad[k].2) (.tmp 38) rfl Tryd.underlying3 rfl ((eflat_get lenRw q.bad k 1 (by omega) (by decide)).trans rfl)) ⟨I0, T0⟩ T0 T0, ?_⟩
 refine ⟨app_yes rfl (sp_fieldBox (off' := 3) (.tmp 3) rfl Tryd.underlying58 rfl (z := 1) (by kernel_rfl) (by decide) rfl) ⟨I0, T0⟩ T0 T0, ?_⟩
 refine ⟨app_yes rfl (sp_loadBox1 (Y := .box 58 (cPq q)) (X := slA 2 cRw q.bad) (.tmp 40) rfl Tryd.underlying56 rfl rfl) ⟨I0, T0⟩ ⟨rfl, T0⟩ T0, ?_⟩
 refine ⟨app_yes rfl (sp_move (.tmp 5) (iv k) rfl) ⟨I0, T0⟩ T0 T0, ?_⟩
 refine ⟨app_yes rfl (sp_indexSl (off := k * 2) (.tmp 41) (.tmp 42) rfl Tryd.underlying56 (by kernel_rfl) (by omega) (by omega) rfl) ⟨I0, I0, T0⟩ T0 T0, ?_⟩
 refine ⟨app_yes rfl (sp_fieldEl (off' := k * 2 + 1) (.tmp 43) rfl Tryd.underlying98 rfl (z := 1) (by kernel_rfl) (by decide) rfl) ⟨I0, T0⟩ T0 T0, ?_⟩
 refine ⟨app_yes rfl (sp_loadEl1 (X := iv q.bad[k].2) (.tmp 44) rfl Tryd.underlying3 rfl ((eflat_get lenRw q.bad k 1 (by omega) (by decide)).trans rfl)) ⟨I0, T0⟩ T0 T0, ?_⟩
 refine ⟨app_yes rfl (sp_neq rfl (dT' rfl)) ⟨I0, I0, T0⟩ T0 T0, ?_⟩
 refine ⟨app_yes rfl (sp_move (.tmp 46) (bv false) rfl) ⟨I0, T0⟩ T0 T0, ?_⟩
 refine ⟨app_yes rfl (sp_fieldBox (off' := 3) (.tmp 2) rfl Tryd.underlying58 rfl (z := 1) (by kernel_rfl) (by decide) rfl) ⟨I0, T0⟩ T0 T0, ?_⟩
 refine ⟨app_yes rfl (sp_loadBox1 (Y := .box 58 (cPq q)) (X := slA 2 cRw q.bad) (.tmp 48) rfl Tryd.underlying56 rfl rfl) ⟨I0, T0⟩ ⟨rfl, T0⟩ T0, ?_⟩
 refine ⟨app_yes rfl (sp_move (.tmp 5) (iv k) rfl) ⟨I0, T0⟩ T0 T0, ?_⟩
 refine ⟨app_yes rfl (sp_indexSl (off := k * 2) (.tmp 49) (.tmp 50) rfl Tryd.underlying56 (by kernel_rfl) (by omega) (by omega) rfl) ⟨I0, I0, T0⟩ T0 T0, ?_⟩
 refine ⟨app_yes rfl (sp_fieldEl (off' := k * 2) (.tmp 51) rfl Tryd.underlying98 rfl (z := 1) (by kernel_rfl) (by decide) rfl) ⟨I0, T0⟩ T0 T0, ?_⟩
 refine ⟨app_yes rfl (sp_loadEl1 (X := intsA q.bad[k].1) (.tmp 52) rfl Tryd.underlying24 rfl ((eflat_get lenRw q.bad k 0 (by omega) (by decide)).trans rfl)) ⟨I0, T0⟩ T0 T0, ?_⟩
 refine ⟨app_yes rfl (sp_fieldBox (off' := 3) (.tmp 3) rfl Tryd.underlying58 rfl (z := 1) (by kernel_rfl) (by decide) rfl) ⟨I0, T0⟩ T0 T0, ?_⟩
 refine ⟨app_yes rfl (sp_loadBox1 (Y := .box 58 (cPq q)) (X := slA 2 cRw q.bad) (.tmp 54) rfl Tryd.underlying56 rfl rfl) ⟨I0, T0⟩ ⟨rfl, T0⟩ T0, ?_⟩
 refine ⟨app_yes rfl (sp_move (.tmp 5) (iv k) rfl) ⟨I0, T0⟩ T0 T0, ?_⟩
 refine ⟨app_yes rfl (sp_indexSl (off := k * 2) (.tmp 55) (.tmp 56) rfl Tryd.underlying56 (by kernel_rfl) (by omega) (by omega) rfl) ⟨I0, I0, T0⟩ T0 T0, ?_⟩
 refine ⟨app_yes rfl (sp_fieldEl (off' := k * 2) (.tmp 57) rfl Tryd.underlying98 rfl (z := 1) (by kernel_rfl) (by decide) rfl) ⟨I0, T0⟩ T0 T0, ?_⟩
 refine ⟨app_yes rfl (sp_loadEl1 (X := intsA q.bad[k].1) (.tmp 58) rfl Tryd.underlying24 rfl ((eflat_get lenRw q.bad k 0 (by omega) (by decide)).trans rfl)) ⟨I0, T0⟩ T0 T0, ?_⟩
 refine ⟨app_yes rfl (sp_call (c := .func 35) (xs := #[.tmp 53, .tmp 59]) [] (sameInts_c q.bad[k].1 (HQ.bad q.bad[k] (List.getElem_mem (by omega))).1) rfl (by kernel_rfl) rfl (Xs := [intsA q.bad[k].1, intsA q.bad[k].1]) rfl rfl rfl) ⟨I0, I0, I0, T0⟩ T0 T0, ?_⟩
 refine ⟨app_yes rfl (sp_not rfl rfl) ⟨I0, T0⟩ T0 T0, ?_⟩
 refine ⟨app_yes rfl (sp_pick (.tmp 47) (.const (.bool true)) (.tmp 61) false (bv true) (bv false) rfl) ⟨I0, I0, I0, T0⟩ T0 T0, ?_⟩
 show ETri J w0 _ _ _
 refine tri_wk (wk_keep [(1, .box 58 (cPq q)), (2, .box 58 (cPq q))] [(2, .box 1 0), (3, .box 2 0), (5, iv k), (31, bv true), (62, bv false)] (n := 82)) ?_
 refine t_then ?_
 refine t_condF rfl ?_
 refine tri_skip ?_
 refine t_block ?_
 refine t_then ?_
 refine tri_region ?_
 refine t_op rfl (sp_move (.tmp 5) (iv k) rfl) ⟨I0, T0⟩ T0 T0 ?_
 refine t_op rfl (sp_add (c := ((k + 1 : Nat) : Int)) rfl (w64 (by omega) (by omega) (by omega))) ⟨I0, I0, T0⟩ T0 T0 ?_
 refine t_op rfl (sp_assign (.tmp 33) (iv (k + 1 : Nat)) rfl) ⟨I0, T0⟩ T0 T0 ?_
 refine tri_nil ?_
 refine tri_wk (wk_keep [(1, .box 58 (cPq q)), (2, .box 58 (cPq q))] [(2, .box 1 0), (3, .box 2 0), (5, iv (k + 1 : Nat)), (31, bv true), (62, bv false)] (n := 82)) ?_
 refine t_then ?_
 refine tri_again ⟨k + 1, by omega⟩ (show q.bad.length - (k + 1) < q.bad.length - k by omega) ?_
 exact wk_keep _ _ rfl (by kernel_rfl) (by kernel_rfl)
 refine tri_region ?_
 refine t_op rfl (sp_move (.tmp 5) (iv k) rfl) ⟨I0, T0⟩ T0 T0 ?_
 refine t_op rfl (sp_fieldBox (off' := 3) (.tmp 2) rfl Tryd.underlying58 rfl (z := 1) (by kernel_rfl) (by decide) rfl) ⟨I0, T0⟩ T0 T0 ?_
 refine t_op rfl (sp_loadBox1 (Y := .box 58 (cPq q)) (X := slA 2 cRw q.bad) (.tmp 28) rfl Tryd.underlying56 rfl rfl) ⟨I0, T0⟩ ⟨rfl, T0⟩ T0 ?_
 refine t_op rfl (sp_lenSl (.tmp 29) rfl Tryd.underlying56) ⟨I0, T0⟩ T0 T0 ?_
 refine t_op rfl (sp_lss rfl (dF hs1)) ⟨I0, I0, T0⟩ T0 T0 ?_
 refine tri_nil ?_
 refine tri_wk (wk_keep [(1, .box 58 (cPq q)), (2, .box 58 (cPq q))] [(2, .box 1 0), (3, .box 2 0), (5, iv k), (31, bv false)] (n := 82)) ?_
 refine t_then ?_
 refine t_condF rfl ?_
 refine tri_exit ?_
 refine t_then_exit ?_
 refine t_then_exit ?_
 refine t_hit ?_
 refine t_then ?_
 refine tri_seq ?_
 refine tri_region ?_
 refine t_op rfl (sp_fieldBox (off' := 2) (.tmp 2) rfl Tryd.underlying58 rfl (z := 1) (by kernel_rfl) (by decide) rfl) ⟨I0, T0⟩ T0 T0 ?_
 refine t_op rfl (sp_loadBox1 (Y := .box 58 (cPq q)) (X := intsA q.start) (.tmp 63) rfl Tryd.underlying24 rfl rfl) ⟨I0, T0⟩ ⟨rfl, T0⟩ T0 ?_
 refine t_op rfl (sp_fieldBox (off' := 2) (.tmp 3) rfl Tryd.underlying58 rfl (z := 1) (by kernel_rfl) (by decide) rfl) ⟨I0, T0⟩ T0 T0 ?_
 refine t_op rfl (sp_loadBox1 (Y := .box 58 (cPq q)) (X := intsA q.start) (.tmp 65) rfl Tryd.underlying24 rfl rfl) ⟨I0, T0⟩ ⟨rfl, T0⟩ T0 ?_
 refine t_op rfl (sp_call (c := .func 35) (xs := #[.tmp 64, .tmp 66]) [] (sameInts_c q.start HQ.start) rfl (by kernel_rfl) rfl (Xs := [intsA q.start, intsA q.start]) rfl rfl rfl) ⟨I0, I0, I0, T0⟩ T0 T0 ?_
 refine t_op rfl (sp_move (.tmp 67) (bv true) rfl) ⟨I0, T0⟩ T0 T0 ?_
 refine t_opG rfl (sp_fieldBox (off' := 4) (.tmp 2) rfl Tryd.underlying58 rfl (z := 1) (by kernel_rfl) (by decide) rfl) ⟨I0, T0⟩ T0 T0 ?_
 refine t_opG rfl (sp_loadBox1 (Y := .box 58 (cPq q)) (X := intsA q.adj) (.tmp 69) rfl Tryd.underlying24 rfl rfl) ⟨I0, T0⟩ ⟨rfl, T0⟩ T0 ?_
 refine t_opG rfl (sp_fieldBox (off' := 4) (.tmp 3) rfl Tryd.underlying58 rfl (z := 1) (by kernel_rfl) (by decide) rfl) ⟨I0, T0⟩ T0 T0 ?_
 refine t_opG rfl (sp_loadBox1 (Y := .box 58 (cPq q)) (X := intsA q.adj) (.tmp 71) rfl Tryd.underlying24 rfl rfl) ⟨I0, T0⟩ ⟨rfl, T0⟩ T0 ?_
 refine t_opG rfl (sp_call (c := .func 35) (xs := #[.tmp 70, .tmp 72]) [] (sameInts_c q.adj HQ.adj) rfl (by kernel_rfl) rfl (Xs := [intsA q.adj, intsA q.adj]) rfl rfl rfl) ⟨I0, I0, I0, T0⟩ T0 T0 ?_
 refine t_op rfl (sp_pick (.tmp 68) (.tmp 73) (.const (.bool false)) true (bv true) (bv false) rfl) ⟨I0, I0, I0, T0⟩ T0 T0 ?_
 refine t_op rfl (sp_move (.tmp 74) (bv true) rfl) ⟨I0, T0⟩ T0 T0 ?_
 refine t_opG rfl (sp_fieldBox (off' := 5) (.tmp 2) rfl Tryd.underlying58 rfl (z := 1) (by kernel_rfl) (by decide) rfl) ⟨I0, T0⟩ T0 T0 ?_
 refine t_opG rfl (sp_loadBox1 (Y := .box 58 (cPq q)) (X := intsA q.goal) (.tmp 76) rfl Tryd.underlying24 rfl rfl) ⟨I0, T0⟩ ⟨rfl, T0⟩ T0 ?_
 refine t_opG rfl (sp_fieldBox (off' := 5) (.tmp 3) rfl Tryd.underlying58 rfl (z := 1) (by kernel_rfl) (by decide) rfl) ⟨I0, T0⟩ T0 T0 ?_
 refine t_opG rfl (sp_loadBox1 (Y := .box 58 (cPq q)) (X := intsA q.goal) (.tmp 78) rfl Tryd.underlying24 rfl rfl) ⟨I0, T0⟩ ⟨rfl, T0⟩ T0 ?_
 refine t_opG rfl (sp_call (c := .func 35) (xs := #[.tmp 77, .tmp 79]) [] (sameInts_c q.goal HQ.goal) rfl (by kernel_rfl) rfl (Xs := [intsA q.goal, intsA q.goal]) rfl rfl rfl) ⟨I0, I0, I0, T0⟩ T0 T0 ?_
 refine t_op rfl (sp_pick (.tmp 75) (.tmp 80) (.const (.bool false)) true (bv true) (bv false) rfl) ⟨I0, I0, I0, T0⟩ T0 T0 ?_
 refine t_op rfl (sp_assign (.tmp 81) (bv true) rfl) ⟨I0, T0⟩ T0 T0 ?_
 refine tri_nil ?_
 refine tri_wk (wk_keep [] [(4, bv true)] (n := 82)) ?_
 refine t_then ?_
 refine tri_ret ?_
 refine tri_end1 Tryd.results32 (.tmp rfl) ?_
 exact rfl
end Go.Proofs.YtmpbfdfjcfanoaaDoor

namespace Go.Proofs.YtmpbfdfjcfanoaaDoor
open Go.RowKit Go.Deep
variable {J : World → Prop}
set_option linter.unusedSimpArgs false in
set_option linter.unusedVariables false in
set_option maxRecDepth 100000 in
set_option maxHeartbeats 6400000 in
theorem lawValidatesProperty_c {p : Fm} (HP : FmOk p) {q : Pq} (HQ : PqOk q) : Ctr Tryd.prog TabW 10 [.agg (cFm p), .agg (cPq q)] (bv true) := by
 refine ctr_of_tri Tryd.func10 rfl (by intro X hX; simp only [List.mem_cons, List.not_mem_nil, or_false] at hX; rcases hX with rfl | rfl; exact plain_agg (plain_fm p); exact plain_agg (plain_pq q)) (n := 30) rfl (by simp) (fun w0 => ?_)
 refine tri_wk (wk_keep [] [(0, .agg (cFm p)), (1, .agg (cPq q))] (n := 30)) ?_
 refine tri_seq ?_
 refine tri_region ?_
 refine t_op rfl (sp_box (X := .agg (cFm p)) (k := 1) (.tmp 0) rfl rfl) ⟨I0, T0⟩ T0 rfl ?_
 refine t_op rfl (sp_box (X := .agg (cPq q)) (k := 2) (.tmp 1) rfl rfl) ⟨I0, T0⟩ T0 rfl ?_
 refine t_op rfl (sp_assign (.const (.bool false)) (bv false) rfl) ⟨I0, T0⟩ T0 T0 ?_
 refine tri_nil ?_
 refine tri_wk (wk_keep [(1, .box 27 (cFm p)), (2, .box 58 (cPq q))] [(2, .box 1 0), (3, .box 2 0), (4, bv false)] (n := 30)) ?_
 refine t_then ?_
 refine tri_seq ?_
 refine tri_seq ?_
 by_cases hs1 : (bigF p) = true
 refine tri_region ?_
 refine t_op rfl (sp_loadBoxS (Y := .box 27 (cFm p)) (ds := cFm p) (z := 10) (.tmp 2) rfl Tryd.underlying27 rfl (by kernel_rfl) (by decide) (by kernel_rfl) (by kernel_rfl)) ⟨I0, T0⟩ ⟨rfl, T0⟩ T0 ?_
 refine t_op rfl (sp_call (c := .func 13) (xs := #[.tmp 6]) [] (ctr_b (Big_c HP) hs1) rfl (by kernel_rfl) rfl (Xs := [.agg (cFm p)]) rfl rfl rfl) ⟨I0, I0, T0⟩ T0 T0 ?_
 refine t_op rfl (sp_move (.tmp 7) (bv true) rfl) ⟨I0, T0⟩ T0 T0 ?_
 refine t_skip rfl ?_
 refine t_skip rfl ?_
 refine t_op rfl (sp_pick (.tmp 8) (.const (.bool true)) (.tmp 10) true (bv true) (.v (.tuple #[])) rfl) ⟨I0, I0, I0, T0⟩ T0 T0 ?_
 refine tri_nil ?_
 refine tri_wk (wk_keep [(1, .box 27 (cFm p)), (2, .box 58 (cPq q))] [(2, .box 1 0), (3, .box 2 0), (4, bv false), (11, bv true)] (n := 30)) ?_
 refine t_then ?_
 refine t_condT rfl ?_
 refine tri_seq ?_
 refine tri_region ?_
 refine t_op rfl (sp_call (c := .func 14) (xs := #[]) [] known_c rfl (by kernel_rfl) rfl (Xs := []) rfl rfl rfl) ⟨I0, T0⟩ T0 T0 ?_
 refine t_op rfl (sp_assign (.tmp 12) (bv true) rfl) ⟨I0, T0⟩ T0 T0 ?_
 refine tri_nil ?_
 refine tri_wk (wk_keep [(1, .box 27 (cFm p)), (2, .box 58 (cPq q))] [(2, .box 1 0), (3, .box 2 0), (4, bv true)] (n := 30)) ?_
 refine t_then ?_
 refine tri_ret ?_
 refine t_then_ret ?_
 refine tri_end1 Tryd.results10 (.tmp rfl) ?_
 exact rfl
 have hs1f : (bigF p) = false := by simpa using hs1
 by_cases hs2 : (bigQ q) = true
 refine tri_region ?_
 refine t_op rfl (sp_loadBoxS (Y := .box 27 (cFm p)) (ds := cFm p) (z := 10) (.tmp 2) rfl Tryd.underlying27 rfl (by kernel_rfl) (by decide) (by kernel_rfl) (by kernel_rfl)) ⟨I0, T0⟩ ⟨rfl, T0⟩ T0 ?_
 refine t_op rfl (sp_call (c := .func 13) (xs := #[.tmp 6]) [] (ctr_b (Big_c HP) hs1f) rfl (by kernel_rfl) rfl (Xs := [.agg (cFm p)]) rfl rfl rfl) ⟨I0, I0, T0⟩ T0 T0 ?_
 refine t_op rfl (sp_move (.tmp 7) (bv false) rfl) ⟨I0, T0⟩ T0 T0 ?_
 refine t_opG rfl (sp_loadBoxS (Y := .box 58 (cPq q)) (ds := cPq q) (z := 6) (.tmp 3) rfl Tryd.underlying58 rfl (by kernel_rfl) (by decide) (by kernel_rfl) (by kernel_rfl)) ⟨I0, T0⟩ ⟨rfl, T0⟩ T0 ?_
 refine t_opG rfl (sp_call (c := .func 28) (xs := #[.tmp 9]) [] (ctr_b (BigProperty_c HQ) hs2) rfl (by kernel_rfl) rfl (Xs := [.agg (cPq q)]) rfl rfl rfl) ⟨I0, I0, T0⟩ T0 T0 ?_
 refine t_op rfl (sp_pick (.tmp 8) (.const (.bool true)) (.tmp 10) false (bv true) (bv true) rfl) ⟨I0, I0, I0, T0⟩ T0 T0 ?_
 refine tri_nil ?_
 refine tri_wk (wk_keep [(1, .box 27 (cFm p)), (2, .box 58 (cPq q))] [(2, .box 1 0), (3, .box 2 0), (4, bv false), (11, bv true)] (n := 30)) ?_
 refine t_then ?_
 refine t_condT rfl ?_
 refine tri_seq ?_
 refine tri_region ?_
 refine t_op rfl (sp_call (c := .func 14) (xs := #[]) [] known_c rfl (by kernel_rfl) rfl (Xs := []) rfl rfl rfl) ⟨I0, T0⟩ T0 T0 ?_
 refine t_op rfl (sp_assign (.tmp 12) (bv true) rfl) ⟨I0, T0⟩ T0 T0 ?_
 refine tri_nil ?_
 refine tri_wk (wk_keep [(1, .box 27 (cFm p)), (2, .box 58 (cPq q))] [(2, .box 1 0), (3, .box 2 0), (4, bv true)] (n := 30)) ?_
 refine t_then ?_
 refine tri_ret ?_
 refine t_then_ret ?_
 refine tri_end1 Tryd.results10 (.tmp rfl) ?_
 exact rfl
 have hs2f : (bigQ q) = false := by simpa using hs2
 refine tri_region ?_
 refine t_op rfl (sp_loadBoxS (Y := .box 27 (cFm p)) (ds := cFm p) (z := 10) (.tmp 2) rfl Tryd.underlying27 rfl (by kernel_rfl) (by decide) (by kernel_rfl) (by kernel_rfl)) ⟨I0, T0⟩ ⟨rfl, T0⟩ T0 ?_
 refine t_op rfl (sp_call (c := .func 13) (xs := #[.tmp 6]) [] (ctr_b (Big_c HP) hs1f) rfl (by kernel_rfl) rfl (Xs := [.agg (cFm p)]) rfl rfl rfl) ⟨I0, I0, T0⟩ T0 T0 ?_
 refine t_op rfl (sp_move (.tmp 7) (bv false) rfl) ⟨I0, T0⟩ T0 T0 ?_
 refine t_opG rfl (sp_loadBoxS (Y := .box 58 (cPq q)) (ds := cPq q) (z := 6) (.tmp 3) rfl Tryd.underlying58 rfl (by kernel_rfl) (by decide) (by kernel_rfl) (by kernel_rfl)) ⟨I0, T0⟩ ⟨rfl, T0⟩ T0 ?_
 refine t_opG rfl (sp_call (c := .func 28) (xs := #[.tmp 9]) [] (ctr_b (BigProperty_c HQ) hs2f) rfl (by kernel_rfl) rfl (Xs := [.agg (cPq q)]) rfl rfl rfl) ⟨I0, I0, T0⟩ T0 T0 ?_
 refine t_op rfl (sp_pick (.tmp 8) (.const (.bool true)) (.tmp 10) false (bv true) (bv false) rfl) ⟨I0, I0, I0, T0⟩ T0 T0 ?_
 refine tri_nil ?_
 refine tri_wk (wk_keep [(1, .box 27 (cFm p)), (2, .box 58 (cPq q))] [(2, .box 1 0), (3, .box 2 0), (4, bv false), (11, bv false)] (n := 30)) ?_
 refine t_then ?_
 refine t_condF rfl ?_
 refine tri_skip ?_
 refine t_then ?_
 refine tri_seq ?_
 refine tri_region ?_
 refine t_op rfl (sp_loadBoxS (Y := .box 58 (cPq q)) (ds := cPq q) (z := 6) (.tmp 3) rfl Tryd.underlying58 rfl (by kernel_rfl) (by decide) (by kernel_rfl) (by kernel_rfl)) ⟨I0, T0⟩ ⟨rfl, T0⟩ T0 ?_
 refine t_op rfl (sp_call (c := .func 29) (xs := #[.tmp 13]) [] (CopyProperty_c (pqLen hs2f)) rfl (by kernel_rfl) rfl (Xs := [.agg (cPq q)]) rfl rfl rfl) ⟨I0, I0, T0⟩ T0 T0 ?_
 refine t_op rfl (sp_alloc (z := .agg #[.string (⟨#[]⟩), .int .i64 0, .slice none 0 0, .slice none 0 0, .slice none 0 0, .slice none 0 0]) (k := 3) rfl (by kernel_rfl)) T0 T0 rfl ?_
 refine t_op rfl (sp_storeBox (T0 := 58) (X := .agg [sv q.nm, iv q.kind, .fr (intsA q.start), .fr (slA 2 cRw q.bad), .fr (intsA q.adj), .fr (intsA q.goal)]) (cs := [sv (⟨#[]⟩), iv 0, .v (.slice none 0 0), .v (.slice none 0 0), .v (.slice none 0 0), .v (.slice none 0 0)]) (ds := [sv q.nm, iv q.kind, .fr (intsA q.start), .fr (slA 2 cRw q.bad), .fr (intsA q.adj), .fr (intsA q.goal)]) (z := 6) (.tmp 5) (.tmp 14) rfl (by kernel_rfl) (by kernel_rfl) (by kernel_rfl) (of_decide_eq_true (by kernel_rfl)) (by kernel_rfl)) ⟨I0, .inr (.inr ⟨_, rfl, rfl⟩), T0⟩ ⟨rfl, T0⟩ rfl ?_
 refine tri_nil ?_
 refine tri_wk (wk_keep [(1, .box 27 (cFm p)), (2, .box 58 (cPq q)), (3, .box 58 [sv q.nm, iv q.kind, .fr (intsA q.start), .fr (slA 2 cRw q.bad), .fr (intsA q.adj), .fr (intsA q.goal)])] [(2, .box 1 0), (3, .box 2 0), (4, bv false), (5, .box 3 0)] (n := 30)) ?_
 refine t_then ?_
 refine tri_seq ?_
 refine tri_draw [⟨[(.tmp 2, .box 1 0)], [(1, .box 27 (cFm p))], .agg (cFm p), .no⟩, ⟨[(.tmp 5, .box 3 0)], [(3, .box 58 [sv q.nm, iv q.kind, .fr (intsA q.start), .fr (slA 2 cRw q.bad), .fr (intsA q.adj), .fr (intsA q.goal)])], .agg [sv q.nm, iv q.kind, .fr (intsA q.start), .fr (slA 2 cRw q.bad), .fr (intsA q.adj), .fr (intsA q.goal)], .no⟩, ⟨[(.func 30, .v (.func (.func 30) #[] #[])), (.tmp 15, .agg (cFm p)), (.tmp 16, .agg [sv q.nm, iv q.kind, .fr (intsA q.start), .fr (slA 2 cRw q.bad), .fr (intsA q.adj), .fr (intsA q.goal)])], [], iv (vpE p q), .no⟩, ⟨[(.tmp 2, .box 1 0)], [(1, .box 27 (cFm p))], .agg (cFm p), .no⟩, ⟨[(.tmp 3, .box 2 0)], [(2, .box 58 (cPq q))], .agg (cPq q), .no⟩, ⟨[(.func 31, .v (.func (.func 31) #[] #[])), (.tmp 18, .agg (cFm p)), (.tmp 19, .agg (cPq q))], [], iv (vpE p q), .no⟩, ⟨[(.tmp 17, iv (vpE p q)), (.tmp 20, iv (vpE p q))], [], bv true, .no⟩, ⟨[(.tmp 21, bv true)], [], bv true, .no⟩, ⟨[(.tmp 5, .box 3 0)], [(3, .box 58 [sv q.nm, iv q.kind, .fr (intsA q.start), .fr (slA 2 cRw q.bad), .fr (intsA q.adj), .fr (intsA q.goal)])], .agg [sv q.nm, iv q.kind, .fr (intsA q.start), .fr (slA 2 cRw q.bad), .fr (intsA q.adj), .fr (intsA q.goal)], .no⟩, ⟨[(.tmp 3, .box 2 0)], [(2, .box 58 (cPq q))], .agg (cPq q), .no⟩, ⟨[(.func 32, .v (.func (.func 32) #[] #[])), (.tmp 23, .agg [sv q.nm, iv q.kind, .fr (intsA q.start), .fr (slA 2 cRw q.bad), .fr (intsA q.adj), .fr (intsA q.goal)]), (.tmp 24, .agg (cPq q))], [], bv true, .no⟩, ⟨[(.tmp 22, bv true), (.tmp 25, bv true), (.const (.bool false), bv false)], [], bv true, .no⟩, ⟨[(.tmp 26, bv true)], [], bv true, .no⟩, ⟨[(.func 14, .v (.func (.func 14) #[] #[]))], [], bv true, .no⟩, ⟨[(.tmp 27, bv true), (.tmp 28, bv true), (.const (.bool false), bv false)], [], bv true, .no⟩, ⟨[(.tmp 29, bv true)], [], bv true, .no⟩] (by kernel_rfl) (by kernel_rfl) ?_
 refine ⟨app_yes rfl (sp_loadBoxS (Y := .box 27 (cFm p)) (ds := cFm p) (z := 10) (.tmp 2) rfl Tryd.underlying27 rfl (by kernel_rfl) (by decide) (by kernel_rfl) (by kernel_rfl)) ⟨I0, T0⟩ ⟨rfl, T0⟩ T0, ?_⟩
 refine ⟨app_yes rfl (sp_loadBoxS (Y := .box 58 [sv q.nm, iv q.kind, .fr (intsA q.start), .fr (slA 2 cRw q.bad), .fr (intsA q.adj), .fr (intsA q.goal)]) (ds := [sv q.nm, iv q.kind, .fr (intsA q.start), .fr (slA 2 cRw q.bad), .fr (intsA q.adj), .fr (intsA q.goal)]) (z := 6) (.tmp 5) rfl Tryd.underlying58 rfl (by kernel_rfl) (by decide) (by kernel_rfl) (by kernel_rfl)) ⟨I0, T0⟩ ⟨rfl, T0⟩ T0, ?_⟩
 refine ⟨app_yes rfl (sp_call (c := .func 30) (xs := #[.tmp 15, .tmp 16]) [] (qValidateProperty_c HP HQ) rfl (by kernel_rfl) rfl (Xs := [.agg (cFm p), .agg [sv q.nm, iv q.kind, .fr (intsA q.start), .fr (slA 2 cRw q.bad), .fr (intsA q.adj), .fr (intsA q.goal)]]) rfl rfl rfl) ⟨I0, I0, I0, T0⟩ T0 T0, ?_⟩
 refine ⟨app_yes rfl (sp_loadBoxS (Y := .box 27 (cFm p)) (ds := cFm p) (z := 10) (.tmp 2) rfl Tryd.underlying27 rfl (by kernel_rfl) (by decide) (by kernel_rfl) (by kernel_rfl)) ⟨I0, T0⟩ ⟨rfl, T0⟩ T0, ?_⟩
 refine ⟨app_yes rfl (sp_loadBoxS (Y := .box 58 (cPq q)) (ds := cPq q) (z := 6) (.tmp 3) rfl Tryd.underlying58 rfl (by kernel_rfl) (by decide) (by kernel_rfl) (by kernel_rfl)) ⟨I0, T0⟩ ⟨rfl, T0⟩ T0, ?_⟩
 refine ⟨app_yes rfl (sp_call (c := .func 31) (xs := #[.tmp 18, .tmp 19]) [] (rValidateProperty_c HP HQ) rfl (by kernel_rfl) rfl (Xs := [.agg (cFm p), .agg (cPq q)]) rfl rfl rfl) ⟨I0, I0, I0, T0⟩ T0 T0, ?_⟩
 refine ⟨app_yes rfl (sp_eql rfl (dT rfl)) ⟨I0, I0, T0⟩ T0 T0, ?_⟩
 refine ⟨app_yes rfl (sp_move (.tmp 21) (bv true) rfl) ⟨I0, T0⟩ T0 T0, ?_⟩
 refine ⟨app_yes rfl (sp_loadBoxS (Y := .box 58 [sv q.nm, iv q.kind, .fr (intsA q.start), .fr (slA 2 cRw q.bad), .fr (intsA q.adj), .fr (intsA q.goal)]) (ds := [sv q.nm, iv q.kind, .fr (intsA q.start), .fr (slA 2 cRw q.bad), .fr (intsA q.adj), .fr (intsA q.goal)]) (z := 6) (.tmp 5) rfl Tryd.underlying58 rfl (by kernel_rfl) (by decide) (by kernel_rfl) (by kernel_rfl)) ⟨I0, T0⟩ ⟨rfl, T0⟩ T0, ?_⟩
 refine ⟨app_yes rfl (sp_loadBoxS (Y := .box 58 (cPq q)) (ds := cPq q) (z := 6) (.tmp 3) rfl Tryd.underlying58 rfl (by kernel_rfl) (by decide) (by kernel_rfl) (by kernel_rfl)) ⟨I0, T0⟩ ⟨rfl, T0⟩ T0, ?_⟩
 refine ⟨app_yes rfl (sp_call (c := .func 32) (xs := #[.tmp 23, .tmp 24]) [] (rEqualProperty_s HQ) rfl (by kernel_rfl) rfl (Xs := [.agg [sv q.nm, iv q.kind, .fr (intsA q.start), .fr (slA 2 cRw q.bad), .fr (intsA q.adj), .fr (intsA q.goal)], .agg (cPq q)]) rfl rfl rfl) ⟨I0, I0, I0, T0⟩ T0 T0, ?_⟩
 refine ⟨app_yes rfl (sp_pick (.tmp 22) (.tmp 25) (.const (.bool false)) true (bv true) (bv false) rfl) ⟨I0, I0, I0, T0⟩ T0 T0, ?_⟩
 refine ⟨app_yes rfl (sp_move (.tmp 26) (bv true) rfl) ⟨I0, T0⟩ T0 T0, ?_⟩
 refine ⟨app_yes rfl (sp_call (c := .func 14) (xs := #[]) [] known_c rfl (by kernel_rfl) rfl (Xs := []) rfl rfl rfl) ⟨I0, T0⟩ T0 T0, ?_⟩
 refine ⟨app_yes rfl (sp_pick (.tmp 27) (.tmp 28) (.const (.bool false)) true (bv true) (bv false) rfl) ⟨I0, I0, I0, T0⟩ T0 T0, ?_⟩
 refine ⟨app_yes rfl (sp_assign (.tmp 29) (bv true) rfl) ⟨I0, T0⟩ T0 T0, ?_⟩
 show ETri TabW w0 _ _ _
 refine tri_wk (wk_keep [] [(4, bv true)] (n := 30)) ?_
 refine t_then ?_
 refine tri_ret ?_
 refine tri_end1 Tryd.results10 (.tmp rfl) ?_
 exact rfl
theorem walk_ValidatesProperty {v v' : Value} {p : Fm} {q : Pq} (w : World) (hp : IsFam 0 w v p) (hq : IsPropX 0 w v' q) (ht : TabW w) :
    Calls Tryd.prog 10 #[v, v'] w fun e w' => e = .returned (.bool true) ∧ Below w.heap.size w w' :=
  walk2 (lawValidatesProperty_c hp.ok hq.ok) (famw hp) (prop_pu (fun _ _ h => h) hq) ht
end Go.Proofs.YtmpbfdfjcfanoaaDoor

namespace Go.Proofs.YtmpbfdfjcfanoaaDoor
open Go.RowKit Go.Deep

theorem tab_of_laid {W : World} (h : laidMetH Tryd.prog [("math/bits.deBruijn32tab", Rows.laid_math_bits_deBruijn32tab), ("math/bits.deBruijn64tab", Rows.laid_math_bits_deBruijn64tab), ("internal/strconv.uint64pow10", Rows.laid_internal_strconv_uint64pow10)] W) : TabW W := by
  have h1 := h.filter fun x => x.1 == "internal/strconv.uint64pow10"
  have h2 := (laidMetH_iff.1 h1).1
  have e : ((([("math/bits.deBruijn32tab", Rows.laid_math_bits_deBruijn32tab), ("math/bits.deBruijn64tab", Rows.laid_math_bits_deBruijn64tab), ("internal/strconv.uint64pow10", Rows.laid_internal_strconv_uint64pow10)] : List (String × DataW Unit)).filter fun x => x.1 == "internal/strconv.uint64pow10").filter fun x => x.2.handleName?.isNone) = [("internal/strconv.uint64pow10", Go.Lib.tabData .u64 Go.Lib.pow10Tab)] := by kernel_rfl
  rw [e] at h2
  exact Go.Lib.tabIs_of_head (g := 0) (t := 142) (e := 134) (n := 20) (by kernel_rfl) (by kernel_rfl) Tryd.underlying142 Tryd.underlying134 (by kernel_rfl) (by kernel_rfl) h2
end Go.Proofs.YtmpbfdfjcfanoaaDoor
