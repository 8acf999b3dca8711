import Derived.Test.YtgbgfkhkjlakbaaGrpafljdnfd
import Derived.Test.YtgbgfkhkjlakbaaGrpjohmkmbe
import Derived.Test.YtgbgfkhkjlakbaaGrpakkbiahl
set_option linter.all false
namespace Go.Proofs.Ytgbgfkhkjlakbaa
open Go.RowKit Go.Deep
variable {J : World → Prop}
namespace Ns
theorem cnt_lo {p : Fm} {n f : Int} (h : 1 ≤ n ∧ n ≤ 1048576 ∧ 0 ≤ f ∧ f ≤ n) : 0 ≤ cntE p n f := by unfold cntE; split <;> omega
theorem cnt_hi {p : Fm} {n f : Int} (h : 1 ≤ n ∧ n ≤ 1048576 ∧ 0 ≤ f ∧ f ≤ n) (h8 : ¬ 8 < n) : cntE p n f ≤ 8 := by unfold cntE; split <;> omega
theorem place_c {top c : Int} (h0 : 0 ≤ c) (h8 : c ≤ 8) (xs : Nat → Value) : CtrW Try.prog J 55 [.box 1000000 0] 1000000 (.box 71 [.v (xs 0), iv top, .v (xs 2), .v (xs 3), .v (xs 4), .v (xs 5), .v (xs 6), .v (xs 7), .v (xs 8), .v (xs 9), .v (xs 10), .v (xs 11), .v (xs 12), iv c, .v (xs 14), .v (xs 15), .v (xs 16), .v (xs 17), .v (xs 18), .v (xs 19), .v (xs 20), .v (xs 21), .v (xs 22), .v (xs 23), .v (xs 24), .v (xs 25), .v (xs 26), .v (xs 27), .v (xs 28), .v (xs 29), .v (xs 30), .v (.slice none 0 0), .v (.slice none 0 0)]) (.box 71 [.v (xs 0), iv top, .v (xs 2), .v (xs 3), .v (xs 4), .v (xs 5), .v (xs 6), .v (xs 7), .v (xs 8), .v (xs 9), .v (xs 10), .v (xs 11), .v (xs 12), iv c, .v (xs 14), .v (xs 15), .v (xs 16), .v (xs 17), .v (xs 18), .v (xs 19), .v (xs 20), .v (xs 21), .v (xs 22), .v (xs 23), .v (xs 24), .v (xs 25), .v (xs 26), .v (xs 27), .v (xs 28), .v (xs 29), .v (xs 30), .fr (slA 1 cLi (Ns.shT top c)), .any]) (.v (.tuple #[])) := by
  obtain ⟨m, rfl⟩ := Int.eq_ofNat_of_zero_le h0
  exact place_w (by omega) xs
theorem plain_sys (p : Fm) (n t f : Int) : ∀ X ∈ sysC p n t f, Plain X := by
  intro X hX
  unfold sysC at hX
  rcases List.mem_append.1 hX with h | h
  · exact Yq p X h
  simp only [List.mem_cons, List.not_mem_nil, or_false] at h
  rcases h with rfl | rfl | rfl | rfl | rfl | rfl | rfl | rfl | rfl | rfl | rfl | rfl | rfl | rfl | rfl | rfl | rfl | rfl | rfl | rfl | rfl | rfl | rfl <;> first | exact .v _ | exact .any | exact .any _ | exact plain_sl plain_li _
theorem plain_mask {m : List Bool} {c0 : List AV} (h : ∀ xs, (maskC m xs c0).all AV.isV = true) : ∀ xs, ∀ X ∈ maskC m xs c0, Plain X := fun xs X hX => by
  have := List.all_eq_true.1 (h xs) X hX
  cases X <;> first | exact .v _ | cases this
theorem pw1 {k o : Nat} : ∀ X ∈ [AV.box k o], PlainW X := fun X hX => by
  rw [List.mem_singleton] at hX; rw [hX]; exact .box _ _
theorem place_m {p : Fm} {n t f : Int} (h0 : 0 ≤ cntE p n f) (h8 : cntE p n f ≤ 8) : ∀ xs' : Nat → Value, CtrW Try.prog J 55 [.box 1000000 0] 1000000 (.box 71 (maskC [true, false, true, true, true, true, true, true, true, true, true, true, true, false, true, true, true, true, true, true, true, true, true, true, true, true, true, true, true, true, true, false, false] xs' [sv p.nm, iv p.top, Zp p.states, Zp p.msgs, Zp p.vals, iv p.fault, slA 4 cLn p.res, Zi p.init, Zi p.leader, slA 18 cRu p.rules, iv n, iv t, iv f, iv (cntE p n f), iv (n - f), .any, .any, .any, .any, .any, .any, .any, .any, .any, .any, .any, .any, .any, .any, .any, .any, .v (.slice none 0 0), .v (.slice none 0 0)])) (.box 71 (maskC [true, false, true, true, true, true, true, true, true, true, true, true, true, false, true, true, true, true, true, true, true, true, true, true, true, true, true, true, true, true, true, false, false] xs' [sv p.nm, iv p.top, Zp p.states, Zp p.msgs, Zp p.vals, iv p.fault, slA 4 cLn p.res, Zi p.init, Zi p.leader, slA 18 cRu p.rules, iv n, iv t, iv f, iv (cntE p n f), iv (n - f), .any, .any, .any, .any, .any, .any, .any, .any, .any, .any, .any, .any, .any, .any, .any, .any, .fr (slA 1 cLi (Ns.shT p.top (Ns.cntE p n f))), .any])) (.v (.tuple #[])) := fun xs => place_c h0 h8 xs
end Ns
set_option maxRecDepth 100000 in
set_option maxHeartbeats 6400000 in
theorem newSystem_err {p : Fm} (HP : FmOk p) {n t f : Int} (hs : ¬ Ns.sysE p n t f = 0) : CtrA Try.prog J 28 [.agg (cFm p), .agg (cSz n t f)] (.tup [.v (.pointer none), iv (Ns.sysE p n t f)]) := by
 refine ctrA_of_tri Try.func28 rfl (by intro X hX; simp only [List.mem_cons, List.not_mem_nil, or_false] at hX; rcases hX with rfl | rfl; exact ZC (Yq p); exact ZC (YH n t f)) (n := 80) rfl (by simp) (fun w0 => ?_)
 refine kW 80 [] [(0, .agg (cFm p)), (1, .agg (cSz n t f))] (Zb (Za (Z8 rfl (Z9 (X := .agg (cFm p)) (k := 1) (.tmp 0) rfl rfl) ⟨I0, T0⟩ T0 rfl (Z8 rfl (Z9 (X := .agg (cSz n t f)) (k := 2) (.tmp 1) rfl rfl) ⟨I0, T0⟩ T0 rfl (pM (YA (.const (.pointer none)) (.v (.pointer none)) rfl) (pM (aC (.int .i64 0)) (kN 80 [(1, .box 27 (cFm p)), (2, .box 29 (cSz n t f))] [(2, .box 1 0), (3, .box 2 0), (4, .v (.pointer none)), (5, iv 0)] (Zc (Zb (Zb (Za ?_)))))))))))
 refine oB (Zk (Y := .box 27 (cFm p)) (ds := cFm p) (z := 10) (.tmp 2) rfl U27 rfl (by kernel_rfl) (by decide) (by kernel_rfl) (by kernel_rfl)) I0 rfl (oC (Zl (c := .func 52) (xs := #[.tmp 12]) [] (qValidate_c HP) rfl (by kernel_rfl) rfl (Xs := [.agg (cFm p)]) rfl rfl rfl) I0 I0 (pM (aT 13 (iv (valE p))) (kN 80 [(1, .box 27 (cFm p)), (2, .box 29 (cSz n t f))] [(2, .box 1 0), (3, .box 2 0), (4, .v (.pointer none)), (5, iv 0), (6, iv (valE p))] (Zc (Zb ?_)))))
 by_cases hs1 : valE p = 0
 obtain ⟨hr8, hg2⟩ := Ns.val_lims hs1
 refine Za (pM (mT 6 (iv (valE p))) (oC (ZD rfl (dT' hs1)) I0 I0 (kN 80 [(1, .box 27 (cFm p)), (2, .box 29 (cSz n t f))] [(2, .box 1 0), (3, .box 2 0), (4, .v (.pointer none)), (5, iv 0), (6, iv (valE p)), (15, bv false)] (Zc (Zx rfl (Zr (Zc (Zb (Zb ?_)))))))))
 by_cases hs2 : (admB p n t f) = true
 have hai := Ns.adm_in hs2
 refine Za (oB (Zk (Y := .box 27 (cFm p)) (ds := cFm p) (z := 10) (.tmp 2) rfl U27 rfl (by kernel_rfl) (by decide) (by kernel_rfl) (by kernel_rfl)) I0 rfl (oB (Zk (Y := .box 29 (cSz n t f)) (ds := cSz n t f) (z := 3) (.tmp 3) rfl U29 rfl (by kernel_rfl) (by decide) (by kernel_rfl) (by kernel_rfl)) I0 rfl (oD (Zl (c := .func 53) (xs := #[.tmp 17, .tmp 18]) [] (ZJ (Ns.adm_c HP hs1) hs2) rfl (by kernel_rfl) rfl (Xs := [.agg (cFm p), .agg (cSz n t f)]) rfl rfl rfl) I0 I0 I0 (oA (Zy rfl rfl) I0 (kN 80 [(1, .box 27 (cFm p)), (2, .box 29 (cSz n t f))] [(2, .box 1 0), (3, .box 2 0), (4, .v (.pointer none)), (5, iv 0), (20, bv false)] (Zc (Zx rfl (Zr (Zc (Zb (Zb ?_)))))))))))
 refine Za (oA (fb 0 3 U29 1) I0 (oB (lb (iv n) 21 U3) I0 rfl (oC (Yf rfl (dT (Ns.sys_big hs1 hs2 hs))) I0 I0 (kN 80 [(1, .box 27 (cFm p)), (2, .box 29 (cSz n t f))] [(2, .box 1 0), (3, .box 2 0), (4, .v (.pointer none)), (5, iv 0), (23, bv true)] (Zc (Zw rfl (Zb (Za (pM (YA (.const (.pointer none)) (.v (.pointer none)) rfl) (pM (aC (.int .i64 4)) (Zv ?_)))))))))))
 refine Zc (Zt (Zj ?_))
 refine tri_endA2 [(1, .box 27 (cFm p)), (2, .box 29 (cSz n t f))] Try.results28 (.tmp rfl) (.tmp rfl) (by kernel_rfl) rfl rfl rfl ?_ ?_ ?_
 · exact .v _
 · exact .v _
 · rw [Ns.sys_e3 hs1 hs2 (Ns.sys_big hs1 hs2 hs)]; rfl
 have hs2f : (admB p n t f) = false := by simpa using hs2
 refine Za (oB (Zk (Y := .box 27 (cFm p)) (ds := cFm p) (z := 10) (.tmp 2) rfl U27 rfl (by kernel_rfl) (by decide) (by kernel_rfl) (by kernel_rfl)) I0 rfl (oB (Zk (Y := .box 29 (cSz n t f)) (ds := cSz n t f) (z := 3) (.tmp 3) rfl U29 rfl (by kernel_rfl) (by decide) (by kernel_rfl) (by kernel_rfl)) I0 rfl (oD (Zl (c := .func 53) (xs := #[.tmp 17, .tmp 18]) [] (ZJ (Ns.adm_c HP hs1) hs2f) rfl (by kernel_rfl) rfl (Xs := [.agg (cFm p), .agg (cSz n t f)]) rfl rfl rfl) I0 I0 I0 (oA (Zy rfl rfl) I0 (kN 80 [(1, .box 27 (cFm p)), (2, .box 29 (cSz n t f))] [(2, .box 1 0), (3, .box 2 0), (4, .v (.pointer none)), (5, iv 0), (20, bv true)] (Zc (Zw rfl (Zb (Za (pM (YA (.const (.pointer none)) (.v (.pointer none)) rfl) (pM (aC (.int .i64 8)) ?_)))))))))))
 refine Zv (Zc (Zt (Zj ?_)))
 refine tri_endA2 [(1, .box 27 (cFm p)), (2, .box 29 (cSz n t f))] Try.results28 (.tmp rfl) (.tmp rfl) (by kernel_rfl) rfl rfl rfl ?_ ?_ ?_
 · exact .v _
 · exact .v _
 · rw [Ns.sys_e2 hs1 hs2f]; rfl
 refine Za (pM (mT 6 (iv (valE p))) (oC (ZD rfl (dF' hs1)) I0 I0 (kN 80 [(1, .box 27 (cFm p)), (2, .box 29 (cSz n t f))] [(2, .box 1 0), (3, .box 2 0), (4, .v (.pointer none)), (5, iv 0), (6, iv (valE p)), (15, bv true)] (Zc (Zw rfl (Zb (Za (pM (mT 6 (iv (valE p))) (pM (YA (.const (.pointer none)) (.v (.pointer none)) rfl) (pM (aT 16 (iv (valE p))) (Zv ?_)))))))))))
 refine Zc (Zt (Zj ?_))
 refine tri_endA2 [(1, .box 27 (cFm p)), (2, .box 29 (cSz n t f))] Try.results28 (.tmp rfl) (.tmp rfl) (by kernel_rfl) rfl rfl rfl ?_ ?_ ?_
 · exact .v _
 · exact .v _
 rw [Ns.sys_e1 hs1]; rfl
set_option maxRecDepth 100000 in
set_option maxHeartbeats 6400000 in
theorem newSystem_ok {p : Fm} (HP : FmOk p) {n t f : Int} (hs : Ns.sysE p n t f = 0) : CtrA Try.prog J 28 [.agg (cFm p), .agg (cSz n t f)] (.tup [.el (Ns.sysC p n t f) 0, iv 0]) := by
 obtain ⟨hv, ha, h8⟩ := Ns.sys_ok hs
 obtain ⟨hr8, hg2⟩ := Ns.val_lims hv
 have hai := Ns.adm_in ha
 have hc0 := Ns.cnt_lo (p := p) hai
 have hc8 := Ns.cnt_hi (p := p) hai h8
 refine ctrA_of_tri Try.func28 rfl (by intro X hX; simp only [List.mem_cons, List.not_mem_nil, or_false] at hX; rcases hX with rfl | rfl; exact ZC (Yq p); exact ZC (YH n t f)) (n := 80) rfl (by simp) (fun w0 => ?_)
 refine kW 80 [] [(0, .agg (cFm p)), (1, .agg (cSz n t f))] (Zb (Za (Z8 rfl (Z9 (X := .agg (cFm p)) (k := 1) (.tmp 0) rfl rfl) ⟨I0, T0⟩ T0 rfl (Z8 rfl (Z9 (X := .agg (cSz n t f)) (k := 2) (.tmp 1) rfl rfl) ⟨I0, T0⟩ T0 rfl (pM (YA (.const (.pointer none)) (.v (.pointer none)) rfl) (pM (aC (.int .i64 0)) (kN 80 [(1, .box 27 (cFm p)), (2, .box 29 (cSz n t f))] [(2, .box 1 0), (3, .box 2 0), (4, .v (.pointer none)), (5, iv 0)] (Zc (Zb (Zb (Za ?_)))))))))))
 refine oB (Zk (Y := .box 27 (cFm p)) (ds := cFm p) (z := 10) (.tmp 2) rfl U27 rfl (by kernel_rfl) (by decide) (by kernel_rfl) (by kernel_rfl)) I0 rfl (oC (Zl (c := .func 52) (xs := #[.tmp 12]) [] (qValidate_c HP) rfl (by kernel_rfl) rfl (Xs := [.agg (cFm p)]) rfl rfl rfl) I0 I0 (pM (aT 13 (iv (valE p))) (kN 80 [(1, .box 27 (cFm p)), (2, .box 29 (cSz n t f))] [(2, .box 1 0), (3, .box 2 0), (4, .v (.pointer none)), (5, iv 0), (6, iv (valE p))] (Zc (Zb (Za (pM (mT 6 (iv (valE p))) (oC (ZD rfl (dT' hv)) I0 I0 (kN 80 [(1, .box 27 (cFm p)), (2, .box 29 (cSz n t f))] [(2, .box 1 0), (3, .box 2 0), (4, .v (.pointer none)), (5, iv 0), (6, iv (valE p)), (15, bv false)] (Zc (Zx rfl ?_)))))))))))
 refine Zr (Zc (Zb (Zb (Za (oB (Zk (Y := .box 27 (cFm p)) (ds := cFm p) (z := 10) (.tmp 2) rfl U27 rfl (by kernel_rfl) (by decide) (by kernel_rfl) (by kernel_rfl)) I0 rfl (oB (Zk (Y := .box 29 (cSz n t f)) (ds := cSz n t f) (z := 3) (.tmp 3) rfl U29 rfl (by kernel_rfl) (by decide) (by kernel_rfl) (by kernel_rfl)) I0 rfl (oD (Zl (c := .func 53) (xs := #[.tmp 17, .tmp 18]) [] (ZJ (Ns.adm_c HP hv) ha) rfl (by kernel_rfl) rfl (Xs := [.agg (cFm p), .agg (cSz n t f)]) rfl rfl rfl) I0 I0 I0 (oA (Zy rfl rfl) I0 (kN 80 [(1, .box 27 (cFm p)), (2, .box 29 (cSz n t f))] [(2, .box 1 0), (3, .box 2 0), (4, .v (.pointer none)), (5, iv 0), (20, bv false)] (Zc (Zx rfl ?_)))))))))))
 refine Zr (Zc (Zb (Zb (Za (oA (fb 0 3 U29 1) I0 (oB (lb (iv n) 21 U3) I0 rfl (oC (Yf rfl (dF h8)) I0 I0 (kN 80 [(1, .box 27 (cFm p)), (2, .box 29 (cSz n t f))] [(2, .box 1 0), (3, .box 2 0), (4, .v (.pointer none)), (5, iv 0), (23, bv false)] (Zc (Zx rfl (Zr ?_)))))))))))
 refine Zc (Zb (Za (oB (Zk (Y := .box 27 (cFm p)) (ds := cFm p) (z := 10) (.tmp 2) rfl U27 rfl (by kernel_rfl) (by decide) (by kernel_rfl) (by kernel_rfl)) I0 rfl (oB (Zk (Y := .box 29 (cSz n t f)) (ds := cSz n t f) (z := 3) (.tmp 3) rfl U29 rfl (by kernel_rfl) (by decide) (by kernel_rfl) (by kernel_rfl)) I0 rfl (oA (fb 0 3 U29 1) I0 (oB (lb (iv n) 26 U3) I0 rfl (oA (fb 0 3 U29 1) I0 (oB (lb (iv n) 28 U3) I0 rfl (oA (fb 2 3 U29 1) I0 (oB (lb (iv f) 30 U3) I0 rfl (oC (Yj (c := n - f) rfl (w64 (by omega) (by omega) (by omega))) I0 I0 ?_)))))))))))
 refine Z8 rfl (sp_bldG [0, 1, 2, 3] [.tmp 24, .tmp 25, .tmp 27, .tmp 32] [.agg (cFm p), .agg (cSz n t f), iv n, iv (n - f)] [.inr 0, .inr 1, .inr 2, .inr 3, .inr 4, .inr 5, .inr 6, .inr 7, .inr 8, .inr 9, .inr 10, .inr 11, .inr 12, .inr 13, .inr 14, .inl (.int .i64 0), .inl (.int .i64 0), .inl (.int .i64 0), .inl (.int .i64 0), .inl (.int .i64 0), .inl (.int .i64 0), .inl (.int .i64 0), .inl (.int .i64 0), .inl (.int .i64 0), .inl (.int .i64 0), .inl (.int .i64 0), .inl (.int .i64 0), .inl (.int .i64 0), .inl (.int .i64 0), .inl (.int .i64 0), .inl (.int .i64 0), .inl (.slice none 0 0), .inl (.slice none 0 0)] rfl rfl rfl rfl rfl (fun _ => by kernel_rfl) rfl (ds := [sv p.nm, iv p.top, Zp p.states, Zp p.msgs, Zp p.vals, iv p.fault, slA 4 cLn p.res, Zi p.init, Zi p.leader, slA 18 cRu p.rules, iv n, iv t, iv f, iv n, iv (n - f), iv 0, iv 0, iv 0, iv 0, iv 0, iv 0, iv 0, iv 0, iv 0, iv 0, iv 0, iv 0, iv 0, iv 0, iv 0, iv 0, .v (.slice none 0 0), .v (.slice none 0 0)]) rfl) ⟨I0, I0, I0, I0, T0⟩ T0 T0 (Z8 rfl (Z9 (X := .agg [sv p.nm, iv p.top, Zp p.states, Zp p.msgs, Zp p.vals, iv p.fault, slA 4 cLn p.res, Zi p.init, Zi p.leader, slA 18 cRu p.rules, iv n, iv t, iv f, iv n, iv (n - f), iv 0, iv 0, iv 0, iv 0, iv 0, iv 0, iv 0, iv 0, iv 0, iv 0, iv 0, iv 0, iv 0, iv 0, iv 0, iv 0, .v (.slice none 0 0), .v (.slice none 0 0)]) (k := 3) (.tmp 33) rfl rfl) ⟨I0, T0⟩ T0 rfl (pM (aT 34 (.box 3 0)) (kN 80 [(1, .box 27 (cFm p)), (2, .box 29 (cSz n t f)), (3, .box 71 [sv p.nm, iv p.top, Zp p.states, Zp p.msgs, Zp p.vals, iv p.fault, slA 4 cLn p.res, Zi p.init, Zi p.leader, slA 18 cRu p.rules, iv n, iv t, iv f, iv n, iv (n - f), iv 0, iv 0, iv 0, iv 0, iv 0, iv 0, iv 0, iv 0, iv 0, iv 0, iv 0, iv 0, iv 0, iv 0, iv 0, iv 0, .v (.slice none 0 0), .v (.slice none 0 0)])] [(2, .box 1 0), (3, .box 2 0), (4, .v (.pointer none)), (5, iv 0), (7, .box 3 0)] (Zc (Zb (Zb (Za (oA (fb 5 2 U27 1) I0 (oB (lb (iv p.fault) 35 U3) I0 rfl (oC (ZY rfl rfl) I0 I0 (kN 80 [(1, .box 27 (cFm p)), (2, .box 29 (cSz n t f)), (3, .box 71 [sv p.nm, iv p.top, Zp p.states, Zp p.msgs, Zp p.vals, iv p.fault, slA 4 cLn p.res, Zi p.init, Zi p.leader, slA 18 cRu p.rules, iv n, iv t, iv f, iv n, iv (n - f), iv 0, iv 0, iv 0, iv 0, iv 0, iv 0, iv 0, iv 0, iv 0, iv 0, iv 0, iv 0, iv 0, iv 0, iv 0, iv 0, .v (.slice none 0 0), .v (.slice none 0 0)])] [(2, .box 1 0), (3, .box 2 0), (4, .v (.pointer none)), (5, iv 0), (7, .box 3 0), (37, bv (decide (p.fault = 3)))] ?_)))))))))))
 refine Zc ?_
 refine KO (True) (ofL [(1, .box 27 (cFm p)), (2, .box 29 (cSz n t f)), (3, .box 71 [sv p.nm, iv p.top, Zp p.states, Zp p.msgs, Zp p.vals, iv p.fault, slA 4 cLn p.res, Zi p.init, Zi p.leader, slA 18 cRu p.rules, iv n, iv t, iv f, iv (Ns.cntE p n f), iv (n - f), iv 0, iv 0, iv 0, iv 0, iv 0, iv 0, iv 0, iv 0, iv 0, iv 0, iv 0, iv 0, iv 0, iv 0, iv 0, iv 0, .v (.slice none 0 0), .v (.slice none 0 0)])]) (ofT 80 [(2, .box 1 0), (3, .box 2 0), (4, .v (.pointer none)), (5, iv 0), (7, .box 3 0)]) ?_ (fun _ => ?_)
 by_cases hs1 : p.fault = 3
 rw [dT hs1]
 refine kW 80 [(1, .box 27 (cFm p)), (2, .box 29 (cSz n t f)), (3, .box 71 [sv p.nm, iv p.top, Zp p.states, Zp p.msgs, Zp p.vals, iv p.fault, slA 4 cLn p.res, Zi p.init, Zi p.leader, slA 18 cRu p.rules, iv n, iv t, iv f, iv n, iv (n - f), iv 0, iv 0, iv 0, iv 0, iv 0, iv 0, iv 0, iv 0, iv 0, iv 0, iv 0, iv 0, iv 0, iv 0, iv 0, iv 0, .v (.slice none 0 0), .v (.slice none 0 0)])] [(2, .box 1 0), (3, .box 2 0), (4, .v (.pointer none)), (5, iv 0), (7, .box 3 0), (37, bv true)] (Zw rfl (Za (pM (mT 7 (.box 3 0)) (pM (mT 7 (.box 3 0)) (oA (Yt (off := 0) (.tmp 39) rfl) I0 (oA (fb 14 40 U71 1) I0 (oB (lb (iv (n - f)) 41 U3) I0 rfl (oA (Yt (off := 0) (.tmp 38) rfl) I0 (oA (fb 13 43 U71 1) I0 (Z8 rfl (ZH (T0 := 71) (X := iv (n - f)) (cs := [sv p.nm, iv p.top, Zp p.states, Zp p.msgs, Zp p.vals, iv p.fault, slA 4 cLn p.res, Zi p.init, Zi p.leader, slA 18 cRu p.rules, iv n, iv t, iv f, iv n, iv (n - f), iv 0, iv 0, iv 0, iv 0, iv 0, iv 0, iv 0, iv 0, iv 0, iv 0, iv 0, iv 0, iv 0, iv 0, iv 0, iv 0, .v (.slice none 0 0), .v (.slice none 0 0)]) (ds := [sv p.nm, iv p.top, Zp p.states, Zp p.msgs, Zp p.vals, iv p.fault, slA 4 cLn p.res, Zi p.init, Zi p.leader, slA 18 cRu p.rules, iv n, iv t, iv f, iv (n - f), iv (n - f), iv 0, iv 0, iv 0, iv 0, iv 0, iv 0, iv 0, iv 0, iv 0, iv 0, iv 0, iv 0, iv 0, iv 0, iv 0, iv 0, .v (.slice none 0 0), .v (.slice none 0 0)]) (z := 1) (.tmp 44) (.tmp 42) rfl (by kernel_rfl) (by kernel_rfl) (by kernel_rfl) (of_decide_eq_true (by kernel_rfl)) (by kernel_rfl)) ⟨I0, I0, T0⟩ ⟨rfl, T0⟩ rfl (kN 80 [(1, .box 27 (cFm p)), (2, .box 29 (cSz n t f)), (3, .box 71 [sv p.nm, iv p.top, Zp p.states, Zp p.msgs, Zp p.vals, iv p.fault, slA 4 cLn p.res, Zi p.init, Zi p.leader, slA 18 cRu p.rules, iv n, iv t, iv f, iv (n - f), iv (n - f), iv 0, iv 0, iv 0, iv 0, iv 0, iv 0, iv 0, iv 0, iv 0, iv 0, iv 0, iv 0, iv 0, iv 0, iv 0, iv 0, .v (.slice none 0 0), .v (.slice none 0 0)])] [(2, .box 1 0), (3, .box 2 0), (4, .v (.pointer none)), (5, iv 0), (7, .box 3 0)] ?_)))))))))))
 rw [show Ns.cntE p n f = n - f from if_pos hs1]
 exact ZT T0 (Zq _ _ rfl (by kernel_rfl) (by kernel_rfl))
 rw [dF hs1]
 refine kW 80 [(1, .box 27 (cFm p)), (2, .box 29 (cSz n t f)), (3, .box 71 [sv p.nm, iv p.top, Zp p.states, Zp p.msgs, Zp p.vals, iv p.fault, slA 4 cLn p.res, Zi p.init, Zi p.leader, slA 18 cRu p.rules, iv n, iv t, iv f, iv n, iv (n - f), iv 0, iv 0, iv 0, iv 0, iv 0, iv 0, iv 0, iv 0, iv 0, iv 0, iv 0, iv 0, iv 0, iv 0, iv 0, iv 0, .v (.slice none 0 0), .v (.slice none 0 0)])] [(2, .box 1 0), (3, .box 2 0), (4, .v (.pointer none)), (5, iv 0), (7, .box 3 0), (37, bv false)] (Zx rfl (Zr ?_))
 rw [show Ns.cntE p n f = n from if_neg hs1]
 exact ZT T0 (Zq _ _ rfl (by kernel_rfl) (by kernel_rfl))
 refine Zc (Zb (Zb ?_))
 refine tri_wk (wk_anyB 3 [false, false, false, false, false, false, false, false, false, false, false, false, false, false, false, true, true, true, true, true, true, true, true, true, true, true, true, true, true, true, true, false, false] rfl (ds := [sv p.nm, iv p.top, Zp p.states, Zp p.msgs, Zp p.vals, iv p.fault, slA 4 cLn p.res, Zi p.init, Zi p.leader, slA 18 cRu p.rules, iv n, iv t, iv f, iv (Ns.cntE p n f), iv (n - f), .any, .any, .any, .any, .any, .any, .any, .any, .any, .any, .any, .any, .any, .any, .any, .any, .v (.slice none 0 0), .v (.slice none 0 0)]) rfl) ?_
 refine kW 80 [(1, .box 27 (cFm p)), (2, .box 29 (cSz n t f)), (3, .box 71 [sv p.nm, iv p.top, Zp p.states, Zp p.msgs, Zp p.vals, iv p.fault, slA 4 cLn p.res, Zi p.init, Zi p.leader, slA 18 cRu p.rules, iv n, iv t, iv f, iv (Ns.cntE p n f), iv (n - f), .any, .any, .any, .any, .any, .any, .any, .any, .any, .any, .any, .any, .any, .any, .any, .any, .v (.slice none 0 0), .v (.slice none 0 0)])] [(2, .box 1 0), (3, .box 2 0), (4, .v (.pointer none)), (5, iv 0), (7, .box 3 0)] (Za (oA (fb 9 2 U27 1) I0 (oB (lb (slA 18 cRu p.rules) 45 U25) I0 rfl (oA (Zm (.tmp 46) rfl U25) I0 (pM (sp_move (.const (.int .i64 0)) (iv 0) rfl) (kN 80 [(2, .box 29 (cSz n t f)), (3, .box 71 [sv p.nm, iv p.top, Zp p.states, Zp p.msgs, Zp p.vals, iv p.fault, slA 4 cLn p.res, Zi p.init, Zi p.leader, slA 18 cRu p.rules, iv n, iv t, iv f, iv (Ns.cntE p n f), iv (n - f), .any, .any, .any, .any, .any, .any, .any, .any, .any, .any, .any, .any, .any, .any, .any, .any, .v (.slice none 0 0), .v (.slice none 0 0)])] [(3, .box 2 0), (4, .v (.pointer none)), (5, iv 0), (7, .box 3 0), (46, slA 18 cRu p.rules), (47, iv p.rules.length), (48, iv 0)] (Zc (ZQ ?_))))))))
 refine Yy (σ := {j : Nat // j ≤ p.rules.length}) (fun s => (ofL [(2, .box 29 (cSz n t f)), (3, .box 71 [sv p.nm, iv p.top, Zp p.states, Zp p.msgs, Zp p.vals, iv p.fault, slA 4 cLn p.res, Zi p.init, Zi p.leader, slA 18 cRu p.rules, iv n, iv t, iv f, iv (Ns.cntE p n f), iv (n - f), .any, .any, .any, .any, .any, .any, .any, .any, .any, .any, .any, .any, .any, .any, .any, .any, .v (.slice none 0 0), .v (.slice none 0 0)])], ofT 80 [(3, .box 2 0), (4, .v (.pointer none)), (5, iv 0), (7, .box 3 0), (46, slA 18 cRu p.rules), (47, iv p.rules.length), (48, iv s.1)])) (fun s => p.rules.length - s.1) ⟨0, Nat.zero_le _⟩ (Zq _ _ rfl (by kernel_rfl) (by kernel_rfl)) (fun s => ?_)
 obtain ⟨j, hj0⟩ := s
 show ETri J w0 (ofL [(2, .box 29 (cSz n t f)), (3, .box 71 [sv p.nm, iv p.top, Zp p.states, Zp p.msgs, Zp p.vals, iv p.fault, slA 4 cLn p.res, Zi p.init, Zi p.leader, slA 18 cRu p.rules, iv n, iv t, iv f, iv (Ns.cntE p n f), iv (n - f), .any, .any, .any, .any, .any, .any, .any, .any, .any, .any, .any, .any, .any, .any, .any, .any, .v (.slice none 0 0), .v (.slice none 0 0)])]) (ofT 80 [(3, .box 2 0), (4, .v (.pointer none)), (5, iv 0), (7, .box 3 0), (46, slA 18 cRu p.rules), (47, iv p.rules.length), (48, iv j)]) _
 refine Zb ?_
 by_cases hs2 : ((j : Nat) : Int) < ((p.rules.length : Nat) : Int)
 have hj1 : j < p.rules.length := by omega
 have hgj := hg2 _ (List.getElem_mem hj1)
 refine Za (oC (Yg rfl (dT hs2)) I0 I0 (kN 80 [(2, .box 29 (cSz n t f)), (3, .box 71 [sv p.nm, iv p.top, Zp p.states, Zp p.msgs, Zp p.vals, iv p.fault, slA 4 cLn p.res, Zi p.init, Zi p.leader, slA 18 cRu p.rules, iv n, iv t, iv f, iv (Ns.cntE p n f), iv (n - f), .any, .any, .any, .any, .any, .any, .any, .any, .any, .any, .any, .any, .any, .any, .any, .any, .v (.slice none 0 0), .v (.slice none 0 0)])] [(3, .box 2 0), (4, .v (.pointer none)), (5, iv 0), (7, .box 3 0), (46, slA 18 cRu p.rules), (47, iv p.rules.length), (48, iv j), (49, bv true)] (Zc (Zb (Zw rfl (Zr (Zc (Zb (ZQ (Zb (Za ?_)))))))))))
 refine pM (mT 48 (iv j)) (oC (ZW (off := j * 18) (.tmp 46) (.tmp 48) rfl U25 (by kernel_rfl) (by omega) (by omega) rfl) I0 I0 (oA (Y5 (z := 18) (.tmp 51) rfl U59 rfl (by kernel_rfl) (Ky lenRu p.rules j (by omega)) rfl) I0 (Z8 rfl (Y6 (z := .agg #[.string (⟨#[]⟩), .int .i64 0, .int .i64 0, .int .i64 0, .int .i64 0, .int .i64 0, .slice none 0 0, .slice none 0 0, .slice none 0 0, .slice none 0 0, .int .i64 0, .int .i64 0, .slice none 0 0, .int .i64 0, .slice none 0 0, .slice none 0 0, .slice none 0 0, .int .i64 0]) (k := 4) rfl (by kernel_rfl)) T0 T0 rfl (pM (aT 50 (iv j)) (Z8 rfl (ZH (T0 := 59) (X := .agg (cRu p.rules[j])) (cs := [sv (⟨#[]⟩), iv 0, iv 0, iv 0, iv 0, iv 0, .v (.slice none 0 0), .v (.slice none 0 0), .v (.slice none 0 0), .v (.slice none 0 0), iv 0, iv 0, .v (.slice none 0 0), iv 0, .v (.slice none 0 0), .v (.slice none 0 0), .v (.slice none 0 0), iv 0]) (ds := cRu p.rules[j]) (z := 18) (.tmp 9) (.tmp 52) rfl (by kernel_rfl) (by kernel_rfl) (by kernel_rfl) (of_decide_eq_true (by kernel_rfl)) (by kernel_rfl)) ⟨I0, I0, T0⟩ ⟨rfl, T0⟩ rfl (kN 80 [(2, .box 29 (cSz n t f)), (3, .box 71 [sv p.nm, iv p.top, Zp p.states, Zp p.msgs, Zp p.vals, iv p.fault, slA 4 cLn p.res, Zi p.init, Zi p.leader, slA 18 cRu p.rules, iv n, iv t, iv f, iv (Ns.cntE p n f), iv (n - f), .any, .any, .any, .any, .any, .any, .any, .any, .any, .any, .any, .any, .any, .any, .any, .any, .v (.slice none 0 0), .v (.slice none 0 0)]), (4, .box 59 (cRu p.rules[j]))] [(3, .box 2 0), (4, .v (.pointer none)), (5, iv 0), (7, .box 3 0), (8, iv j), (9, .box 4 0), (46, slA 18 cRu p.rules), (47, iv p.rules.length), (48, iv j), (49, bv true)] (Zc (Zb (Za (oA (fb 7 9 U59 1) I0 (oB (lb (slA 6 cTh p.rules[j].guards) 53 U57) I0 rfl ?_)))))))))))
 refine oA (Zm (.tmp 54) rfl U57) I0 (pM (sp_move (.const (.int .i64 0)) (iv 0) rfl) (kN 80 [(2, .box 29 (cSz n t f)), (3, .box 71 [sv p.nm, iv p.top, Zp p.states, Zp p.msgs, Zp p.vals, iv p.fault, slA 4 cLn p.res, Zi p.init, Zi p.leader, slA 18 cRu p.rules, iv n, iv t, iv f, iv (Ns.cntE p n f), iv (n - f), .any, .any, .any, .any, .any, .any, .any, .any, .any, .any, .any, .any, .any, .any, .any, .any, .v (.slice none 0 0), .v (.slice none 0 0)]), (4, .box 59 (cRu p.rules[j]))] [(3, .box 2 0), (4, .v (.pointer none)), (5, iv 0), (7, .box 3 0), (8, iv j), (9, .box 4 0), (46, slA 18 cRu p.rules), (47, iv p.rules.length), (48, iv j), (49, bv true), (54, slA 6 cTh p.rules[j].guards), (55, iv (p.rules[j].guards.length : Nat)), (56, iv 0)] (Zc (ZQ ?_))))
 refine Yy (σ := {k : Nat // k ≤ p.rules[j].guards.length}) (fun s => (ofL [(2, .box 29 (cSz n t f)), (3, .box 71 [sv p.nm, iv p.top, Zp p.states, Zp p.msgs, Zp p.vals, iv p.fault, slA 4 cLn p.res, Zi p.init, Zi p.leader, slA 18 cRu p.rules, iv n, iv t, iv f, iv (Ns.cntE p n f), iv (n - f), .any, .any, .any, .any, .any, .any, .any, .any, .any, .any, .any, .any, .any, .any, .any, .any, .v (.slice none 0 0), .v (.slice none 0 0)]), (4, .box 59 (cRu p.rules[j]))], ofT 80 [(3, .box 2 0), (4, .v (.pointer none)), (5, iv 0), (7, .box 3 0), (8, iv j), (9, .box 4 0), (46, slA 18 cRu p.rules), (47, iv p.rules.length), (48, iv j), (49, bv true), (54, slA 6 cTh p.rules[j].guards), (55, iv (p.rules[j].guards.length : Nat)), (56, iv s.1)])) (fun s => p.rules[j].guards.length - s.1) ⟨0, Nat.zero_le _⟩ (Zq _ _ rfl (by kernel_rfl) (by kernel_rfl)) (fun s => ?_)
 obtain ⟨k, hk0⟩ := s
 show ETri J w0 (ofL [(2, .box 29 (cSz n t f)), (3, .box 71 [sv p.nm, iv p.top, Zp p.states, Zp p.msgs, Zp p.vals, iv p.fault, slA 4 cLn p.res, Zi p.init, Zi p.leader, slA 18 cRu p.rules, iv n, iv t, iv f, iv (Ns.cntE p n f), iv (n - f), .any, .any, .any, .any, .any, .any, .any, .any, .any, .any, .any, .any, .any, .any, .any, .any, .v (.slice none 0 0), .v (.slice none 0 0)]), (4, .box 59 (cRu p.rules[j]))]) (ofT 80 [(3, .box 2 0), (4, .v (.pointer none)), (5, iv 0), (7, .box 3 0), (8, iv j), (9, .box 4 0), (46, slA 18 cRu p.rules), (47, iv p.rules.length), (48, iv j), (49, bv true), (54, slA 6 cTh p.rules[j].guards), (55, iv (p.rules[j].guards.length : Nat)), (56, iv k)]) _
 refine Zb ?_
 by_cases hs3 : ((k : Nat) : Int) < ((p.rules[j].guards.length : Nat) : Int)
 refine Za (oC (Yg rfl (dT hs3)) I0 I0 (kN 80 [(2, .box 29 (cSz n t f)), (3, .box 71 [sv p.nm, iv p.top, Zp p.states, Zp p.msgs, Zp p.vals, iv p.fault, slA 4 cLn p.res, Zi p.init, Zi p.leader, slA 18 cRu p.rules, iv n, iv t, iv f, iv (Ns.cntE p n f), iv (n - f), .any, .any, .any, .any, .any, .any, .any, .any, .any, .any, .any, .any, .any, .any, .any, .any, .v (.slice none 0 0), .v (.slice none 0 0)]), (4, .box 59 (cRu p.rules[j]))] [(3, .box 2 0), (4, .v (.pointer none)), (5, iv 0), (7, .box 3 0), (8, iv j), (9, .box 4 0), (46, slA 18 cRu p.rules), (47, iv p.rules.length), (48, iv j), (49, bv true), (54, slA 6 cTh p.rules[j].guards), (55, iv (p.rules[j].guards.length : Nat)), (56, iv k), (57, bv true)] (Zc (Zb (Zw rfl (Zr (Zc (Zb (ZQ (Zb (Za ?_)))))))))))
 refine pM (mT 56 (iv k)) (oC (ZW (off := k * 6) (.tmp 54) (.tmp 56) rfl U57 (by kernel_rfl) (by omega) (by omega) rfl) I0 I0 (oA (Y5 (z := 6) (.tmp 59) rfl U106 rfl (by kernel_rfl) (Ky lenTh p.rules[j].guards k (by omega)) rfl) I0 (Z8 rfl (Y6 (z := .agg #[.int .i64 0, .int .i64 0, .int .i64 0, .int .i64 0, .int .i64 0, .int .i64 0]) (k := 5) rfl (by kernel_rfl)) T0 T0 rfl (pM (aT 58 (iv k)) (Z8 rfl (ZH (T0 := 106) (X := .agg (cTh p.rules[j].guards[k])) (cs := [iv 0, iv 0, iv 0, iv 0, iv 0, iv 0]) (ds := cTh p.rules[j].guards[k]) (z := 6) (.tmp 11) (.tmp 60) rfl (by kernel_rfl) (by kernel_rfl) (by kernel_rfl) (of_decide_eq_true (by kernel_rfl)) (by kernel_rfl)) ⟨I0, I0, T0⟩ ⟨rfl, T0⟩ rfl (kN 80 [(2, .box 29 (cSz n t f)), (3, .box 71 [sv p.nm, iv p.top, Zp p.states, Zp p.msgs, Zp p.vals, iv p.fault, slA 4 cLn p.res, Zi p.init, Zi p.leader, slA 18 cRu p.rules, iv n, iv t, iv f, iv (Ns.cntE p n f), iv (n - f), .any, .any, .any, .any, .any, .any, .any, .any, .any, .any, .any, .any, .any, .any, .any, .any, .v (.slice none 0 0), .v (.slice none 0 0)]), (4, .box 59 (cRu p.rules[j])), (5, .box 106 (cTh p.rules[j].guards[k]))] [(3, .box 2 0), (4, .v (.pointer none)), (5, iv 0), (7, .box 3 0), (8, iv j), (9, .box 4 0), (10, iv k), (11, .box 5 0), (46, slA 18 cRu p.rules), (47, iv p.rules.length), (48, iv j), (49, bv true), (54, slA 6 cTh p.rules[j].guards), (55, iv (p.rules[j].guards.length : Nat)), (56, iv k), (57, bv true)] (Zc ?_)))))))
 refine Z0 (dM (mT 7 (.box 3 0)) (dM (mT 8 (iv j)) (dM (mT 10 (iv k)) (dA (fb 2 11 U106 4) I0 (dB (Zk (Y := .box 106 (cTh p.rules[j].guards[k])) (ds := [iv p.rules[j].guards[k].bd.c, iv p.rules[j].guards[k].bd.n, iv p.rules[j].guards[k].bd.t, iv p.rules[j].guards[k].bd.f]) (z := 4) (.tmp 65) rfl U104 rfl (by kernel_rfl) (by decide) (by kernel_rfl) (by kernel_rfl)) I0 rfl (dB (Zk (Y := .box 29 (cSz n t f)) (ds := cSz n t f) (z := 3) (.tmp 3) rfl U29 rfl (by kernel_rfl) (by decide) (by kernel_rfl) (by kernel_rfl)) I0 rfl (dD (Zl (c := .func 54) (xs := #[.tmp 66, .tmp 67]) [] (Ns.Evaluate_c (l := p.rules[j].guards[k].bd)) rfl (by kernel_rfl) rfl (Xs := [.agg [iv p.rules[j].guards[k].bd.c, iv p.rules[j].guards[k].bd.n, iv p.rules[j].guards[k].bd.t, iv p.rules[j].guards[k].bd.f], .agg (cSz n t f)]) rfl rfl rfl) I0 I0 I0 (dM (mT 68 (.tup [iv (evN p.rules[j].guards[k].bd.c p.rules[j].guards[k].bd.n p.rules[j].guards[k].bd.t p.rules[j].guards[k].bd.f n t f), iv (evE p.rules[j].guards[k].bd.c p.rules[j].guards[k].bd.n p.rules[j].guards[k].bd.t p.rules[j].guards[k].bd.f n t f)])) (dA (Yn (X := iv (evN p.rules[j].guards[k].bd.c p.rules[j].guards[k].bd.n p.rules[j].guards[k].bd.t p.rules[j].guards[k].bd.f n t f)) (.tmp 61) rfl rfl) I0 (dA (Yn (X := iv (evE p.rules[j].guards[k].bd.c p.rules[j].guards[k].bd.n p.rules[j].guards[k].bd.t p.rules[j].guards[k].bd.f n t f)) (.tmp 61) rfl rfl) I0 (dA (Yt (off := 0) (.tmp 62) rfl) I0 (dA (fb 15 71 U71 16) I0 (dC (sp_indexArr (off' := 15 + j * 2) (.tmp 72) (.tmp 63) rfl U68 (by kernel_rfl) (by omega) (by omega) rfl) I0 I0 (dC (sp_indexArr (off' := (15 + j * 2) + k * 1) (.tmp 73) (.tmp 64) rfl U67 (by kernel_rfl) (by omega) (by omega) rfl) I0 I0 (dR (sp_storeAny (T0 := 71) (X := iv (evN p.rules[j].guards[k].bd.c p.rules[j].guards[k].bd.n p.rules[j].guards[k].bd.t p.rules[j].guards[k].bd.f n t f)) (cs := [sv p.nm, iv p.top, Zp p.states, Zp p.msgs, Zp p.vals, iv p.fault, slA 4 cLn p.res, Zi p.init, Zi p.leader, slA 18 cRu p.rules, iv n, iv t, iv f, iv (Ns.cntE p n f), iv (n - f), .any, .any, .any, .any, .any, .any, .any, .any, .any, .any, .any, .any, .any, .any, .any, .any, .v (.slice none 0 0), .v (.slice none 0 0)]) (z := 1) (.tmp 74) (.tmp 69) rfl (by kernel_rfl) (by kernel_rfl) (by kernel_rfl) (by show _ ≤ 33; omega) (fun i h1 h2 => any_in (lo := 15) (hi := 31) (by kernel_rfl) (Nat.le_of_ble_eq_true rfl) (by omega) (by omega))) ⟨I0, I0, T0⟩ ⟨rfl, T0⟩ rfl (dE ?_)))))))))))))))) (by kernel_rfl)
 show ETri J w0 _ _ _
 refine kW 80 [(2, .box 29 (cSz n t f)), (3, .box 71 [sv p.nm, iv p.top, Zp p.states, Zp p.msgs, Zp p.vals, iv p.fault, slA 4 cLn p.res, Zi p.init, Zi p.leader, slA 18 cRu p.rules, iv n, iv t, iv f, iv (Ns.cntE p n f), iv (n - f), .any, .any, .any, .any, .any, .any, .any, .any, .any, .any, .any, .any, .any, .any, .any, .any, .v (.slice none 0 0), .v (.slice none 0 0)]), (4, .box 59 (cRu p.rules[j])), (5, .box 106 (cTh p.rules[j].guards[k]))] [(3, .box 2 0), (4, .v (.pointer none)), (5, iv 0), (7, .box 3 0), (8, iv j), (9, .box 4 0), (10, iv k), (11, .box 5 0), (46, slA 18 cRu p.rules), (47, iv p.rules.length), (48, iv j), (49, bv true), (54, slA 6 cTh p.rules[j].guards), (55, iv (p.rules[j].guards.length : Nat)), (56, iv k), (57, bv true)] (Yx (Zc (Za (oC (Ke (c := ((k + 1 : Nat) : Int)) rfl (w64 (by omega) (by omega) (by omega))) I0 I0 (pM (mT 75 (iv (k + 1 : Nat))) (kN 80 [(2, .box 29 (cSz n t f)), (3, .box 71 [sv p.nm, iv p.top, Zp p.states, Zp p.msgs, Zp p.vals, iv p.fault, slA 4 cLn p.res, Zi p.init, Zi p.leader, slA 18 cRu p.rules, iv n, iv t, iv f, iv (Ns.cntE p n f), iv (n - f), .any, .any, .any, .any, .any, .any, .any, .any, .any, .any, .any, .any, .any, .any, .any, .any, .v (.slice none 0 0), .v (.slice none 0 0)]), (4, .box 59 (cRu p.rules[j])), (5, .box 106 (cTh p.rules[j].guards[k]))] [(3, .box 2 0), (4, .v (.pointer none)), (5, iv 0), (7, .box 3 0), (8, iv j), (9, .box 4 0), (10, iv k), (11, .box 5 0), (46, slA 18 cRu p.rules), (47, iv p.rules.length), (48, iv j), (49, bv true), (54, slA 6 cTh p.rules[j].guards), (55, iv (p.rules[j].guards.length : Nat)), (56, iv (k + 1 : Nat)), (57, bv true)] (Zc ?_)))))))
 refine Yk ⟨k + 1, by omega⟩ (show p.rules[j].guards.length - (k + 1) < p.rules[j].guards.length - k by omega) ?_
 exact Zq _ _ rfl (by kernel_rfl) (by kernel_rfl)
 refine Za (oC (Yg rfl (dF hs3)) I0 I0 (kN 80 [(2, .box 29 (cSz n t f)), (3, .box 71 [sv p.nm, iv p.top, Zp p.states, Zp p.msgs, Zp p.vals, iv p.fault, slA 4 cLn p.res, Zi p.init, Zi p.leader, slA 18 cRu p.rules, iv n, iv t, iv f, iv (Ns.cntE p n f), iv (n - f), .any, .any, .any, .any, .any, .any, .any, .any, .any, .any, .any, .any, .any, .any, .any, .any, .v (.slice none 0 0), .v (.slice none 0 0)]), (4, .box 59 (cRu p.rules[j]))] [(3, .box 2 0), (4, .v (.pointer none)), (5, iv 0), (7, .box 3 0), (8, iv j), (9, .box 4 0), (46, slA 18 cRu p.rules), (47, iv p.rules.length), (48, iv j), (49, bv true), (54, slA 6 cTh p.rules[j].guards), (55, iv (p.rules[j].guards.length : Nat)), (56, iv k), (57, bv false)] (Zc (Zb (Zx rfl (Yz (ZE (ZE (t_hit (Yx (Zc ?_)))))))))))
 refine Za (oC (Ke (c := ((j + 1 : Nat) : Int)) rfl (w64 (by omega) (by omega) (by omega))) I0 I0 (pM (mT 76 (iv (j + 1 : Nat))) (kN 80 [(2, .box 29 (cSz n t f)), (3, .box 71 [sv p.nm, iv p.top, Zp p.states, Zp p.msgs, Zp p.vals, iv p.fault, slA 4 cLn p.res, Zi p.init, Zi p.leader, slA 18 cRu p.rules, iv n, iv t, iv f, iv (Ns.cntE p n f), iv (n - f), .any, .any, .any, .any, .any, .any, .any, .any, .any, .any, .any, .any, .any, .any, .any, .any, .v (.slice none 0 0), .v (.slice none 0 0)]), (4, .box 59 (cRu p.rules[j]))] [(3, .box 2 0), (4, .v (.pointer none)), (5, iv 0), (7, .box 3 0), (8, iv j), (9, .box 4 0), (46, slA 18 cRu p.rules), (47, iv p.rules.length), (48, iv (j + 1 : Nat)), (49, bv true), (54, slA 6 cTh p.rules[j].guards), (55, iv (p.rules[j].guards.length : Nat)), (56, iv k), (57, bv false)] (Zc ?_))))
 refine Yk ⟨j + 1, by omega⟩ (show p.rules.length - (j + 1) < p.rules.length - j by omega) ?_
 exact Zq _ _ rfl (by kernel_rfl) (by kernel_rfl)
 refine Za (oC (Yg rfl (dF hs2)) I0 I0 (kN 80 [(2, .box 29 (cSz n t f)), (3, .box 71 [sv p.nm, iv p.top, Zp p.states, Zp p.msgs, Zp p.vals, iv p.fault, slA 4 cLn p.res, Zi p.init, Zi p.leader, slA 18 cRu p.rules, iv n, iv t, iv f, iv (Ns.cntE p n f), iv (n - f), .any, .any, .any, .any, .any, .any, .any, .any, .any, .any, .any, .any, .any, .any, .any, .any, .v (.slice none 0 0), .v (.slice none 0 0)])] [(3, .box 2 0), (4, .v (.pointer none)), (5, iv 0), (7, .box 3 0), (46, slA 18 cRu p.rules), (47, iv p.rules.length), (48, iv j), (49, bv false)] (Zc (Zb (Zx rfl (Yz (ZE (ZE (t_hit (Zc (Zb ?_)))))))))))
 refine Za (pM (mT 7 (.box 3 0)) (Z8 rfl (sp_callWB (T := 71) (cs := [sv p.nm, iv p.top, Zp p.states, Zp p.msgs, Zp p.vals, iv p.fault, slA 4 cLn p.res, Zi p.init, Zi p.leader, slA 18 cRu p.rules, iv n, iv t, iv f, iv (Ns.cntE p n f), iv (n - f), .any, .any, .any, .any, .any, .any, .any, .any, .any, .any, .any, .any, .any, .any, .any, .any, .v (.slice none 0 0), .v (.slice none 0 0)]) (ds := [sv p.nm, iv p.top, Zp p.states, Zp p.msgs, Zp p.vals, iv p.fault, slA 4 cLn p.res, Zi p.init, Zi p.leader, slA 18 cRu p.rules, iv n, iv t, iv f, iv (Ns.cntE p n f), iv (n - f), .any, .any, .any, .any, .any, .any, .any, .any, .any, .any, .any, .any, .any, .any, .any, .any, .fr (slA 1 cLi (Ns.shT p.top (Ns.cntE p n f))), .any]) (c := .func 55) (xs := #[.tmp 77]) (k := 3) 1000000 [true, false, true, true, true, true, true, true, true, true, true, true, true, false, true, true, true, true, true, true, true, true, true, true, true, true, true, true, true, true, true, false, false] [] (fun xs_ => (Ns.place_m (p := p) (n := n) (t := t) (f := f) hc0 hc8 xs_)) rfl (by kernel_rfl) rfl (Xs := [.box 3 0]) rfl rfl (Ns.pw1) rfl rfl rfl (Ns.plain_mask (fun _ => by kernel_rfl)) rfl rfl rfl) ⟨I0, I0, T0⟩ ⟨rfl, T0⟩ rfl (kN 80 [(3, .box 71 [sv p.nm, iv p.top, Zp p.states, Zp p.msgs, Zp p.vals, iv p.fault, slA 4 cLn p.res, Zi p.init, Zi p.leader, slA 18 cRu p.rules, iv n, iv t, iv f, iv (Ns.cntE p n f), iv (n - f), .any, .any, .any, .any, .any, .any, .any, .any, .any, .any, .any, .any, .any, .any, .any, .any, .fr (slA 1 cLi (Ns.shT p.top (Ns.cntE p n f))), .any])] [(4, .v (.pointer none)), (5, iv 0), (7, .box 3 0)] (Zc (Zb (Za (pM (mT 7 (.box 3 0)) (pM (aT 79 (.box 3 0)) (pM (aC (.int .i64 0)) (Zv (Zc ?_)))))))))))
 refine Zt ?_
 refine tri_endA2 [(3, .box 71 [sv p.nm, iv p.top, Zp p.states, Zp p.msgs, Zp p.vals, iv p.fault, slA 4 cLn p.res, Zi p.init, Zi p.leader, slA 18 cRu p.rules, iv n, iv t, iv f, iv (Ns.cntE p n f), iv (n - f), .any, .any, .any, .any, .any, .any, .any, .any, .any, .any, .any, .any, .any, .any, .any, .any, .fr (slA 1 cLi (Ns.shT p.top (Ns.cntE p n f))), .any])] Try.results28 (.tmp rfl) (.tmp rfl) (by kernel_rfl) rfl rfl rfl ?_ ?_ ?_
 · exact (show Plain (.el (Ns.sysC p n t f) 0) from .el (YQ (Ns.plain_sys p n t f)))
 · exact .v _
 kernel_rfl
end Go.Proofs.Ytgbgfkhkjlakbaa

namespace Go.Proofs.Ytgbgfkhkjlakbaa
set_option maxRecDepth 100000
set_option maxHeartbeats 6400000
open Go.RowKit Go.Deep
variable {J : World → Prop}
theorem isShape1_c {x sh : List Int} (HX : InOk x) (HS : InOk sh) : Ctr Try.prog J 116 [Zi x, .el ([Zi sh]) 0] (bv (decide (sh = x))) := by
 refine ZL Try.func116 rfl (by intro X hX; simp only [List.mem_cons, List.not_mem_nil, or_false] at hX; rcases hX with rfl | rfl; exact Yo _; exact .el (YQ (by intro X hX; rw [List.mem_singleton.1 hX]; exact Yo _))) (n := 7) rfl (by simp) (fun w0 => ?_)
 refine kW 7 [] [(0, Zi x), (1, .el ([Zi sh]) 0)] (Zb (Za (pM (aC (.bool false)) (kN 7 [] [(0, Zi x), (1, .el ([Zi sh]) 0), (3, bv false)] (Zc (Zb (Za (oA (ZK (X := Zi sh) (.tmp 1) rfl U24 rfl rfl) I0 (pM (mT 0 (Zi x)) (oD (Zl (c := .func 117) (xs := #[.tmp 4, .tmp 5]) [] (eqIntsG sh x HS HX) rfl (by kernel_rfl) rfl (Xs := [Zi sh, Zi x]) rfl rfl rfl) I0 I0 I0 (pM (aT 6 (bv (decide (sh = x)))) ?_)))))))))))
 refine Zv (Zc (Zt ?_))
 refine Zs Try.results116 (.tmp rfl) ?_
 exact rfl
theorem ixShape_c {S : List (List Int)} (hS : ∀ x ∈ S, InOk x) (lS : S.length ≤ 5) {sh : List Int} (HS : InOk sh) : Ctr Try.prog J 115 [slA 1 cLi S, .clo 116 [.el ([Zi sh]) 0]] (iv (Rd.ixP S fun x => decide (sh = x))) := by
 refine ZL Try.func115 rfl (by intro X hX; simp only [List.mem_cons, List.not_mem_nil, or_false] at hX; rcases hX with rfl | rfl; exact plain_sl plain_li _; exact .clo (fun j hj => match j, hj with | 0, _ => .el (YQ (by intro X hX; rw [List.mem_singleton.1 hX]; exact Yo _)))) (n := 19) rfl (by simp) (fun w0 => ?_)
 refine kW 19 [] [(0, slA 1 cLi S), (1, .clo 116 [.el ([Zi sh]) 0])] (Zb (Za (pM (aC (.int .i64 0)) (kN 19 [] [(0, slA 1 cLi S), (1, .clo 116 [.el ([Zi sh]) 0]), (4, iv 0)] (Zc (Zb (Zb (Za (pM (mT 0 (slA 1 cLi S)) (oA (Zm (.tmp 6) rfl U34) I0 (pM (sp_move (.const (.int .i64 0)) (iv 0) rfl) ?_)))))))))))
 refine kN 19 [] [(0, slA 1 cLi S), (1, .clo 116 [.el ([Zi sh]) 0]), (4, iv 0), (7, iv S.length), (8, iv 0)] (Zc (ZQ ?_))
 refine Yy (σ := {k : Nat // k ≤ S.length ∧ Rd.noP S (fun x => decide (sh = x)) k}) (fun s => (ofL [], ofT 19 [(0, slA 1 cLi S), (1, .clo 116 [.el ([Zi sh]) 0]), (7, iv S.length), (8, iv s.1)])) (fun s => S.length - s.1) ⟨0, Nat.zero_le _, Rd.noP_zero _ _⟩ (Zq [] _ rfl (by kernel_rfl) (by kernel_rfl)) (fun s => ?_)
 obtain ⟨k, hk0, hs0⟩ := s
 show ETri J w0 (ofL []) (ofT 19 [(0, slA 1 cLi S), (1, .clo 116 [.el ([Zi sh]) 0]), (7, iv S.length), (8, iv k)]) _
 refine Zb ?_
 by_cases hs1 : ((k : Nat) : Int) < ((S.length : Nat) : Int)
 refine Za (oC (Yg rfl (dT hs1)) I0 I0 (kN 19 [] [(0, slA 1 cLi S), (1, .clo 116 [.el ([Zi sh]) 0]), (7, iv S.length), (8, iv k), (9, bv true)] (Zc (Zb (Zw rfl (Zr (Zc (Zb (ZQ (Zb (Za ?_)))))))))))
 refine pM (mT 8 (iv k)) (pM (aT 10 (iv k)) (kN 19 [] [(0, slA 1 cLi S), (1, .clo 116 [.el ([Zi sh]) 0]), (5, iv k), (7, iv S.length), (8, iv k), (9, bv true)] (Zc (Zb ?_))))
 by_cases hs2 : (decide (sh = S[k])) = true
 refine Za (pM (mT 1 (.clo 116 [.el ([Zi sh]) 0])) (pM (mT 0 (slA 1 cLi S)) (pM (mT 5 (iv k)) (oC (ZW (off := k * 1) (.tmp 12) (.tmp 13) rfl U34 (by kernel_rfl) (by omega) (by omega) rfl) I0 I0 (oA (ZK (X := Zi S[k]) (.tmp 14) rfl U24 rfl ((Km lenLi S k 0 (by omega) (by decide)).trans rfl)) I0 (oC (sp_callClo (c := .tmp 11) (xs := #[.tmp 15]) (Cs := [.el ([Zi sh]) 0]) [] (ZJ (isShape1_c (hS S[k] (List.getElem_mem (by omega))) HS) hs2) rfl (by kernel_rfl) rfl (Xs := [Zi S[k]]) rfl rfl rfl rfl rfl) I0 I0 (kN 19 [] [(0, slA 1 cLi S), (1, .clo 116 [.el ([Zi sh]) 0]), (5, iv k), (7, iv S.length), (8, iv k), (9, bv true), (16, bv true)] (Zc (Zw rfl (Zb (Za ?_)))))))))))
 refine pM (mT 5 (iv k)) (pM (aT 17 (iv k)) (Zv (Zc (Zt (ZF (Zj (Zj (ZF (Zj ?_)))))))))
 refine Zs Try.results115 (.tmp rfl) ?_
 exact congrArg (fun x : Int => AV.v (.int .i64 x)) ((Rd.ixP_at (by omega) hs0 hs2).symm)
 have hs2f : (decide (sh = S[k])) = false := by simpa using hs2
 refine Za (pM (mT 1 (.clo 116 [.el ([Zi sh]) 0])) (pM (mT 0 (slA 1 cLi S)) (pM (mT 5 (iv k)) (oC (ZW (off := k * 1) (.tmp 12) (.tmp 13) rfl U34 (by kernel_rfl) (by omega) (by omega) rfl) I0 I0 (oA (ZK (X := Zi S[k]) (.tmp 14) rfl U24 rfl ((Km lenLi S k 0 (by omega) (by decide)).trans rfl)) I0 (oC (sp_callClo (c := .tmp 11) (xs := #[.tmp 15]) (Cs := [.el ([Zi sh]) 0]) [] (ZJ (isShape1_c (hS S[k] (List.getElem_mem (by omega))) HS) hs2f) rfl (by kernel_rfl) rfl (Xs := [Zi S[k]]) rfl rfl rfl rfl rfl) I0 I0 (kN 19 [] [(0, slA 1 cLi S), (1, .clo 116 [.el ([Zi sh]) 0]), (5, iv k), (7, iv S.length), (8, iv k), (9, bv true), (16, bv false)] (Zc (Zx rfl (Zr (Yx ?_)))))))))))
 refine Zc (Za (oC (Ke (c := ((k + 1 : Nat) : Int)) rfl (w64 (by omega) (by omega) (by omega))) I0 I0 (pM (mT 18 (iv (k + 1 : Nat))) (kN 19 [] [(0, slA 1 cLi S), (1, .clo 116 [.el ([Zi sh]) 0]), (5, iv k), (7, iv S.length), (8, iv (k + 1 : Nat)), (9, bv true), (16, bv false)] (Zc ?_)))))
 refine Yk ⟨k + 1, by omega, Rd.noP_succ (by omega) hs0 hs2f⟩ (show S.length - (k + 1) < S.length - k by omega) ?_
 exact Zq [] _ rfl (by kernel_rfl) (by kernel_rfl)
 refine Za (oC (Yg rfl (dF hs1)) I0 I0 (kN 19 [] [(0, slA 1 cLi S), (1, .clo 116 [.el ([Zi sh]) 0]), (7, iv S.length), (8, iv k), (9, bv false)] (Zc (Zb (Zx rfl (Yz (ZE (ZE (t_hit (Zc (Zb ?_)))))))))))
 refine Za (pM (aC (.int .i64 (-1))) (Zv (Zc (Zt ?_))))
 refine Zs Try.results115 (.tmp rfl) ?_
 exact congrArg (fun x : Int => AV.v (.int .i64 x)) ((Rd.ixP_none (k := k) (by omega) hs0).symm)
theorem Rd.shT_ok (top n : Int) : ∀ x ∈ Ns.shT top n, InOk x := by
  unfold Ns.shT
  split
  · exact fun x hx => (Sh.shX_mem n x hx).2
  intro x hx; cases hx
theorem Rd.shT_len (top n : Int) : (Ns.shT top n).length ≤ 5 := by
  unfold Ns.shT
  split
  · exact Sh.shX_len n
  simp
theorem readShape_c {p : Fm} {n t f : Int} {sh : List Int} (HS : InOk sh) (lsh : sh.length ≤ 100) : Ctr Try.prog J 93 [.el (Ns.sysC p n t f) 0, Zi sh] (.tup [iv (Rd.shI p.top (Ns.shT p.top (Ns.cntE p n f)) sh), bv (Rd.shB p.top (Ns.shT p.top (Ns.cntE p n f)) sh)]) := by
 refine ZL Try.func93 rfl (by intro X hX; simp only [List.mem_cons, List.not_mem_nil, or_false] at hX; rcases hX with rfl | rfl; exact (show Plain (.el (Ns.sysC p n t f) 0) from .el (YQ (Ns.plain_sys p n t f))); exact Yo _) (n := 26) rfl (by simp) (fun w0 => ?_)
 refine kW 26 [] [(0, .el (Ns.sysC p n t f) 0), (1, Zi sh)] (Zb (Za (Z8 rfl (Z9 (X := Zi sh) (k := 1) (.tmp 1) rfl rfl) ⟨I0, T0⟩ T0 rfl (pM (aC (.int .i64 0)) (pM (aC (.bool false)) (kN 26 [(1, .box 24 [Zi sh])] [(0, .el (Ns.sysC p n t f) 0), (3, .box 1 0), (4, iv 0), (5, bv false)] (Zc (Zb (Zb ?_)))))))))
 by_cases hs1 : p.top = 4
 refine Za (pM (mT 0 (.el (Ns.sysC p n t f) 0)) (oA (Kt (off := 0) (.tmp 7) rfl) I0 (oA (Yr (off' := 0) (.tmp 8) rfl U71 rfl (z := 10) (by kernel_rfl) (by decide) rfl) I0 (oA (Yr (off' := 1) (.tmp 9) rfl U27 rfl (z := 1) (by kernel_rfl) (by decide) rfl) I0 (oA (ZK (X := iv p.top) (.tmp 10) rfl U3 rfl rfl) I0 (oC (ZD rfl (dT' hs1)) I0 I0 (kN 26 [(1, .box 24 [Zi sh])] [(0, .el (Ns.sysC p n t f) 0), (3, .box 1 0), (4, iv 0), (5, bv false), (12, bv false)] (Zc (Zx rfl (Zr (Zc ?_)))))))))))
 refine Zb (Za (pM (mT 0 (.el (Ns.sysC p n t f) 0)) (oA (Kt (off := 0) (.tmp 16) rfl) I0 (oA (Yr (off' := 31) (.tmp 17) rfl U71 rfl (z := 1) (by kernel_rfl) (by decide) rfl) I0 (oA (ZK (X := slA 1 cLi (Ns.shT p.top (Ns.cntE p n f))) (.tmp 18) rfl U34 rfl rfl) I0 (oA (sp_makeFunc (xs := #[.tmp 3]) (Xs := [.box 1 0]) rfl rfl) I0 (Z8 rfl (Zl (c := .func 115) (xs := #[.tmp 19, .tmp 20]) [(1, .box 24 [Zi sh])] (ixShape_c (Rd.shT_ok _ _) (Rd.shT_len _ _) HS) rfl (by kernel_rfl) rfl (Xs := [slA 1 cLi (Ns.shT p.top (Ns.cntE p n f)), .clo 116 [.box 1 0]]) rfl rfl rfl) ⟨I0, I0, I0, T0⟩ ⟨rfl, T0⟩ T0 (pM (aT 21 (iv (Rd.ixP (Ns.shT p.top (Ns.cntE p n f)) fun x => decide (sh = x)))) (kN 26 [] [(4, iv 0), (5, bv false), (6, iv (Rd.ixP (Ns.shT p.top (Ns.cntE p n f)) fun x => decide (sh = x)))] (Zc (Zb ?_)))))))))))
 refine Za (pM (mT 6 (iv (Rd.ixP (Ns.shT p.top (Ns.cntE p n f)) fun x => decide (sh = x)))) (oC (sp_max (.tmp 22) (.const (.int .i64 0)) rfl) I0 I0 (pM (mT 6 (iv (Rd.ixP (Ns.shT p.top (Ns.cntE p n f)) fun x => decide (sh = x)))) (oC (sp_geq rfl rfl) I0 I0 (pM (aT 23 (iv (max (Rd.ixP (Ns.shT p.top (Ns.cntE p n f)) fun x => decide (sh = x)) 0))) (pM (aT 25 (bv (decide (0 ≤ (Rd.ixP (Ns.shT p.top (Ns.cntE p n f)) fun x => decide (sh = x)))))) (Zv (Zc (Zt ?_)))))))))
 refine Y4 Try.results93 (.tmp rfl) (.tmp rfl) ?_
 rw [Rd.shI_tree hs1, Rd.shB_tree hs1]
 exact rfl
 refine Za (pM (mT 0 (.el (Ns.sysC p n t f) 0)) (oA (Kt (off := 0) (.tmp 7) rfl) I0 (oA (Yr (off' := 0) (.tmp 8) rfl U71 rfl (z := 10) (by kernel_rfl) (by decide) rfl) I0 (oA (Yr (off' := 1) (.tmp 9) rfl U27 rfl (z := 1) (by kernel_rfl) (by decide) rfl) I0 (oA (ZK (X := iv p.top) (.tmp 10) rfl U3 rfl rfl) I0 (oC (ZD rfl (dF' hs1)) I0 I0 (kN 26 [(1, .box 24 [Zi sh])] [(0, .el (Ns.sysC p n t f) 0), (3, .box 1 0), (4, iv 0), (5, bv false), (12, bv true)] (Zc (Zw rfl (Zb ?_))))))))))
 refine Z0 (dB (lb (Zi sh) 3 U24) I0 rfl (dA (Zm (.tmp 13) rfl U24) I0 (dC (ZY rfl rfl) I0 I0 (dM (aC (.int .i64 0)) (dM (aT 15 (bv (decide (((sh.length : Nat) : Int) = 0)))) (dE ?_)))))) (by kernel_rfl)
 show ETri J w0 _ _ _
 refine Zc (Zt (Zj ?_))
 refine Y4 Try.results93 (.tmp rfl) (.tmp rfl) ?_
 rw [Rd.shI_no hs1, Rd.shB_no hs1]
 exact rfl
end Go.Proofs.Ytgbgfkhkjlakbaa

namespace Go.Proofs.Ytgbgfkhkjlakbaa
open Go.RowKit Go.Deep
variable {J : World → Prop}
namespace Rd
def inW (lo hi x : Int) : Bool := decide (lo ≤ x) && decide (x ≤ hi)
theorem inW_in {m x lo hi : Int} (h : inW lo hi x = true) (e : lo = 0 ∧ hi + 1 = m) : outB m x = false := by
  unfold inW at h; unfold outB
  simp only [Bool.and_eq_true, decide_eq_true_eq] at h
  simp only [Bool.or_eq_false_iff, decide_eq_false_iff_not]
  omega
theorem inW_out {m x lo hi : Int} (h : inW lo hi x = false) (e : lo = 0 ∧ hi + 1 = m) : outB m x = true := by
  unfold inW at h; unfold outB
  simp only [Bool.and_eq_false_iff, decide_eq_false_iff_not] at h
  simp only [Bool.or_eq_true, decide_eq_true_eq]
  omega
theorem bel_bad {xs : List Int} {m : Int} {k : Nat} (hk : k < xs.length) (h : outB m xs[k] = true) : belB xs m = false := by
  unfold belB
  rw [List.any_eq_true.2 ⟨_, List.getElem_mem hk, h⟩]
  rfl
theorem bel_all {xs : List Int} {m : Int} {k : Nat} (hk : ¬ k < xs.length) (h : noP xs (outB m) k) : belB xs m = true := by
  unfold belB
  rw [List.any_eq_false.2 fun x hx => by
    obtain ⟨i, hi, rfl⟩ := List.mem_iff_getElem.1 hx
    simp [h i hi (by omega)]]
  rfl
def looseB (p : Fm) : Bool := decide (p.fault = 1) || decide (p.fault = 2)
theorem IsShape_c {xs : List Int} (hx : InOk xs) (hl : xs.length ≤ 100) : Ctr Try.prog J 46 [Zi xs] (bv (shp xs)) := ctr1 fun w v _ h =>
  (rIsShape_any (YW hx (fun _ _ => Nat.zero_le _) h) (by omega)).mono fun e w' ⟨he, hw⟩ => ret_sc ⟨he, by rw [← hw]; exact Below.refl _ _⟩
def badF (p : Fm) (x : Int) : Bool := !decide (x = 0) && !looseB p
theorem badF_z {p : Fm} {x : Int} (h : x = 0) : badF p x = false := by unfold badF; rw [decide_eq_true h]; rfl
theorem badF_l {p : Fm} {x : Int} (h : looseB p = true) : badF p x = false := by unfold badF; rw [h]; simp
theorem badF_y {p : Fm} {x : Int} (h : ¬ x = 0) (h' : looseB p = false) : badF p x = true := by unfold badF; rw [decide_eq_false h, h']; rfl
theorem any_none {α : Type} {xs : List α} {q : α → Bool} {k : Nat} (hk : ¬ k < xs.length) (h : noP xs q k) : xs.any q = false :=
  List.any_eq_false.2 fun x hx => by
    obtain ⟨i, hi, rfl⟩ := List.mem_iff_getElem.1 hx
    simp [h i hi (by omega)]
theorem any_one {α : Type} {xs : List α} {q : α → Bool} {k : Nat} (hk : k < xs.length) (h : q xs[k] = true) : xs.any q = true := List.any_eq_true.2 ⟨_, List.getElem_mem hk, h⟩
def rvB (p : Fm) (n f : Int) (c : Cf) : Bool :=
  decide (((c.st.length : Nat) : Int) = Ns.cntE p n f) && belB c.st ((p.states.length : Nat) : Int) && decide (c.cor = n - f) && (decide (((c.se.length : Nat) : Int) = ((p.msgs.length : Nat) : Int)) && belB c.se 1048577) &&
  (decide (((c.fa.length : Nat) : Int) = ((p.msgs.length : Nat) : Int)) && belB c.fa 1048577) && !c.fa.any (badF p) && inW 0 (max 0 (((p.vals.length : Nat) : Int) - 1)) c.val &&
  (if p.top = 4 then decide (((c.sh.length : Nat) : Int) = n) && shp c.sh else decide (((c.sh.length : Nat) : Int) = 0))
theorem val_tree {p : Fm} (h : valE p = 0) (ht : p.top = 4) : p.fault = 0 := by
  unfold valE at h
  split at h
  · cases h
  split at h
  · cases h
  split at h
  · cases h
  split at h
  · cases h
  split at h
  · cases h
  split at h
  · cases h
  rename_i g
  have h1 : ¬ cliB p = true := fun e => g (.inl ⟨by omega, e⟩)
  unfold cliB at h1
  simp at h1
  exact h1.2
theorem shp_any {n : Int} (h1 : 1 ≤ n) (h8 : n ≤ 8) (sh : List Int) : (Sh.shX n).any (fun x => decide (sh = x)) = (decide (((sh.length : Nat) : Int) = n) && shp sh) := by
  obtain ⟨m, rfl⟩ := Int.eq_ofNat_of_zero_le (show 0 ≤ n by omega)
  rw [← Sh.shL_eq m (by omega) (by omega)]
  rw [Bool.eq_iff_iff]
  simp only [List.any_eq_true, decide_eq_true_eq, Bool.and_eq_true]
  constructor
  · rintro ⟨x, hx, rfl⟩
    obtain ⟨e1, e2⟩ := shK_mem hx
    exact ⟨by omega, e2⟩
  rintro ⟨e1, e2⟩
  have e3 : sh.length = m := by omega
  have := shL_count sh (by omega)
  rw [e3, if_pos e2] at this
  exact ⟨sh, List.count_pos_iff.1 (by omega), rfl⟩
theorem bel_split {xs : List Int} {p : Fm} : belB xs (mfE p) = (belB xs 1048577 && !xs.any (badF p)) := by
  unfold mfE
  by_cases hl : looseB p = true
  · have : p.fault = 1 ∨ p.fault = 2 := by unfold looseB at hl; simpa using hl
    rw [if_pos this]
    have : xs.any (badF p) = false := List.any_eq_false.2 fun x _ => by simp [badF_l hl]
    rw [this]; simp
  have hl' : looseB p = false := by simpa using hl
  have : ¬ (p.fault = 1 ∨ p.fault = 2) := fun e => hl (by unfold looseB; simpa using e)
  rw [if_neg this]
  unfold belB
  rw [Bool.eq_iff_iff]
  simp only [Bool.not_eq_true', List.any_eq_false, Bool.and_eq_true, outB, badF, hl', Bool.not_false, Bool.and_true, Bool.or_eq_true, decide_eq_true_eq, Bool.not_eq_true', decide_eq_false_iff_not, not_or, Decidable.not_not]
  constructor
  · intro h
    exact ⟨fun x hx => by have := h x hx; omega, fun x hx => by have := h x hx; omega⟩
  rintro ⟨h1, h2⟩ x hx
  have := h1 x hx; have := h2 x hx; omega
theorem rv_rd {p : Fm} {n t f : Int} {c : Cf} (hs : Ns.sysE p n t f = 0) : rvB p n f c = rdX p n f c := by
  obtain ⟨hv, ha, h8⟩ := Ns.sys_ok hs
  have hai := Ns.adm_in ha
  have hval : inW 0 (max 0 (((p.vals.length : Nat) : Int) - 1)) c.val = (!decide (c.val < 0) && !decide (max ((p.vals.length : Nat) : Int) 1 ≤ c.val)) := by
    unfold inW
    rw [Bool.eq_iff_iff]
    simp only [Bool.and_eq_true, decide_eq_true_eq, Bool.not_eq_true', decide_eq_false_iff_not]
    omega
  have hsh : (if p.top = 4 then decide (((c.sh.length : Nat) : Int) = n) && shp c.sh else decide (((c.sh.length : Nat) : Int) = 0)) = shB p.top (Ns.shT p.top (Ns.cntE p n f)) c.sh := by
    by_cases h4 : p.top = 4
    · have hc : Ns.cntE p n f = n := by unfold Ns.cntE; rw [if_neg (by have := val_tree hv h4; omega)]
      rw [if_pos h4, Ns.shT_tree h4, hc]
      unfold shB
      rw [if_pos h4, shp_any hai.1 (by omega)]
    rw [if_neg h4, shB_no h4]
  unfold rvB rdX rdB
  rw [hsh, hval, bel_split]
  cases shB p.top (Ns.shT p.top (Ns.cntE p n f)) c.sh <;> simp [Bool.and_assoc]
  done
end Rd
end Go.Proofs.Ytgbgfkhkjlakbaa
