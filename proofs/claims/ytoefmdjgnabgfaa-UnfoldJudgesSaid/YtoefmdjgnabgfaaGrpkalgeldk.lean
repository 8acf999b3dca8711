import Derived.Test.YtoefmdjgnabgfaaGrpgkjcjiip
import Derived.Test.YtoefmdjgnabgfaaGrpgfeekfoh
set_option linter.all false
namespace Go.Proofs.Ytoefmdjgnabgfaa
open Go.RowKit Go.Deep
variable {J : World → Prop}
set_option maxRecDepth 100000 in
set_option maxHeartbeats 6400000 in
theorem Yz {p : Fm} (HP : FmOk p) {q : Pq} (HQ : PqOk q) : Ctr Try.prog J 34 [.agg (cFm p), .agg (cPq q)] (iv (vpE p q)) := by
 have l1 := HQ.lstart
 have l2 := HQ.lbad
 have l3 := HQ.ladj
 have l4 := HP.lstates
 refine ZI Try.func34 rfl (by intro X hX; simp only [List.mem_cons, List.not_mem_nil, or_false] at hX; rcases hX with rfl | rfl; exact ZD (Yo p); exact ZD (Yr q)) (n := 181) rfl (by simp) (fun w0 => ?_)
 refine kW 181 [] [(0, .agg (cFm p)), (1, .agg (cPq q))] (Zb (Za (Yl rfl (Ya (X := .agg (cFm p)) (k := 1) (.tmp 0) rfl rfl) ⟨I0, T0⟩ T0 rfl (Yl rfl (Ya (X := .agg (cPq q)) (k := 2) (.tmp 1) rfl rfl) ⟨I0, T0⟩ T0 rfl (pM (aC (.int .i64 0)) (kN 181 [(1, .box 27 (cFm p)), (2, .box 30 (cPq q))] [(2, .box 1 0), (3, .box 2 0), (4, iv 0)] (Zc (Zb (Zb (Za (oB (Zj (Y := .box 27 (cFm p)) (ds := cFm p) (z := 10) (.tmp 2) rfl U27 rfl (by kernel_rfl) (by decide) (by kernel_rfl) (by kernel_rfl)) I0 rfl ?_)))))))))))
 refine oC (Zm (c := .func 61) (xs := #[.tmp 13]) [] (rValidate_c HP) rfl (by kernel_rfl) rfl (Xs := [.agg (cFm p)]) rfl rfl rfl) I0 I0 (pM (aT 14 (iv (valE p))) (kN 181 [(1, .box 27 (cFm p)), (2, .box 30 (cPq q))] [(2, .box 1 0), (3, .box 2 0), (4, iv 0), (5, iv (valE p))] (Zc (Zb ?_))))
 by_cases hs1 : valE p = 0
 refine Za (pM (mT 5 (iv (valE p))) (oC (ZE rfl (dT' hs1)) I0 I0 (kN 181 [(1, .box 27 (cFm p)), (2, .box 30 (cPq q))] [(2, .box 1 0), (3, .box 2 0), (4, iv 0), (5, iv (valE p)), (16, bv false)] (Zc (Zn rfl (Zk (Zc (Zb (Za (oA (fb 2 2 U27 1) I0 (oB (lb (Yj p.states) 18 U22) I0 rfl ?_)))))))))))
 refine oA (Zi (.tmp 19) rfl U22) I0 (pM (aT 20 (iv p.states.length)) (kN 181 [(1, .box 27 (cFm p)), (2, .box 30 (cPq q))] [(2, .box 1 0), (3, .box 2 0), (4, iv 0), (6, iv p.states.length)] (Zc (Zb (Zb ?_)))))
 by_cases hs2 : (nameB q.nm.toList) = true
 refine Za (oA (fb 0 3 U30 1) I0 (oB (lb (sv q.nm) 21 U9) I0 rfl (oC (Zm (c := .func 62) (xs := #[.tmp 22]) [] (ZJ (YF q.nm HQ.nm) hs2) rfl (by kernel_rfl) rfl (Xs := [sv q.nm]) rfl rfl rfl) I0 I0 (oA (ZC rfl rfl) I0 (kN 181 [(1, .box 27 (cFm p)), (2, .box 30 (cPq q))] [(2, .box 1 0), (3, .box 2 0), (4, iv 0), (6, iv p.states.length), (24, bv false)] (Zc (Zn rfl (Zk (Zc (Zb (Zb ?_)))))))))))
 by_cases hs3 : q.kind = 1
 refine Za (oA (fb 1 3 U30 1) I0 (oB (lb (iv q.kind) 25 U3) I0 rfl (oC (ZE rfl (dT' hs3)) I0 I0 (pM (mT 27 (bv false)) (qK (qK (qK (pP (Zf (.tmp 28) (.tmp 31) (.const (.bool false)) false (.v (.tuple #[])) (bv false) rfl) (kN 181 [(1, .box 27 (cFm p)), (2, .box 30 (cPq q))] [(2, .box 1 0), (3, .box 2 0), (4, iv 0), (6, iv p.states.length), (32, bv false)] (Zc (Zn rfl ?_)))))))))))
 refine Zk (Zc (Zb (Zb ?_)))
 by_cases hs4 : 0 < ((q.goal.length : Nat) : Int)
 refine Za (oA (fb 1 3 U30 1) I0 (oB (lb (iv q.kind) 33 U3) I0 rfl (oC (ZA rfl (dT hs3)) I0 I0 (pM (mT 35 (bv true)) (gA (fb 5 3 U30 1) I0 (gB (lb (Ze q.goal) 37 U24) I0 rfl (gA (Zi (.tmp 38) rfl U24) I0 (gC (Z9 rfl (dT hs4)) I0 I0 (pP (Zf (.tmp 36) (.tmp 40) (.const (.bool false)) true (bv true) (bv false) rfl) (pM (mT 41 (bv true)) (qK ?_)))))))))))
 refine qK (qK (qK (qK (qK (qK (qK (qK (qK (qK (qK (qK ?_)))))))))))
 refine qK (qK (pP (Zf (.tmp 42) (.const (.bool true)) (.tmp 57) true (bv true) (.v (.tuple #[])) rfl) (kN 181 [(1, .box 27 (cFm p)), (2, .box 30 (cPq q))] [(2, .box 1 0), (3, .box 2 0), (4, iv 0), (6, iv p.states.length), (58, bv true)] (Zc (Zu rfl (Zb (Za (pM (aC (.int .i64 1)) (Zv (Zc (Zt ?_)))))))))))
 refine Zd ?_
 refine Zr Try.results34 (.tmp rfl) ?_
 exact congrArg (fun x : Int => AV.v (.int .i64 x)) (((vp_2 hs1 hs2).trans (v2_g hs3 hs4)).symm)
 refine Za (oA (fb 1 3 U30 1) I0 (oB (lb (iv q.kind) 33 U3) I0 rfl (oC (ZA rfl (dT hs3)) I0 I0 (pM (mT 35 (bv true)) (gA (fb 5 3 U30 1) I0 (gB (lb (Ze q.goal) 37 U24) I0 rfl (gA (Zi (.tmp 38) rfl U24) I0 (gC (Z9 rfl (dF hs4)) I0 I0 (pP (Zf (.tmp 36) (.tmp 40) (.const (.bool false)) true (bv false) (bv false) rfl) (pM (mT 41 (bv false)) (gA (fb 1 3 U30 1) I0 ?_)))))))))))
 refine gB (lb (iv q.kind) 43 U3) I0 rfl (gC (ZA rfl (dF (show ¬ q.kind = 2 by omega))) I0 I0 (qM (mT 45 (bv false)) (qK (qK (qK (qK (qK (qK (qK (qK (qK ?_)))))))))))
 refine qK (qP (Zf (.tmp 46) (.tmp 56) (.const (.bool false)) false (.v (.tuple #[])) (bv false) rfl) (pP (Zf (.tmp 42) (.const (.bool true)) (.tmp 57) false (bv true) (bv false) rfl) (kN 181 [(1, .box 27 (cFm p)), (2, .box 30 (cPq q))] [(2, .box 1 0), (3, .box 2 0), (4, iv 0), (6, iv p.states.length), (58, bv false)] (Zc (Zn rfl (Zk (Zc (Zb (Zb (Za (oA (fb 2 3 U30 1) I0 ?_)))))))))))
 refine oB (lb (Ze q.start) 59 U24) I0 rfl (pM (mT 6 (iv p.states.length)) (oD (Zm (c := .func 63) (xs := #[.tmp 60, .tmp 61]) [] (KV p.states.length HP.lstates q.start HQ.start) rfl (by kernel_rfl) rfl (Xs := [Ze q.start, iv p.states.length]) rfl rfl rfl) I0 I0 I0 (pM (aT 62 (iv (setE p.states.length q.start))) (kN 181 [(1, .box 27 (cFm p)), (2, .box 30 (cPq q))] [(2, .box 1 0), (3, .box 2 0), (4, iv 0), (6, iv p.states.length), (7, iv (setE p.states.length q.start))] (Zc (Zb ?_))))))
 by_cases hs5 : setE p.states.length q.start = 0
 refine Za (pM (mT 7 (iv (setE p.states.length q.start))) (oC (ZE rfl (dT' hs5)) I0 I0 (kN 181 [(1, .box 27 (cFm p)), (2, .box 30 (cPq q))] [(2, .box 1 0), (3, .box 2 0), (4, iv 0), (6, iv p.states.length), (7, iv (setE p.states.length q.start)), (64, bv false)] (Zc (Zn rfl (Zk (Zc (Zb (Zb (Za (pM (aC (.int .i64 0)) ?_)))))))))))
 refine kN 181 [(1, .box 27 (cFm p)), (2, .box 30 (cPq q))] [(2, .box 1 0), (3, .box 2 0), (4, iv 0), (6, iv p.states.length), (8, iv 0)] (Zc ?_)
 refine Ku (subB p.init q.start q.start.length = true) (ofL [(1, .box 27 (cFm p)), (2, .box 30 (cPq q))]) (ofT 181 [(2, .box 1 0), (3, .box 2 0), (6, iv p.states.length)]) ?_ (fun SUB => ?_)
 refine Zz ?_
 refine Yb (σ := {k : Nat // k ≤ q.start.length ∧ subB p.init q.start k = true}) (fun s => (ofL [(1, .box 27 (cFm p)), (2, .box 30 (cPq q))], ofT 181 [(2, .box 1 0), (3, .box 2 0), (6, iv p.states.length), (8, iv s.1)])) (fun s => q.start.length - s.1) ⟨0, Nat.zero_le _, rfl⟩ (Zw _ _ rfl (by kernel_rfl) (by kernel_rfl)) (fun s => ?_)
 obtain ⟨k, hk0, hs0⟩ := s
 show ETri J w0 (ofL [(1, .box 27 (cFm p)), (2, .box 30 (cPq q))]) (ofT 181 [(2, .box 1 0), (3, .box 2 0), (6, iv p.states.length), (8, iv k)]) _
 refine Zb (Zb ?_)
 by_cases hs6 : ((k : Nat) : Int) < ((q.start.length : Nat) : Int)
 refine Za (pM (mT 8 (iv k)) (oA (fb 2 3 U30 1) I0 (oB (lb (Ze q.start) 67 U24) I0 rfl (oA (Zi (.tmp 68) rfl U24) I0 (oC (ZT rfl (dT hs6)) I0 I0 (kN 181 [(1, .box 27 (cFm p)), (2, .box 30 (cPq q))] [(2, .box 1 0), (3, .box 2 0), (6, iv p.states.length), (8, iv k), (70, bv true)] (Zc (Zu rfl (Zk (Zc (Zb ?_)))))))))))
 refine Zz (Zb ?_)
 by_cases hs7 : (decide (q.start[k] ∈ p.init)) = true
 refine ZQ (dA (fb 7 2 U27 1) I0 (dB (lb (Ze p.init) 73 U24) I0 rfl (dA (fb 2 3 U30 1) I0 (dB (lb (Ze q.start) 75 U24) I0 rfl (dM (mT 8 (iv k)) (dC (Zo (off := k * 1) (.tmp 76) (.tmp 77) rfl U24 (by kernel_rfl) (by omega) (by omega) rfl) I0 I0 (dA (Zp (X := iv q.start[k]) (.tmp 78) rfl U3 rfl (ZN q.start (by omega))) I0 (dD (Zm (c := .func 64) (xs := #[.tmp 74, .tmp 79]) [] (ZJ (has_c p.init q.start[k] HP.linit) hs7) rfl (by kernel_rfl) rfl (Xs := [Ze p.init, iv q.start[k]]) rfl rfl rfl) I0 I0 I0 (dA (ZC rfl rfl) I0 (dE ?_)))))))))) (by kernel_rfl)
 show ETri J w0 _ _ _
 refine kW 181 [(1, .box 27 (cFm p)), (2, .box 30 (cPq q))] [(2, .box 1 0), (3, .box 2 0), (6, iv p.states.length), (8, iv k), (70, bv true), (81, bv false)] (Zc (Zn rfl (Zk (ZU (Zc (Za (pM (mT 8 (iv k)) (oC (ZV (c := ((k + 1 : Nat) : Int)) rfl (w64 (by omega) (by omega) (by omega))) I0 I0 (pM (aT 72 (iv (k + 1 : Nat))) (kN 181 [(1, .box 27 (cFm p)), (2, .box 30 (cPq q))] [(2, .box 1 0), (3, .box 2 0), (6, iv p.states.length), (8, iv (k + 1 : Nat)), (70, bv true), (81, bv false)] (Zc ?_)))))))))))
 refine ZH ⟨k + 1, by omega, subB_succ (by omega) hs0 hs7⟩ (show q.start.length - (k + 1) < q.start.length - k by omega) ?_
 exact Zw _ _ rfl (by kernel_rfl) (by kernel_rfl)
 have hs7f : (decide (q.start[k] ∈ p.init)) = false := by simpa using hs7
 refine ZQ (dA (fb 7 2 U27 1) I0 (dB (lb (Ze p.init) 73 U24) I0 rfl (dA (fb 2 3 U30 1) I0 (dB (lb (Ze q.start) 75 U24) I0 rfl (dM (mT 8 (iv k)) (dC (Zo (off := k * 1) (.tmp 76) (.tmp 77) rfl U24 (by kernel_rfl) (by omega) (by omega) rfl) I0 I0 (dA (Zp (X := iv q.start[k]) (.tmp 78) rfl U3 rfl (ZN q.start (by omega))) I0 (dD (Zm (c := .func 64) (xs := #[.tmp 74, .tmp 79]) [] (ZJ (has_c p.init q.start[k] HP.linit) hs7f) rfl (by kernel_rfl) rfl (Xs := [Ze p.init, iv q.start[k]]) rfl rfl rfl) I0 I0 I0 (dA (ZC rfl rfl) I0 (dE ?_)))))))))) (by kernel_rfl)
 show ETri J w0 _ _ _
 refine kW 181 [(1, .box 27 (cFm p)), (2, .box 30 (cPq q))] [(2, .box 1 0), (3, .box 2 0), (6, iv p.states.length), (8, iv k), (70, bv true), (81, bv true)] (Zc (Zu rfl (Zb (Za (pM (aC (.int .i64 5)) (Zv (Zc (Zt (Zq (Zd (Zd ?_)))))))))))
 refine Zq (Yi (Zd ?_))
 refine Zr Try.results34 (.tmp rfl) ?_
 exact congrArg (fun x : Int => AV.v (.int .i64 x)) (((vp_2 hs1 hs2).trans ((v2_1 hs3 hs4).trans (v3_i hs5 (k := k) (by omega) hs7f))).symm)
 refine Za (pM (mT 8 (iv k)) (oA (fb 2 3 U30 1) I0 (oB (lb (Ze q.start) 67 U24) I0 rfl (oA (Zi (.tmp 68) rfl U24) I0 (oC (ZT rfl (dF hs6)) I0 I0 (kN 181 [(1, .box 27 (cFm p)), (2, .box 30 (cPq q))] [(2, .box 1 0), (3, .box 2 0), (6, iv p.states.length), (8, iv k), (70, bv false)] (Zc (Zn rfl (Z8 (Zx (Zx ?_)))))))))))
 refine YN ?_
 exact Z7 (by have : k = q.start.length := (by omega); subst this; exact hs0) (Zw _ _ rfl (by kernel_rfl) (by kernel_rfl))
 refine Zc (Zb (Zb (Za (oA (fb 1 3 U30 1) I0 (oB (lb (iv q.kind) 82 U3) I0 rfl (oC (ZA rfl (dF (show ¬ q.kind = 2 by omega))) I0 I0 (kN 181 [(1, .box 27 (cFm p)), (2, .box 30 (cPq q))] [(2, .box 1 0), (3, .box 2 0), (6, iv p.states.length), (84, bv false)] (Zc (Zn rfl (Zk (Zc ?_)))))))))))
 refine Zb (Zb ?_)
 by_cases hs8 : ((q.bad.length : Nat) : Int) = 0
 by_cases hs9 : ((q.adj.length : Nat) : Int) = 0
 refine Za (oA (fb 3 3 U30 1) I0 (oB (lb (slA 2 cRw q.bad) 96 U28) I0 rfl (oA (Zi (.tmp 97) rfl U28) I0 (oC (ZA rfl (dT hs8)) I0 I0 (pM (mT 99 (bv true)) (gA (fb 4 3 U30 1) I0 (gB (lb (Ze q.adj) 101 U24) I0 rfl (gA (Zi (.tmp 102) rfl U24) I0 (gC (ZA rfl (dT hs9)) I0 I0 (pP (Zf (.tmp 100) (.tmp 104) (.const (.bool false)) true (bv true) (bv false) rfl) (kN 181 [(1, .box 27 (cFm p)), (2, .box 30 (cPq q))] [(2, .box 1 0), (3, .box 2 0), (6, iv p.states.length), (105, bv true)] ?_)))))))))))
 refine Zc (Zu rfl (Zb (Za (pM (aC (.int .i64 1)) (Zv (Zc (Zt (Zd ?_))))))))
 refine Zr Try.results34 (.tmp rfl) ?_
 exact congrArg (fun x : Int => AV.v (.int .i64 x)) ((((vp_2 hs1 hs2).trans ((v2_1 hs3 hs4).trans (v3_z hs5 SUB))).trans (bad_0 hs8 hs9)).symm)
 refine Za (oA (fb 3 3 U30 1) I0 (oB (lb (slA 2 cRw q.bad) 96 U28) I0 rfl (oA (Zi (.tmp 97) rfl U28) I0 (oC (ZA rfl (dT hs8)) I0 I0 (pM (mT 99 (bv true)) (gA (fb 4 3 U30 1) I0 (gB (lb (Ze q.adj) 101 U24) I0 rfl (gA (Zi (.tmp 102) rfl U24) I0 (gC (ZA rfl (dF hs9)) I0 I0 (pP (Zf (.tmp 100) (.tmp 104) (.const (.bool false)) true (bv false) (bv false) rfl) (kN 181 [(1, .box 27 (cFm p)), (2, .box 30 (cPq q))] [(2, .box 1 0), (3, .box 2 0), (6, iv p.states.length), (105, bv false)] ?_)))))))))))
 refine Zc (Zn rfl (Zk (Zc (Zb (Zb (Za (oA (fb 3 3 U30 1) I0 (oB (lb (slA 2 cRw q.bad) 106 U28) I0 rfl (oA (Zi (.tmp 107) rfl U28) I0 (oC (Z9 rfl (dF (show ¬ 3 < ((q.bad.length : Nat) : Int) by omega))) I0 I0 (kN 181 [(1, .box 27 (cFm p)), (2, .box 30 (cPq q))] [(2, .box 1 0), (3, .box 2 0), (6, iv p.states.length), (109, bv false)] ?_)))))))))))
 refine Zc (Zn rfl (Zk (Zc (Zb (Zb (Za (pM (aC (.int .i64 0)) (kN 181 [(1, .box 27 (cFm p)), (2, .box 30 (cPq q))] [(2, .box 1 0), (3, .box 2 0), (6, iv p.states.length), (10, iv 0)] (Zc ?_)))))))))
 refine Ku (cntOk p.states.length q.bad q.bad.length) (ofL [(1, .box 27 (cFm p)), (2, .box 30 (cPq q))]) (ofT 181 [(2, .box 1 0), (3, .box 2 0), (6, iv p.states.length)]) ?_ (fun CNT => ?_)
 refine Zz ?_
 refine Yb (σ := {k : Nat // k ≤ q.bad.length ∧ cntOk p.states.length q.bad k}) (fun s => (ofL [(1, .box 27 (cFm p)), (2, .box 30 (cPq q))], ofT 181 [(2, .box 1 0), (3, .box 2 0), (6, iv p.states.length), (10, iv s.1)])) (fun s => q.bad.length - s.1) ⟨0, Nat.zero_le _, cntOk_zero _ _⟩ (Zw _ _ rfl (by kernel_rfl) (by kernel_rfl)) (fun s => ?_)
 obtain ⟨k, hk0, hs0⟩ := s
 show ETri J w0 (ofL [(1, .box 27 (cFm p)), (2, .box 30 (cPq q))]) (ofT 181 [(2, .box 1 0), (3, .box 2 0), (6, iv p.states.length), (10, iv k)]) _
 refine Zb (Zb ?_)
 by_cases hs10 : ((k : Nat) : Int) < ((q.bad.length : Nat) : Int)
 refine Za (pM (mT 10 (iv k)) (oA (fb 3 3 U30 1) I0 (oB (lb (slA 2 cRw q.bad) 111 U28) I0 rfl (oA (Zi (.tmp 112) rfl U28) I0 (oC (ZT rfl (dT hs10)) I0 I0 (kN 181 [(1, .box 27 (cFm p)), (2, .box 30 (cPq q))] [(2, .box 1 0), (3, .box 2 0), (6, iv p.states.length), (10, iv k), (114, bv true)] (Zc (Zu rfl (Zk (Zc (Zb ?_)))))))))))
 refine Zz (Zb (Zb (Za (oA (fb 3 3 U30 1) I0 (oB (lb (slA 2 cRw q.bad) 117 U28) I0 rfl (pM (mT 10 (iv k)) (oC (Zo (off := k * 2) (.tmp 118) (.tmp 119) rfl U28 (by kernel_rfl) (by omega) (by omega) rfl) I0 I0 (oA (Z4 (off' := k * 2) (.tmp 120) rfl U53 rfl (z := 1) (by kernel_rfl) (by decide) rfl) I0 (oA (Zp (X := Ze q.bad[k].1) (.tmp 121) rfl U24 rfl ((Yg lenRw q.bad k 0 (by omega) (by decide)).trans rfl)) I0 (pM (mT 6 (iv p.states.length)) (oD (Zm (c := .func 63) (xs := #[.tmp 122, .tmp 123]) [] (KV p.states.length HP.lstates q.bad[k].1 (HQ.bad q.bad[k] (List.getElem_mem (by omega))).1) rfl (by kernel_rfl) rfl (Xs := [Ze q.bad[k].1, iv p.states.length]) rfl rfl rfl) I0 I0 I0 ?_)))))))))))
 refine pM (aT 124 (iv (setE p.states.length q.bad[k].1))) (kN 181 [(1, .box 27 (cFm p)), (2, .box 30 (cPq q))] [(2, .box 1 0), (3, .box 2 0), (6, iv p.states.length), (10, iv k), (11, iv (setE p.states.length q.bad[k].1)), (114, bv true)] (Zc (Zb ?_)))
 by_cases hs11 : setE p.states.length q.bad[k].1 = 0
 refine Za (pM (mT 11 (iv (setE p.states.length q.bad[k].1))) (oC (ZE rfl (dT' hs11)) I0 I0 (kN 181 [(1, .box 27 (cFm p)), (2, .box 30 (cPq q))] [(2, .box 1 0), (3, .box 2 0), (6, iv p.states.length), (10, iv k), (11, iv (setE p.states.length q.bad[k].1)), (114, bv true), (126, bv false)] (Zc (Zn rfl (Zk (Zc (Zb ?_))))))))
 by_cases hs12 : ((q.bad[k].1.length : Nat) : Int) = 0
 refine Za (oA (fb 3 3 U30 1) I0 (oB (lb (slA 2 cRw q.bad) 128 U28) I0 rfl (pM (mT 10 (iv k)) (oC (Zo (off := k * 2) (.tmp 129) (.tmp 130) rfl U28 (by kernel_rfl) (by omega) (by omega) rfl) I0 I0 (oA (Z4 (off' := k * 2) (.tmp 131) rfl U53 rfl (z := 1) (by kernel_rfl) (by decide) rfl) I0 (oA (Zp (X := Ze q.bad[k].1) (.tmp 132) rfl U24 rfl ((Yg lenRw q.bad k 0 (by omega) (by decide)).trans rfl)) I0 (oA (Zi (.tmp 133) rfl U24) I0 (oC (ZA rfl (dT hs12)) I0 I0 (pM (mT 135 (bv true)) (qK (qK ?_)))))))))))
 refine qK (qK (qK (qK (qK (qK (pP (Zf (.tmp 136) (.const (.bool true)) (.tmp 144) true (bv true) (.v (.tuple #[])) rfl) (kN 181 [(1, .box 27 (cFm p)), (2, .box 30 (cPq q))] [(2, .box 1 0), (3, .box 2 0), (6, iv p.states.length), (10, iv k), (11, iv (setE p.states.length q.bad[k].1)), (114, bv true), (126, bv false), (145, bv true)] (Zc (Zu rfl (Zb (Za ?_)))))))))))
 refine pM (aC (.int .i64 1)) (Zv (Zc (Zt (Zq (Zd (Zd (Zq (Yi (Zd ?_)))))))))
 refine Zr Try.results34 (.tmp rfl) ?_
 exact congrArg (fun x : Int => AV.v (.int .i64 x)) ((((vp_2 hs1 hs2).trans ((v2_1 hs3 hs4).trans (v3_z hs5 SUB))).trans (bad_c ⟨(fun h => hs9 h.2), (show ¬ 3 < ((q.bad.length : Nat) : Int) by omega)⟩ (k := k) (by omega) hs0 (cnt_l hs11 hs12) (by decide))).symm)
 by_cases hs13 : (inB 1 3 q.bad[k].2) = true
 refine Za (oA (fb 3 3 U30 1) I0 (oB (lb (slA 2 cRw q.bad) 128 U28) I0 rfl (pM (mT 10 (iv k)) (oC (Zo (off := k * 2) (.tmp 129) (.tmp 130) rfl U28 (by kernel_rfl) (by omega) (by omega) rfl) I0 I0 (oA (Z4 (off' := k * 2) (.tmp 131) rfl U53 rfl (z := 1) (by kernel_rfl) (by decide) rfl) I0 (oA (Zp (X := Ze q.bad[k].1) (.tmp 132) rfl U24 rfl ((Yg lenRw q.bad k 0 (by omega) (by decide)).trans rfl)) I0 (oA (Zi (.tmp 133) rfl U24) I0 (oC (ZA rfl (dF hs12)) I0 I0 (pM (mT 135 (bv false)) (gA (fb 3 3 U30 1) I0 (gB (lb (slA 2 cRw q.bad) 137 U28) I0 rfl ?_)))))))))))
 refine qM (mT 10 (iv k)) (gC (Zo (off := k * 2) (.tmp 138) (.tmp 139) rfl U28 (by kernel_rfl) (by omega) (by omega) rfl) I0 I0 (gA (Z4 (off' := k * 2 + 1) (.tmp 140) rfl U53 rfl (z := 1) (by kernel_rfl) (by decide) rfl) I0 (gA (Zp (X := iv q.bad[k].2) (.tmp 141) rfl U3 rfl ((Yg lenRw q.bad k 1 (by omega) (by decide)).trans rfl)) I0 (YD rfl (Zm (c := .func 65) (xs := #[.tmp 142, .const (.int .i64 1), .const (.int .i64 3)]) [] (ZJ (ZL q.bad[k].2 1 3) hs13) rfl (by kernel_rfl) rfl (Xs := [iv q.bad[k].2, iv 1, iv 3]) rfl rfl rfl) ⟨I0, I0, I0, I0, T0⟩ T0 T0 (gA (ZC rfl rfl) I0 (pP (Zf (.tmp 136) (.const (.bool true)) (.tmp 144) false (bv true) (bv false) rfl) (kN 181 [(1, .box 27 (cFm p)), (2, .box 30 (cPq q))] [(2, .box 1 0), (3, .box 2 0), (6, iv p.states.length), (10, iv k), (11, iv (setE p.states.length q.bad[k].1)), (114, bv true), (126, bv false), (145, bv false)] (Zc (Zn rfl (Zk (ZU ?_)))))))))))
 refine Zc (Za (pM (mT 10 (iv k)) (oC (ZV (c := ((k + 1 : Nat) : Int)) rfl (w64 (by omega) (by omega) (by omega))) I0 I0 (pM (aT 116 (iv (k + 1 : Nat))) (kN 181 [(1, .box 27 (cFm p)), (2, .box 30 (cPq q))] [(2, .box 1 0), (3, .box 2 0), (6, iv p.states.length), (10, iv (k + 1 : Nat)), (11, iv (setE p.states.length q.bad[k].1)), (114, bv true), (126, bv false), (145, bv false)] (Zc ?_))))))
 refine ZH ⟨k + 1, by omega, cntOk_succ (by omega) hs0 (cnt_0 hs11 hs12 hs13)⟩ (show q.bad.length - (k + 1) < q.bad.length - k by omega) ?_
 exact Zw _ _ rfl (by kernel_rfl) (by kernel_rfl)
 have hs13f : (inB 1 3 q.bad[k].2) = false := by simpa using hs13
 refine Za (oA (fb 3 3 U30 1) I0 (oB (lb (slA 2 cRw q.bad) 128 U28) I0 rfl (pM (mT 10 (iv k)) (oC (Zo (off := k * 2) (.tmp 129) (.tmp 130) rfl U28 (by kernel_rfl) (by omega) (by omega) rfl) I0 I0 (oA (Z4 (off' := k * 2) (.tmp 131) rfl U53 rfl (z := 1) (by kernel_rfl) (by decide) rfl) I0 (oA (Zp (X := Ze q.bad[k].1) (.tmp 132) rfl U24 rfl ((Yg lenRw q.bad k 0 (by omega) (by decide)).trans rfl)) I0 (oA (Zi (.tmp 133) rfl U24) I0 (oC (ZA rfl (dF hs12)) I0 I0 (pM (mT 135 (bv false)) (gA (fb 3 3 U30 1) I0 (gB (lb (slA 2 cRw q.bad) 137 U28) I0 rfl ?_)))))))))))
 refine qM (mT 10 (iv k)) (gC (Zo (off := k * 2) (.tmp 138) (.tmp 139) rfl U28 (by kernel_rfl) (by omega) (by omega) rfl) I0 I0 (gA (Z4 (off' := k * 2 + 1) (.tmp 140) rfl U53 rfl (z := 1) (by kernel_rfl) (by decide) rfl) I0 (gA (Zp (X := iv q.bad[k].2) (.tmp 141) rfl U3 rfl ((Yg lenRw q.bad k 1 (by omega) (by decide)).trans rfl)) I0 (YD rfl (Zm (c := .func 65) (xs := #[.tmp 142, .const (.int .i64 1), .const (.int .i64 3)]) [] (ZJ (ZL q.bad[k].2 1 3) hs13f) rfl (by kernel_rfl) rfl (Xs := [iv q.bad[k].2, iv 1, iv 3]) rfl rfl rfl) ⟨I0, I0, I0, I0, T0⟩ T0 T0 (gA (ZC rfl rfl) I0 (pP (Zf (.tmp 136) (.const (.bool true)) (.tmp 144) false (bv true) (bv true) rfl) (kN 181 [(1, .box 27 (cFm p)), (2, .box 30 (cPq q))] [(2, .box 1 0), (3, .box 2 0), (6, iv p.states.length), (10, iv k), (11, iv (setE p.states.length q.bad[k].1)), (114, bv true), (126, bv false), (145, bv true)] (Zc (Zu rfl (Zb (Za ?_)))))))))))
 refine pM (aC (.int .i64 1)) (Zv (Zc (Zt (Zq (Zd (Zd (Zq (Yi (Zd ?_)))))))))
 refine Zr Try.results34 (.tmp rfl) ?_
 exact congrArg (fun x : Int => AV.v (.int .i64 x)) ((((vp_2 hs1 hs2).trans ((v2_1 hs3 hs4).trans (v3_z hs5 SUB))).trans (bad_c ⟨(fun h => hs9 h.2), (show ¬ 3 < ((q.bad.length : Nat) : Int) by omega)⟩ (k := k) (by omega) hs0 (cnt_b hs11 hs12 hs13f) (by decide))).symm)
 refine Za (pM (mT 11 (iv (setE p.states.length q.bad[k].1))) (oC (ZE rfl (dF' hs11)) I0 I0 (kN 181 [(1, .box 27 (cFm p)), (2, .box 30 (cPq q))] [(2, .box 1 0), (3, .box 2 0), (6, iv p.states.length), (10, iv k), (11, iv (setE p.states.length q.bad[k].1)), (114, bv true), (126, bv true)] (Zc (Zu rfl (Zb (Za (pM (mT 11 (iv (setE p.states.length q.bad[k].1))) (pM (aT 127 (iv (setE p.states.length q.bad[k].1))) (Zv (Zc ?_)))))))))))
 refine Zt (Zd (Zq (Zd (Zd (Zq (Yi (Zd ?_)))))))
 refine Zr Try.results34 (.tmp rfl) ?_
 exact congrArg (fun x : Int => AV.v (.int .i64 x)) ((((vp_2 hs1 hs2).trans ((v2_1 hs3 hs4).trans (v3_z hs5 SUB))).trans (bad_c ⟨(fun h => hs9 h.2), (show ¬ 3 < ((q.bad.length : Nat) : Int) by omega)⟩ (k := k) (by omega) hs0 (cnt_s hs11) hs11)).symm)
 refine Za (pM (mT 10 (iv k)) (oA (fb 3 3 U30 1) I0 (oB (lb (slA 2 cRw q.bad) 111 U28) I0 rfl (oA (Zi (.tmp 112) rfl U28) I0 (oC (ZT rfl (dF hs10)) I0 I0 (kN 181 [(1, .box 27 (cFm p)), (2, .box 30 (cPq q))] [(2, .box 1 0), (3, .box 2 0), (6, iv p.states.length), (10, iv k), (114, bv false)] (Zc (Zn rfl (Z8 (Zx (Zx ?_)))))))))))
 refine YN ?_
 exact Z7 (by have : k = q.bad.length := (by omega); subst this; exact hs0) (Zw _ _ rfl (by kernel_rfl) (by kernel_rfl))
 refine Zc (Zb (Zb ?_))
 by_cases hs14 : p.top = 1
 refine Za (oA (fb 4 3 U30 1) I0 (oB (lb (Ze q.adj) 146 U24) I0 rfl (oA (Zi (.tmp 147) rfl U24) I0 (oC (Z9 rfl (dT (show 0 < ((q.adj.length : Nat) : Int) by omega))) I0 I0 (pM (mT 149 (bv true)) (gA (fb 1 2 U27 1) I0 (gB (lb (iv p.top) 151 U3) I0 rfl (gC (ZA rfl (dT hs14)) I0 I0 (pP (Zf (.tmp 150) (.tmp 153) (.const (.bool false)) true (bv true) (bv false) rfl) (kN 181 [(2, .box 30 (cPq q))] [(3, .box 2 0), (6, iv p.states.length), (154, bv true)] (Zc ?_)))))))))))
 refine Zu rfl (Zb (Za (pM (aC (.int .i64 6)) (Zv (Zc (Zt (Zd ?_)))))))
 refine Zr Try.results34 (.tmp rfl) ?_
 exact congrArg (fun x : Int => AV.v (.int .i64 x)) ((((vp_2 hs1 hs2).trans ((v2_1 hs3 hs4).trans (v3_z hs5 SUB))).trans ((bad_z ⟨(fun h => hs9 h.2), (show ¬ 3 < ((q.bad.length : Nat) : Int) by omega)⟩ CNT).trans (adj_6 (by omega) hs14))).symm)
 refine Za (oA (fb 4 3 U30 1) I0 (oB (lb (Ze q.adj) 146 U24) I0 rfl (oA (Zi (.tmp 147) rfl U24) I0 (oC (Z9 rfl (dT (show 0 < ((q.adj.length : Nat) : Int) by omega))) I0 I0 (pM (mT 149 (bv true)) (gA (fb 1 2 U27 1) I0 (gB (lb (iv p.top) 151 U3) I0 rfl (gC (ZA rfl (dF hs14)) I0 I0 (pP (Zf (.tmp 150) (.tmp 153) (.const (.bool false)) true (bv false) (bv false) rfl) (kN 181 [(2, .box 30 (cPq q))] [(3, .box 2 0), (6, iv p.states.length), (154, bv false)] (Zc ?_)))))))))))
 refine Zn rfl (Zk (Zc (Zb (Zb ?_))))
 by_cases hs15 : ((q.adj.length : Nat) : Int) = 2
 refine Za (oA (fb 4 3 U30 1) I0 (oB (lb (Ze q.adj) 155 U24) I0 rfl (oA (Zi (.tmp 156) rfl U24) I0 (oC (ZE rfl (dF' hs9)) I0 I0 (pM (mT 158 (bv true)) (gA (fb 4 3 U30 1) I0 (gB (lb (Ze q.adj) 160 U24) I0 rfl (gA (Zi (.tmp 161) rfl U24) I0 (gC (ZE rfl (dT' hs15)) I0 I0 (pP (Zf (.tmp 159) (.tmp 163) (.const (.bool false)) true (bv false) (bv false) rfl) (kN 181 [(2, .box 30 (cPq q))] [(3, .box 2 0), (6, iv p.states.length), (164, bv false)] ?_)))))))))))
 refine Zc (Zn rfl (Zk (Zc (Zb (Zb (Za (pM (aC (.int .i64 0)) (kN 181 [(2, .box 30 (cPq q))] [(3, .box 2 0), (6, iv p.states.length), (12, iv 0)] (Zc (Zz ?_))))))))))
 refine Yb (σ := {k : Nat // k ≤ q.adj.length ∧ adjB p.states.length q.adj k = true}) (fun s => (ofL [(2, .box 30 (cPq q))], ofT 181 [(3, .box 2 0), (6, iv p.states.length), (12, iv s.1)])) (fun s => q.adj.length - s.1) ⟨0, Nat.zero_le _, rfl⟩ (Zw _ _ rfl (by kernel_rfl) (by kernel_rfl)) (fun s => ?_)
 obtain ⟨k, hk0, hs0⟩ := s
 show ETri J w0 (ofL [(2, .box 30 (cPq q))]) (ofT 181 [(3, .box 2 0), (6, iv p.states.length), (12, iv k)]) _
 refine Zb (Zb ?_)
 by_cases hs16 : ((k : Nat) : Int) < ((q.adj.length : Nat) : Int)
 refine Za (pM (mT 12 (iv k)) (oA (fb 4 3 U30 1) I0 (oB (lb (Ze q.adj) 166 U24) I0 rfl (oA (Zi (.tmp 167) rfl U24) I0 (oC (ZT rfl (dT hs16)) I0 I0 (kN 181 [(2, .box 30 (cPq q))] [(3, .box 2 0), (6, iv p.states.length), (12, iv k), (169, bv true)] (Zc (Zu rfl (Zk (Zc (Zb ?_)))))))))))
 refine Zz (Zb ?_)
 by_cases hs17 : (inB 0 (((p.states.length : Nat) : Int) - 1) q.adj[k]) = true
 refine Za (oA (fb 4 3 U30 1) I0 (oB (lb (Ze q.adj) 172 U24) I0 rfl (pM (mT 12 (iv k)) (oC (Zo (off := k * 1) (.tmp 173) (.tmp 174) rfl U24 (by kernel_rfl) (by omega) (by omega) rfl) I0 I0 (oA (Zp (X := iv q.adj[k]) (.tmp 175) rfl U3 rfl (ZN q.adj (by omega))) I0 (pM (mT 6 (iv p.states.length)) (oC (Yn (c := ((p.states.length : Nat) : Int) - 1) rfl (w64 (by omega) (by omega) (by omega))) I0 I0 (Yl rfl (Zm (c := .func 65) (xs := #[.tmp 176, .const (.int .i64 0), .tmp 178]) [] (ZJ (ZL q.adj[k] 0 (((p.states.length : Nat) : Int) - 1)) hs17) rfl (by kernel_rfl) rfl (Xs := [iv q.adj[k], iv 0, iv (((p.states.length : Nat) : Int) - 1)]) rfl rfl rfl) ⟨I0, I0, I0, I0, T0⟩ T0 T0 (oA (ZC rfl rfl) I0 (kN 181 [(2, .box 30 (cPq q))] [(3, .box 2 0), (6, iv p.states.length), (12, iv k), (169, bv true), (180, bv false)] (Zc ?_)))))))))))
 refine Zn rfl (Zk (ZU (Zc (Za (pM (mT 12 (iv k)) (oC (ZV (c := ((k + 1 : Nat) : Int)) rfl (w64 (by omega) (by omega) (by omega))) I0 I0 (pM (aT 171 (iv (k + 1 : Nat))) (kN 181 [(2, .box 30 (cPq q))] [(3, .box 2 0), (6, iv p.states.length), (12, iv (k + 1 : Nat)), (169, bv true), (180, bv false)] (Zc ?_)))))))))
 refine ZH ⟨k + 1, by omega, adjB_succ (by omega) hs0 hs17⟩ (show q.adj.length - (k + 1) < q.adj.length - k by omega) ?_
 exact Zw _ _ rfl (by kernel_rfl) (by kernel_rfl)
 have hs17f : (inB 0 (((p.states.length : Nat) : Int) - 1) q.adj[k]) = false := by simpa using hs17
 refine Za (oA (fb 4 3 U30 1) I0 (oB (lb (Ze q.adj) 172 U24) I0 rfl (pM (mT 12 (iv k)) (oC (Zo (off := k * 1) (.tmp 173) (.tmp 174) rfl U24 (by kernel_rfl) (by omega) (by omega) rfl) I0 I0 (oA (Zp (X := iv q.adj[k]) (.tmp 175) rfl U3 rfl (ZN q.adj (by omega))) I0 (pM (mT 6 (iv p.states.length)) (oC (Yn (c := ((p.states.length : Nat) : Int) - 1) rfl (w64 (by omega) (by omega) (by omega))) I0 I0 (Yl rfl (Zm (c := .func 65) (xs := #[.tmp 176, .const (.int .i64 0), .tmp 178]) [] (ZJ (ZL q.adj[k] 0 (((p.states.length : Nat) : Int) - 1)) hs17f) rfl (by kernel_rfl) rfl (Xs := [iv q.adj[k], iv 0, iv (((p.states.length : Nat) : Int) - 1)]) rfl rfl rfl) ⟨I0, I0, I0, I0, T0⟩ T0 T0 (oA (ZC rfl rfl) I0 (kN 181 [(2, .box 30 (cPq q))] [(3, .box 2 0), (6, iv p.states.length), (12, iv k), (169, bv true), (180, bv true)] (Zc ?_)))))))))))
 refine Zu rfl (Zb (Za (pM (aC (.int .i64 5)) (Zv (Zc (Zt (Zq (Zd (Zd (Zq (Zd ?_)))))))))))
 refine Zr Try.results34 (.tmp rfl) ?_
 exact congrArg (fun x : Int => AV.v (.int .i64 x)) ((((vp_2 hs1 hs2).trans ((v2_1 hs3 hs4).trans (v3_z hs5 SUB))).trans ((bad_z ⟨(fun h => hs9 h.2), (show ¬ 3 < ((q.bad.length : Nat) : Int) by omega)⟩ CNT).trans (adj_5 (by omega) hs14 hs15 (k := k) (by omega) hs17f))).symm)
 refine Za (pM (mT 12 (iv k)) (oA (fb 4 3 U30 1) I0 (oB (lb (Ze q.adj) 166 U24) I0 rfl (oA (Zi (.tmp 167) rfl U24) I0 (oC (ZT rfl (dF hs16)) I0 I0 (kN 181 [(2, .box 30 (cPq q))] [(3, .box 2 0), (6, iv p.states.length), (12, iv k), (169, bv false)] (Zc (Zn rfl (Z8 (Zx (Zx ?_)))))))))))
 refine YN (Zc (Zb (Za (pM (aC (.int .i64 0)) (Zv (Zc (Zt ?_)))))))
 refine Zr Try.results34 (.tmp rfl) ?_
 exact congrArg (fun x : Int => AV.v (.int .i64 x)) ((((vp_2 hs1 hs2).trans ((v2_1 hs3 hs4).trans (v3_z hs5 SUB))).trans ((bad_z ⟨(fun h => hs9 h.2), (show ¬ 3 < ((q.bad.length : Nat) : Int) by omega)⟩ CNT).trans (adj_k (by omega) hs14 hs15 (by have : k = q.adj.length := (by omega); subst this; exact hs0)))).symm)
 refine Za (oA (fb 4 3 U30 1) I0 (oB (lb (Ze q.adj) 155 U24) I0 rfl (oA (Zi (.tmp 156) rfl U24) I0 (oC (ZE rfl (dF' hs9)) I0 I0 (pM (mT 158 (bv true)) (gA (fb 4 3 U30 1) I0 (gB (lb (Ze q.adj) 160 U24) I0 rfl (gA (Zi (.tmp 161) rfl U24) I0 (gC (ZE rfl (dF' hs15)) I0 I0 (pP (Zf (.tmp 159) (.tmp 163) (.const (.bool false)) true (bv true) (bv false) rfl) (kN 181 [(2, .box 30 (cPq q))] [(3, .box 2 0), (6, iv p.states.length), (164, bv true)] ?_)))))))))))
 refine Zc (Zu rfl (Zb (Za (pM (aC (.int .i64 1)) (Zv (Zc (Zt (Zd ?_))))))))
 refine Zr Try.results34 (.tmp rfl) ?_
 exact congrArg (fun x : Int => AV.v (.int .i64 x)) ((((vp_2 hs1 hs2).trans ((v2_1 hs3 hs4).trans (v3_z hs5 SUB))).trans ((bad_z ⟨(fun h => hs9 h.2), (show ¬ 3 < ((q.bad.length : Nat) : Int) by omega)⟩ CNT).trans (adj_1 (by omega) hs14 hs15))).symm)
 refine Za (oA (fb 3 3 U30 1) I0 (oB (lb (slA 2 cRw q.bad) 96 U28) I0 rfl (oA (Zi (.tmp 97) rfl U28) I0 (oC (ZA rfl (dF hs8)) I0 I0 (pM (mT 99 (bv false)) (qK (qK (qK (qK (pP (Zf (.tmp 100) (.tmp 104) (.const (.bool false)) false (.v (.tuple #[])) (bv false) rfl) (kN 181 [(1, .box 27 (cFm p)), (2, .box 30 (cPq q))] [(2, .box 1 0), (3, .box 2 0), (6, iv p.states.length), (105, bv false)] ?_)))))))))))
 refine Zc (Zn rfl (Zk (Zc (Zb (Zb ?_)))))
 by_cases hs18 : 3 < ((q.bad.length : Nat) : Int)
 refine Za (oA (fb 3 3 U30 1) I0 (oB (lb (slA 2 cRw q.bad) 106 U28) I0 rfl (oA (Zi (.tmp 107) rfl U28) I0 (oC (Z9 rfl (dT hs18)) I0 I0 (kN 181 [(1, .box 27 (cFm p)), (2, .box 30 (cPq q))] [(2, .box 1 0), (3, .box 2 0), (6, iv p.states.length), (109, bv true)] (Zc (Zu rfl (Zb (Za (pM (aC (.int .i64 4)) (Zv ?_)))))))))))
 refine Zc (Zt (Zd ?_))
 refine Zr Try.results34 (.tmp rfl) ?_
 exact congrArg (fun x : Int => AV.v (.int .i64 x)) ((((vp_2 hs1 hs2).trans ((v2_1 hs3 hs4).trans (v3_z hs5 SUB))).trans (bad_4 (fun h => hs8 h.1) hs18)).symm)
 refine Za (oA (fb 3 3 U30 1) I0 (oB (lb (slA 2 cRw q.bad) 106 U28) I0 rfl (oA (Zi (.tmp 107) rfl U28) I0 (oC (Z9 rfl (dF hs18)) I0 I0 (kN 181 [(1, .box 27 (cFm p)), (2, .box 30 (cPq q))] [(2, .box 1 0), (3, .box 2 0), (6, iv p.states.length), (109, bv false)] (Zc (Zn rfl (Zk (Zc (Zb (Zb ?_)))))))))))
 refine Za (pM (aC (.int .i64 0)) (kN 181 [(1, .box 27 (cFm p)), (2, .box 30 (cPq q))] [(2, .box 1 0), (3, .box 2 0), (6, iv p.states.length), (10, iv 0)] (Zc ?_)))
 refine Ku (cntOk p.states.length q.bad q.bad.length) (ofL [(1, .box 27 (cFm p)), (2, .box 30 (cPq q))]) (ofT 181 [(2, .box 1 0), (3, .box 2 0), (6, iv p.states.length)]) ?_ (fun CNT => ?_)
 refine Zz ?_
 refine Yb (σ := {k : Nat // k ≤ q.bad.length ∧ cntOk p.states.length q.bad k}) (fun s => (ofL [(1, .box 27 (cFm p)), (2, .box 30 (cPq q))], ofT 181 [(2, .box 1 0), (3, .box 2 0), (6, iv p.states.length), (10, iv s.1)])) (fun s => q.bad.length - s.1) ⟨0, Nat.zero_le _, cntOk_zero _ _⟩ (Zw _ _ rfl (by kernel_rfl) (by kernel_rfl)) (fun s => ?_)
 obtain ⟨k, hk0, hs0⟩ := s
 show ETri J w0 (ofL [(1, .box 27 (cFm p)), (2, .box 30 (cPq q))]) (ofT 181 [(2, .box 1 0), (3, .box 2 0), (6, iv p.states.length), (10, iv k)]) _
 refine Zb (Zb ?_)
 by_cases hs19 : ((k : Nat) : Int) < ((q.bad.length : Nat) : Int)
 refine Za (pM (mT 10 (iv k)) (oA (fb 3 3 U30 1) I0 (oB (lb (slA 2 cRw q.bad) 111 U28) I0 rfl (oA (Zi (.tmp 112) rfl U28) I0 (oC (ZT rfl (dT hs19)) I0 I0 (kN 181 [(1, .box 27 (cFm p)), (2, .box 30 (cPq q))] [(2, .box 1 0), (3, .box 2 0), (6, iv p.states.length), (10, iv k), (114, bv true)] (Zc (Zu rfl (Zk (Zc (Zb ?_)))))))))))
 refine Zz (Zb (Zb (Za (oA (fb 3 3 U30 1) I0 (oB (lb (slA 2 cRw q.bad) 117 U28) I0 rfl (pM (mT 10 (iv k)) (oC (Zo (off := k * 2) (.tmp 118) (.tmp 119) rfl U28 (by kernel_rfl) (by omega) (by omega) rfl) I0 I0 (oA (Z4 (off' := k * 2) (.tmp 120) rfl U53 rfl (z := 1) (by kernel_rfl) (by decide) rfl) I0 (oA (Zp (X := Ze q.bad[k].1) (.tmp 121) rfl U24 rfl ((Yg lenRw q.bad k 0 (by omega) (by decide)).trans rfl)) I0 (pM (mT 6 (iv p.states.length)) (oD (Zm (c := .func 63) (xs := #[.tmp 122, .tmp 123]) [] (KV p.states.length HP.lstates q.bad[k].1 (HQ.bad q.bad[k] (List.getElem_mem (by omega))).1) rfl (by kernel_rfl) rfl (Xs := [Ze q.bad[k].1, iv p.states.length]) rfl rfl rfl) I0 I0 I0 ?_)))))))))))
 refine pM (aT 124 (iv (setE p.states.length q.bad[k].1))) (kN 181 [(1, .box 27 (cFm p)), (2, .box 30 (cPq q))] [(2, .box 1 0), (3, .box 2 0), (6, iv p.states.length), (10, iv k), (11, iv (setE p.states.length q.bad[k].1)), (114, bv true)] (Zc (Zb ?_)))
 by_cases hs20 : setE p.states.length q.bad[k].1 = 0
 refine Za (pM (mT 11 (iv (setE p.states.length q.bad[k].1))) (oC (ZE rfl (dT' hs20)) I0 I0 (kN 181 [(1, .box 27 (cFm p)), (2, .box 30 (cPq q))] [(2, .box 1 0), (3, .box 2 0), (6, iv p.states.length), (10, iv k), (11, iv (setE p.states.length q.bad[k].1)), (114, bv true), (126, bv false)] (Zc (Zn rfl (Zk (Zc (Zb ?_))))))))
 by_cases hs21 : ((q.bad[k].1.length : Nat) : Int) = 0
 refine Za (oA (fb 3 3 U30 1) I0 (oB (lb (slA 2 cRw q.bad) 128 U28) I0 rfl (pM (mT 10 (iv k)) (oC (Zo (off := k * 2) (.tmp 129) (.tmp 130) rfl U28 (by kernel_rfl) (by omega) (by omega) rfl) I0 I0 (oA (Z4 (off' := k * 2) (.tmp 131) rfl U53 rfl (z := 1) (by kernel_rfl) (by decide) rfl) I0 (oA (Zp (X := Ze q.bad[k].1) (.tmp 132) rfl U24 rfl ((Yg lenRw q.bad k 0 (by omega) (by decide)).trans rfl)) I0 (oA (Zi (.tmp 133) rfl U24) I0 (oC (ZA rfl (dT hs21)) I0 I0 (pM (mT 135 (bv true)) (qK (qK ?_)))))))))))
 refine qK (qK (qK (qK (qK (qK (pP (Zf (.tmp 136) (.const (.bool true)) (.tmp 144) true (bv true) (.v (.tuple #[])) rfl) (kN 181 [(1, .box 27 (cFm p)), (2, .box 30 (cPq q))] [(2, .box 1 0), (3, .box 2 0), (6, iv p.states.length), (10, iv k), (11, iv (setE p.states.length q.bad[k].1)), (114, bv true), (126, bv false), (145, bv true)] (Zc (Zu rfl (Zb (Za ?_)))))))))))
 refine pM (aC (.int .i64 1)) (Zv (Zc (Zt (Zq (Zd (Zd (Zq (Yi (Zd ?_)))))))))
 refine Zr Try.results34 (.tmp rfl) ?_
 exact congrArg (fun x : Int => AV.v (.int .i64 x)) ((((vp_2 hs1 hs2).trans ((v2_1 hs3 hs4).trans (v3_z hs5 SUB))).trans (bad_c ⟨(fun h => hs8 h.1), hs18⟩ (k := k) (by omega) hs0 (cnt_l hs20 hs21) (by decide))).symm)
 by_cases hs22 : (inB 1 3 q.bad[k].2) = true
 refine Za (oA (fb 3 3 U30 1) I0 (oB (lb (slA 2 cRw q.bad) 128 U28) I0 rfl (pM (mT 10 (iv k)) (oC (Zo (off := k * 2) (.tmp 129) (.tmp 130) rfl U28 (by kernel_rfl) (by omega) (by omega) rfl) I0 I0 (oA (Z4 (off' := k * 2) (.tmp 131) rfl U53 rfl (z := 1) (by kernel_rfl) (by decide) rfl) I0 (oA (Zp (X := Ze q.bad[k].1) (.tmp 132) rfl U24 rfl ((Yg lenRw q.bad k 0 (by omega) (by decide)).trans rfl)) I0 (oA (Zi (.tmp 133) rfl U24) I0 (oC (ZA rfl (dF hs21)) I0 I0 (pM (mT 135 (bv false)) (gA (fb 3 3 U30 1) I0 (gB (lb (slA 2 cRw q.bad) 137 U28) I0 rfl ?_)))))))))))
 refine qM (mT 10 (iv k)) (gC (Zo (off := k * 2) (.tmp 138) (.tmp 139) rfl U28 (by kernel_rfl) (by omega) (by omega) rfl) I0 I0 (gA (Z4 (off' := k * 2 + 1) (.tmp 140) rfl U53 rfl (z := 1) (by kernel_rfl) (by decide) rfl) I0 (gA (Zp (X := iv q.bad[k].2) (.tmp 141) rfl U3 rfl ((Yg lenRw q.bad k 1 (by omega) (by decide)).trans rfl)) I0 (YD rfl (Zm (c := .func 65) (xs := #[.tmp 142, .const (.int .i64 1), .const (.int .i64 3)]) [] (ZJ (ZL q.bad[k].2 1 3) hs22) rfl (by kernel_rfl) rfl (Xs := [iv q.bad[k].2, iv 1, iv 3]) rfl rfl rfl) ⟨I0, I0, I0, I0, T0⟩ T0 T0 (gA (ZC rfl rfl) I0 (pP (Zf (.tmp 136) (.const (.bool true)) (.tmp 144) false (bv true) (bv false) rfl) (kN 181 [(1, .box 27 (cFm p)), (2, .box 30 (cPq q))] [(2, .box 1 0), (3, .box 2 0), (6, iv p.states.length), (10, iv k), (11, iv (setE p.states.length q.bad[k].1)), (114, bv true), (126, bv false), (145, bv false)] (Zc (Zn rfl (Zk (ZU ?_)))))))))))
 refine Zc (Za (pM (mT 10 (iv k)) (oC (ZV (c := ((k + 1 : Nat) : Int)) rfl (w64 (by omega) (by omega) (by omega))) I0 I0 (pM (aT 116 (iv (k + 1 : Nat))) (kN 181 [(1, .box 27 (cFm p)), (2, .box 30 (cPq q))] [(2, .box 1 0), (3, .box 2 0), (6, iv p.states.length), (10, iv (k + 1 : Nat)), (11, iv (setE p.states.length q.bad[k].1)), (114, bv true), (126, bv false), (145, bv false)] (Zc ?_))))))
 refine ZH ⟨k + 1, by omega, cntOk_succ (by omega) hs0 (cnt_0 hs20 hs21 hs22)⟩ (show q.bad.length - (k + 1) < q.bad.length - k by omega) ?_
 exact Zw _ _ rfl (by kernel_rfl) (by kernel_rfl)
 have hs22f : (inB 1 3 q.bad[k].2) = false := by simpa using hs22
 refine Za (oA (fb 3 3 U30 1) I0 (oB (lb (slA 2 cRw q.bad) 128 U28) I0 rfl (pM (mT 10 (iv k)) (oC (Zo (off := k * 2) (.tmp 129) (.tmp 130) rfl U28 (by kernel_rfl) (by omega) (by omega) rfl) I0 I0 (oA (Z4 (off' := k * 2) (.tmp 131) rfl U53 rfl (z := 1) (by kernel_rfl) (by decide) rfl) I0 (oA (Zp (X := Ze q.bad[k].1) (.tmp 132) rfl U24 rfl ((Yg lenRw q.bad k 0 (by omega) (by decide)).trans rfl)) I0 (oA (Zi (.tmp 133) rfl U24) I0 (oC (ZA rfl (dF hs21)) I0 I0 (pM (mT 135 (bv false)) (gA (fb 3 3 U30 1) I0 (gB (lb (slA 2 cRw q.bad) 137 U28) I0 rfl ?_)))))))))))
 refine qM (mT 10 (iv k)) (gC (Zo (off := k * 2) (.tmp 138) (.tmp 139) rfl U28 (by kernel_rfl) (by omega) (by omega) rfl) I0 I0 (gA (Z4 (off' := k * 2 + 1) (.tmp 140) rfl U53 rfl (z := 1) (by kernel_rfl) (by decide) rfl) I0 (gA (Zp (X := iv q.bad[k].2) (.tmp 141) rfl U3 rfl ((Yg lenRw q.bad k 1 (by omega) (by decide)).trans rfl)) I0 (YD rfl (Zm (c := .func 65) (xs := #[.tmp 142, .const (.int .i64 1), .const (.int .i64 3)]) [] (ZJ (ZL q.bad[k].2 1 3) hs22f) rfl (by kernel_rfl) rfl (Xs := [iv q.bad[k].2, iv 1, iv 3]) rfl rfl rfl) ⟨I0, I0, I0, I0, T0⟩ T0 T0 (gA (ZC rfl rfl) I0 (pP (Zf (.tmp 136) (.const (.bool true)) (.tmp 144) false (bv true) (bv true) rfl) (kN 181 [(1, .box 27 (cFm p)), (2, .box 30 (cPq q))] [(2, .box 1 0), (3, .box 2 0), (6, iv p.states.length), (10, iv k), (11, iv (setE p.states.length q.bad[k].1)), (114, bv true), (126, bv false), (145, bv true)] (Zc (Zu rfl (Zb (Za ?_)))))))))))
 refine pM (aC (.int .i64 1)) (Zv (Zc (Zt (Zq (Zd (Zd (Zq (Yi (Zd ?_)))))))))
 refine Zr Try.results34 (.tmp rfl) ?_
 exact congrArg (fun x : Int => AV.v (.int .i64 x)) ((((vp_2 hs1 hs2).trans ((v2_1 hs3 hs4).trans (v3_z hs5 SUB))).trans (bad_c ⟨(fun h => hs8 h.1), hs18⟩ (k := k) (by omega) hs0 (cnt_b hs20 hs21 hs22f) (by decide))).symm)
 refine Za (pM (mT 11 (iv (setE p.states.length q.bad[k].1))) (oC (ZE rfl (dF' hs20)) I0 I0 (kN 181 [(1, .box 27 (cFm p)), (2, .box 30 (cPq q))] [(2, .box 1 0), (3, .box 2 0), (6, iv p.states.length), (10, iv k), (11, iv (setE p.states.length q.bad[k].1)), (114, bv true), (126, bv true)] (Zc (Zu rfl (Zb (Za (pM (mT 11 (iv (setE p.states.length q.bad[k].1))) (pM (aT 127 (iv (setE p.states.length q.bad[k].1))) (Zv (Zc ?_)))))))))))
 refine Zt (Zd (Zq (Zd (Zd (Zq (Yi (Zd ?_)))))))
 refine Zr Try.results34 (.tmp rfl) ?_
 exact congrArg (fun x : Int => AV.v (.int .i64 x)) ((((vp_2 hs1 hs2).trans ((v2_1 hs3 hs4).trans (v3_z hs5 SUB))).trans (bad_c ⟨(fun h => hs8 h.1), hs18⟩ (k := k) (by omega) hs0 (cnt_s hs20) hs20)).symm)
 refine Za (pM (mT 10 (iv k)) (oA (fb 3 3 U30 1) I0 (oB (lb (slA 2 cRw q.bad) 111 U28) I0 rfl (oA (Zi (.tmp 112) rfl U28) I0 (oC (ZT rfl (dF hs19)) I0 I0 (kN 181 [(1, .box 27 (cFm p)), (2, .box 30 (cPq q))] [(2, .box 1 0), (3, .box 2 0), (6, iv p.states.length), (10, iv k), (114, bv false)] (Zc (Zn rfl (Z8 (Zx (Zx ?_)))))))))))
 refine YN ?_
 exact Z7 (by have : k = q.bad.length := (by omega); subst this; exact hs0) (Zw _ _ rfl (by kernel_rfl) (by kernel_rfl))
 refine Zc (Zb (Zb ?_))
 by_cases hs23 : 0 < ((q.adj.length : Nat) : Int)
 by_cases hs24 : p.top = 1
 refine Za (oA (fb 4 3 U30 1) I0 (oB (lb (Ze q.adj) 146 U24) I0 rfl (oA (Zi (.tmp 147) rfl U24) I0 (oC (Z9 rfl (dT hs23)) I0 I0 (pM (mT 149 (bv true)) (gA (fb 1 2 U27 1) I0 (gB (lb (iv p.top) 151 U3) I0 rfl (gC (ZA rfl (dT hs24)) I0 I0 (pP (Zf (.tmp 150) (.tmp 153) (.const (.bool false)) true (bv true) (bv false) rfl) (kN 181 [(2, .box 30 (cPq q))] [(3, .box 2 0), (6, iv p.states.length), (154, bv true)] (Zc ?_)))))))))))
 refine Zu rfl (Zb (Za (pM (aC (.int .i64 6)) (Zv (Zc (Zt (Zd ?_)))))))
 refine Zr Try.results34 (.tmp rfl) ?_
 exact congrArg (fun x : Int => AV.v (.int .i64 x)) ((((vp_2 hs1 hs2).trans ((v2_1 hs3 hs4).trans (v3_z hs5 SUB))).trans ((bad_z ⟨(fun h => hs8 h.1), hs18⟩ CNT).trans (adj_6 (by omega) hs24))).symm)
 refine Za (oA (fb 4 3 U30 1) I0 (oB (lb (Ze q.adj) 146 U24) I0 rfl (oA (Zi (.tmp 147) rfl U24) I0 (oC (Z9 rfl (dT hs23)) I0 I0 (pM (mT 149 (bv true)) (gA (fb 1 2 U27 1) I0 (gB (lb (iv p.top) 151 U3) I0 rfl (gC (ZA rfl (dF hs24)) I0 I0 (pP (Zf (.tmp 150) (.tmp 153) (.const (.bool false)) true (bv false) (bv false) rfl) (kN 181 [(2, .box 30 (cPq q))] [(3, .box 2 0), (6, iv p.states.length), (154, bv false)] (Zc ?_)))))))))))
 refine Zn rfl (Zk (Zc (Zb (Zb ?_))))
 by_cases hs25 : ((q.adj.length : Nat) : Int) = 2
 refine Za (oA (fb 4 3 U30 1) I0 (oB (lb (Ze q.adj) 155 U24) I0 rfl (oA (Zi (.tmp 156) rfl U24) I0 (oC (ZE rfl (dF' (show ¬ ((q.adj.length : Nat) : Int) = 0 by omega))) I0 I0 (pM (mT 158 (bv true)) (gA (fb 4 3 U30 1) I0 (gB (lb (Ze q.adj) 160 U24) I0 rfl (gA (Zi (.tmp 161) rfl U24) I0 (gC (ZE rfl (dT' hs25)) I0 I0 (pP (Zf (.tmp 159) (.tmp 163) (.const (.bool false)) true (bv false) (bv false) rfl) (kN 181 [(2, .box 30 (cPq q))] [(3, .box 2 0), (6, iv p.states.length), (164, bv false)] ?_)))))))))))
 refine Zc (Zn rfl (Zk (Zc (Zb (Zb (Za (pM (aC (.int .i64 0)) (kN 181 [(2, .box 30 (cPq q))] [(3, .box 2 0), (6, iv p.states.length), (12, iv 0)] (Zc (Zz ?_))))))))))
 refine Yb (σ := {k : Nat // k ≤ q.adj.length ∧ adjB p.states.length q.adj k = true}) (fun s => (ofL [(2, .box 30 (cPq q))], ofT 181 [(3, .box 2 0), (6, iv p.states.length), (12, iv s.1)])) (fun s => q.adj.length - s.1) ⟨0, Nat.zero_le _, rfl⟩ (Zw _ _ rfl (by kernel_rfl) (by kernel_rfl)) (fun s => ?_)
 obtain ⟨k, hk0, hs0⟩ := s
 show ETri J w0 (ofL [(2, .box 30 (cPq q))]) (ofT 181 [(3, .box 2 0), (6, iv p.states.length), (12, iv k)]) _
 refine Zb (Zb ?_)
 by_cases hs26 : ((k : Nat) : Int) < ((q.adj.length : Nat) : Int)
 refine Za (pM (mT 12 (iv k)) (oA (fb 4 3 U30 1) I0 (oB (lb (Ze q.adj) 166 U24) I0 rfl (oA (Zi (.tmp 167) rfl U24) I0 (oC (ZT rfl (dT hs26)) I0 I0 (kN 181 [(2, .box 30 (cPq q))] [(3, .box 2 0), (6, iv p.states.length), (12, iv k), (169, bv true)] (Zc (Zu rfl (Zk (Zc (Zb ?_)))))))))))
 refine Zz (Zb ?_)
 by_cases hs27 : (inB 0 (((p.states.length : Nat) : Int) - 1) q.adj[k]) = true
 refine Za (oA (fb 4 3 U30 1) I0 (oB (lb (Ze q.adj) 172 U24) I0 rfl (pM (mT 12 (iv k)) (oC (Zo (off := k * 1) (.tmp 173) (.tmp 174) rfl U24 (by kernel_rfl) (by omega) (by omega) rfl) I0 I0 (oA (Zp (X := iv q.adj[k]) (.tmp 175) rfl U3 rfl (ZN q.adj (by omega))) I0 (pM (mT 6 (iv p.states.length)) (oC (Yn (c := ((p.states.length : Nat) : Int) - 1) rfl (w64 (by omega) (by omega) (by omega))) I0 I0 (Yl rfl (Zm (c := .func 65) (xs := #[.tmp 176, .const (.int .i64 0), .tmp 178]) [] (ZJ (ZL q.adj[k] 0 (((p.states.length : Nat) : Int) - 1)) hs27) rfl (by kernel_rfl) rfl (Xs := [iv q.adj[k], iv 0, iv (((p.states.length : Nat) : Int) - 1)]) rfl rfl rfl) ⟨I0, I0, I0, I0, T0⟩ T0 T0 (oA (ZC rfl rfl) I0 (kN 181 [(2, .box 30 (cPq q))] [(3, .box 2 0), (6, iv p.states.length), (12, iv k), (169, bv true), (180, bv false)] (Zc ?_)))))))))))
 refine Zn rfl (Zk (ZU (Zc (Za (pM (mT 12 (iv k)) (oC (ZV (c := ((k + 1 : Nat) : Int)) rfl (w64 (by omega) (by omega) (by omega))) I0 I0 (pM (aT 171 (iv (k + 1 : Nat))) (kN 181 [(2, .box 30 (cPq q))] [(3, .box 2 0), (6, iv p.states.length), (12, iv (k + 1 : Nat)), (169, bv true), (180, bv false)] (Zc ?_)))))))))
 refine ZH ⟨k + 1, by omega, adjB_succ (by omega) hs0 hs27⟩ (show q.adj.length - (k + 1) < q.adj.length - k by omega) ?_
 exact Zw _ _ rfl (by kernel_rfl) (by kernel_rfl)
 have hs27f : (inB 0 (((p.states.length : Nat) : Int) - 1) q.adj[k]) = false := by simpa using hs27
 refine Za (oA (fb 4 3 U30 1) I0 (oB (lb (Ze q.adj) 172 U24) I0 rfl (pM (mT 12 (iv k)) (oC (Zo (off := k * 1) (.tmp 173) (.tmp 174) rfl U24 (by kernel_rfl) (by omega) (by omega) rfl) I0 I0 (oA (Zp (X := iv q.adj[k]) (.tmp 175) rfl U3 rfl (ZN q.adj (by omega))) I0 (pM (mT 6 (iv p.states.length)) (oC (Yn (c := ((p.states.length : Nat) : Int) - 1) rfl (w64 (by omega) (by omega) (by omega))) I0 I0 (Yl rfl (Zm (c := .func 65) (xs := #[.tmp 176, .const (.int .i64 0), .tmp 178]) [] (ZJ (ZL q.adj[k] 0 (((p.states.length : Nat) : Int) - 1)) hs27f) rfl (by kernel_rfl) rfl (Xs := [iv q.adj[k], iv 0, iv (((p.states.length : Nat) : Int) - 1)]) rfl rfl rfl) ⟨I0, I0, I0, I0, T0⟩ T0 T0 (oA (ZC rfl rfl) I0 (kN 181 [(2, .box 30 (cPq q))] [(3, .box 2 0), (6, iv p.states.length), (12, iv k), (169, bv true), (180, bv true)] (Zc ?_)))))))))))
 refine Zu rfl (Zb (Za (pM (aC (.int .i64 5)) (Zv (Zc (Zt (Zq (Zd (Zd (Zq (Zd ?_)))))))))))
 refine Zr Try.results34 (.tmp rfl) ?_
 exact congrArg (fun x : Int => AV.v (.int .i64 x)) ((((vp_2 hs1 hs2).trans ((v2_1 hs3 hs4).trans (v3_z hs5 SUB))).trans ((bad_z ⟨(fun h => hs8 h.1), hs18⟩ CNT).trans (adj_5 (by omega) hs24 hs25 (k := k) (by omega) hs27f))).symm)
 refine Za (pM (mT 12 (iv k)) (oA (fb 4 3 U30 1) I0 (oB (lb (Ze q.adj) 166 U24) I0 rfl (oA (Zi (.tmp 167) rfl U24) I0 (oC (ZT rfl (dF hs26)) I0 I0 (kN 181 [(2, .box 30 (cPq q))] [(3, .box 2 0), (6, iv p.states.length), (12, iv k), (169, bv false)] (Zc (Zn rfl (Z8 (Zx (Zx ?_)))))))))))
 refine YN (Zc (Zb (Za (pM (aC (.int .i64 0)) (Zv (Zc (Zt ?_)))))))
 refine Zr Try.results34 (.tmp rfl) ?_
 exact congrArg (fun x : Int => AV.v (.int .i64 x)) ((((vp_2 hs1 hs2).trans ((v2_1 hs3 hs4).trans (v3_z hs5 SUB))).trans ((bad_z ⟨(fun h => hs8 h.1), hs18⟩ CNT).trans (adj_k (by omega) hs24 hs25 (by have : k = q.adj.length := (by omega); subst this; exact hs0)))).symm)
 refine Za (oA (fb 4 3 U30 1) I0 (oB (lb (Ze q.adj) 155 U24) I0 rfl (oA (Zi (.tmp 156) rfl U24) I0 (oC (ZE rfl (dF' (show ¬ ((q.adj.length : Nat) : Int) = 0 by omega))) I0 I0 (pM (mT 158 (bv true)) (gA (fb 4 3 U30 1) I0 (gB (lb (Ze q.adj) 160 U24) I0 rfl (gA (Zi (.tmp 161) rfl U24) I0 (gC (ZE rfl (dF' hs25)) I0 I0 (pP (Zf (.tmp 159) (.tmp 163) (.const (.bool false)) true (bv true) (bv false) rfl) (kN 181 [(2, .box 30 (cPq q))] [(3, .box 2 0), (6, iv p.states.length), (164, bv true)] ?_)))))))))))
 refine Zc (Zu rfl (Zb (Za (pM (aC (.int .i64 1)) (Zv (Zc (Zt (Zd ?_))))))))
 refine Zr Try.results34 (.tmp rfl) ?_
 exact congrArg (fun x : Int => AV.v (.int .i64 x)) ((((vp_2 hs1 hs2).trans ((v2_1 hs3 hs4).trans (v3_z hs5 SUB))).trans ((bad_z ⟨(fun h => hs8 h.1), hs18⟩ CNT).trans (adj_1 (by omega) hs24 hs25))).symm)
 refine Za (oA (fb 4 3 U30 1) I0 (oB (lb (Ze q.adj) 146 U24) I0 rfl (oA (Zi (.tmp 147) rfl U24) I0 (oC (Z9 rfl (dF hs23)) I0 I0 (pM (mT 149 (bv false)) (qK (qK (qK (pP (Zf (.tmp 150) (.tmp 153) (.const (.bool false)) false (.v (.tuple #[])) (bv false) rfl) (kN 181 [(2, .box 30 (cPq q))] [(3, .box 2 0), (6, iv p.states.length), (154, bv false)] (Zc ?_)))))))))))
 refine Zn rfl (Zk (Zc (Zb (Zb (Za (oA (fb 4 3 U30 1) I0 (oB (lb (Ze q.adj) 155 U24) I0 rfl (oA (Zi (.tmp 156) rfl U24) I0 (oC (ZE rfl (dT' (show ((q.adj.length : Nat) : Int) = 0 by omega))) I0 I0 (pM (mT 158 (bv false)) (qK ?_)))))))))))
 refine qK (qK (qK (pP (Zf (.tmp 159) (.tmp 163) (.const (.bool false)) false (.v (.tuple #[])) (bv false) rfl) (kN 181 [(2, .box 30 (cPq q))] [(3, .box 2 0), (6, iv p.states.length), (164, bv false)] (Zc (Zn rfl (Zk (Zc (Zb (Zb (Za ?_)))))))))))
 refine pM (aC (.int .i64 0)) (kN 181 [(2, .box 30 (cPq q))] [(3, .box 2 0), (6, iv p.states.length), (12, iv 0)] (Zc (Zz ?_)))
 refine Yb (σ := {k : Nat // k ≤ q.adj.length ∧ adjB p.states.length q.adj k = true}) (fun s => (ofL [(2, .box 30 (cPq q))], ofT 181 [(3, .box 2 0), (6, iv p.states.length), (12, iv s.1)])) (fun s => q.adj.length - s.1) ⟨0, Nat.zero_le _, rfl⟩ (Zw _ _ rfl (by kernel_rfl) (by kernel_rfl)) (fun s => ?_)
 obtain ⟨k, hk0, hs0⟩ := s
 show ETri J w0 (ofL [(2, .box 30 (cPq q))]) (ofT 181 [(3, .box 2 0), (6, iv p.states.length), (12, iv k)]) _
 refine Zb (Zb ?_)
 by_cases hs28 : ((k : Nat) : Int) < ((q.adj.length : Nat) : Int)
 refine Za (pM (mT 12 (iv k)) (oA (fb 4 3 U30 1) I0 (oB (lb (Ze q.adj) 166 U24) I0 rfl (oA (Zi (.tmp 167) rfl U24) I0 (oC (ZT rfl (dT hs28)) I0 I0 (kN 181 [(2, .box 30 (cPq q))] [(3, .box 2 0), (6, iv p.states.length), (12, iv k), (169, bv true)] (Zc (Zu rfl (Zk (Zc (Zb ?_)))))))))))
 refine Zz (Zb ?_)
 by_cases hs29 : (inB 0 (((p.states.length : Nat) : Int) - 1) q.adj[k]) = true
 refine Za (oA (fb 4 3 U30 1) I0 (oB (lb (Ze q.adj) 172 U24) I0 rfl (pM (mT 12 (iv k)) (oC (Zo (off := k * 1) (.tmp 173) (.tmp 174) rfl U24 (by kernel_rfl) (by omega) (by omega) rfl) I0 I0 (oA (Zp (X := iv q.adj[k]) (.tmp 175) rfl U3 rfl (ZN q.adj (by omega))) I0 (pM (mT 6 (iv p.states.length)) (oC (Yn (c := ((p.states.length : Nat) : Int) - 1) rfl (w64 (by omega) (by omega) (by omega))) I0 I0 (Yl rfl (Zm (c := .func 65) (xs := #[.tmp 176, .const (.int .i64 0), .tmp 178]) [] (ZJ (ZL q.adj[k] 0 (((p.states.length : Nat) : Int) - 1)) hs29) rfl (by kernel_rfl) rfl (Xs := [iv q.adj[k], iv 0, iv (((p.states.length : Nat) : Int) - 1)]) rfl rfl rfl) ⟨I0, I0, I0, I0, T0⟩ T0 T0 (oA (ZC rfl rfl) I0 (kN 181 [(2, .box 30 (cPq q))] [(3, .box 2 0), (6, iv p.states.length), (12, iv k), (169, bv true), (180, bv false)] (Zc ?_)))))))))))
 refine Zn rfl (Zk (ZU (Zc (Za (pM (mT 12 (iv k)) (oC (ZV (c := ((k + 1 : Nat) : Int)) rfl (w64 (by omega) (by omega) (by omega))) I0 I0 (pM (aT 171 (iv (k + 1 : Nat))) (kN 181 [(2, .box 30 (cPq q))] [(3, .box 2 0), (6, iv p.states.length), (12, iv (k + 1 : Nat)), (169, bv true), (180, bv false)] (Zc ?_)))))))))
 refine ZH ⟨k + 1, by omega, adjB_succ (by omega) hs0 hs29⟩ (show q.adj.length - (k + 1) < q.adj.length - k by omega) ?_
 exact Zw _ _ rfl (by kernel_rfl) (by kernel_rfl)
 have hs29f : (inB 0 (((p.states.length : Nat) : Int) - 1) q.adj[k]) = false := by simpa using hs29
 refine Za (oA (fb 4 3 U30 1) I0 (oB (lb (Ze q.adj) 172 U24) I0 rfl (pM (mT 12 (iv k)) (oC (Zo (off := k * 1) (.tmp 173) (.tmp 174) rfl U24 (by kernel_rfl) (by omega) (by omega) rfl) I0 I0 (oA (Zp (X := iv q.adj[k]) (.tmp 175) rfl U3 rfl (ZN q.adj (by omega))) I0 (pM (mT 6 (iv p.states.length)) (oC (Yn (c := ((p.states.length : Nat) : Int) - 1) rfl (w64 (by omega) (by omega) (by omega))) I0 I0 (Yl rfl (Zm (c := .func 65) (xs := #[.tmp 176, .const (.int .i64 0), .tmp 178]) [] (ZJ (ZL q.adj[k] 0 (((p.states.length : Nat) : Int) - 1)) hs29f) rfl (by kernel_rfl) rfl (Xs := [iv q.adj[k], iv 0, iv (((p.states.length : Nat) : Int) - 1)]) rfl rfl rfl) ⟨I0, I0, I0, I0, T0⟩ T0 T0 (oA (ZC rfl rfl) I0 (kN 181 [(2, .box 30 (cPq q))] [(3, .box 2 0), (6, iv p.states.length), (12, iv k), (169, bv true), (180, bv true)] (Zc ?_)))))))))))
 refine Zu rfl (Zb (Za (pM (aC (.int .i64 5)) (Zv (Zc (Zt (Zq (Zd (Zd (Zq (Zd ?_)))))))))))
 refine Zr Try.results34 (.tmp rfl) ?_
 exact False.elim (by omega)
 refine Za (pM (mT 12 (iv k)) (oA (fb 4 3 U30 1) I0 (oB (lb (Ze q.adj) 166 U24) I0 rfl (oA (Zi (.tmp 167) rfl U24) I0 (oC (ZT rfl (dF hs28)) I0 I0 (kN 181 [(2, .box 30 (cPq q))] [(3, .box 2 0), (6, iv p.states.length), (12, iv k), (169, bv false)] (Zc (Zn rfl (Z8 (Zx (Zx ?_)))))))))))
 refine YN (Zc (Zb (Za (pM (aC (.int .i64 0)) (Zv (Zc (Zt ?_)))))))
 refine Zr Try.results34 (.tmp rfl) ?_
 exact congrArg (fun x : Int => AV.v (.int .i64 x)) ((((vp_2 hs1 hs2).trans ((v2_1 hs3 hs4).trans (v3_z hs5 SUB))).trans ((bad_z ⟨(fun h => hs8 h.1), hs18⟩ CNT).trans (adj_0 (by omega)))).symm)
 refine Za (pM (mT 7 (iv (setE p.states.length q.start))) (oC (ZE rfl (dF' hs5)) I0 I0 (kN 181 [(1, .box 27 (cFm p)), (2, .box 30 (cPq q))] [(2, .box 1 0), (3, .box 2 0), (4, iv 0), (6, iv p.states.length), (7, iv (setE p.states.length q.start)), (64, bv true)] (Zc (Zu rfl (Zb (Za (pM (mT 7 (iv (setE p.states.length q.start))) (pM (aT 65 (iv (setE p.states.length q.start))) (Zv (Zc ?_)))))))))))
 refine Zt (Zd ?_)
 refine Zr Try.results34 (.tmp rfl) ?_
 exact congrArg (fun x : Int => AV.v (.int .i64 x)) (((vp_2 hs1 hs2).trans ((v2_1 hs3 hs4).trans (v3_s hs5))).symm)
 by_cases hs30 : q.kind = 2
 refine Za (oA (fb 1 3 U30 1) I0 (oB (lb (iv q.kind) 25 U3) I0 rfl (oC (ZE rfl (dF' hs3)) I0 I0 (pM (mT 27 (bv true)) (gA (fb 1 3 U30 1) I0 (gB (lb (iv q.kind) 29 U3) I0 rfl (gC (ZE rfl (dT' hs30)) I0 I0 (pP (Zf (.tmp 28) (.tmp 31) (.const (.bool false)) true (bv false) (bv false) rfl) (kN 181 [(1, .box 27 (cFm p)), (2, .box 30 (cPq q))] [(2, .box 1 0), (3, .box 2 0), (4, iv 0), (6, iv p.states.length), (32, bv false)] (Zc (Zn rfl ?_)))))))))))
 refine Zk (Zc (Zb (Zb ?_)))
 by_cases hs31 : 0 < ((q.bad.length : Nat) : Int)
 refine Za (oA (fb 1 3 U30 1) I0 (oB (lb (iv q.kind) 33 U3) I0 rfl (oC (ZA rfl (dF hs3)) I0 I0 (pM (mT 35 (bv false)) (qK (qK (qK (qK (pP (Zf (.tmp 36) (.tmp 40) (.const (.bool false)) false (.v (.tuple #[])) (bv false) rfl) (pM (mT 41 (bv false)) (gA (fb 1 3 U30 1) I0 ?_)))))))))))
 refine gB (lb (iv q.kind) 43 U3) I0 rfl (gC (ZA rfl (dT hs30)) I0 I0 (qM (mT 45 (bv true)) (gA (fb 3 3 U30 1) I0 (gB (lb (slA 2 cRw q.bad) 47 U28) I0 rfl (gA (Zi (.tmp 48) rfl U28) I0 (gC (Z9 rfl (dT hs31)) I0 I0 (qM (mT 50 (bv true)) (qK (qK (qK (qK ?_)))))))))))
 refine qP (Zf (.tmp 51) (.const (.bool true)) (.tmp 55) true (bv true) (.v (.tuple #[])) rfl) (qP (Zf (.tmp 46) (.tmp 56) (.const (.bool false)) true (bv true) (bv false) rfl) (pP (Zf (.tmp 42) (.const (.bool true)) (.tmp 57) false (bv true) (bv true) rfl) (kN 181 [(1, .box 27 (cFm p)), (2, .box 30 (cPq q))] [(2, .box 1 0), (3, .box 2 0), (4, iv 0), (6, iv p.states.length), (58, bv true)] (Zc (Zu rfl (Zb (Za (pM (aC (.int .i64 1)) (Zv (Zc (Zt ?_)))))))))))
 refine Zd ?_
 refine Zr Try.results34 (.tmp rfl) ?_
 exact congrArg (fun x : Int => AV.v (.int .i64 x)) (((vp_2 hs1 hs2).trans (v2_b hs3 hs30 hs31)).symm)
 by_cases hs32 : 0 < ((q.adj.length : Nat) : Int)
 refine Za (oA (fb 1 3 U30 1) I0 (oB (lb (iv q.kind) 33 U3) I0 rfl (oC (ZA rfl (dF hs3)) I0 I0 (pM (mT 35 (bv false)) (qK (qK (qK (qK (pP (Zf (.tmp 36) (.tmp 40) (.const (.bool false)) false (.v (.tuple #[])) (bv false) rfl) (pM (mT 41 (bv false)) (gA (fb 1 3 U30 1) I0 ?_)))))))))))
 refine gB (lb (iv q.kind) 43 U3) I0 rfl (gC (ZA rfl (dT hs30)) I0 I0 (qM (mT 45 (bv true)) (gA (fb 3 3 U30 1) I0 (gB (lb (slA 2 cRw q.bad) 47 U28) I0 rfl (gA (Zi (.tmp 48) rfl U28) I0 (gC (Z9 rfl (dF hs31)) I0 I0 (qM (mT 50 (bv false)) (gA (fb 4 3 U30 1) I0 (gB (lb (Ze q.adj) 52 U24) I0 rfl (gA (Zi (.tmp 53) rfl U24) I0 (gC (Z9 rfl (dT hs32)) I0 I0 ?_)))))))))))
 refine qP (Zf (.tmp 51) (.const (.bool true)) (.tmp 55) false (bv true) (bv true) rfl) (qP (Zf (.tmp 46) (.tmp 56) (.const (.bool false)) true (bv true) (bv false) rfl) (pP (Zf (.tmp 42) (.const (.bool true)) (.tmp 57) false (bv true) (bv true) rfl) (kN 181 [(1, .box 27 (cFm p)), (2, .box 30 (cPq q))] [(2, .box 1 0), (3, .box 2 0), (4, iv 0), (6, iv p.states.length), (58, bv true)] (Zc (Zu rfl (Zb (Za (pM (aC (.int .i64 1)) (Zv (Zc (Zt ?_)))))))))))
 refine Zd ?_
 refine Zr Try.results34 (.tmp rfl) ?_
 exact congrArg (fun x : Int => AV.v (.int .i64 x)) (((vp_2 hs1 hs2).trans (v2_a hs3 hs30 hs31 hs32)).symm)
 refine Za (oA (fb 1 3 U30 1) I0 (oB (lb (iv q.kind) 33 U3) I0 rfl (oC (ZA rfl (dF hs3)) I0 I0 (pM (mT 35 (bv false)) (qK (qK (qK (qK (pP (Zf (.tmp 36) (.tmp 40) (.const (.bool false)) false (.v (.tuple #[])) (bv false) rfl) (pM (mT 41 (bv false)) (gA (fb 1 3 U30 1) I0 ?_)))))))))))
 refine gB (lb (iv q.kind) 43 U3) I0 rfl (gC (ZA rfl (dT hs30)) I0 I0 (qM (mT 45 (bv true)) (gA (fb 3 3 U30 1) I0 (gB (lb (slA 2 cRw q.bad) 47 U28) I0 rfl (gA (Zi (.tmp 48) rfl U28) I0 (gC (Z9 rfl (dF hs31)) I0 I0 (qM (mT 50 (bv false)) (gA (fb 4 3 U30 1) I0 (gB (lb (Ze q.adj) 52 U24) I0 rfl (gA (Zi (.tmp 53) rfl U24) I0 (gC (Z9 rfl (dF hs32)) I0 I0 ?_)))))))))))
 refine qP (Zf (.tmp 51) (.const (.bool true)) (.tmp 55) false (bv true) (bv false) rfl) (qP (Zf (.tmp 46) (.tmp 56) (.const (.bool false)) true (bv false) (bv false) rfl) (pP (Zf (.tmp 42) (.const (.bool true)) (.tmp 57) false (bv true) (bv false) rfl) (kN 181 [(1, .box 27 (cFm p)), (2, .box 30 (cPq q))] [(2, .box 1 0), (3, .box 2 0), (4, iv 0), (6, iv p.states.length), (58, bv false)] (Zc (Zn rfl (Zk (Zc (Zb (Zb (Za (oA (fb 2 3 U30 1) I0 ?_)))))))))))
 refine oB (lb (Ze q.start) 59 U24) I0 rfl (pM (mT 6 (iv p.states.length)) (oD (Zm (c := .func 63) (xs := #[.tmp 60, .tmp 61]) [] (KV p.states.length HP.lstates q.start HQ.start) rfl (by kernel_rfl) rfl (Xs := [Ze q.start, iv p.states.length]) rfl rfl rfl) I0 I0 I0 (pM (aT 62 (iv (setE p.states.length q.start))) (kN 181 [(1, .box 27 (cFm p)), (2, .box 30 (cPq q))] [(2, .box 1 0), (3, .box 2 0), (4, iv 0), (6, iv p.states.length), (7, iv (setE p.states.length q.start))] (Zc (Zb ?_))))))
 by_cases hs33 : setE p.states.length q.start = 0
 refine Za (pM (mT 7 (iv (setE p.states.length q.start))) (oC (ZE rfl (dT' hs33)) I0 I0 (kN 181 [(1, .box 27 (cFm p)), (2, .box 30 (cPq q))] [(2, .box 1 0), (3, .box 2 0), (4, iv 0), (6, iv p.states.length), (7, iv (setE p.states.length q.start)), (64, bv false)] (Zc (Zn rfl (Zk (Zc (Zb (Zb (Za (pM (aC (.int .i64 0)) ?_)))))))))))
 refine kN 181 [(1, .box 27 (cFm p)), (2, .box 30 (cPq q))] [(2, .box 1 0), (3, .box 2 0), (4, iv 0), (6, iv p.states.length), (8, iv 0)] (Zc ?_)
 refine Ku (subB p.init q.start q.start.length = true) (ofL [(1, .box 27 (cFm p)), (2, .box 30 (cPq q))]) (ofT 181 [(2, .box 1 0), (3, .box 2 0), (6, iv p.states.length)]) ?_ (fun SUB => ?_)
 refine Zz ?_
 refine Yb (σ := {k : Nat // k ≤ q.start.length ∧ subB p.init q.start k = true}) (fun s => (ofL [(1, .box 27 (cFm p)), (2, .box 30 (cPq q))], ofT 181 [(2, .box 1 0), (3, .box 2 0), (6, iv p.states.length), (8, iv s.1)])) (fun s => q.start.length - s.1) ⟨0, Nat.zero_le _, rfl⟩ (Zw _ _ rfl (by kernel_rfl) (by kernel_rfl)) (fun s => ?_)
 obtain ⟨k, hk0, hs0⟩ := s
 show ETri J w0 (ofL [(1, .box 27 (cFm p)), (2, .box 30 (cPq q))]) (ofT 181 [(2, .box 1 0), (3, .box 2 0), (6, iv p.states.length), (8, iv k)]) _
 refine Zb (Zb ?_)
 by_cases hs34 : ((k : Nat) : Int) < ((q.start.length : Nat) : Int)
 refine Za (pM (mT 8 (iv k)) (oA (fb 2 3 U30 1) I0 (oB (lb (Ze q.start) 67 U24) I0 rfl (oA (Zi (.tmp 68) rfl U24) I0 (oC (ZT rfl (dT hs34)) I0 I0 (kN 181 [(1, .box 27 (cFm p)), (2, .box 30 (cPq q))] [(2, .box 1 0), (3, .box 2 0), (6, iv p.states.length), (8, iv k), (70, bv true)] (Zc (Zu rfl (Zk (Zc (Zb ?_)))))))))))
 refine Zz (Zb ?_)
 by_cases hs35 : (decide (q.start[k] ∈ p.init)) = true
 refine ZQ (dA (fb 7 2 U27 1) I0 (dB (lb (Ze p.init) 73 U24) I0 rfl (dA (fb 2 3 U30 1) I0 (dB (lb (Ze q.start) 75 U24) I0 rfl (dM (mT 8 (iv k)) (dC (Zo (off := k * 1) (.tmp 76) (.tmp 77) rfl U24 (by kernel_rfl) (by omega) (by omega) rfl) I0 I0 (dA (Zp (X := iv q.start[k]) (.tmp 78) rfl U3 rfl (ZN q.start (by omega))) I0 (dD (Zm (c := .func 64) (xs := #[.tmp 74, .tmp 79]) [] (ZJ (has_c p.init q.start[k] HP.linit) hs35) rfl (by kernel_rfl) rfl (Xs := [Ze p.init, iv q.start[k]]) rfl rfl rfl) I0 I0 I0 (dA (ZC rfl rfl) I0 (dE ?_)))))))))) (by kernel_rfl)
 show ETri J w0 _ _ _
 refine kW 181 [(1, .box 27 (cFm p)), (2, .box 30 (cPq q))] [(2, .box 1 0), (3, .box 2 0), (6, iv p.states.length), (8, iv k), (70, bv true), (81, bv false)] (Zc (Zn rfl (Zk (ZU (Zc (Za (pM (mT 8 (iv k)) (oC (ZV (c := ((k + 1 : Nat) : Int)) rfl (w64 (by omega) (by omega) (by omega))) I0 I0 (pM (aT 72 (iv (k + 1 : Nat))) (kN 181 [(1, .box 27 (cFm p)), (2, .box 30 (cPq q))] [(2, .box 1 0), (3, .box 2 0), (6, iv p.states.length), (8, iv (k + 1 : Nat)), (70, bv true), (81, bv false)] (Zc ?_)))))))))))
 refine ZH ⟨k + 1, by omega, subB_succ (by omega) hs0 hs35⟩ (show q.start.length - (k + 1) < q.start.length - k by omega) ?_
 exact Zw _ _ rfl (by kernel_rfl) (by kernel_rfl)
 have hs35f : (decide (q.start[k] ∈ p.init)) = false := by simpa using hs35
 refine ZQ (dA (fb 7 2 U27 1) I0 (dB (lb (Ze p.init) 73 U24) I0 rfl (dA (fb 2 3 U30 1) I0 (dB (lb (Ze q.start) 75 U24) I0 rfl (dM (mT 8 (iv k)) (dC (Zo (off := k * 1) (.tmp 76) (.tmp 77) rfl U24 (by kernel_rfl) (by omega) (by omega) rfl) I0 I0 (dA (Zp (X := iv q.start[k]) (.tmp 78) rfl U3 rfl (ZN q.start (by omega))) I0 (dD (Zm (c := .func 64) (xs := #[.tmp 74, .tmp 79]) [] (ZJ (has_c p.init q.start[k] HP.linit) hs35f) rfl (by kernel_rfl) rfl (Xs := [Ze p.init, iv q.start[k]]) rfl rfl rfl) I0 I0 I0 (dA (ZC rfl rfl) I0 (dE ?_)))))))))) (by kernel_rfl)
 show ETri J w0 _ _ _
 refine kW 181 [(1, .box 27 (cFm p)), (2, .box 30 (cPq q))] [(2, .box 1 0), (3, .box 2 0), (6, iv p.states.length), (8, iv k), (70, bv true), (81, bv true)] (Zc (Zu rfl (Zb (Za (pM (aC (.int .i64 5)) (Zv (Zc (Zt (Zq (Zd (Zd ?_)))))))))))
 refine Zq (Yi (Zd ?_))
 refine Zr Try.results34 (.tmp rfl) ?_
 exact congrArg (fun x : Int => AV.v (.int .i64 x)) (((vp_2 hs1 hs2).trans ((v2_2 hs3 hs30 hs31 hs32).trans (v3_i hs33 (k := k) (by omega) hs35f))).symm)
 refine Za (pM (mT 8 (iv k)) (oA (fb 2 3 U30 1) I0 (oB (lb (Ze q.start) 67 U24) I0 rfl (oA (Zi (.tmp 68) rfl U24) I0 (oC (ZT rfl (dF hs34)) I0 I0 (kN 181 [(1, .box 27 (cFm p)), (2, .box 30 (cPq q))] [(2, .box 1 0), (3, .box 2 0), (6, iv p.states.length), (8, iv k), (70, bv false)] (Zc (Zn rfl (Z8 (Zx (Zx ?_)))))))))))
 refine YN ?_
 exact Z7 (by have : k = q.start.length := (by omega); subst this; exact hs0) (Zw _ _ rfl (by kernel_rfl) (by kernel_rfl))
 refine Zc (Zb (Zb (Za (oA (fb 1 3 U30 1) I0 (oB (lb (iv q.kind) 82 U3) I0 rfl (oC (ZA rfl (dT hs30)) I0 I0 (kN 181 [(1, .box 27 (cFm p)), (2, .box 30 (cPq q))] [(2, .box 1 0), (3, .box 2 0), (6, iv p.states.length), (84, bv true)] (Zc (Zu rfl (Zb (Zb ?_)))))))))))
 refine Za (oA (fb 5 3 U30 1) I0 (oB (lb (Ze q.goal) 85 U24) I0 rfl (pM (mT 6 (iv p.states.length)) (oD (Zm (c := .func 63) (xs := #[.tmp 86, .tmp 87]) [] (KV p.states.length HP.lstates q.goal HQ.goal) rfl (by kernel_rfl) rfl (Xs := [Ze q.goal, iv p.states.length]) rfl rfl rfl) I0 I0 I0 (pM (aT 88 (iv (setE p.states.length q.goal))) (kN 181 [(1, .box 27 (cFm p)), (2, .box 30 (cPq q))] [(2, .box 1 0), (3, .box 2 0), (6, iv p.states.length), (9, iv (setE p.states.length q.goal))] (Zc (Zb ?_))))))))
 by_cases hs36 : setE p.states.length q.goal = 0
 refine Za (pM (mT 9 (iv (setE p.states.length q.goal))) (oC (ZE rfl (dT' hs36)) I0 I0 (kN 181 [(1, .box 27 (cFm p)), (2, .box 30 (cPq q))] [(2, .box 1 0), (3, .box 2 0), (6, iv p.states.length), (9, iv (setE p.states.length q.goal)), (90, bv false)] (Zc (Zn rfl (Zk (Zc (Zb (Zb ?_)))))))))
 by_cases hs37 : ((q.goal.length : Nat) : Int) = 0
 refine Za (oA (fb 5 3 U30 1) I0 (oB (lb (Ze q.goal) 92 U24) I0 rfl (oA (Zi (.tmp 93) rfl U24) I0 (oC (ZA rfl (dT hs37)) I0 I0 (kN 181 [(1, .box 27 (cFm p)), (2, .box 30 (cPq q))] [(2, .box 1 0), (3, .box 2 0), (6, iv p.states.length), (95, bv true)] (Zc (Zu rfl (Zb (Za (pM (aC (.int .i64 1)) (Zv ?_)))))))))))
 refine Zc (Zt (Zd (Zd ?_)))
 refine Zr Try.results34 (.tmp rfl) ?_
 exact congrArg (fun x : Int => AV.v (.int .i64 x)) ((((vp_2 hs1 hs2).trans ((v2_2 hs3 hs30 hs31 hs32).trans (v3_z hs33 SUB))).trans (some_l hs37)).symm)
 refine Za (oA (fb 5 3 U30 1) I0 (oB (lb (Ze q.goal) 92 U24) I0 rfl (oA (Zi (.tmp 93) rfl U24) I0 (oC (ZA rfl (dF hs37)) I0 I0 (kN 181 [(1, .box 27 (cFm p)), (2, .box 30 (cPq q))] [(2, .box 1 0), (3, .box 2 0), (6, iv p.states.length), (95, bv false)] (Zc (Zn rfl (Zk (Zc (Zb (Za ?_)))))))))))
 refine pM (aC (.int .i64 0)) (Zv (Zc (Zt (Zd ?_))))
 refine Zr Try.results34 (.tmp rfl) ?_
 exact congrArg (fun x : Int => AV.v (.int .i64 x)) ((((vp_2 hs1 hs2).trans ((v2_2 hs3 hs30 hs31 hs32).trans (v3_z hs33 SUB))).trans (some_0 hs36 hs37)).symm)
 refine Za (pM (mT 9 (iv (setE p.states.length q.goal))) (oC (ZE rfl (dF' hs36)) I0 I0 (kN 181 [(1, .box 27 (cFm p)), (2, .box 30 (cPq q))] [(2, .box 1 0), (3, .box 2 0), (6, iv p.states.length), (9, iv (setE p.states.length q.goal)), (90, bv true)] (Zc (Zu rfl (Zb (Za (pM (mT 9 (iv (setE p.states.length q.goal))) (pM (aT 91 (iv (setE p.states.length q.goal))) (Zv (Zc ?_)))))))))))
 refine Zt (Zd (Zd ?_))
 refine Zr Try.results34 (.tmp rfl) ?_
 exact congrArg (fun x : Int => AV.v (.int .i64 x)) ((((vp_2 hs1 hs2).trans ((v2_2 hs3 hs30 hs31 hs32).trans (v3_z hs33 SUB))).trans (some_e hs36)).symm)
 refine Za (pM (mT 7 (iv (setE p.states.length q.start))) (oC (ZE rfl (dF' hs33)) I0 I0 (kN 181 [(1, .box 27 (cFm p)), (2, .box 30 (cPq q))] [(2, .box 1 0), (3, .box 2 0), (4, iv 0), (6, iv p.states.length), (7, iv (setE p.states.length q.start)), (64, bv true)] (Zc (Zu rfl (Zb (Za (pM (mT 7 (iv (setE p.states.length q.start))) (pM (aT 65 (iv (setE p.states.length q.start))) (Zv (Zc ?_)))))))))))
 refine Zt (Zd ?_)
 refine Zr Try.results34 (.tmp rfl) ?_
 exact congrArg (fun x : Int => AV.v (.int .i64 x)) (((vp_2 hs1 hs2).trans ((v2_2 hs3 hs30 hs31 hs32).trans (v3_s hs33))).symm)
 refine Za (oA (fb 1 3 U30 1) I0 (oB (lb (iv q.kind) 25 U3) I0 rfl (oC (ZE rfl (dF' hs3)) I0 I0 (pM (mT 27 (bv true)) (gA (fb 1 3 U30 1) I0 (gB (lb (iv q.kind) 29 U3) I0 rfl (gC (ZE rfl (dF' hs30)) I0 I0 (pP (Zf (.tmp 28) (.tmp 31) (.const (.bool false)) true (bv true) (bv false) rfl) (kN 181 [(1, .box 27 (cFm p)), (2, .box 30 (cPq q))] [(2, .box 1 0), (3, .box 2 0), (4, iv 0), (6, iv p.states.length), (32, bv true)] (Zc (Zu rfl ?_)))))))))))
 refine Zb (Za (pM (aC (.int .i64 1)) (Zv (Zc (Zt (Zd ?_))))))
 refine Zr Try.results34 (.tmp rfl) ?_
 exact congrArg (fun x : Int => AV.v (.int .i64 x)) (((vp_2 hs1 hs2).trans (v2_k hs3 hs30)).symm)
 have hs2f : (nameB q.nm.toList) = false := by simpa using hs2
 refine Za (oA (fb 0 3 U30 1) I0 (oB (lb (sv q.nm) 21 U9) I0 rfl (oC (Zm (c := .func 62) (xs := #[.tmp 22]) [] (ZJ (YF q.nm HQ.nm) hs2f) rfl (by kernel_rfl) rfl (Xs := [sv q.nm]) rfl rfl rfl) I0 I0 (oA (ZC rfl rfl) I0 (kN 181 [(1, .box 27 (cFm p)), (2, .box 30 (cPq q))] [(2, .box 1 0), (3, .box 2 0), (4, iv 0), (6, iv p.states.length), (24, bv true)] (Zc (Zu rfl (Zb (Za (pM (aC (.int .i64 2)) (Zv ?_)))))))))))
 refine Zc (Zt (Zd ?_))
 refine Zr Try.results34 (.tmp rfl) ?_
 exact congrArg (fun x : Int => AV.v (.int .i64 x)) ((vp_n hs1 hs2f).symm)
 refine Za (pM (mT 5 (iv (valE p))) (oC (ZE rfl (dF' hs1)) I0 I0 (kN 181 [(1, .box 27 (cFm p)), (2, .box 30 (cPq q))] [(2, .box 1 0), (3, .box 2 0), (4, iv 0), (5, iv (valE p)), (16, bv true)] (Zc (Zu rfl (Zb (Za (pM (mT 5 (iv (valE p))) (pM (aT 17 (iv (valE p))) (Zv (Zc ?_)))))))))))
 refine Zt (Zd ?_)
 refine Zr Try.results34 (.tmp rfl) ?_
 exact congrArg (fun x : Int => AV.v (.int .i64 x)) ((vp_v hs1).symm)
end Go.Proofs.Ytoefmdjgnabgfaa
